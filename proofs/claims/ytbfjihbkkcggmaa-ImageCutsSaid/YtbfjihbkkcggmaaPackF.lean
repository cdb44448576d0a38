import Derived.Test.YtbfjihbkkcggmaaChecked
import Derived.Test.YtbfjihbkkcggmaaPackD
import Derived.WalkKit
import Derived.WalkLawsBesides
import Derived.Below
import Derived.ProofKit
import Derived.Outline
import Derived.BigQuiet
import Derived.BigGuardPart
import Derived.Deep.QuietTactic
import Derived.LoopN
import Derived.WalkMore
import Derived.OpenShut
import Derived.Laws.Small
import Derived.Lib.Hide
import Derived.Lib.Strings
import Derived.Deep.RegionLaw
import Derived.Deep.AppendLies
import Derived.Maps.RangeWalk
import Derived.Laws.AppendOwnNone
import Derived.ShutString
import Derived.Laws.BytesArg
import Derived.Laws.CopyOwn
import Derived.Lib.SlBytesConst
import Derived.OwnWalk
import Derived.Laws.AppendOwn
import Derived.Laws.OwnMore
/- Rows of bytes as strings, new rows of bytes, append of bytes: for whatever layer. Names no function of the program. -/
namespace Go.Proofs.Ytbfjihbkkcggmaa
open Go.RowKit

set_option maxRecDepth 100000 in
/-- a slice of bytes as a string -/
theorem Sl.str {w : World} {a : Option Addr} {n cap : Nat} {zs : List Int} (h : Sl .u8 w a n cap zs) :
    (convert 29 9 (.slice a n cap)).run Try.prog w = .ok (.string (strOfNums zs)) w := by
  obtain ⟨h1, h2, h3, h4, h5⟩ := h
  rcases h5 with h5 | ⟨b, off, rfl, hc⟩
  · subst h5
    obtain rfl := List.eq_nil_of_length_eq_zero h1
    cases a with
    | none => exact run_convert_bytes_nil w 29 5 Try.underlying29 Try.underlying5 0 cap 9 Try.underlying9
    | some x => exact run_convert_bytes_back w 29 9 5 x cap [] Try.underlying29 Try.underlying5 Try.underlying9 (by intro j hj; simp at hj)
  · exact run_convert_bytes_arg w 29 5 Try.underlying29 Try.underlying5 b off n cap zs h1 hc 9 Try.underlying9

set_option maxRecDepth 100000 in
theorem bytes_ne {a b : List Int} (ha : ∀ z ∈ a, (Lit.int .u8 z).wf = true) (hb : ∀ z ∈ b, (Lit.int .u8 z).wf = true) (h : strOfNums a = strOfNums b) : a = b := by
  have h' : a.map (fun n => UInt8.ofNat n.toNat) = b.map (fun n => UInt8.ofNat n.toNat) := by
    have := congrArg (fun s : ByteArray => s.data.toList) h
    simpa [strOfNums] using this
  clear h
  induction a generalizing b with
  | nil => cases b with
    | nil => rfl
    | cons y b => simp at h'
  | cons x a ih => cases b with
    | nil => simp at h'
    | cons y b =>
      simp only [List.map_cons, List.cons.injEq] at h'
      have hx := bounds_u8 (ha x (by simp))
      have hy := bounds_u8 (hb y (by simp))
      have e : x = y := by
        have := congrArg UInt8.toNat h'.1
        simp at this
        omega
      rw [e, ih (fun z hz => ha z (by simp [hz])) (fun z hz => hb z (by simp [hz])) h'.2]

set_option maxRecDepth 100000 in
/-- two rows of bytes as strings: alike just if they are -/
theorem str_eq {a b : List Int} (ha : ∀ z ∈ a, (Lit.int .u8 z).wf = true) (hb : ∀ z ∈ b, (Lit.int .u8 z).wf = true) : ((strOfNums a).toList == (strOfNums b).toList) = decide (a = b) := by
  by_cases h : a = b
  · subst h; simp
  · have h2 : decide (a = b) = false := by simpa using h
    rw [h2, beq_eq_false_iff_ne]
    intro e
    apply h
    refine bytes_ne ha hb ?_
    rw [Lib.toList_data, Lib.toList_data] at e
    rw [← Lib.mk_data (strOfNums a), ← Lib.mk_data (strOfNums b), e]

set_option maxRecDepth 100000 in
theorem Sl.newB {w : World} {t : TypeId} {fr : Nat × Nat} {B n m : Nat} (zs : List Int) (hw : ∀ z ∈ zs, (Lit.int .u8 z).wf = true) (hl : zs.length ≤ maxLen) (hB : B = w.heap.size) (hn : zs.length = n) (hm : zs.length = m) :
    Sl .u8 (w.alloc (.cells (zs.map (Value.int .u8)).toArray t fr)) (some ⟨B, 0, none⟩) n m zs := by
  subst hB hn hm
  refine ⟨rfl, Nat.le_refl _, hl, hw, .inr ⟨w.heap.size, 0, rfl, fun i hi => ?_⟩⟩
  rw [World.cell?_alloc_mark]
  simp [hi]

/-! ### append of bytes behind a row that the call owns -/
set_option maxRecDepth 100000 in
theorem info_u8 : (Try.prog.info? 5).map (fun i => (i.zero, i.size, i.bytes)) = some (some (.int .u8 0), 1, 1) := by kernel_rfl
set_option maxRecDepth 100000 in
theorem size_u8 : (Try.prog.info? 5).map (·.size) = some 1 := by kernel_rfl

set_option maxRecDepth 100000 in
theorem owns_form {w : World} {base : Nat} {e : TypeId} {v : Value} {k : Nat} {l : List Value} (h : w.ownsRow base e 1 v k l) : ∃ a' c', v = .slice a' k c' ∧ (a' = none → c' = 0) := by
  rcases h.2 with ⟨h1, h2⟩ | ⟨g, cap, cur, h1, _⟩
  · subst h2; exact ⟨none, 0, h1, fun _ => rfl⟩
  · exact ⟨_, cap, h1, fun h => by cases h⟩

set_option maxRecDepth 100000 in
theorem run_append_none_any {P : Program} {w : World} (base : Nat) (t ty e : TypeId) (i : TypeInfo) (size c : Nat) (ht : P.underlying t = some (.slice e)) (hi : P.info? e = some i)
    (v : Value) (n : Nat) (xs : List Value) (hown : w.ownsRow base e size v n xs) :
    (Builtin.append_ #[t, t] ty #[v, .slice none 0 c]).run P w = .ok v w := by
  rcases hown.2 with ⟨rfl, rfl⟩ | ⟨g, cap, cur, rfl, _, _, hnc, _⟩
  · simp [Builtin.append_, run_underlying ht, sizeOf, typeInfo, hi, Builtin.lenOf, Builtin.firstCells]
  · simp [Builtin.append_, run_underlying ht, sizeOf, typeInfo, hi, Builtin.lenOf, Builtin.firstCells, hnc, storeCells]

set_option maxRecDepth 100000 in
/-- append of whatever row of one-cell values, guarded or not, where the region does not draw -/
theorem append_row {w : World} {ops : Array Oper} {rest : List Oper} {o : Oper} {act : Act} {Q : Exit → Act → World → Prop} (hw : Region.wanted o (yielded ops act.tmps) = true) (s x : Operand) (T e : TypeId)
    (ho : o.op = .call { callee := .builtin .append, args := #[s, x], argTypes := #[T, T] }) (z : Value) (bytes : Nat) (hu : Try.prog.underlying T = some (.slice e)) (hinfo : (Try.prog.info? e).map (fun i => (i.zero, i.size, i.bytes)) = some (some z, 1, bytes)) (hzc : z.cells.size = 1) (base : Nat) (v : Value) (n : Nat) (xs : List Value) (hs : act.eval s = v)
    (hown : w.ownsRow base e 1 v n xs) (a : Option Addr) (m c : Nat) (zs : List Value) (hx : act.eval x = .slice a m c) (hz : zs.length = m) (hc : 0 < m → ∃ y, a = some y ∧ ∀ j u, zs[j]? = some u → w.cell? (y.add j) = some u) (h1 : ∀ u ∈ zs, u.oneCell' = true)
    (hmax : n + m ≤ maxLen) (h63 : (n + m) * bytes ≤ 140737488355328) (hbase : base ≤ w.heap.size)
    (h : ∀ a' c' w', w'.ownsRow base e 1 (.slice a' (n + m) c') (n + m) (xs ++ zs) → Below base w w' → (a' = none → c' = 0) → wpList Try.prog ops Q rest (act.put o.dst (.slice a' (n + m) c')) w') :
    wpList Try.prog ops Q (o :: rest) act w := by
  obtain ⟨i0, hi, hz0, hz1, hz2⟩ := info_parts hinfo
  refine wpList_step fun K hK => ?_
  rw [if_pos hw]
  cases a with
  | none =>
    obtain rfl : m = 0 := by
      rcases Nat.eq_zero_or_pos m with h0 | h0
      · exact h0
      · obtain ⟨y, e, _⟩ := hc h0; cases e
    obtain rfl : zs = [] := List.eq_nil_of_length_eq_zero hz
    obtain ⟨a', c', rfl, hnil⟩ := owns_form hown
    have hrun := run_append_none_any (P := Try.prog) (w := w) base T o.type e i0 1 c hu hi _ n xs hown
    unfold Oper.wp
    simp [execOp, ho, resolve, invoke, builtin, hs, hx, hrun, Result.andThen]
    exact hK _ _ (h a' c' w (by simpa using hown) (Below.refl _ _) hnil)
  | some y =>
    have hnews : ∀ j u, zs[j]? = some u → w.cell? (y.add j) = some u := by
      intro j u hj
      have hjl : j < zs.length := by
        rcases Nat.lt_or_ge j zs.length with hlt | hge
        · exact hlt
        · simp [List.getElem?_eq_none hge] at hj
      obtain ⟨y', hy, hh⟩ := hc (by omega)
      cases hy
      exact hh j u hj
    refine wp_append_own w s x T ho base e i0 z 1 bytes hu hi hz0 hz1 hz2 hzc (by decide) v n xs hs hown y m c zs hx (by simp [hz]) hnews h1 hmax h63 hbase ?_
    intro v' w' hown' hgrow _
    obtain ⟨a', c', rfl, hnil⟩ := owns_form hown'
    exact hK _ _ (h a' c' w' hown' ((Below.refl _ _).grown hgrow hbase (fun k hk => (hown.lt k hk).1)) hnil)

set_option maxRecDepth 100000 in
theorem append_bytes {w : World} {ops : Array Oper} {rest : List Oper} {o : Oper} {act : Act} {Q : Exit → Act → World → Prop} (hw : Region.wanted o (yielded ops act.tmps) = true) (s x : Operand)
    (ho : o.op = .call { callee := .builtin .append, args := #[s, x], argTypes := #[29, 29] }) (base : Nat) (v : Value) (n : Nat) (xs : List Int) (hs : act.eval s = v)
    (hown : w.ownsRow base 5 1 v n (u8s xs)) (a : Option Addr) (m c : Nat) (zs : List Int) (hx : act.eval x = .slice a m c) (hz : Sl .u8 w a m c zs)
    (N : Nat) (hN : n + m = N) (h63 : N ≤ 1000000000000) (hbase : base ≤ w.heap.size)
    (h : ∀ a' c' w', w'.ownsRow base 5 1 (.slice a' N c') N (u8s (xs ++ zs)) → Below base w w' → (a' = none → c' = 0) → wpList Try.prog ops Q rest (act.put o.dst (.slice a' N c')) w') :
    wpList Try.prog ops Q (o :: rest) act w := by
  subst hN
  have hm := hz.2.1
  refine append_row hw s x 29 5 ho (.int .u8 0) 1 Try.underlying29 info_u8 rfl base v n (u8s xs) hs hown a m c (u8s zs) hx (by simp [u8s, hz.1]) ?_ (ints_oneCell .u8 zs) (by unfold maxLen; omega) (by omega) hbase ?_
  · intro h0
    obtain ⟨b, off, rfl, _, hc⟩ := hz.at h0
    refine ⟨_, rfl, fun j u hj => ?_⟩
    have hjl : j < zs.length := by
      rcases Nat.lt_or_ge j zs.length with hlt | hge
      · exact hlt
      · simp [u8s, List.getElem?_eq_none hge] at hj
    have := hc j (by have := hz.1; omega)
    rw [show (⟨b, off, none⟩ : Addr).add j = ⟨b, off + j, none⟩ from by simp [Addr.add], this]
    simp [u8s, hjl] at hj
    rw [← hj]; simp [hjl]
  · intro a' c' w' ho' hb' hn'
    exact h a' c' w' (by rw [show u8s (xs ++ zs) = u8s xs ++ u8s zs from by simp [u8s]]; exact ho') hb' hn'

set_option maxRecDepth 100000 in
/-- append of bytes at a step of whatever region; what else the call made lies as it lay -/
theorem step_append_bytes {w : World} {ops : Array Oper} {o : Oper} {act : Act} {K : Act → World → Prop} {Q : Exit → Act → World → Prop} (hw : Region.wanted o (yielded ops act.tmps) = true) (s x : Operand)
    (ho : o.op = .call { callee := .builtin .append, args := #[s, x], argTypes := #[29, 29] }) (base : Nat) (v : Value) (n : Nat) (xs : List Int) (hs : act.eval s = v)
    (hown : w.ownsRow base 5 1 v n (u8s xs)) (a : Option Addr) (m c : Nat) (zs : List Int) (hx : act.eval x = .slice a m c) (hz : Sl .u8 w a m c zs)
    (N : Nat) (hN : n + m = N) (h63 : N ≤ 1000000000000) (hbase : base ≤ w.heap.size)
    (h : ∀ a' c' w', w'.ownsRow base 5 1 (.slice a' N c') N (u8s (xs ++ zs)) → Below base w w' → w.grownBy w' v.ownBlock → K (act.put o.dst (.slice a' N c')) w') :
    if Region.wanted o (yielded ops act.tmps) = true then o.wp Try.prog act w K Q else K (act.put o.dst undef) w := by
  subst hN
  have hm := hz.2.1
  obtain ⟨i0, hi, hz0, hz1, hz2⟩ := info_parts info_u8
  rw [if_pos hw]
  cases a with
  | none =>
    obtain rfl : m = 0 := by
      rcases Nat.eq_zero_or_pos m with h0 | h0
      · exact h0
      · obtain ⟨b, off, e, _, _⟩ := hz.at h0; cases e
    obtain rfl : zs = [] := List.eq_nil_of_length_eq_zero hz.1
    obtain ⟨a', c', rfl, hnil⟩ := owns_form hown
    have hrun := run_append_none_any (P := Try.prog) (w := w) base 29 o.type 5 i0 1 c Try.underlying29 hi _ n (u8s xs) hown
    unfold Oper.wp
    simp [execOp, ho, resolve, invoke, builtin, hs, hx, hrun, Result.andThen]
    exact h a' c' w (by simpa using hown) (Below.refl _ _) (World.grownBy.refl w _)
  | some y =>
    have hnews : ∀ j u, (u8s zs)[j]? = some u → w.cell? (y.add j) = some u := by
      intro j u hj
      have hjl : j < zs.length := by
        rcases Nat.lt_or_ge j zs.length with hlt | hge
        · exact hlt
        · simp [u8s, List.getElem?_eq_none hge] at hj
      obtain ⟨b, off, hy, _, hc⟩ := hz.at (by have := hz.1; omega)
      cases hy
      have := hc j (by have := hz.1; omega)
      rw [show (⟨b, off, none⟩ : Addr).add j = ⟨b, off + j, none⟩ from by simp [Addr.add], this]
      simp [u8s, hjl] at hj
      rw [← hj]; simp [hjl]
    refine wp_append_own w s x 29 ho base 5 i0 (.int .u8 0) 1 1 Try.underlying29 hi hz0 hz1 hz2 rfl (by decide) v n (u8s xs) hs hown y m c (u8s zs) hx (by simp [u8s, hz.1]) hnews (ints_oneCell .u8 zs) (by unfold maxLen; omega) (by omega) hbase ?_
    intro v' w' hown' hgrow _
    obtain ⟨a', c', rfl, hnil⟩ := owns_form hown'
    exact h a' c' w' (by rw [show u8s (xs ++ zs) = u8s xs ++ u8s zs from by simp [u8s]]; exact hown') ((Below.refl _ _).grown hgrow hbase (fun k hk => (hown.lt k hk).1)) hgrow

set_option maxRecDepth 100000 in
/-- one cell that the call made, read as a slice -/
theorem Sl.one {w : World} {g : Nat} {z : Int} (hz : (Lit.int .u8 z).wf = true) (h : w.cell? ⟨g, 0, none⟩ = some (.int .u8 z)) : Sl .u8 w (some ⟨g, 0, none⟩) 1 1 [z] :=
  ⟨rfl, Nat.le_refl _, by unfold maxLen; omega, by simpa using hz, .inr ⟨g, 0, rfl, fun i hi => match i, hi with
    | 0, _ => h
    | i + 1, hi => absurd hi (by omega)⟩⟩
set_option maxRecDepth 100000 in
/-- a row of bytes that the call owns, one of them stored anew -/
theorem owns_set {w : World} {B g n c : Nat} {xs : List Int} (h : w.ownsRow B 5 1 (.slice (some ⟨g, 0, none⟩) n c) n (u8s xs)) (j : Nat) (z : Int) :
    (w.setCell ⟨g, j, none⟩ (.int .u8 z)).ownsRow B 5 1 (.slice (some ⟨g, 0, none⟩) n c) n (u8s (xs.set j z)) := by
  have := (h.stored j (.int .u8 z)).1
  simpa [u8s, List.map_set] using this

set_option maxRecDepth 100000 in
theorem owns0_bytes (w : World) : (w.alloc (.cells #[] 5)).ownsRow w.heap.size 5 1 (.slice (some ⟨w.heap.size, 0, none⟩) 0 0) 0 (u8s []) := by
  have h := World.ownsRow_lit (base := w.heap.size) (e := 5) (size := 1) w #[] 0 (Nat.le_refl _) (Nat.zero_le _) (by simp)
  simpa [u8s] using h

set_option maxRecDepth 100000 in
theorem owns_mono {w : World} {B B' : Nat} {e : TypeId} {size : Nat} {v : Value} {n : Nat} {l : List Value} (h : w.ownsRow B e size v n l) (hB : B' ≤ B) : w.ownsRow B' e size v n l := by
  refine ⟨h.1, ?_⟩
  rcases h.2 with h1 | ⟨g, c, cur, h1, h2, h3⟩
  · exact .inl h1
  · exact .inr ⟨g, c, cur, h1, Nat.le_trans hB h2, h3⟩
set_option maxRecDepth 100000 in
/-- make([]byte, 0, N) -/
theorem make_bytes (w : World) (N : Nat) (M : Int) (hM : M = (N : Int)) (hN : N ≤ 1000000000000) : ∃ w', (Instr.makeSlice 29 (.int .i64 0) (.int .i64 M)).run Try.prog w = .ok (.slice (some ⟨w.heap.size, 0, none⟩) 0 N) w' ∧
    w'.ownsRow w.heap.size 5 1 (.slice (some ⟨w.heap.size, 0, none⟩) 0 N) 0 (u8s []) ∧ Below w.heap.size w w' := by
  subst hM
  obtain ⟨i0, hi, hz0, hz1, hz2⟩ := info_parts info_u8
  have hr := run_make (P := Try.prog) w 29 5 i0 (.int .u8 0) Try.underlying29 hi hz0 .i64 .i64 0 N (by omega) (by omega) (by rw [hz2]; omega) (by omega)
  simp only [Int.toNat_natCast, hz1, Nat.mul_one] at hr
  refine ⟨_, hr, ⟨rfl, .inr ⟨w.heap.size, N, madeCells (Value.int .u8 0).cells N, rfl, Nat.le_refl _, by show (w.heap.push _)[_]? = _; simp, Nat.zero_le _, by unfold maxLen; omega, by rw [size_madeCells, Nat.mul_one], by simp [u8s]⟩⟩, (Below.refl _ w).alloc (Nat.le_refl _) _⟩

end Go.Proofs.Ytbfjihbkkcggmaa

/- Bytes as cells of a block; what a call answers that makes bytes. Names no function of the program. -/
namespace Go.Proofs.Ytbfjihbkkcggmaa
open Go.RowKit

def cells8 (l : List Int) : Array Value := (u8s l).toArray
set_option maxRecDepth 100000 in
theorem cells8_size (l : List Int) : (cells8 l).size = l.length := by simp [cells8, u8s]
set_option maxRecDepth 100000 in
theorem cells8_one (l : List Int) : (cells8 l).all (·.oneCell') = true := by
  rw [Array.all_eq_true_iff_forall_mem]
  intro v hv
  simp only [cells8, u8s, List.mem_toArray, List.mem_map] at hv
  obtain ⟨z, _, rfl⟩ := hv
  rfl
set_option maxRecDepth 100000 in
theorem cells8_set (l : List Int) (j : Nat) (z : Int) : (cells8 l).setIfInBounds j (.int .u8 z) = cells8 (l.set j z) := by
  simp [cells8, u8s, List.map_set]

set_option maxRecDepth 100000 in
theorem owns_base {w : World} {B B' : Nat} {e : TypeId} {size n : Nat} {v : Value} {xs : List Value} (h : w.ownsRow B e size v n xs) (hB : B' ≤ B) : w.ownsRow B' e size v n xs := by
  obtain ⟨h1, h2⟩ := h
  refine ⟨h1, ?_⟩
  rcases h2 with h2 | ⟨g, cap, cur, hv, hg, hh⟩
  · exact .inl h2
  · exact .inr ⟨g, cap, cur, hv, by omega, hh⟩

/-- what a call answers that makes bytes -/
def MadeB (w w' : World) (e : Ending) (l : List Int) : Prop :=
  ∃ a' n c', e = .returned (.slice a' n c') ∧ n = l.length ∧ w'.ownsRow w.heap.size 5 1 (.slice a' n c') n (u8s l) ∧ (a' = none → c' = 0) ∧ Below w.heap.size w w'
set_option maxRecDepth 100000 in
theorem MadeB.sl {w w' : World} {e : Ending} {l : List Int} (h : MadeB w w' e l) (hl : ∀ z ∈ l, (Lit.int .u8 z).wf = true) :
    ∃ a' n c', e = .returned (.slice a' n c') ∧ n = l.length ∧ Sl .u8 w' a' n c' l ∧ (a' = none → c' = 0) ∧ Below w.heap.size w w' := by
  obtain ⟨a', n, c', he, hn, ho, hnil, hb⟩ := h
  exact ⟨a', n, c', he, hn, Sl.of_owns (k := .u8) ho hl hn.symm, hnil, hb⟩

end Go.Proofs.Ytbfjihbkkcggmaa

/- append onto a row that the call owns, of elements of however many cells, of a slice that may be nil: for whatever layer, and whatever way a region goes. Names no function and no type of the program. -/
namespace Go.Proofs.Ytbfjihbkkcggmaa
open Go.RowKit

set_option maxRecDepth 100000 in
theorem own_form {w : World} {base : Nat} {e : TypeId} {size : Nat} {v : Value} {k : Nat} {l : List Value} (h : w.ownsRow base e size v k l) : ∃ a' c', v = .slice a' k c' ∧ (a' = none → c' = 0) := by
  rcases h.2 with ⟨h1, h2⟩ | ⟨g, cap, cur, h1, _⟩
  · subst h2; exact ⟨none, 0, h1, fun _ => rfl⟩
  · exact ⟨_, cap, h1, fun h => by cases h⟩
set_option maxRecDepth 100000 in
theorem own_mono {w : World} {B B' : Nat} {e : TypeId} {size : Nat} {v : Value} {n : Nat} {l : List Value} (h : w.ownsRow B e size v n l) (hB : B' ≤ B) : w.ownsRow B' e size v n l := by
  refine ⟨h.1, ?_⟩
  rcases h.2 with h1 | ⟨g, c, cur, h1, h2, h3⟩
  · exact .inl h1
  · exact .inr ⟨g, c, cur, h1, Nat.le_trans hB h2, h3⟩

set_option maxRecDepth 100000 in
theorem run_append_nil_any {P : Program} {w : World} (base : Nat) (t ty e : TypeId) (i : TypeInfo) (size c : Nat) (ht : P.underlying t = some (.slice e)) (hi : P.info? e = some i)
    (v : Value) (n : Nat) (xs : List Value) (hown : w.ownsRow base e size v n xs) :
    (Builtin.append_ #[t, t] ty #[v, .slice none 0 c]).run P w = .ok v w := by
  rcases hown.2 with ⟨rfl, rfl⟩ | ⟨g, cap, cur, rfl, _, _, hnc, _⟩
  · simp [Builtin.append_, run_underlying ht, sizeOf, typeInfo, hi, Builtin.lenOf, Builtin.firstCells]
  · simp [Builtin.append_, run_underlying ht, sizeOf, typeInfo, hi, Builtin.lenOf, Builtin.firstCells, hnc, storeCells]

set_option maxRecDepth 100000 in
theorem wp_append_cells {P : Program} {w : World} {o : Oper} {act : Act} {K : Act → World → Prop} {Q : Exit → Act → World → Prop} (s x : Operand) (T e : TypeId)
    (ho : o.op = .call { callee := .builtin .append, args := #[s, x], argTypes := #[T, T] }) (z : Value) (size bytes : Nat) (hu : P.underlying T = some (.slice e)) (hinfo : (P.info? e).map (fun i => (i.zero, i.size, i.bytes)) = some (some z, size, bytes))
    (hzc : z.cells.size = size) (hsz : 0 < size) (base : Nat) (v : Value) (n : Nat) (xs : List Value) (hs : act.eval s = v)
    (hown : w.ownsRow base e size v n xs) (a : Option Addr) (m c : Nat) (zs : List Value) (hx : act.eval x = .slice a m c) (hz : zs.length = m * size) (hc : 0 < m → ∃ y, a = some y ∧ ∀ j u, zs[j]? = some u → w.cell? (y.add j) = some u) (h1 : ∀ u ∈ zs, u.oneCell' = true)
    (hmax : n + m ≤ maxLen) (h63 : (n + m) * bytes ≤ 140737488355328) (hbase : base ≤ w.heap.size)
    (h : ∀ a' c' w', w'.ownsRow base e size (.slice a' (n + m) c') (n + m) (xs ++ zs) → Below base w w' → w.grownBy w' v.ownBlock → (a' = none → c' = 0) → K (act.put o.dst (.slice a' (n + m) c')) w') :
    o.wp P act w K Q := by
  obtain ⟨i0, hi, hz0, hz1, hz2⟩ := info_parts hinfo
  cases a with
  | none =>
    obtain rfl : m = 0 := by
      rcases Nat.eq_zero_or_pos m with h0 | h0
      · exact h0
      · obtain ⟨y, e, _⟩ := hc h0; cases e
    obtain rfl : zs = [] := List.eq_nil_of_length_eq_zero (by rw [hz, Nat.zero_mul])
    obtain ⟨a', c', rfl, hnil⟩ := own_form hown
    have hrun := run_append_nil_any (P := P) (w := w) base T o.type e i0 size c hu hi _ n xs hown
    unfold Oper.wp
    simp [execOp, ho, resolve, invoke, builtin, hs, hx, hrun, Result.andThen]
    exact h a' c' w (by simpa using hown) (Below.refl _ _) (World.grownBy.refl w _) hnil
  | some y =>
    have hnews : ∀ j u, zs[j]? = some u → w.cell? (y.add j) = some u := by
      intro j u hj
      have hjl : j < zs.length := by
        rcases Nat.lt_or_ge j zs.length with hlt | hge
        · exact hlt
        · simp [List.getElem?_eq_none hge] at hj
      obtain ⟨y', hy, hh⟩ := hc (by rcases Nat.eq_zero_or_pos m with h0 | h0; · rw [hz, h0, Nat.zero_mul] at hjl; omega
                                    · exact h0)
      cases hy
      exact hh j u hj
    refine wp_append_own w s x T ho base e i0 z size bytes hu hi hz0 hz1 hz2 hzc hsz v n xs hs hown y m c zs hx hz hnews h1 hmax h63 hbase ?_
    intro v' w' hown' hgrow _
    obtain ⟨a', c', rfl, hnil⟩ := own_form hown'
    exact h a' c' w' hown' ((Below.refl _ _).grown hgrow hbase (fun k hk => (hown.lt k hk).1)) hgrow hnil

end Go.Proofs.Ytbfjihbkkcggmaa

/- append of numbers (int) behind a row that the call owns, of a slice that may be nil: for whatever layer. Names no function of the program. -/
namespace Go.Proofs.Ytbfjihbkkcggmaa
open Go.RowKit

set_option maxRecDepth 100000 in
theorem info_i64 : (Try.prog.info? 3).map (fun i => (i.zero, i.size, i.bytes)) = some (some (.int .i64 0), 1, 8) := by kernel_rfl

set_option maxRecDepth 100000 in
theorem append_i64 {w : World} {ops : Array Oper} {rest : List Oper} {o : Oper} {act : Act} {Q : Exit → Act → World → Prop} (hw : Region.wanted o (yielded ops act.tmps) = true) (s x : Operand)
    (ho : o.op = .call { callee := .builtin .append, args := #[s, x], argTypes := #[46, 46] }) (base : Nat) (v : Value) (n : Nat) (xs : List Int) (hs : act.eval s = v)
    (hown : w.ownsRow base 3 1 v n (i64s xs)) (a : Option Addr) (m c : Nat) (zs : List Int) (hx : act.eval x = .slice a m c) (hz : Sl .i64 w a m c zs)
    (N : Nat) (hN : n + m = N) (h63 : N ≤ 1000000000000) (hbase : base ≤ w.heap.size)
    (h : ∀ a' c' w', w'.ownsRow base 3 1 (.slice a' N c') N (i64s (xs ++ zs)) → Below base w w' → (a' = none → c' = 0) → wpList Try.prog ops Q rest (act.put o.dst (.slice a' N c')) w') :
    wpList Try.prog ops Q (o :: rest) act w := by
  subst hN
  have hm := hz.2.1
  refine append_row hw s x 46 3 ho (.int .i64 0) 8 Try.underlying46 info_i64 rfl base v n (i64s xs) hs hown a m c (i64s zs) hx (by simp [i64s, hz.1]) ?_ (ints_oneCell .i64 zs) (by unfold maxLen; omega) (by omega) hbase ?_
  · intro h0
    obtain ⟨b, off, rfl, _, hc⟩ := hz.at h0
    refine ⟨_, rfl, fun j u hj => ?_⟩
    have hjl : j < zs.length := by
      rcases Nat.lt_or_ge j zs.length with hlt | hge
      · exact hlt
      · simp [i64s, List.getElem?_eq_none hge] at hj
    have := hc j (by have := hz.1; omega)
    rw [show (⟨b, off, none⟩ : Addr).add j = ⟨b, off + j, none⟩ from by simp [Addr.add], this]
    simp [i64s, hjl] at hj
    rw [← hj]; simp [hjl]
  · intro a' c' w' ho' hb' hn'
    exact h a' c' w' (by rw [show i64s (xs ++ zs) = i64s xs ++ i64s zs from by simp [i64s]]; exact ho') hb' hn'

set_option maxRecDepth 100000 in
theorem Sl.newI {w : World} {t : TypeId} {fr : Nat × Nat} {B n m : Nat} (zs : List Int) (hw : ∀ z ∈ zs, (Lit.int .i64 z).wf = true) (hl : zs.length ≤ maxLen) (hB : B = w.heap.size) (hn : zs.length = n) (hm : zs.length = m) :
    Sl .i64 (w.alloc (.cells (zs.map (Value.int .i64)).toArray t fr)) (some ⟨B, 0, none⟩) n m zs := by
  subst hB hn hm
  refine ⟨rfl, Nat.le_refl _, hl, hw, .inr ⟨w.heap.size, 0, rfl, fun i hi => ?_⟩⟩
  rw [World.cell?_alloc_mark]
  simp [hi]
set_option maxRecDepth 100000 in
theorem ownsI_lit (w : World) (zs : List Int) (n : Nat) (hn : zs.length = n) (hl : n ≤ maxLen) :
    (w.alloc (.cells (zs.map (Value.int .i64)).toArray 3)).ownsRow w.heap.size 3 1 (.slice (some ⟨w.heap.size, 0, none⟩) n n) n (i64s zs) := by
  have h := World.ownsRow_lit (base := w.heap.size) (e := 3) (size := 1) w (zs.map (Value.int .i64)).toArray n (Nat.le_refl _) hl (by simp [hn])
  simpa [i64s] using h

end Go.Proofs.Ytbfjihbkkcggmaa
