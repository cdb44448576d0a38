/- Used by the law. -/
import Derived.Deep.Slices
import Derived.Deep.Fields
import Derived.Deep.Strs
import Derived.ChangeSame
import Derived.Lib.SmallJoins
import Derived.Test.YtimjdlbhbiklgaaChecked
import Derived.Test.YtimjdlbhbiklgaaPackQ
namespace Go.Proofs.Ytimjdlbhbiklgaa
open Go.ChangeShapes Go.WideShapes Go.Joins Go.RowKit Go.Deep Tri

set_option maxRecDepth 100000 in
theorem arc_cells : Try.prog.cellsOf 59 = 2 := by kernel_rfl
set_option maxRecDepth 100000 in
theorem state_cells : Try.prog.cellsOf 47 = 2 := by kernel_rfl
theorem choose_any {α : Type} (d : α) {Q : Nat → α → Prop} {n : Nat} (h : ∀ i, i < n → ∃ x, Q i x) : ∃ xs : List α, xs.length = n ∧ ∀ i, i < n → Q i (xs.getD i d) := by
  induction n with
  | zero => exact ⟨[], rfl, fun i hi => absurd hi (by omega)⟩
  | succ n ih =>
    obtain ⟨xs, hl, hx⟩ := ih fun i hi => h i (by omega)
    obtain ⟨x, hq⟩ := h n (by omega)
    refine ⟨xs ++ [x], by simp [hl], fun i hi => ?_⟩
    rcases Nat.lt_or_ge i n with h1 | h1
    · have := hx i h1
      rwa [show (xs ++ [x]).getD i d = xs.getD i d from by simp [List.getElem?_append_left (show i < xs.length by omega)]]
    · obtain rfl : i = n := by omega
      rw [show (xs ++ [x]).getD i d = x from by simp [← hl]]; exact hq

set_option maxRecDepth 100000 in
theorem Ars.open {H : Type} {enc : TypeId × Value → H} {w : World} {base fuel : Nat} {held : Bool} {c : Value} {y : DataW H × List MemPlace}
    (h : DataW.trod enc Try.prog w base (fun _ => true) held fuel 45 [c] = some y) :
    ∃ (a : Option Addr) (n cap : Nat) (l : List (Int × Int)), c = .slice a n cap ∧ Ars w a n cap l := by
  rcases open_slice Try.underlying45 h with ⟨hcs, _⟩ | ⟨a, len, cap, m, n, D, Pl, hcs, hb, hl, hm, hmm, hyy, hi⟩
  · exact ⟨none, 0, 0, [], by simpa using hcs, Ars.nil⟩
  · simp only [if_true] at hmm
    have hmm' := hmm.symm
    subst hmm'
    have each : ∀ i, i < len → ∃ x : Int × Int, ((Lit.int .i64 x.1).wf = true ∧ (Lit.int .i64 x.2).wf = true) ∧ w.cell? (a.add (i * 2)) = some (.int .i64 x.1) ∧ w.cell? (a.add (i * 2 + 1)) = some (.int .i64 x.2) := by
      intro i hil
      obtain ⟨cs, hc, ht⟩ := hi i (by omega)
      rw [arc_cells] at hc
      obtain ⟨_, hcl, hat⟩ := World.cells?_some hc
      match cs, hcl with
      | [c0, c1], _ =>
        obtain ⟨y0, y1, n', _, _, h0, h1⟩ := trod_struct2 Try.underlying59 ht
        obtain ⟨s, hs, _, hws⟩ := DataW.trod_int (cs := [c0]) Try.underlying3 h0
        obtain ⟨t, ht', _, hwt⟩ := DataW.trod_int (cs := [c1]) Try.underlying3 h1
        simp only [List.cons.injEq, and_true] at hs ht'
        subst hs ht'
        have e : ∀ j, (a.add (i * 2)).add j = a.add (i * 2 + j) := fun j => by rw [Go.Deep.add_add]
        exact ⟨(s, t), ⟨hws, hwt⟩, hat 0 (by omega), by rw [← e 1]; exact hat 1 (by omega)⟩
    obtain ⟨xs, hxl, hx⟩ := choose_any (0, 0) each
    refine ⟨some a, len, cap, xs, by simpa using hcs, hxl, hl, hm, fun x hxm => ?_, ?_⟩
    · obtain ⟨i, hi', rfl⟩ := List.mem_iff_getElem.1 hxm
      have := (hx i (by omega)).1
      rwa [show xs.getD i (0, 0) = xs[i] from by simp [hi']] at this
    · rcases Nat.eq_zero_or_pos len with h0 | hp
      · exact .inl h0
      · obtain ⟨b, off, spot⟩ := a
        have hspot : spot = none := by simpa [Addr.add] using World.cell?_spot (hx 0 hp).2.1
        subst hspot
        refine .inr ⟨b, off, rfl, fun i hi' => ?_⟩
        obtain ⟨_, h1, h2⟩ := hx i hi'
        have e : ∀ j, (⟨b, off, none⟩ : Addr).add j = ⟨b, off + j, none⟩ := fun j => by simp [Addr.add]
        rw [e] at h1 h2
        exact ⟨h1, by rw [Nat.add_assoc]; exact h2⟩

set_option maxRecDepth 100000 in
theorem Ss.open {H : Type} {enc : TypeId × Value → H} {w : World} {base fuel : Nat} {held : Bool} {c : Value} {y : DataW H × List MemPlace}
    (h : DataW.trod enc Try.prog w base (fun _ => true) held fuel 22 [c] = some y) :
    ∃ (a : Option Addr) (n cap : Nat) (xs : List Sw), c = .slice a n cap ∧ Ss w a n cap xs ∧ (a = none → cap = 0) := by
  rcases open_slice Try.underlying22 h with ⟨hcs, _⟩ | ⟨a, len, cap, m, n, D, Pl, hcs, hb, hl, hm, hmm, hyy, hi⟩
  · exact ⟨none, 0, 0, [], by simpa using hcs, Ss.nil, fun _ => rfl⟩
  · simp only [if_true] at hmm
    have hmm' := hmm.symm
    subst hmm'
    have each : ∀ i, i < len → ∃ x : Sw, x.Good w ∧ w.cell? (a.add (i * 2)) = some x.f ∧ w.cell? (a.add (i * 2 + 1)) = some x.s := by
      intro i hil
      obtain ⟨cs, hc, ht⟩ := hi i (by omega)
      rw [state_cells] at hc
      obtain ⟨_, hcl, hat⟩ := World.cells?_some hc
      match cs, hcl with
      | [c0, c1], _ =>
        obtain ⟨y0, y1, n', _, _, h0, h1⟩ := trod_struct2 Try.underlying47 ht
        obtain ⟨f, hf, _⟩ := DataW.trod_bool (cs := [c0]) Try.underlying4 h0
        obtain ⟨sa, sn, sc, l, hs, hl'⟩ := Ars.open (c := c1) h1
        simp only [List.cons.injEq, and_true] at hf
        subst hf hs
        have e : ∀ j, (a.add (i * 2)).add j = a.add (i * 2 + j) := fun j => by rw [Go.Deep.add_add]
        exact ⟨⟨f, sa, sn, sc, l⟩, hl', hat 0 (by omega), by rw [← e 1]; exact hat 1 (by omega)⟩
    obtain ⟨xs, hxl, hx⟩ := choose_any Sw.no each
    refine ⟨some a, len, cap, xs, by simpa using hcs, ⟨hxl, hl, hm, fun x hxm => ?_, ?_⟩, (fun h => by cases h)⟩
    · obtain ⟨i, hi', rfl⟩ := List.mem_iff_getElem.1 hxm
      have := (hx i (by omega)).1
      rwa [show xs.getD i Sw.no = xs[i] from by simp [hi']] at this
    · rcases Nat.eq_zero_or_pos len with h0 | hp
      · exact .inl h0
      · obtain ⟨b, off, spot⟩ := a
        have hspot : spot = none := by simpa [Addr.add] using World.cell?_spot (hx 0 hp).2.1
        subst hspot
        refine .inr ⟨b, off, rfl, fun i hi' => ?_⟩
        obtain ⟨_, h1, h2⟩ := hx i hi'
        have e : ∀ j, (⟨b, off, none⟩ : Addr).add j = ⟨b, off + j, none⟩ := fun j => by simp [Addr.add]
        rw [e] at h1 h2
        exact ⟨h1, by rw [Nat.add_assoc]; exact h2⟩

end Go.Proofs.Ytimjdlbhbiklgaa
