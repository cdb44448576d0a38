/- Rules that come in: a slice of them, and one by value, opened. -/
import Derived.Deep.Slices
import Derived.Deep.Fields
import Derived.Deep.Strs
import Derived.ChangeSame
import Derived.Lib.SmallJoins
import Derived.Test.YtdeicfdbjmpliaaChecked
import Derived.Test.YtdeicfdbjmpliaaPackB
namespace Go.Proofs.Ytdeicfdbjmpliaa
open Go.ChangeShapes Go.WideShapes Go.Joins Go.RowKit Go.Deep

set_option maxRecDepth 100000 in
theorem Sl.of_trod {H : Type} {enc : TypeId × Value → H} {w : World} {base fuel : Nat} {held : Bool} {c : Value} {y : DataW H × List MemPlace}
    (h : DataW.trod enc Try.prog w base (fun _ => true) held fuel 23 [c] = some y) : ∃ (a : Option Addr) (n cap : Nat) (zs : List Int), c = .slice a n cap ∧ Sl .i64 w a n cap zs := by
  rcases open_ints Try.underlying23 Try.underlying3 (by kernel_rfl) h with ⟨hcs, _⟩ | ⟨x, l, k, zs, hcs, _, hl, hm, hz, _, hcell, hwz⟩
  · exact ⟨none, 0, 0, [], by simpa using hcs, Sl.nil⟩
  · refine ⟨some x, l, k, zs.take l, by simpa using hcs, Sl.of_row (.inr ⟨x, rfl, hl, hm, by simpa using hz, hcell, hwz⟩)⟩

set_option maxRecDepth 100000 in
theorem Rw.of_trod {H : Type} {enc : TypeId × Value → H} {w : World} {base n0 : Nat} {held : Bool} {c0 c1 c2 : Value} {y0 y1 y2 : DataW H × List MemPlace}
    (h0 : DataW.trod enc Try.prog w base (fun _ => true) held n0 23 [c0] = some y0) (h1 : DataW.trod enc Try.prog w base (fun _ => true) held n0 23 [c1] = some y1) (h2 : DataW.trod enc Try.prog w base (fun _ => true) held n0 24 [c2] = some y2) :
    ∃ x : Rw, c0 = x.l ∧ c1 = x.rt ∧ c2 = x.c ∧ x.Good w := by
  obtain ⟨la, ln, lc, L, rfl, hL⟩ := Sl.of_trod h0
  obtain ⟨ra, rn, rc, R, rfl, hR⟩ := Sl.of_trod h1
  obtain ⟨C, hc, _, hw⟩ := DataW.trod_int Try.underlying24 h2
  simp only [List.cons.injEq, and_true] at hc
  subst hc
  have hb : 0 ≤ C ∧ C < 18446744073709551616 := by
    have h := bounds_u64 hw
    omega
  exact ⟨⟨la, ln, lc, L, ra, rn, rc, R, C⟩, rfl, rfl, rfl, hL, hR, hb⟩

set_option maxRecDepth 100000 in
theorem rule_one : oneCellFields Try.prog (match Try.prog.underlying 26 with | some (.struct fs) => fs | _ => #[]) = true := by kernel_rfl
set_option maxRecDepth 100000 in
theorem rule_cells : Try.prog.cellsOf 26 = 3 := by kernel_rfl

set_option maxRecDepth 100000 in
/-- a rule by value -/
theorem Rw.open {H : Type} {enc : TypeId × Value → H} {w : World} {base b0 : Nat} {r : Reach} {held : Bool} {v : Value} {d : DataW H} {p : List MemPlace} (hv : Value.okWide Try.prog w r b0 26 v)
    (h : DataW.Trod enc Try.prog w base (fun _ => true) held 26 v d p) : ∃ x : Rw, v = x.v ∧ x.Good w := by
  obtain ⟨v0, v1, v2, y0, y1, y2, n, rfl, _, _, h0, h1, h2⟩ := open_agg3 Try.underlying26 (by kernel_rfl) rule_cells hv h
  obtain ⟨x, rfl, rfl, rfl, hx⟩ := Rw.of_trod h0 h1 h2
  exact ⟨x, rfl, hx⟩

set_option maxRecDepth 100000 in
theorem choose_ltR {Q : Nat → Rw → Prop} {n : Nat} (h : ∀ i, i < n → ∃ x, Q i x) : ∃ xs : List Rw, xs.length = n ∧ ∀ i, i < n → Q i (xs.getD i Rw.no) := by
  induction n with
  | zero => exact ⟨[], rfl, fun i hi => absurd hi (by omega)⟩
  | succ n ih =>
    obtain ⟨xs, hl, hx⟩ := ih fun i hi => h i (by omega)
    obtain ⟨x, hq⟩ := h n (by omega)
    refine ⟨xs ++ [x], by simp [hl], fun i hi => ?_⟩
    rcases Nat.lt_or_ge i n with h1 | h1
    · have := hx i h1
      rwa [show (xs ++ [x]).getD i Rw.no = xs.getD i Rw.no from by simp [List.getElem?_append_left (show i < xs.length by omega)]]
    · obtain rfl : i = n := by omega
      rw [show (xs ++ [x]).getD i Rw.no = x from by simp [← hl]]; exact hq

set_option maxRecDepth 100000 in
/-- a slice of rules -/
theorem Rs.open {H : Type} {enc : TypeId × Value → H} {w : World} {base fuel : Nat} {held : Bool} {c : Value} {y : DataW H × List MemPlace}
    (h : DataW.trod enc Try.prog w base (fun _ => true) held fuel 29 [c] = some y) :
    ∃ (a : Option Addr) (n cap : Nat) (xs : List Rw), c = .slice a n cap ∧ Rs w a n cap xs ∧ (a = none → cap = 0) ∧ (n = 0 ∨ ∃ elems spare, y.1 = .slice elems spare ∧ elems.length = n) := by
  rcases open_slice Try.underlying29 h with ⟨hcs, _⟩ | ⟨a, len, cap, m, n, D, Pl, hcs, hb, hl, hm, hmm, hyy, hi⟩
  · exact ⟨none, 0, 0, [], by simpa using hcs, Rs.nil, fun _ => rfl, .inl rfl⟩
  · simp only [if_true] at hmm
    have hmm' := hmm.symm
    subst hmm'
    have each : ∀ i, i < len → ∃ x : Rw, x.Good w ∧ w.cell? (a.add (i * 3)) = some x.l ∧ w.cell? (a.add (i * 3 + 1)) = some x.rt ∧ w.cell? (a.add (i * 3 + 2)) = some x.c := by
      intro i hil
      obtain ⟨cs, hc, ht⟩ := hi i (by omega)
      rw [rule_cells] at hc
      obtain ⟨_, hcl, hat⟩ := World.cells?_some hc
      match cs, hcl with
      | [c0, c1, c2], _ =>
        obtain ⟨y0, y1, y2, n', _, _, h0, h1, h2⟩ := trod_struct3 Try.underlying26 ht
        obtain ⟨x, rfl, rfl, rfl, hx⟩ := Rw.of_trod (c0 := c0) (c1 := c1) (c2 := c2) h0 h1 h2
        have e : ∀ j, (a.add (i * 3)).add j = a.add (i * 3 + j) := fun j => by rw [Go.Deep.add_add]
        exact ⟨x, hx, hat 0 (by omega), by rw [← e 1]; exact hat 1 (by omega), by rw [← e 2]; exact hat 2 (by omega)⟩
    obtain ⟨xs, hxl, hx⟩ := choose_ltR each
    refine ⟨some a, len, cap, xs, by simpa using hcs, ⟨hxl, hl, hm, fun x hxm => ?_, ?_⟩, (fun h => by cases h), .inr ⟨_, _, by rw [hyy], by simp⟩⟩
    · obtain ⟨i, hi', rfl⟩ := List.mem_iff_getElem.1 hxm
      have := (hx i (by omega)).1
      rwa [show xs.getD i Rw.no = xs[i] from by simp [hi']] at this
    · rcases Nat.eq_zero_or_pos len with h0 | hp
      · exact .inl h0
      · obtain ⟨b, off, spot⟩ := a
        have hspot : spot = none := by simpa [Addr.add] using World.cell?_spot (hx 0 hp).2.1
        subst hspot
        refine .inr ⟨b, off, rfl, fun i hi' => ?_⟩
        obtain ⟨_, h1, h2, h3⟩ := hx i hi'
        have e : ∀ j, (⟨b, off, none⟩ : Addr).add j = ⟨b, off + j, none⟩ := fun j => by simp [Addr.add]
        rw [e] at h1 h2 h3
        exact ⟨h1, by rw [Nat.add_assoc]; exact h2, by rw [Nat.add_assoc]; exact h3⟩

end Go.Proofs.Ytdeicfdbjmpliaa
