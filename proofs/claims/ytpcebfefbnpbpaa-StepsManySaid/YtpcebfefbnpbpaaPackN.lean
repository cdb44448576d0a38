import Derived.Deep.Slices
import Derived.Deep.Fields
import Derived.Deep.Strs
import Derived.ChangeSame
import Derived.Lib.SmallJoins
import Derived.Test.YtpcebfefbnpbpaaChecked
import Derived.Test.YtpcebfefbnpbpaaPackB
set_option linter.all false
set_option maxRecDepth 100000
set_option maxHeartbeats 12800000
namespace Go.Proofs.Ytpcebfefbnpbpaa
section
open Go.ChangeShapes Go.WideShapes Go.Joins Go.RowKit Go.Deep

theorem Sl.of_trod {H : Type} {enc : TypeId × Value → H} {w : World} {base fuel : Nat} {held : Bool} {c : Value} {y : DataW H × List MemPlace}
    (h : DataW.trod enc Try.prog w base (fun _ => true) held fuel 26 [c] = some y) : ∃ (a : Option Addr) (n cap : Nat) (zs : List Int), c = .slice a n cap ∧ Sl .i64 w a n cap zs := by
  rcases open_ints Try.underlying26 Try.underlying3 (by kernel_rfl) h with ⟨hcs, _⟩ | ⟨x, l, k, zs, hcs, _, hl, hm, hz, _, hcell, hwz⟩
  · exact ⟨none, 0, 0, [], by simpa using hcs, Sl.nil⟩
  · refine ⟨some x, l, k, zs.take l, by simpa using hcs, Sl.of_row (.inr ⟨x, rfl, hl, hm, by simpa using hz, hcell, hwz⟩)⟩

theorem Rw.of_trod {H : Type} {enc : TypeId × Value → H} {w : World} {base n0 : Nat} {held : Bool} {c0 c1 c2 : Value} {y0 y1 y2 : DataW H × List MemPlace}
    (h0 : DataW.trod enc Try.prog w base (fun _ => true) held n0 26 [c0] = some y0) (h1 : DataW.trod enc Try.prog w base (fun _ => true) held n0 26 [c1] = some y1) (h2 : DataW.trod enc Try.prog w base (fun _ => true) held n0 22 [c2] = some y2) :
    ∃ x : Rw, c0 = x.l ∧ c1 = x.rt ∧ c2 = x.c ∧ x.Good w := by
  obtain ⟨la, ln, lc, L, rfl, hL⟩ := Sl.of_trod h0
  obtain ⟨ra, rn, rc, R, rfl, hR⟩ := Sl.of_trod h1
  obtain ⟨C, hc, _, hw⟩ := DataW.trod_int Try.underlying22 h2
  simp only [List.cons.injEq, and_true] at hc
  subst hc
  have hb : 0 ≤ C ∧ C < 18446744073709551616 := by
    have h := bounds_u64 hw
    omega
  exact ⟨⟨la, ln, lc, L, ra, rn, rc, R, C⟩, rfl, rfl, rfl, hL, hR, hb⟩

theorem rule_one : oneCellFields Try.prog (match Try.prog.underlying 41 with | some (.struct fs) => fs | _ => #[]) = true := by kernel_rfl
theorem rule_cells : Try.prog.cellsOf 41 = 3 := by kernel_rfl

/-- a rule by value -/
theorem Rw.open {H : Type} {enc : TypeId × Value → H} {w : World} {base b0 : Nat} {r : Reach} {held : Bool} {v : Value} {d : DataW H} {p : List MemPlace} (hv : Value.okWide Try.prog w r b0 41 v)
    (h : DataW.Trod enc Try.prog w base (fun _ => true) held 41 v d p) : ∃ x : Rw, v = x.v ∧ x.Good w := by
  obtain ⟨v0, v1, v2, y0, y1, y2, n, rfl, _, _, h0, h1, h2⟩ := open_agg3 Try.underlying41 (by kernel_rfl) rule_cells hv h
  obtain ⟨x, rfl, rfl, rfl, hx⟩ := Rw.of_trod h0 h1 h2
  exact ⟨x, rfl, hx⟩

theorem choose_ltR {Q : Nat → Rw → Prop} {n : Nat} (h : ∀ i, i < n → ∃ x, Q i x) : ∃ xs : List Rw, xs.length = n ∧ ∀ i, i < n → Q i (xs.getD i Rw.no) := by
  induction n with
  | zero => exact ⟨[], rfl, fun i hi => absurd hi (by omega)⟩
  | succ n ih =>
    obtain ⟨xs, hl, hx⟩ := ih fun i hi => h i (by omega)
    obtain ⟨x, hq⟩ := h n (by omega)
    refine ⟨xs ++ [x], by simp [hl], fun i hi => ?_⟩
    rcases Nat.lt_or_ge i n with h1 | h1
    · have := hx i h1
      rwa [show (xs ++ [x]).getD i Rw.no = xs.getD i Rw.no from by simp [List.getElem?_append_left (show i < xs.length by omega)]]
    · obtain rfl : i = n := by omega
      rw [show (xs ++ [x]).getD i Rw.no = x from by simp [← hl]]; exact hq

/-- a slice of rules -/
theorem Rs.open {H : Type} {enc : TypeId × Value → H} {w : World} {base fuel : Nat} {held : Bool} {c : Value} {y : DataW H × List MemPlace}
    (h : DataW.trod enc Try.prog w base (fun _ => true) held fuel 23 [c] = some y) :
    ∃ (a : Option Addr) (n cap : Nat) (xs : List Rw), c = .slice a n cap ∧ Rs w a n cap xs ∧ (a = none → cap = 0) ∧ (n = 0 ∨ ∃ elems spare, y.1 = .slice elems spare ∧ elems.length = n) := by
  rcases open_slice Try.underlying23 h with ⟨hcs, _⟩ | ⟨a, len, cap, m, n, D, Pl, hcs, hb, hl, hm, hmm, hyy, hi⟩
  · exact ⟨none, 0, 0, [], by simpa using hcs, Rs.nil, fun _ => rfl, .inl rfl⟩
  · simp only [if_true] at hmm
    have hmm' := hmm.symm
    subst hmm'
    have each : ∀ i, i < len → ∃ x : Rw, x.Good w ∧ w.cell? (a.add (i * 3)) = some x.l ∧ w.cell? (a.add (i * 3 + 1)) = some x.rt ∧ w.cell? (a.add (i * 3 + 2)) = some x.c := by
      intro i hil
      obtain ⟨cs, hc, ht⟩ := hi i (by omega)
      rw [rule_cells] at hc
      obtain ⟨_, hcl, hat⟩ := World.cells?_some hc
      match cs, hcl with
      | [c0, c1, c2], _ =>
        obtain ⟨y0, y1, y2, n', _, _, h0, h1, h2⟩ := trod_struct3 Try.underlying41 ht
        obtain ⟨x, rfl, rfl, rfl, hx⟩ := Rw.of_trod (c0 := c0) (c1 := c1) (c2 := c2) h0 h1 h2
        have e : ∀ j, (a.add (i * 3)).add j = a.add (i * 3 + j) := fun j => by rw [Go.Deep.add_add]
        exact ⟨x, hx, hat 0 (by omega), by rw [← e 1]; exact hat 1 (by omega), by rw [← e 2]; exact hat 2 (by omega)⟩
    obtain ⟨xs, hxl, hx⟩ := choose_ltR each
    refine ⟨some a, len, cap, xs, by simpa using hcs, ⟨hxl, hl, hm, fun x hxm => ?_, ?_⟩, (fun h => by cases h), .inr ⟨_, _, by rw [hyy], by simp⟩⟩
    · obtain ⟨i, hi', rfl⟩ := List.mem_iff_getElem.1 hxm
      have := (hx i (by omega)).1
      rwa [show xs.getD i Rw.no = xs[i] from by simp [hi']] at this
    · rcases Nat.eq_zero_or_pos len with h0 | hp
      · exact .inl h0
      · obtain ⟨b, off, spot⟩ := a
        have hspot : spot = none := by simpa [Addr.add] using World.cell?_spot (hx 0 hp).2.1
        subst hspot
        refine .inr ⟨b, off, rfl, fun i hi' => ?_⟩
        obtain ⟨_, h1, h2, h3⟩ := hx i hi'
        have e : ∀ j, (⟨b, off, none⟩ : Addr).add j = ⟨b, off + j, none⟩ := fun j => by simp [Addr.add]
        rw [e] at h1 h2 h3
        exact ⟨h1, by rw [Nat.add_assoc]; exact h2, by rw [Nat.add_assoc]; exact h3⟩

end
section
open Go.ChangeShapes Go.WideShapes Go.Joins Go.RowKit Go.Deep

theorem array5 {α : Type} {cs : Array α} (h : cs.size = 5) : ∃ c0 c1 c2 c3 c4, cs = #[c0, c1, c2, c3, c4] := by
  obtain ⟨l⟩ := cs
  match l, h with
  | [c0, c1, c2, c3, c4], _ => exact ⟨c0, c1, c2, c3, c4, rfl⟩
section
variable {H : Type} {enc : TypeId × Value → H} {P : Program} {w : World} {base : Nat} {spare : Nat → Bool} {held : Bool}
theorem trod_struct5 {t : TypeId} {f0 f1 f2 f3 f4 : Field} {fuel : Nat} {cs : List Value} {x : DataW H × List MemPlace} (ht : P.underlying t = some (.struct #[f0, f1, f2, f3, f4])) (h : DataW.trod enc P w base spare held fuel t cs = some x) :
    ∃ y0 y1 y2 y3 y4 n, x = (.agg [y0.1, y1.1, y2.1, y3.1, y4.1], y0.2 ++ (y1.2 ++ (y2.2 ++ (y3.2 ++ y4.2)))) ∧ cs.length = P.cellsOf t ∧ DataW.trod enc P w base spare held n f0.type ((cs.drop f0.offset).take (P.cellsOf f0.type)) = some y0 ∧
      DataW.trod enc P w base spare held n f1.type ((cs.drop f1.offset).take (P.cellsOf f1.type)) = some y1 ∧ DataW.trod enc P w base spare held n f2.type ((cs.drop f2.offset).take (P.cellsOf f2.type)) = some y2 ∧
      DataW.trod enc P w base spare held n f3.type ((cs.drop f3.offset).take (P.cellsOf f3.type)) = some y3 ∧ DataW.trod enc P w base spare held n f4.type ((cs.drop f4.offset).take (P.cellsOf f4.type)) = some y4 := by
  obtain ⟨xs, n, _, rfl, hl, hlen, hf⟩ := DataW.trod_struct ht h
  match xs, hlen with
  | [y0, y1, y2, y3, y4], _ => exact ⟨y0, y1, y2, y3, y4, n, by simp, hl, by simpa using hf 0 f0 rfl, by simpa using hf 1 f1 rfl, by simpa using hf 2 f2 rfl, by simpa using hf 3 f3 rfl, by simpa using hf 4 f4 rfl⟩
theorem open_agg5 {r : Reach} {b0 : Nat} {t : TypeId} {f0 f1 f2 f3 f4 : Field} {v : Value} {d : DataW H} {p : List MemPlace} (hs : P.underlying t = some (.struct #[f0, f1, f2, f3, f4])) (hone : oneCellFields P #[f0, f1, f2, f3, f4] = true) (hC : P.cellsOf t = 5)
    (hv : Value.okWide P w r b0 t v) (h : DataW.Trod enc P w base spare held t v d p) :
    ∃ (v0 v1 v2 v3 v4 : Value) (y0 y1 y2 y3 y4 : DataW H × List MemPlace) (n : Nat), v = .agg #[v0, v1, v2, v3, v4] ∧
      DataW.trod enc P w base spare held n f0.type [v0] = some y0 ∧ DataW.trod enc P w base spare held n f1.type [v1] = some y1 ∧ DataW.trod enc P w base spare held n f2.type [v2] = some y2 ∧ DataW.trod enc P w base spare held n f3.type [v3] = some y3 ∧ DataW.trod enc P w base spare held n f4.type [v4] = some y4 := by
  obtain ⟨cs, rfl, hsz⟩ := okWide_struct hs hv
  obtain ⟨c0, c1, c2, c3, c4, rfl⟩ := array5 (hsz.trans hC)
  obtain ⟨fuel, hf⟩ := h
  obtain ⟨y0, y1, y2, y3, y4, n, hx, _, h0, h1, h2, h3, h4⟩ := trod_struct5 hs hf
  obtain ⟨o0, k0⟩ := hone_of hone 0 f0 rfl
  obtain ⟨o1, k1⟩ := hone_of hone 1 f1 rfl
  obtain ⟨o2, k2⟩ := hone_of hone 2 f2 rfl
  obtain ⟨o3, k3⟩ := hone_of hone 3 f3 rfl
  obtain ⟨o4, k4⟩ := hone_of hone 4 f4 rfl
  exact ⟨c0, c1, c2, c3, c4, y0, y1, y2, y3, y4, n, rfl, by simpa [Value.cells, o0, k0] using h0, by simpa [Value.cells, o1, k1] using h1, by simpa [Value.cells, o2, k2] using h2, by simpa [Value.cells, o3, k3] using h3, by simpa [Value.cells, o4, k4] using h4⟩
end
theorem costs_cells : Try.prog.cellsOf 25 = 5 := by kernel_rfl

/-- costs by value -/
theorem Cw.open {H : Type} {enc : TypeId × Value → H} {w : World} {base b0 : Nat} {r : Reach} {held : Bool} {v : Value} {d : DataW H} {p : List MemPlace} (hv : Value.okWide Try.prog w r b0 25 v)
    (h : DataW.Trod enc Try.prog w base (fun _ => true) held 25 v d p) : ∃ x : Cw, v = x.v ∧ x.Good w ∧ (x.a = none → x.cap = 0) := by
  obtain ⟨v0, v1, v2, v3, v4, y0, y1, y2, y3, y4, n, rfl, h0, h1, h2, h3, h4⟩ := open_agg5 Try.underlying25 (by kernel_rfl) costs_cells hv h
  obtain ⟨a0, e0, _, w0⟩ := DataW.trod_int Try.underlying22 h0
  obtain ⟨a1, e1, _, w1⟩ := DataW.trod_int Try.underlying22 h1
  obtain ⟨a2, e2, _, w2⟩ := DataW.trod_int Try.underlying22 h2
  obtain ⟨a3, e3, _, w3⟩ := DataW.trod_int Try.underlying22 h3
  obtain ⟨a, m, cap, xs, rfl, hrs, hnil, _⟩ := Rs.open h4
  simp only [List.cons.injEq, and_true] at e0 e1 e2 e3
  subst e0 e1 e2 e3
  have hb : ∀ z : Int, (Lit.int .u64 z).wf = true → 0 ≤ z ∧ z < 18446744073709551616 := fun z hz => by have := bounds_u64 hz; omega
  refine ⟨⟨a0, a1, a2, a3, a, m, cap, xs⟩, rfl, ⟨hrs, fun z hz => ?_⟩, hnil⟩
  simp only [Cw.base, List.mem_cons, List.not_mem_nil, or_false] at hz
  rcases hz with rfl | rfl | rfl | rfl
  · exact hb _ w0
  · exact hb _ w1
  · exact hb _ w2
  · exact hb _ w3

end
end Go.Proofs.Ytpcebfefbnpbpaa
