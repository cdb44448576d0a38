/- The taker of numbers as it lies; its number. -/
import Derived.Test.YtbfjihbkkcggmaaPackC
import Derived.Test.YtbfjihbkkcggmaaImgTake
import Derived.Test.YtbfjihbkkcggmaaPackH
import Derived.Test.YtbfjihbkkcggmaaPackD
import Derived.Deep.RegionHeld3
import Derived.WalkLawsBesides
namespace Go.Proofs.Ytbfjihbkkcggmaa
open Go.RowKit

set_option maxRecDepth 100000 in
theorem Sl.cut {k : IntKind} {w : World} {a : Option Addr} {n cap : Nat} {zs : List Int} (h : Sl k w a n cap zs) (j : Nat) (hj : j ≤ n) : Sl k w a j cap (zs.take j) := by
  obtain ⟨h1, h2, h3, h4, h5⟩ := h
  refine ⟨by simp; omega, by omega, h3, fun z hz => h4 z (List.mem_of_mem_take hz), ?_⟩
  rcases h5 with h5 | ⟨b, off, ha, hc⟩
  · exact .inl (by omega)
  · refine .inr ⟨b, off, ha, fun i hi => ?_⟩
    rw [hc i (by omega)]
    simp [hi]
set_option maxRecDepth 100000 in
theorem Sl.from {k : IntKind} {w : World} {a : Option Addr} {n cap : Nat} {zs : List Int} (h : Sl k w a n cap zs) (j : Nat) (hj : j ≤ n) : Sl k w (Option.map (fun x => x.add j) a) (n - j) (cap - j) (zs.drop j) := by
  obtain ⟨h1, h2, h3, h4, h5⟩ := h
  refine ⟨by simp; omega, by omega, by omega, fun z hz => h4 z (List.mem_of_mem_drop hz), ?_⟩
  rcases h5 with h5 | ⟨b, off, ha, hc⟩
  · exact .inl (by omega)
  · refine .inr ⟨b, off + j, by rw [ha]; simp [Addr.add], fun i hi => ?_⟩
    rw [Nat.add_assoc, hc (j + i) (by omega)]
    simp [Nat.add_comm]
set_option maxRecDepth 100000 in
theorem Sl.fromIf {k : IntKind} {w : World} {a : Option Addr} {n cap : Nat} {zs : List Int} (h : Sl k w a n cap zs) (j : Nat) (hj : j ≤ n) : Sl k w (if cap = j then a else Option.map (fun x => x.add j) a) (n - j) (cap - j) (zs.drop j) := by
  split
  · rename_i hc
    obtain ⟨h1, h2, h3, h4, h5⟩ := h
    exact ⟨by simp; omega, by omega, by omega, fun z hz => h4 z (List.mem_of_mem_drop hz), .inl (by omega)⟩
  · exact h.from j hj
set_option maxRecDepth 100000 in
theorem Low.fromIf {B : Nat} {a : Option Addr} {n : Nat} (h : Low B a n) {cap : Nat} (j : Nat) (hj : j ≤ n) (hc : n ≤ cap) : Low B (if cap = j then a else Option.map (fun x => x.add j) a) (n - j) := by
  split
  · exact .inl (by omega)
  · rcases h with h | ⟨b, o, rfl, hb⟩
    · exact .inl (by omega)
    · exact .inr ⟨b, o + j, by simp [Addr.add], hb⟩
set_option maxRecDepth 100000 in
theorem add_zero (a : Option Addr) : Option.map (fun x => x.add 0) a = a := by
  cases a <;> simp [Addr.add]

/-- the panic of what is wrong -/
def formPanic : List PanicEntry := [{ v := .iface 32 (.int .i64 150), recovered := false }]
/-- the taker at the block tb, whose bytes lie below B -/
structure Tk (w : World) (B tb : Nat) (b : List Int) (a : Option Addr) (n cap : Nat) : Prop where
  box : w.heap[tb]? = some (.cells #[.slice a n cap] 61 (0, 0))
  sl : Sl .u8 w a n cap b
  low : Low B a n
  le : B ≤ tb
set_option maxRecDepth 100000 in
theorem Tk.lt {w : World} {B tb : Nat} {b : List Int} {a : Option Addr} {n cap : Nat} (h : Tk w B tb b a n cap) : tb < w.heap.size := (Array.getElem?_eq_some_iff.1 h.box).1
set_option maxRecDepth 100000 in
theorem Tk.cell {w : World} {B tb : Nat} {b : List Int} {a : Option Addr} {n cap : Nat} (h : Tk w B tb b a n cap) : w.cell? ⟨tb, 0, none⟩ = some (.slice a n cap) := by
  rw [cell_of_row w tb 0 _ _ _ h.box]; rfl
set_option maxRecDepth 100000 in
theorem Tk.frozen {w : World} {B tb : Nat} {b : List Int} {a : Option Addr} {n cap : Nat} (h : Tk w B tb b a n cap) : w.frozen? ⟨tb, 0, none⟩ = false := by
  have hb := h.box
  simp [World.frozen?, hb]
set_option maxRecDepth 100000 in
/-- the taker stays where its block and all that lies below B stay -/
theorem Tk.keep {w w' : World} {B tb : Nat} {b : List Int} {a : Option Addr} {n cap : Nat} (h : Tk w B tb b a n cap) (hb : ∀ k, k ≤ tb → w'.heap[k]? = w.heap[k]?) : Tk w' B tb b a n cap := by
  refine ⟨(hb tb (Nat.le_refl _)).trans h.box, ?_, h.low, h.le⟩
  obtain ⟨h1, h2, h3, h4, h5⟩ := h.sl
  refine ⟨h1, h2, h3, h4, ?_⟩
  rcases h5 with h5 | ⟨b', off, ha, hc⟩
  · exact .inl h5
  · rcases h.low with hl | ⟨b2, o2, hl, hlt⟩
    · exact .inl hl
    · rw [ha] at hl
      cases hl
      refine .inr ⟨b', off, ha, fun i hi => ?_⟩
      rw [World.cell?, hb b' (by have := h.le; omega)]
      exact hc i hi
set_option maxRecDepth 100000 in
theorem Tk.below {w w' : World} {B tb C : Nat} {b : List Int} {a : Option Addr} {n cap : Nat} (h : Tk w B tb b a n cap) (hb : Below C w w') (hC : tb < C) : Tk w' B tb b a n cap :=
  h.keep (fun k hk => hb.block k (by omega))
set_option maxRecDepth 100000 in
/-- the taker behind a store into it -/
theorem Tk.store {w : World} {B tb : Nat} {b b' : List Int} {a a' : Option Addr} {n n' cap cap' : Nat} (h : Tk w B tb b a n cap) (hs : Sl .u8 w a' n' cap' b') (hl : Low B a' n') : Tk (w.setCell ⟨tb, 0, none⟩ (.slice a' n' cap')) B tb b' a' n' cap' := by
  refine ⟨by rw [heap_setCell_same _ _ _ _ _ _ h.box]; rfl, ?_, hl, h.le⟩
  obtain ⟨h1, h2, h3, h4, h5⟩ := hs
  refine ⟨h1, h2, h3, h4, ?_⟩
  rcases h5 with h5 | ⟨b1, off, ha, hc⟩
  · exact .inl h5
  · rcases hl with hl | ⟨b2, o2, hl, hlt⟩
    · exact .inl hl
    · rw [ha] at hl
      cases hl
      refine .inr ⟨b1, off, ha, fun i hi => ?_⟩
      rw [World.cell?, heap_setCell_other _ _ _ _ (by have := h.le; show b1 ≠ tb; omega)]
      exact hc i hi
set_option maxRecDepth 100000 in
/-- only the block tb has changed, of those that were there -/
theorem grown_trans {a b c : World} {r : Option Nat} (h : a.grownBy b r) (k : b.grownBy c r) : a.grownBy c r :=
  ⟨k.os.trans h.os, k.tape.trans h.tape, k.output.trans h.output, Nat.le_trans h.size k.size, fun i hi hn => (k.block i (Nat.lt_of_lt_of_le hi h.size) hn).trans (h.block i hi hn)⟩
set_option maxRecDepth 100000 in
theorem grown_calm {w w' : World} (r : Option Nat) (h : Below w.heap.size w w') : w.grownBy w' r := ⟨h.os, h.tape, h.output, h.size, fun k hk _ => h.block k hk⟩
set_option maxRecDepth 100000 in
theorem grown_own {a b c : World} {r r' : Option Nat} (h : a.grownBy b r) (k : b.grownBy c r') (hr : ∀ g, r' = some g → a.heap.size ≤ g) : a.grownBy c r :=
  ⟨k.os.trans h.os, k.tape.trans h.tape, k.output.trans h.output, Nat.le_trans h.size k.size, fun i hi hn => (k.block i (Nat.lt_of_lt_of_le hi h.size) (fun e => by have := hr i e.symm; omega)).trans (h.block i hi hn)⟩
set_option maxRecDepth 100000 in
theorem grown_drew {a b : World} {r : Option Nat} (h : a.grownBy b r) : a.grownBy b.drew r := ⟨h.os, h.tape, h.output, h.size, h.block⟩
set_option maxRecDepth 100000 in
theorem grown_alloc {a b : World} {r : Option Nat} (h : a.grownBy b r) (o : Obj) : a.grownBy (b.alloc o) r := grown_trans h (World.grownBy_alloc b o r)
set_option maxRecDepth 100000 in
theorem below_of_grown {w w' : World} {tb B : Nat} (h : w.grownBy w' (some tb)) (hB : B ≤ tb) (hw : B ≤ w.heap.size) : Below B w w' :=
  ⟨h.os, h.tape, h.output, h.size, fun k hk => h.block k (by omega) (by simp; omega)⟩

set_option maxRecDepth 100000 in
theorem VTakeIs.form {w' : World} {e : Ending} {r : Option (Nat × List Int)} (h : VTakeIs w' e r) : ∃ x a' n' c' er, e = .returned (.tuple #[.int .u64 x, .slice a' n' c', .int .i64 er]) ∧ ((r = Option.none ∧ er = 130) ∨ ∃ (m : Nat) (l : List Int), r = Option.some (m, l) ∧ x = (m : Int) ∧ er = 0) := by
  rcases h with ⟨m, l, a', n', c', h1, h2, h3⟩ | ⟨h1, h2⟩
  · exact ⟨_, a', n', c', 0, h2, .inr ⟨m, l, h1, rfl, rfl⟩⟩
  · exact ⟨0, Option.none, 0, 0, 130, h2, .inl ⟨h1, rfl⟩⟩

/-- what number answers -/
def NumP (B tb : Nat) (w' : World) (e : Ending) (r : Option (Nat × List Int)) : Prop :=
  (r = none ∧ e = .panicked formPanic) ∨ ∃ x l a n c, r = some (x, l) ∧ e = .returned (.int .u64 ((x : Nat) : Int)) ∧ Tk w' B tb l a n c

set_option maxHeartbeats 6400000 in
set_option maxRecDepth 100000 in
theorem number_is (B tb : Nat) (a : Option Addr) (n cap : Nat) (b : List Int) (w : World) (ht : Tk w B tb b a n cap) :
    Calls Try.prog 45 #[.pointer (some ⟨tb, 0, none⟩)] w fun e w' => NumP B tb w' e (Var.take b) ∧ w.grownBy w' (some tb) := by
  have hmx : Try.prog.follows .mixedOrders = true := by kernel_rfl
  have HT := Lib.hid ht
  have hnc := ht.sl.2.1
  have hcm := ht.sl.2.2.1
  unfold maxLen at hcm
  have HLB : Hid (b.length = n) := ht.sl.1
  have hcell := ht.cell
  obtain ⟨m, hm⟩ : ∃ m, m = min 10 n := ⟨_, rfl⟩
  have hm10 : m ≤ 10 := by omega
  have hmn : m ≤ n := by omega
  have q1 : min (10 : Int) (n : Int) = (m : Int) := by omega
  have q2 : (if (10 : Int) < (n : Int) then (10 : Int) else (n : Int)) = (m : Int) := by split <;> omega
  have q3 : (if (n : Int) < (10 : Int) then (n : Int) else (10 : Int)) = (m : Int) := by split <;> omega
  have HMT : Hid (b.take m = b.take 10) := by
    show _ = _
    rw [hm]
    rcases Nat.le_total 10 n with h | h
    · rw [Nat.min_eq_left h]
    · rw [Nat.min_eq_right h, List.take_of_length_le (by rw [HLB.out]; exact Nat.le_refl _), List.take_of_length_le (by rw [HLB.out]; exact h)]
  have hmc : (m : Int) ≤ (cap : Int) := by omega
  have hma := add_zero a
  have HD : Hid (w.grownBy w.drew (some tb)) := grown_drew (World.grownBy.refl w _)
  have HS : Hid (Sl .u8 w.drew a m cap (b.take m)) := (ht.sl.cut m hmn).drew
  clear ht hm
  go_enter Try.func45, Try.ntmps45
  go_wp2
  refine wp_region_held_drew (S := (fun W => W.cell? ⟨tb, 0, none⟩ = some (.slice a n cap))) (by kernel_rfl) (by first | (first | exact C1.out | exact hcell) | ((try dsimp only); first | exact C1.out | exact hcell)) (fun hHeld => ?_)
  refine wpAnyH_take (i := 0) (v := ?va1) rfl (by kernel_rfl) (by kernel_rfl) (by kernel_rfl) (fun _ _ _ h => h) (Or.inl ⟨by rfl, ?ha1⟩) (by assumption) ?ra1
  case ha1 => intro w hSw; (try dsimp only at hSw); go_simp; try with_reducible rfl
  simp only [Act.put, List.getElem_toArray, List.getElem_cons_succ, List.getElem_cons_zero, List.setIfInBounds_toArray, List.set_cons_succ, List.set_cons_zero]
  refine wpAnyH_take (i := 1) (v := ?va4) rfl (by kernel_rfl) (by kernel_rfl) (by kernel_rfl) (fun _ _ _ h => h) (Or.inl ⟨by rfl, ?ha4⟩) (by assumption) ?ra4
  case ha4 => intro w hSw; (try dsimp only at hSw); go_simp; try with_reducible rfl
  simp only [Act.put, List.getElem_toArray, List.getElem_cons_succ, List.getElem_cons_zero, List.setIfInBounds_toArray, List.set_cons_succ, List.set_cons_zero]
  refine wpAnyH_take (i := 2) (v := ?va7) rfl (by kernel_rfl) (by kernel_rfl) (by kernel_rfl) (fun _ _ _ h => h) (Or.inl ⟨by rfl, ?ha7⟩) (by assumption) ?ra7
  case ha7 => intro w hSw; (try dsimp only at hSw); go_simp; try with_reducible rfl
  simp only [Act.put, List.getElem_toArray, List.getElem_cons_succ, List.getElem_cons_zero, List.setIfInBounds_toArray, List.set_cons_succ, List.set_cons_zero]
  refine wpAnyH_take (i := 3) (v := ?va10) rfl (by kernel_rfl) (by kernel_rfl) (by kernel_rfl) (fun _ _ _ h => h) (Or.inl ⟨by rfl, ?ha10⟩) (by assumption) ?ra10
  case ha10 => intro w hSw; (try dsimp only at hSw); go_simp; try with_reducible rfl
  simp only [Act.put, List.getElem_toArray, List.getElem_cons_succ, List.getElem_cons_zero, List.setIfInBounds_toArray, List.set_cons_succ, List.set_cons_zero]
  refine wpAnyH_take (i := 4) (v := ?va13) rfl (by kernel_rfl) (by kernel_rfl) (by kernel_rfl) (fun _ _ _ h => h) (Or.inl ⟨by rfl, ?ha13⟩) (by assumption) ?ra13
  case ha13 => intro w hSw; (try dsimp only at hSw); go_simp; try with_reducible rfl
  simp only [Act.put, List.getElem_toArray, List.getElem_cons_succ, List.getElem_cons_zero, List.setIfInBounds_toArray, List.set_cons_succ, List.set_cons_zero]
  refine wpAnyH_take (i := 5) (v := ?va16) rfl (by kernel_rfl) (by kernel_rfl) (by kernel_rfl) (fun _ _ _ h => h) (Or.inl ⟨by rfl, ?ha16⟩) (by assumption) ?ra16
  case ha16 => intro w hSw; (try dsimp only at hSw); go_simp; try with_reducible rfl
  simp only [Act.put, List.getElem_toArray, List.getElem_cons_succ, List.getElem_cons_zero, List.setIfInBounds_toArray, List.set_cons_succ, List.set_cons_zero]
  refine wpAnyH_take (i := 6) (v := ?va19) rfl (by kernel_rfl) (by kernel_rfl) (by kernel_rfl) (fun _ _ _ h => h) (Or.inl ⟨by rfl, ?ha19⟩) (by assumption) ?ra19
  case ha19 => intro w hSw; (try dsimp only at hSw); go_simp; try with_reducible rfl
  simp only [Act.put, List.getElem_toArray, List.getElem_cons_succ, List.getElem_cons_zero, List.setIfInBounds_toArray, List.set_cons_succ, List.set_cons_zero]
  refine wpAnyH_take (i := 7) (v := ?va22) rfl (by kernel_rfl) (by kernel_rfl) (by kernel_rfl) (fun _ _ _ h => h) (Or.inl ⟨by rfl, ?ha22⟩) (by assumption) ?ra22
  case ha22 => intro w hSw; (try dsimp only at hSw); go_simp; try with_reducible rfl
  simp only [Act.put, List.getElem_toArray, List.getElem_cons_succ, List.getElem_cons_zero, List.setIfInBounds_toArray, List.set_cons_succ, List.set_cons_zero]
  refine wpAnyH_take (i := 8) (v := ?va25) rfl (by kernel_rfl) (by kernel_rfl) (by kernel_rfl) (fun _ _ _ h => h) (Or.inl ⟨by rfl, ?ha25⟩) (by assumption) ?ra25
  case ha25 => intro w hSw; (try dsimp only at hSw); go_simp; try with_reducible rfl
  simp only [Act.put, List.getElem_toArray, List.getElem_cons_succ, List.getElem_cons_zero, List.setIfInBounds_toArray, List.set_cons_succ, List.set_cons_zero]
  refine wpAnyH_ready (rs := [9]) (by kernel_rfl) (by simp) ?_
  refine AllReadyH.cons rfl (fun K hK => ?_) AllReadyH.nil
  go_simp
  refine hK.out _ _ (by first | (first | exact C1.out | exact hcell) | ((try dsimp only); first | exact C1.out | exact hcell)) (fun hHeld => ?_)
  clear hK K
  try simp only [Act.put, List.getElem_toArray, List.getElem_cons_succ, List.getElem_cons_zero, List.setIfInBounds_toArray, List.set_cons_succ, List.set_cons_zero]
  refine wpAnyH_take (i := 10) (v := ?va34) rfl (by kernel_rfl) (by kernel_rfl) (by kernel_rfl) (fun _ _ _ h => h) (Or.inl ⟨by rfl, ?ha34⟩) (by assumption) ?ra34
  case ha34 => intro w hSw; (try dsimp only at hSw); go_simp; try with_reducible rfl
  simp only [Act.put, List.getElem_toArray, List.getElem_cons_succ, List.getElem_cons_zero, List.setIfInBounds_toArray, List.set_cons_succ, List.set_cons_zero]
  refine wpAnyH_ready (rs := [11]) (by kernel_rfl) (by simp) ?_
  refine AllReadyH.cons rfl (fun K hK => ?_) AllReadyH.nil
  go_simp
  refine (vtake_is a m cap _ _ HS.out (by omega)).mono ?_
  rintro e w1 ⟨hv, hb1⟩
  have G1 : Hid (w.grownBy w1 (some tb)) := grown_trans HD.out (grown_calm _ hb1)
  have T1 : Hid (Tk w1 B tb b a n cap) := HT.out.below (C := w.heap.size) (show Below w.heap.size w w1 from ⟨hb1.os, hb1.tape, hb1.output, hb1.size, hb1.block⟩) HT.out.lt
  have C1 := Lib.hid T1.out.cell
  clear hb1
  obtain ⟨x, ax, nx, cx, er, rfl, hx⟩ := hv.form
  rw [HMT.out] at hx
  have V1 := Lib.hid hx
  clear hv hx
  refine hK.out _ _ (by first | (first | exact C1.out | exact hcell) | ((try dsimp only); first | exact C1.out | exact hcell)) (fun hHeld => ?_)
  clear hK K
  try simp only [Act.put, List.getElem_toArray, List.getElem_cons_succ, List.getElem_cons_zero, List.setIfInBounds_toArray, List.set_cons_succ, List.set_cons_zero]
  refine wpAnyH_take (i := 12) (v := ?va53) rfl (by kernel_rfl) (by kernel_rfl) (by kernel_rfl) (fun _ _ _ h => h) (Or.inl ⟨by rfl, ?ha53⟩) (by assumption) ?ra53
  case ha53 => intro w hSw; (try dsimp only at hSw); go_simp; try with_reducible rfl
  simp only [Act.put, List.getElem_toArray, List.getElem_cons_succ, List.getElem_cons_zero, List.setIfInBounds_toArray, List.set_cons_succ, List.set_cons_zero]
  refine wpAnyH_take (i := 13) (v := ?va56) rfl (by kernel_rfl) (by kernel_rfl) (by kernel_rfl) (fun _ _ _ h => h) (Or.inl ⟨by rfl, ?ha56⟩) (by assumption) ?ra56
  case ha56 => intro w hSw; (try dsimp only at hSw); go_simp; try with_reducible rfl
  simp only [Act.put, List.getElem_toArray, List.getElem_cons_succ, List.getElem_cons_zero, List.setIfInBounds_toArray, List.set_cons_succ, List.set_cons_zero]
  refine wpAnyH_take (i := 14) (v := ?va59) rfl (by kernel_rfl) (by kernel_rfl) (by kernel_rfl) (fun _ _ _ h => h) (Or.inl ⟨by rfl, ?ha59⟩) (by assumption) ?ra59
  case ha59 => intro w hSw; (try dsimp only at hSw); go_simp; try with_reducible rfl
  simp only [Act.put, List.getElem_toArray, List.getElem_cons_succ, List.getElem_cons_zero, List.setIfInBounds_toArray, List.set_cons_succ, List.set_cons_zero]
  refine wpAnyH_take (i := 15) (v := ?va62) rfl (by kernel_rfl) (by kernel_rfl) (by kernel_rfl) (fun _ _ _ h => h) (Or.inl ⟨by rfl, ?ha62⟩) (by assumption) ?ra62
  case ha62 => intro w hSw; (try dsimp only at hSw); go_simp; try with_reducible rfl
  simp only [Act.put, List.getElem_toArray, List.getElem_cons_succ, List.getElem_cons_zero, List.setIfInBounds_toArray, List.set_cons_succ, List.set_cons_zero]
  refine wpAnyH_take (i := 16) (v := ?va65) rfl (by kernel_rfl) (by kernel_rfl) (by kernel_rfl) (fun _ _ _ h => h) (Or.inl ⟨by rfl, ?ha65⟩) (by assumption) ?ra65
  case ha65 => intro w hSw; (try dsimp only at hSw); go_simp; try with_reducible rfl
  simp only [Act.put, List.getElem_toArray, List.getElem_cons_succ, List.getElem_cons_zero, List.setIfInBounds_toArray, List.set_cons_succ, List.set_cons_zero]
  refine wpAnyH_take (i := 17) (v := ?va68) rfl (by kernel_rfl) (by kernel_rfl) (by kernel_rfl) (fun _ _ _ h => h) (Or.inl ⟨by rfl, ?ha68⟩) (by assumption) ?ra68
  case ha68 => intro w hSw; (try dsimp only at hSw); go_simp; try with_reducible rfl
  simp only [Act.put, List.getElem_toArray, List.getElem_cons_succ, List.getElem_cons_zero, List.setIfInBounds_toArray, List.set_cons_succ, List.set_cons_zero]
  refine wpAnyH_take (i := 18) (v := ?va71) rfl (by kernel_rfl) (by kernel_rfl) (by kernel_rfl) (fun _ _ _ h => h) (Or.inl ⟨by rfl, ?ha71⟩) (by assumption) ?ra71
  case ha71 => intro w hSw; (try dsimp only at hSw); go_simp; try with_reducible rfl
  simp only [Act.put, List.getElem_toArray, List.getElem_cons_succ, List.getElem_cons_zero, List.setIfInBounds_toArray, List.set_cons_succ, List.set_cons_zero]
  refine wpAnyH_done (by kernel_rfl) ?_ _
  clear HS HD hcell
  obtain (⟨hr, rfl⟩ | ⟨x, l, hr, rfl, rfl⟩) := V1.out
  · have HR := Lib.hid (Img.take_ten_none hr)
    clear hr V1
    go_wp2
    exact ⟨rfl, .inl ⟨HR.out, rfl⟩, G1.out⟩
  · obtain ⟨hr1, hx64, hl1⟩ := Img.take_ten_some hr
    have HR := Lib.hid hr1
    obtain ⟨k, hk⟩ : ∃ k, (Var.enc x).length = k := ⟨_, rfl⟩
    rw [hk, HLB.out] at hl1
    have HK := Lib.hid hk
    have hk10 : k ≤ 10 := by rw [← hk]; exact Var.len_10 hx64
    have hkp : 0 < k := by rw [← hk]; exact Var.enc_pos x
    have HC := Lib.hid (size_is x k hx64 hk)
    have hcell := C1.out
    have D1 : Hid (w.grownBy w1.drew (some tb)) := grown_drew G1.out
    have hkc : (k : Int) ≤ (n : Int) := by omega
    clear hr hr1 hk V1
    go_wp2
    refine wp_region_held_drew (S := (fun _ => True)) (by kernel_rfl) (by first | (trivial) | ((try dsimp only); trivial)) (fun hHeld => ?_)
    refine wpAnyH_take (i := 0) (v := ?vb1) rfl (by kernel_rfl) (by kernel_rfl) (by kernel_rfl) (fun _ _ _ h => h) (Or.inl ⟨by rfl, ?hb1⟩) (by assumption) ?rb1
    case hb1 => intro w hSw; (try dsimp only at hSw); go_simp; try with_reducible rfl
    simp only [Act.put, List.getElem_toArray, List.getElem_cons_succ, List.getElem_cons_zero, List.setIfInBounds_toArray, List.set_cons_succ, List.set_cons_zero]
    refine wpAnyH_take (i := 1) (v := ?vb4) rfl (by kernel_rfl) (by kernel_rfl) (by kernel_rfl) (fun _ _ _ h => h) (Or.inl ⟨by rfl, ?hb4⟩) (by assumption) ?rb4
    case hb4 => intro w hSw; (try dsimp only at hSw); go_simp; try with_reducible rfl
    simp only [Act.put, List.getElem_toArray, List.getElem_cons_succ, List.getElem_cons_zero, List.setIfInBounds_toArray, List.set_cons_succ, List.set_cons_zero]
    refine wpAnyH_take (i := 2) (v := ?vb7) rfl (by kernel_rfl) (by kernel_rfl) (by kernel_rfl) (fun _ _ _ h => h) (Or.inl ⟨by rfl, ?hb7⟩) (by assumption) ?rb7
    case hb7 => intro w hSw; (try dsimp only at hSw); go_simp; try with_reducible rfl
    simp only [Act.put, List.getElem_toArray, List.getElem_cons_succ, List.getElem_cons_zero, List.setIfInBounds_toArray, List.set_cons_succ, List.set_cons_zero]
    refine wpAnyH_take (i := 3) (v := ?vb10) rfl (by kernel_rfl) (by kernel_rfl) (by kernel_rfl) (fun _ _ _ h => h) (Or.inl ⟨by rfl, ?hb10⟩) (by assumption) ?rb10
    case hb10 => intro w hSw; (try dsimp only at hSw); go_simp; try with_reducible rfl
    simp only [Act.put, List.getElem_toArray, List.getElem_cons_succ, List.getElem_cons_zero, List.setIfInBounds_toArray, List.set_cons_succ, List.set_cons_zero]
    refine wpAnyH_take (i := 5) (v := ?vb13) rfl (by kernel_rfl) (by kernel_rfl) (by kernel_rfl) (fun _ _ _ h => h) (Or.inl ⟨by rfl, ?hb13⟩) (by assumption) ?rb13
    case hb13 => intro w hSw; (try dsimp only at hSw); go_simp; try with_reducible rfl
    simp only [Act.put, List.getElem_toArray, List.getElem_cons_succ, List.getElem_cons_zero, List.setIfInBounds_toArray, List.set_cons_succ, List.set_cons_zero]
    refine wpAnyH_ready (rs := [4, 6]) (by kernel_rfl) (by simp) ?_
    refine AllReadyH.cons rfl (fun K hK => ?_) (AllReadyH.cons rfl (fun K hK => ?_) AllReadyH.nil)
    · go_simp
      refine hK.out _ _ (by first | (trivial) | ((try dsimp only); trivial)) (fun hHeld => ?_)
      clear hK K
      try simp only [Act.put, List.getElem_toArray, List.getElem_cons_succ, List.getElem_cons_zero, List.setIfInBounds_toArray, List.set_cons_succ, List.set_cons_zero]
      refine wpAnyH_ready (rs := [6]) (by kernel_rfl) (by simp) ?_
      refine AllReadyH.cons rfl (fun K hK => ?_) AllReadyH.nil
      go_simp
      refine (HC.out _).mono ?_
      rintro e w2 ⟨rfl, hb2⟩
      have G2 : Hid (w.grownBy w2 (some tb)) := grown_trans D1.out (grown_calm _ hb2)
      have T2 : Hid (Tk w2 B tb b a n cap) := T1.out.below (C := w1.heap.size) (show Below w1.heap.size w1 w2 from ⟨hb2.os, hb2.tape, hb2.output, hb2.size, hb2.block⟩) T1.out.lt
      have hc2 := T2.out.cell
      have hz2 : w2.frozen? ⟨tb, 0, none⟩ = false := T2.out.frozen
      clear hb2
      refine hK.out _ _ (by first | (trivial) | ((try dsimp only); trivial)) (fun hHeld => ?_)
      clear hK K
      try simp only [Act.put, List.getElem_toArray, List.getElem_cons_succ, List.getElem_cons_zero, List.setIfInBounds_toArray, List.set_cons_succ, List.set_cons_zero]
      refine wpAnyH_take (i := 7) (v := ?vb35) rfl (by kernel_rfl) (by kernel_rfl) (by kernel_rfl) (fun _ _ _ h => h) (Or.inl ⟨by rfl, ?hb35⟩) (by assumption) ?rb35
      case hb35 => intro w hSw; (try dsimp only at hSw); go_simp; try with_reducible rfl
      simp only [Act.put, List.getElem_toArray, List.getElem_cons_succ, List.getElem_cons_zero, List.setIfInBounds_toArray, List.set_cons_succ, List.set_cons_zero]
      refine wpAnyH_take (i := 8) (v := ?vb38) rfl (by kernel_rfl) (by kernel_rfl) (by kernel_rfl) (fun _ _ _ h => h) (Or.inl ⟨by rfl, ?hb38⟩) (by assumption) ?rb38
      case hb38 => intro w hSw; (try dsimp only at hSw); go_simp; try with_reducible rfl
      simp only [Act.put, List.getElem_toArray, List.getElem_cons_succ, List.getElem_cons_zero, List.setIfInBounds_toArray, List.set_cons_succ, List.set_cons_zero]
      refine wpAnyH_take (i := 9) (v := ?vb41) rfl (by kernel_rfl) (by kernel_rfl) (by kernel_rfl) (fun _ _ _ h => h) (Or.inl ⟨by rfl, ?hb41⟩) (by assumption) ?rb41
      case hb41 => intro w hSw; (try dsimp only at hSw); go_simp; try with_reducible rfl
      simp only [Act.put, List.getElem_toArray, List.getElem_cons_succ, List.getElem_cons_zero, List.setIfInBounds_toArray, List.set_cons_succ, List.set_cons_zero]
      refine wpAnyH_ready (rs := [10]) (by kernel_rfl) (by simp) ?_
      refine AllReadyH.cons rfl (fun K hK => ?_) AllReadyH.nil
      go_simp
      refine hK.out _ _ (by first | (trivial) | ((try dsimp only); trivial)) (fun hHeld => ?_)
      clear hK K
      try simp only [Act.put, List.getElem_toArray, List.getElem_cons_succ, List.getElem_cons_zero, List.setIfInBounds_toArray, List.set_cons_succ, List.set_cons_zero]
      refine wpAnyH_done (by kernel_rfl) ?_ _
      have T3 := Lib.hid (T2.out.store (T2.out.sl.fromIf k (by omega)) (T2.out.low.fromIf k (by omega) (by omega)))
      have G3 : Hid (w.grownBy (w2.setCell ⟨tb, 0, none⟩ (.slice (if cap = k then a else Option.map (fun x => x.add k) a) (n - k) (cap - k))) (some tb)) := grown_trans G2.out ⟨rfl, rfl, rfl, by simp, fun i _ hi => heap_setCell_other _ _ _ _ (fun e => hi (by rw [e]))⟩
      obtain ⟨W3, hW3⟩ : ∃ W, W = w2.setCell ⟨tb, 0, none⟩ (.slice (if cap = k then a else Option.map (fun x => x.add k) a) (n - k) (cap - k)) := ⟨_, rfl⟩
      rw [← hW3] at T3 G3 ⊢
      clear hW3 hc2 hz2 T2 G2 hHeld
      rw [HK.out] at HR
      go_wp2
      all_goals
        go_ret
        exact ⟨.inr ⟨x, _, _, _, _, HR.out, rfl, T3.out⟩, G3.out⟩
    · go_simp
      refine (HC.out _).mono ?_
      rintro e w2 ⟨rfl, hb2⟩
      have G2 : Hid (w.grownBy w2 (some tb)) := grown_trans D1.out (grown_calm _ hb2)
      have T2 : Hid (Tk w2 B tb b a n cap) := T1.out.below (C := w1.heap.size) (show Below w1.heap.size w1 w2 from ⟨hb2.os, hb2.tape, hb2.output, hb2.size, hb2.block⟩) T1.out.lt
      have hc2 := T2.out.cell
      have hz2 : w2.frozen? ⟨tb, 0, none⟩ = false := T2.out.frozen
      clear hb2
      refine hK.out _ _ (by first | (trivial) | ((try dsimp only); trivial)) (fun hHeld => ?_)
      clear hK K
      try simp only [Act.put, List.getElem_toArray, List.getElem_cons_succ, List.getElem_cons_zero, List.setIfInBounds_toArray, List.set_cons_succ, List.set_cons_zero]
      refine wpAnyH_ready (rs := [4]) (by kernel_rfl) (by simp) ?_
      refine AllReadyH.cons rfl (fun K hK => ?_) AllReadyH.nil
      go_simp
      refine hK.out _ _ (by first | (trivial) | ((try dsimp only); trivial)) (fun hHeld => ?_)
      clear hK K
      try simp only [Act.put, List.getElem_toArray, List.getElem_cons_succ, List.getElem_cons_zero, List.setIfInBounds_toArray, List.set_cons_succ, List.set_cons_zero]
      refine wpAnyH_take (i := 7) (v := ?vb78) rfl (by kernel_rfl) (by kernel_rfl) (by kernel_rfl) (fun _ _ _ h => h) (Or.inl ⟨by rfl, ?hb78⟩) (by assumption) ?rb78
      case hb78 => intro w hSw; (try dsimp only at hSw); go_simp; try with_reducible rfl
      simp only [Act.put, List.getElem_toArray, List.getElem_cons_succ, List.getElem_cons_zero, List.setIfInBounds_toArray, List.set_cons_succ, List.set_cons_zero]
      refine wpAnyH_take (i := 8) (v := ?vb81) rfl (by kernel_rfl) (by kernel_rfl) (by kernel_rfl) (fun _ _ _ h => h) (Or.inl ⟨by rfl, ?hb81⟩) (by assumption) ?rb81
      case hb81 => intro w hSw; (try dsimp only at hSw); go_simp; try with_reducible rfl
      simp only [Act.put, List.getElem_toArray, List.getElem_cons_succ, List.getElem_cons_zero, List.setIfInBounds_toArray, List.set_cons_succ, List.set_cons_zero]
      refine wpAnyH_take (i := 9) (v := ?vb84) rfl (by kernel_rfl) (by kernel_rfl) (by kernel_rfl) (fun _ _ _ h => h) (Or.inl ⟨by rfl, ?hb84⟩) (by assumption) ?rb84
      case hb84 => intro w hSw; (try dsimp only at hSw); go_simp; try with_reducible rfl
      simp only [Act.put, List.getElem_toArray, List.getElem_cons_succ, List.getElem_cons_zero, List.setIfInBounds_toArray, List.set_cons_succ, List.set_cons_zero]
      refine wpAnyH_ready (rs := [10]) (by kernel_rfl) (by simp) ?_
      refine AllReadyH.cons rfl (fun K hK => ?_) AllReadyH.nil
      go_simp
      refine hK.out _ _ (by first | (trivial) | ((try dsimp only); trivial)) (fun hHeld => ?_)
      clear hK K
      try simp only [Act.put, List.getElem_toArray, List.getElem_cons_succ, List.getElem_cons_zero, List.setIfInBounds_toArray, List.set_cons_succ, List.set_cons_zero]
      refine wpAnyH_done (by kernel_rfl) ?_ _
      have T3 := Lib.hid (T2.out.store (T2.out.sl.fromIf k (by omega)) (T2.out.low.fromIf k (by omega) (by omega)))
      have G3 : Hid (w.grownBy (w2.setCell ⟨tb, 0, none⟩ (.slice (if cap = k then a else Option.map (fun x => x.add k) a) (n - k) (cap - k))) (some tb)) := grown_trans G2.out ⟨rfl, rfl, rfl, by simp, fun i _ hi => heap_setCell_other _ _ _ _ (fun e => hi (by rw [e]))⟩
      obtain ⟨W3, hW3⟩ : ∃ W, W = w2.setCell ⟨tb, 0, none⟩ (.slice (if cap = k then a else Option.map (fun x => x.add k) a) (n - k) (cap - k)) := ⟨_, rfl⟩
      rw [← hW3] at T3 G3 ⊢
      clear hW3 hc2 hz2 T2 G2 hHeld
      rw [HK.out] at HR
      go_wp2
      all_goals
        go_ret
        exact ⟨.inr ⟨x, _, _, _, _, HR.out, rfl, T3.out⟩, G3.out⟩

end Go.Proofs.Ytbfjihbkkcggmaa
