/- The program's Check of layer 10. -/
import Derived.Test.YtehdojhblekgeaaTrieCheckW
namespace Go.Proofs.Ytehdojhblekgeaa
open Go.RowKit Tri

set_option maxRecDepth 100000 in
theorem check_long {l : List St} (h : l.length = 0 ∨ 6001 < l.length) : check l = false := by
  unfold check
  rcases h with h | h
  · have : decide (1 ≤ l.length) = false := decide_eq_false (by omega)
    rw [this]; simp
  · have : decide (l.length ≤ 6001) = false := decide_eq_false (by omega)
    rw [this]; simp
set_option maxRecDepth 100000 in
theorem checkA_step {n : Nat} {l : List St} {i : Nat} {s : St} (hi : i < l.length) (hs : l.getD i St.no = s) (h : checkA n 0 (l.take i) = true) (ho : arcsOk n i none s.arcs = true) : checkA n 0 (l.take (i + 1)) = true := by
  have e : l.take (i + 1) = l.take i ++ [s] := by rw [List.take_succ_eq_append_getElem hi, ← hs]; simp [hi]
  rw [e, checkA_app, h, Nat.zero_add, show (l.take i).length = i by simp; omega]
  simp [checkA, ho]

set_option maxRecDepth 100000 in
theorem three (w : World) (A B C : Obj) : (((w.alloc A).alloc B).alloc C).heap[w.heap.size]? = some A ∧ (((w.alloc A).alloc B).alloc C).heap[w.heap.size + 1 + 1]? = some C ∧ Below w.heap.size w (((w.alloc A).alloc B).alloc C) := by
  have h1 := (World.size_alloc w A)
  have h2 := (World.size_alloc (w.alloc A) B)
  refine ⟨?_, ?_, ((Below.refl _ w).alloc (Nat.le_refl _) A).alloc (by omega) B |>.alloc (by omega) C⟩
  · rw [((Below.refl _ ((w.alloc A).alloc B)).alloc (Nat.le_refl _) C).block _ (by omega), ((Below.refl _ (w.alloc A)).alloc (Nat.le_refl _) B).block _ (by omega)]
    exact heap_alloc_new w A
  · rw [show w.heap.size + 1 + 1 = ((w.alloc A).alloc B).heap.size by omega]
    exact heap_alloc_new _ C

set_option maxRecDepth 100000 in
set_option maxHeartbeats 6400000 in
theorem tcheck_is (a : Option Addr) (n cap : Nat) (xs : List Sw) (r : Bool) (w : World) (ha : Ss w a n cap xs) (hr : check (sts xs) = r) :
    Calls Try.prog 15 #[.slice a n cap] w fun e w' => e = .returned (.bool r) ∧ Below w.heap.size w w' := by
  have hnc := ha.2.1
  have hcm := ha.2.2.1
  unfold maxLen at hcm
  have HA := Lib.hid ha
  have HR := Lib.hid hr
  have HL : Hid ((sts xs).length = n) := by show _ = _; rw [sts_length, ha.1]
  have HBX : ∀ o, Hid (Below w.heap.size w (w.alloc o)) := fun o => (Below.refl _ w).alloc (Nat.le_refl _) o
  clear ha hr
  by_cases h0 : n = 0
  · subst h0
    obtain rfl : r = false := by rw [← HR.out]; exact check_long (.inl HL.out)
    go_enter Try.func15, Try.ntmps15
    go_wp2
    go_ret
    exact ⟨rfl, (HBX _).out⟩
  have h0b : ((n : Int) == 0) = false := by simp; omega
  by_cases h1 : 6001 < n
  · have h1d : decide ((n : Int) > 6001) = true := decide_eq_true (by omega)
    obtain rfl : r = false := by rw [← HR.out]; exact check_long (.inr (by rw [HL.out]; exact h1))
    clear h0 h1
    go_enter Try.func15, Try.ntmps15
    go_wp2
    go_ret
    exact ⟨rfl, (HBX _).out⟩
  have h1d : decide ((n : Int) > 6001) = false := decide_eq_false (by omega)
  have HN1 : Hid (1 ≤ n ∧ n ≤ 6001) := ⟨by omega, by omega⟩
  clear h0 h1
  go_enter Try.func15, Try.ntmps15
  go_wp2
  go_loopw [17] (fun ix wr => ∃ i : Nat, i ≤ n ∧ ix = .int .i64 (i : Int) ∧ Hid (checkA n 0 ((sts xs).take i) = true) ∧ Hid (Below w.heap.size w wr) ∧ Hid (wr.cell? ⟨w.heap.size, 0, none⟩ = some (.slice a n cap))) (fun ix _ => n - (intOf ix).toNat)
  case atStart => exact ⟨0, Nat.zero_le _, rfl, rfl, (HBX _).out, (by show _ = _; simp only [World.cell?]; rw [heap_alloc_new]; rfl)⟩
  case round =>
    obtain ⟨i, hi, rfl, HCK, HBW, HCN⟩ := hrel
    by_cases hlt : i < n
    · obtain ⟨b1, o1, f, sa, sn, sc, arcs, rfl, hbl, hx1, hx2, hars, hz1⟩ := (HA.out.below HBW.out (Nat.le_refl _)).one i hlt
      have HZ1 : Hid ((sts xs).getD i St.no = ⟨f, arcs⟩) := by show _ = _; rw [sts_at, hz1]; rfl
      have HAR := Lib.hid hars
      have hlti : (i : Int) < (n : Int) := by omega
      obtain ⟨q, hq⟩ : ∃ q, arcsOk n i none arcs = !q := ⟨!arcsOk n i none arcs, by simp⟩
      have HQ := Lib.hid hq
      clear hars hz1 hq hbl
      go_wp2_with fail
      obtain ⟨e1, e2, e3⟩ := three wr (Obj.cells #[.int .i64 (i : Int)] 3) (Obj.cells #[.bool f, .slice sa sn sc] 43) (Obj.cells #[.int .i64 (-1)] 3)
      have HWN : Hid (w.heap.size < wr.heap.size) := cell_lt HCN.out
      generalize (((wr.alloc (Obj.cells #[.int .i64 (i : Int)] 3)).alloc (Obj.cells #[.bool f, .slice sa sn sc] 43)).alloc (Obj.cells #[.int .i64 (-1)] 3)) = w1 at *
      refine (containsArcs_is (wr.heap.size + 1 + 1) wr.heap.size w.heap.size i n cap sn sc _ sa arcs q w1 e2 (by simp only [World.cell?]; rw [e1]; rfl) (by rw [e3.cell (p := ⟨w.heap.size, 0, none⟩) HWN.out]; exact HCN.out) (by omega) (by have := HWN.out; omega) (HAR.out.below e3 (Nat.le_refl _)) ?_ HQ.out).mono ?_
      · intro hp b off hb
        obtain ⟨b', off', hb', hlt', _⟩ := HAR.out.at hp
        rw [hb] at hb'
        simp only [Option.some.injEq, Addr.mk.injEq, and_true] at hb'
        omega
      · rintro e w2 ⟨rfl, hg⟩
        have HB2 : Hid (Below wr.heap.size wr w2) := e3.grown hg e3.size (fun k hk => by cases hk; omega)
        clear e1 e2 e3 hg
        cases q
        · go_wp2
          go_roundw
          case rel => exact ⟨i + 1, by omega, by go_num, checkA_step (by rw [HL.out]; exact hlt) HZ1.out HCK.out HQ.out, HBW.out.trans (HB2.out.mono HBW.out.size), (by show _ = _; rw [HB2.out.cell (p := ⟨w.heap.size, 0, none⟩) HWN.out]; exact HCN.out)⟩
          case measure => simp [intOf]; omega
        · obtain rfl : r = false := by
            rw [← HR.out]
            refine check_bad (j := arcs.length) (by rw [HL.out]; exact hlt) HZ1.out ?_
            rw [HL.out]
            show arcsOk n i none (arcs.take arcs.length) = false
            rw [List.take_length]; exact HQ.out
          go_wp2
          go_ret
          exact ⟨rfl, HBW.out.trans (HB2.out.mono HBW.out.size)⟩
    · obtain rfl : i = n := by omega
      have hrr : r = true := by
        have h := HCK.out
        rw [List.take_of_length_le (by rw [HL.out]; exact Nat.le_refl _)] at h
        rw [← HR.out]
        unfold check
        rw [HL.out, h, decide_eq_true HN1.out.1, decide_eq_true HN1.out.2]; rfl
      subst hrr
      go_wp2
      go_ret
      exact ⟨rfl, HBW.out⟩

end Go.Proofs.Ytehdojhblekgeaa
