import Derived.Test.YtbfjihbkkcggmaaPackD
import Derived.Test.YtbfjihbkkcggmaaPackF
import Derived.Test.YtbfjihbkkcggmaaPackC
import Derived.WalkMore
import Derived.Test.YtbfjihbkkcggmaaPackG
/- A number's bytes in an array of ten: the program's bytesOf; and Size. -/
namespace Go.Proofs.Ytbfjihbkkcggmaa
open Go.RowKit

/-- the first j of some bytes, in room for ten -/
def room (l : List Int) (j : Nat) : List Int := l.take j ++ List.replicate (10 - j) 0
set_option maxRecDepth 100000 in
theorem room_length (l : List Int) (j : Nat) (hj : j ≤ l.length) (h : j ≤ 10) : (room l j).length = 10 := by unfold room; simp; omega
set_option maxRecDepth 100000 in
theorem room_set {l : List Int} {j : Nat} (hj : j < l.length) (h : j < 10) (x : Int) (hx : l.getD j 0 = x) : (room l j).set j x = room l (j + 1) := by
  have e1 : 10 - j = (10 - (j + 1)) + 1 := by omega
  have e2 : (l.take j).length = j := by simp; omega
  have e3 : l.take (j + 1) = l.take j ++ [x] := by rw [List.take_succ_eq_append_getElem hj, ← hx]; simp [hj]
  unfold room
  rw [e1, List.replicate_succ, List.set_append_right _ _ (by omega), e2, Nat.sub_self, e3]
  simp
set_option maxRecDepth 100000 in
theorem room_wf {l : List Int} (h : ∀ z ∈ l, (Lit.int .u8 z).wf = true) (j : Nat) : ∀ z ∈ room l j, (Lit.int .u8 z).wf = true := by
  intro z hz
  unfold room at hz
  rcases List.mem_append.1 hz with hz | hz
  · exact h z (List.mem_of_mem_take hz)
  · rw [(List.mem_replicate.1 hz).2]; decide
set_option maxRecDepth 100000 in
theorem room_take {l : List Int} (j : Nat) (hj : j = l.length) : (room l j).take j = l := by
  subst hj; unfold room; simp

set_option maxRecDepth 100000 in
/-- what is still to come of a number's bytes -/
theorem enc_rest {c v j : Nat} (h : Var.enc c = (Var.enc c).take j ++ Var.enc v) (hj : j ≤ (Var.enc c).length) : j + (Var.enc v).length = (Var.enc c).length := by
  have := congrArg List.length h
  simp only [List.length_append, List.length_take] at this
  omega
set_option maxRecDepth 100000 in
theorem enc_getD {c v j : Nat} (h : Var.enc c = (Var.enc c).take j ++ Var.enc v) (hj : j < (Var.enc c).length) : (Var.enc c).getD j 0 = (Var.enc v).getD 0 0 := by
  have e2 : ((Var.enc c).take j).length = j := by simp; omega
  have : ∀ l : List Int, l = (Var.enc c).take j ++ Var.enc v → l.getD j 0 = (Var.enc v).getD 0 0 := by
    intro l hl
    rw [hl, List.getD_eq_getElem?_getD, List.getElem?_append_right (by omega), e2, Nat.sub_self, ← List.getD_eq_getElem?_getD]
  exact this _ h
set_option maxRecDepth 100000 in
theorem enc_next {c v j : Nat} (h : Var.enc c = (Var.enc c).take j ++ Var.enc v) (hj : j < (Var.enc c).length) (hv : 128 ≤ v) : Var.enc c = (Var.enc c).take (j + 1) ++ Var.enc (v / 128) := by
  have h2 := enc_getD h hj
  rw [Var.enc_big hv] at h2
  rw [List.take_succ_eq_append_getElem hj, List.append_assoc]
  conv => lhs; rw [h, Var.enc_big hv]
  congr 1
  simp [hj] at h2
  simp [h2]

set_option maxRecDepth 100000 in
theorem info_ten : (Try.prog.info? 78).map (·.size) = some 10 := by kernel_rfl

set_option maxHeartbeats 1600000 in
set_option maxRecDepth 100000 in
theorem bytesOf_is (c n : Nat) (hc : c < 18446744073709551616) (hn : (Var.enc c).length = n) (w : World) :
    Calls Try.prog 39 #[.int .u64 (c : Int)] w fun e w' => e = .returned (.tuple #[.agg (cells8 (room (Var.enc c) n)), .int .i64 (n : Int)]) ∧ Below w.heap.size w w' := by
  have h10 := Var.len_10 hc
  have HP := Lib.hid (Var.enc_pos c)
  rw [hn] at h10
  have HL := Lib.hid hn
  have HI : Hid ((Try.prog.info? 78).map (·.size) = some (cells8 (room (Var.enc c) n)).size) := by show _ = _; rw [info_ten, cells8_size, room_length _ _ (by omega) h10]
  have HI3 : Hid ((cells8 (List.replicate 10 0)).size = (cells8 (room (Var.enc c) n)).size) := by show _ = _; rw [cells8_size, cells8_size, room_length _ _ (by omega) h10]; rfl
  have HB : ∀ o, Hid (Below w.heap.size w (w.alloc o)) := fun o => (Below.refl _ w).alloc (Nat.le_refl _) o
  clear hn
  go_enter Try.func39, Try.ntmps39
  go_wp2
  go_step3
  go_wp2
  go_step3
  go_wp2
  go_loopw [0, 7] (fun cv ix wr => ∃ (v j : Nat), cv = .int .u64 (v : Int) ∧ ix = .int .i64 (j : Int) ∧ v < 18446744073709551616 ∧ j ≤ n ∧ Hid (j < n ∧ Var.enc c = (Var.enc c).take j ++ Var.enc v) ∧ Hid (wr.heap[w.heap.size]? = some (.cells (cells8 (List.replicate 10 0)) 78 (0, 0))) ∧ Hid (wr.heap[w.heap.size + 1]? = some (.cells (cells8 (room (Var.enc c) j)) 78 (0, 0))) ∧ Hid (Below w.heap.size w wr)) (fun _ ix _ => 10 - (intOf ix).toNat)
  case atStart =>
    refine ⟨c, 0, rfl, rfl, hc, Nat.zero_le _, ⟨by have := HP.out; rw [HL.out] at this; omega, rfl⟩, ?_, ?_, ?_⟩
    · exact heap_alloc2_old w _ _
    · exact heap_alloc2_new w _ _
    · exact (HB _).out.alloc (by simp) _
  case round =>
    obtain ⟨v, j, rfl, rfl, hv, hj, HR, H0, H1, HBW⟩ := hrel
    have hjn := HR.out.1
    have hj10 : (j : Int) < 10 := by omega
    have HD := Lib.hid (enc_getD HR.out.2 (by rw [HL.out]; exact hjn))
    have hcell : wr.cell? ⟨w.heap.size + 1, j, none⟩ = some (.int .u8 ((room (Var.enc c) j).getD j 0)) := by
      rw [cell_of_row wr (w.heap.size + 1) j _ _ _ H1.out]
      have hl := room_length (Var.enc c) j (by rw [HL.out]; omega) (by omega)
      simp [cells8, u8s, show j < (room (Var.enc c) j).length by omega]
    have hfr : wr.frozen? ⟨w.heap.size + 1, j, none⟩ = false := by
      have h := H1.out
      simp [World.frozen?, h]
    by_cases h128 : v < 128
    · have hb : (v : Int) < 128 := by omega
      have hn1 : j + 1 = n := by
        have := enc_rest HR.out.2 (by rw [HL.out]; omega)
        rw [Var.enc_small h128, HL.out] at this
        simpa using this
      have hw8 : IntKind.u8.wrap (v : Int) = (v : Int) := by
        simp [IntKind.wrap, IntKind.signed, IntKind.bits]; omega
      have H1n : Hid ((wr.setCell ⟨w.heap.size + 1, j, none⟩ (.int .u8 (v : Int))).heap[w.heap.size + 1]? = some (.cells (cells8 (room (Var.enc c) n)) 78 (0, 0))) := by
        show _ = _
        rw [heap_setCell_same _ _ _ _ _ _ H1.out, cells8_set, room_set (by rw [HL.out]; exact hjn) (by omega) (v : Int) (by rw [HD.out, Var.enc_small h128]; rfl), hn1]
      have H0n : Hid ((wr.setCell ⟨w.heap.size + 1, j, none⟩ (.int .u8 (v : Int))).heap[w.heap.size]? = some (.cells (cells8 (List.replicate 10 0)) 78 (0, 0))) := by
        show _ = _
        rw [heap_setCell_other _ _ _ _ (by show w.heap.size ≠ w.heap.size + 1; omega)]; exact H0.out
      have HBn : Hid (Below w.heap.size w (wr.setCell ⟨w.heap.size + 1, j, none⟩ (.int .u8 (v : Int)))) := HBW.out.setCell (by show w.heap.size ≤ w.heap.size + 1; omega) _
      have HN1 : Hid ((j : Int) + 1 = (n : Int)) := by show _ = _; omega
      go_wp2_with (first
        | (refine wpList_load_row (by rfl) 78 (.tmp 4) (by rfl) (w.heap.size + 1) (by rfl) 78 (cells8 (room (Var.enc c) n)) (0, 0) _ H1n.out Try.underlying78 (by rfl) HI.out ?_)
        | (refine wpList_store_row (by rfl) 78 (.tmp 2) (.tmp 28) (by rfl) w.heap.size (cells8 (room (Var.enc c) n)) (by rfl) (by rfl) 78 (cells8 (List.replicate 10 0)) H0n.out HI.out HI3.out (cells8_one _) ?_))
      try rw [Exit.noGoto_ret]
      refine bodyPost_ret (results_cell_row_tmp rfl _ _ w.heap.size 78 (cells8 (room (Var.enc c) n)) (0, 0) _ (by rfl) (setRow_heap _ _ _ _ _ _ H0n.out) Try.underlying78 (by rfl) HI.out) rfl ?_
      exact ⟨by simp [HN1.out], below_setRow HBn.out (Nat.le_refl _) _⟩
    · have hb : ¬ (v : Int) < 128 := by omega
      have hw8 : IntKind.u8.wrap ((v : Int) % 128 + 128) = 128 + ((v % 128 : Nat) : Int) := by
        simp [IntKind.wrap, IntKind.signed, IntKind.bits]; omega
      have HNX := Lib.hid (enc_next HR.out.2 (by rw [HL.out]; exact hjn) (by omega))
      have hjn1 : j + 1 < n := by
        have := enc_rest HNX.out (by rw [HL.out]; omega)
        have := Var.enc_pos (v / 128)
        rw [HL.out] at *
        omega
      go_wp2
      go_roundw
      case rel =>
        refine ⟨v / 128, j + 1, by go_num, by go_num, by omega, by omega, ⟨hjn1, HNX.out⟩, ?_, ?_, ?_⟩
        · show (World.setCell _ _ _).heap[_]? = _
          rw [heap_setCell_other _ _ _ _ (by show w.heap.size ≠ w.heap.size + 1; omega)]; exact H0.out
        · show (World.setCell _ _ _).heap[_]? = _
          rw [heap_setCell_same _ _ _ _ _ _ H1.out, cells8_set, room_set (by rw [HL.out]; exact hjn) (by omega) _ (by rw [HD.out, Var.enc_big (by omega)]; rfl)]
        · exact HBW.out.setCell (by show w.heap.size ≤ w.heap.size + 1; omega) _
      case measure => simp [intOf]; omega

end Go.Proofs.Ytbfjihbkkcggmaa

/- The bits that bytes hold: the program's bitsOf. -/
namespace Go.Proofs.Ytbfjihbkkcggmaa
open Go.RowKit

set_option maxRecDepth 100000 in
theorem vgetD_mem {zs : List Int} {i : Nat} (h : i < zs.length) : zs.getD i 0 ∈ zs := by
  rw [List.getD_eq_getElem?_getD, List.getElem?_eq_getElem h]; exact List.getElem_mem _
set_option maxRecDepth 100000 in
theorem num_end {b : List Int} {j : Nat} (h : ∀ x ∈ b.take j, 128 ≤ x) (hj : j ≤ 10) (hm : j = b.length ∨ j = 10) : Var.num b = Var.val (b.take j) % 18446744073709551616 := by
  rw [Var.num, Var.upTo_end j 10 b h hm hj]
set_option maxRecDepth 100000 in
theorem take_more {b : List Int} {j : Nat} (h : ∀ x ∈ b.take j, 128 ≤ x) (hj : j < b.length) (hx : 128 ≤ b.getD j 0) : ∀ x ∈ b.take (j + 1), 128 ≤ x := by
  intro x hx'
  rw [List.take_succ_eq_append_getElem hj] at hx'
  rcases List.mem_append.1 hx' with h1 | h1
  · exact h x h1
  · rw [List.mem_singleton.1 h1]; simpa [hj] using hx

set_option maxRecDepth 100000 in
theorem wrap_u64v (x : Int) : IntKind.u64.wrap x = x % 18446744073709551616 := by
  simp [IntKind.wrap, IntKind.signed, IntKind.bits]
set_option maxRecDepth 100000 in
theorem shl_fact {v x j T N : Nat} (hv : v = T % 18446744073709551616) (hN : N = T + 128 ^ j * (x % 128)) :
    IntKind.u64.wrap ((v : Int) + IntKind.u64.wrap ((x : Int) % 128 * 2 ^ (j * 7))) = ((N % 18446744073709551616 : Nat) : Int) := by
  have e1 : (2 : Int) ^ (j * 7) = ((128 ^ j : Nat) : Int) := by
    rw [Nat.mul_comm, Int.pow_mul]
    simp
  have e2 : (x : Int) % 128 = ((x % 128 : Nat) : Int) := by simp
  obtain ⟨q, hq⟩ : ∃ q, q = 128 ^ j * (x % 128) := ⟨_, rfl⟩
  have e3 : ((x % 128 : Nat) : Int) * ((128 ^ j : Nat) : Int) = (q : Int) := by rw [hq, Int.natCast_mul, Int.mul_comm]
  rw [e1, e2, e3, wrap_u64v, wrap_u64v, hN, ← hq]
  omega

set_option maxHeartbeats 1600000 in
set_option maxRecDepth 100000 in
theorem bitsOf_is (a : Option Addr) (n cap : Nat) (b : List Int) (w : World) (hs : Sl .u8 w a n cap b) :
    Calls Try.prog 67 #[.slice a n cap] w fun e w' => e = .returned (.int .u64 (Var.num b : Nat)) ∧ w = w' := by
  have hnc := hs.2.1
  have hcm := hs.2.2.1
  unfold maxLen at hcm
  have HS := Lib.hid hs
  have HL := Lib.hid hs.1
  clear hs
  obtain ⟨m, hm⟩ : ∃ m : Nat, m = min n 10 := ⟨_, rfl⟩
  have hmi : (if (10 : Int) < (n : Int) then (10 : Int) else (n : Int)) = (m : Int) := by split <;> omega
  have hm10 : m ≤ 10 := by omega
  have hmn : m ≤ n := by omega
  have HM := Lib.hid (show m = n ∨ m = 10 by omega)
  have hmj : (min (n : Int) 10) = (m : Int) := by omega
  clear hm
  go_enter Try.func67, Try.ntmps67
  go_wp2
  go_step3
  go_wp2
  go_step3
  go_wp2
  go_loop [3, 8] (fun sv ix => ∃ (v j : Nat), sv = .int .u64 (v : Int) ∧ ix = .int .i64 (j : Int) ∧ j ≤ m ∧ v < 18446744073709551616 ∧ Hid (v = Var.val (b.take j) % 18446744073709551616 ∧ ∀ x ∈ b.take j, 128 ≤ x)) (fun _ ix => m - (intOf ix).toNat)
  case atStart => exact ⟨0, 0, rfl, rfl, Nat.zero_le _, by omega, rfl, by simp⟩
  case round =>
    obtain ⟨v, j, rfl, rfl, hj, hv, HV⟩ := hrel
    by_cases hlt : j < m
    · obtain ⟨b1, o1, rfl, _, hc1⟩ := HS.out.at (by omega)
      have hx1 := hc1 j (by omega)
      have hvt := Var.val_take (l := b) (i := j) (by rw [HL.out]; omega)
      have hwf := bounds_u8 (HS.out.2.2.2.1 _ (vgetD_mem (i := j) (by rw [HL.out]; omega)))
      obtain ⟨x, hx⟩ : ∃ x : Nat, (x : Int) = b.getD j 0 := ⟨(b.getD j 0).toNat, by omega⟩
      rw [← hx] at hx1 hvt hwf
      have hx255 : x ≤ 255 := by omega
      have hlti : (j : Int) < (m : Int) := by omega
      have hjn : (j : Int) < (n : Int) := by omega
      have HXD := Lib.hid hx
      have HVT := Lib.hid (shl_fact (x := x) (j := j) (N := Var.val (b.take (j + 1))) HV.out.1 (by rw [hvt]; rfl))
      have hvb : Var.val (b.take (j + 1)) % 18446744073709551616 < 18446744073709551616 := Nat.mod_lt _ (by omega)
      have HVB := Lib.hid hvb
      clear hc1 hwf hx hvt hvb
      by_cases h128 : x < 128
      · have hb : (x : Int) < 128 := by omega
        have hfin : Var.num b = Var.val (b.take (j + 1)) % 18446744073709551616 := Var.take_at HV.out.2 (by rw [HL.out]; omega) (by rw [← HXD.out]; exact hb) (by omega)
        have HF := Lib.hid hfin
        clear hfin
        go_wp2
        try rw [Exit.noGoto_ret]
        go_ret
        exact ⟨by rw [HF.out, ← HVT.out]; rfl, rfl⟩
      · have hb : ¬ (x : Int) < 128 := by omega
        have HT := Lib.hid (take_more HV.out.2 (by rw [HL.out]; omega) (by rw [← HXD.out]; omega))
        go_wp2
        go_round
        case rel => exact ⟨Var.val (b.take (j + 1)) % 18446744073709551616, j + 1, by rw [← HVT.out], by go_num, by omega, HVB.out, rfl, HT.out⟩
        case measure => simp [intOf]; omega
    · obtain rfl : j = m := by omega
      have hfin : Var.num b = v := by
        rw [num_end HV.out.2 hm10 (by rw [HL.out]; exact HM.out)]
        exact HV.out.1.symm
      have HF := Lib.hid hfin
      clear hfin
      go_wp2
      try rw [Exit.noGoto_ret]
      go_ret
      exact ⟨by rw [HF.out]; rfl, rfl⟩

end Go.Proofs.Ytbfjihbkkcggmaa

/- Layer 13's functions: contracts of Size, Put and Take. -/
namespace Go.Proofs.Ytbfjihbkkcggmaa
open Go.RowKit

set_option maxRecDepth 100000 in
/-- a number's bytes as an array of the call's own, cut where they end -/
theorem ten_sl {w : World} {g c n : Nat} (h : w.heap[g]? = some (.cells (cells8 (room (Var.enc c) n)) 78 (0, 0))) (hn : (Var.enc c).length = n) (hc : c < 18446744073709551616) : Sl .u8 w (some ⟨g, 0, none⟩) n 10 (Var.enc c) := by
  have h10 := Var.len_10 hc
  have hr := room_length (Var.enc c) n (by omega) (by omega)
  have h1 : Sl .u8 w (some ⟨g, 0, none⟩) 10 10 (room (Var.enc c) n) := Sl.of_heap h (room_wf (Var.enc_wf c) n) hr (by unfold maxLen; omega)
  have h2 := h1.first n (by omega)
  rwa [room_take n hn.symm] at h2

set_option maxHeartbeats 1600000 in
set_option maxRecDepth 100000 in
theorem size_is (c n : Nat) (hc : c < 18446744073709551616) (hn : (Var.enc c).length = n) (w : World) :
    Calls Try.prog 16 #[.int .u64 (c : Int)] w fun e w' => e = .returned (.int .i64 (n : Int)) ∧ Below w.heap.size w w' := by
  have h10 := Var.len_10 hc
  have hr : (cells8 (room (Var.enc c) n)).size = 10 := by rw [cells8_size, room_length _ _ (by omega) (by omega)]
  have HI : Hid ((Try.prog.info? 78).map (·.size) = some (cells8 (room (Var.enc c) n)).size) := by show _ = _; rw [info_ten, hr]
  have HI3 : Hid ((cells8 (List.replicate 10 0)).size = (cells8 (room (Var.enc c) n)).size) := by show _ = _; rw [hr]; rfl
  have HC := Lib.hid (fun w => bytesOf_is c n hc hn w)
  clear hn h10 hr
  go_enter Try.func16, Try.ntmps16
  go_wp2_with (first
    | (go_at_call 39; refine (HC.out _).mono ?_; rintro e w1 ⟨rfl, hb⟩; have HB := Lib.hid hb; clear hb)
    | (refine wpList_store_g (by rfl) 78 (.tmp 3) (.tmp 8) (by rfl) _ (cells8 (room (Var.enc c) n)) (by rfl) (by rfl) 78 (cells8 (List.replicate 10 0)) (heap_alloc_new _ _) HI.out HI3.out (cells8_one _) ?_; intro w2 hh2 hg2 hs2; have HB2 := Lib.hid (below_made HB.out hg2); clear hh2 hg2 hs2))
  go_ret
  exact ⟨rfl, HB2.out⟩

set_option maxRecDepth 100000 in
theorem size_x (x : Int) (n : Nat) (h0 : 0 ≤ x) (h1 : x ≤ 18446744073709551615) (hn : (Var.enc x.toNat).length = n) (w : World) :
    Calls Try.prog 16 #[.int .u64 x] w fun e w' => e = .returned (.int .i64 (n : Int)) ∧ Below w.heap.size w w' := by
  have h := size_is x.toNat n (by omega) hn w
  rwa [show ((x.toNat : Nat) : Int) = x from by omega] at h

set_option maxHeartbeats 1600000 in
set_option maxRecDepth 100000 in
theorem vput_is (a : Option Addr) (n1 cap : Nat) (b : List Int) (c n : Nat) (hc : c < 18446744073709551616) (hn : (Var.enc c).length = n) (w : World) (hs : Sl .u8 w a n1 cap b) (hb1 : n1 ≤ 200000000000) :
    Calls Try.prog 57 #[.slice a n1 cap, .int .u64 (c : Int)] w fun e w' => ∃ a' c', e = .returned (.slice a' (n1 + n : Nat) c') ∧ w'.ownsRow w.heap.size 5 1 (.slice a' (n1 + n) c') (n1 + n) (u8s (b ++ Var.enc c)) ∧ (a' = none → c' = 0) ∧ Below w.heap.size w w' := by
  have h10 := Var.len_10 hc
  have hp := Var.enc_pos c
  rw [hn] at h10 hp
  have hr : (cells8 (room (Var.enc c) n)).size = 10 := by rw [cells8_size, room_length _ _ (by omega) (by omega)]
  have HI : Hid ((Try.prog.info? 78).map (·.size) = some (cells8 (room (Var.enc c) n)).size) := by show _ = _; rw [info_ten, hr]
  have HI3 : Hid ((cells8 (List.replicate 10 0)).size = (cells8 (room (Var.enc c) n)).size) := by show _ = _; rw [hr]; rfl
  have HC := Lib.hid (fun w => bytesOf_is c n hc hn w)
  have HN := Lib.hid hn
  have HS := Lib.hid hs
  have h10i : (n : Int) ≤ 10 := by omega
  clear hn hr hs
  go_enter Try.func57, Try.ntmps57
  go_wp2_with (first
    | (go_at_call 39; refine (HC.out _).mono ?_; rintro e w1 ⟨rfl, hb⟩; have HB := Lib.hid hb; clear hb)
    | (refine wpList_store_g (by rfl) 78 (.tmp 5) (.tmp 10) (by rfl) _ (cells8 (room (Var.enc c) n)) (by rfl) (by rfl) 78 (cells8 (List.replicate 10 0)) (heap_alloc_new _ _) HI.out HI3.out (cells8_one _) ?_; intro w2 hh2 hg2 hs2; have HB2 := Lib.hid (below_made HB.out hg2); have HX2 := Lib.hid (ten_sl hh2 HN.out hc); clear hh2 hg2 hs2)
    | fail)
  obtain ⟨W3, hW3⟩ : ∃ W3, W3 = w2.alloc (.cells #[.slice a n1 cap, .slice (some ⟨w1.heap.size, 0, none⟩) n 10] 29) := ⟨_, rfl⟩
  rw [← hW3]
  have hB3 : Below w.heap.size w W3 := by rw [hW3]; exact HB2.out.alloc HB2.out.size _
  have hx : W3.cell? ⟨w2.heap.size, 0, none⟩ = some (.slice a n1 cap) := by rw [hW3, World.cell?_alloc_at (w := w2) _ _ _ 0 rfl]; rfl
  have hy : W3.cell? ⟨w2.heap.size, 1, none⟩ = some (.slice (some ⟨w1.heap.size, 0, none⟩) n 10) := by rw [hW3, World.cell?_alloc_at (w := w2) _ _ _ 1 rfl]; rfl
  have HX3 : Hid (Sl .u8 W3 (some ⟨w1.heap.size, 0, none⟩) n 10 (Var.enc c)) := by show Sl _ _ _ _ _ _; rw [hW3]; exact HX2.out.alloc _
  have HB3 := Lib.hid hB3
  clear hW3 hB3
  refine (concat_is w2.heap.size 2 a _ n1 cap n 10 b (Var.enc c) W3 hx hy (HS.out.below HB3.out (Nat.le_refl _)) HX3.out hp hb1 (by omega)).mono ?_
  rintro e w4 ⟨a4, c4, rfl, hown, hnil, hb⟩
  have HO := Lib.hid (owns_base hown HB3.out.size)
  have HNL := Lib.hid hnil
  have HB4 := Lib.hid (HB3.out.trans (hb.mono HB3.out.size))
  clear hown hnil hb
  go_wp2
  go_ret
  exact ⟨a4, c4, rfl, HO.out, HNL.out, HB4.out⟩

set_option maxRecDepth 100000 in
theorem put_nil (c n : Nat) (hc : c < 18446744073709551616) (hn : (Var.enc c).length = n) (w : World) :
    Calls Try.prog 57 #[.slice none 0 0, .int .u64 (c : Int)] w fun e w' => ∃ a' c', e = .returned (.slice a' n c') ∧ w'.ownsRow w.heap.size 5 1 (.slice a' n c') n (u8s (Var.enc c)) ∧ Sl .u8 w' a' n c' (Var.enc c) ∧ (a' = none → c' = 0) ∧ Below w.heap.size w w' := by
  refine (vput_is none 0 0 [] c n hc hn w Sl.nil (by omega)).mono ?_
  rintro e w' ⟨a', c', rfl, hown, hnil, hb⟩
  simp only [Nat.zero_add, List.nil_append] at hown
  refine ⟨a', c', by simp, hown, Sl.of_owns (k := .u8) hown (Var.enc_wf c) hn, hnil, hb⟩

/-- what Take answers: the number, and what is behind; or the error -/
def VTakeIs (w' : World) (e : Ending) (r : Option (Nat × List Int)) : Prop :=
  (∃ m l a' n' c', r = some (m, l) ∧ e = .returned (.tuple #[.int .u64 ((m : Nat) : Int), .slice a' n' c', .int .i64 0]) ∧ Sl .u8 w' a' n' c' l) ∨ (r = none ∧ e = .returned (.tuple #[.int .u64 0, .slice none 0 0, .int .i64 130]))
set_option maxRecDepth 100000 in
theorem VTakeIs.some {w' : World} {e : Ending} {r : Option (Nat × List Int)} {m : Nat} {l : List Int} (h : VTakeIs w' e r) (hr : r = some (m, l)) : ∃ a' n' c', e = .returned (.tuple #[.int .u64 (m : Int), .slice a' n' c', .int .i64 0]) ∧ Sl .u8 w' a' n' c' l := by
  rcases h with ⟨m', l', a', n', c', h1, h2, h3⟩ | ⟨h1, _⟩
  · rw [hr] at h1; cases h1; exact ⟨a', n', c', h2, h3⟩
  · rw [hr] at h1; cases h1
set_option maxRecDepth 100000 in
theorem VTakeIs.none {w' : World} {e : Ending} {r : Option (Nat × List Int)} (h : VTakeIs w' e r) (hr : r = none) : e = .returned (.tuple #[.int .u64 0, .slice none 0 0, .int .i64 130]) := by
  rcases h with ⟨_, _, _, _, _, h1, _⟩ | ⟨_, h2⟩
  · rw [hr] at h1; cases h1
  · exact h2

set_option maxHeartbeats 1600000 in
set_option maxRecDepth 100000 in
theorem vtake_is (a : Option Addr) (n1 cap : Nat) (b : List Int) (w : World) (hs : Sl .u8 w a n1 cap b) (hb1 : n1 ≤ 200000000000) :
    Calls Try.prog 58 #[.slice a n1 cap] w fun e w' => VTakeIs w' e (Var.take b) ∧ Below w.heap.size w w' := by
  have hnc := hs.2.1
  have hcm := hs.2.2.1
  unfold maxLen at hcm
  obtain ⟨c, hcd⟩ : ∃ c, c = Var.num b := ⟨_, rfl⟩
  have hc : c < 18446744073709551616 := by rw [hcd]; exact Var.num_lt b
  obtain ⟨n, hn⟩ : ∃ n, (Var.enc c).length = n := ⟨_, rfl⟩
  have h10 := Var.len_10 hc
  have hp := Var.enc_pos c
  rw [hn] at h10 hp
  have hr : (cells8 (room (Var.enc c) n)).size = 10 := by rw [cells8_size, room_length _ _ (by omega) (by omega)]
  have HI : Hid ((Try.prog.info? 78).map (·.size) = some (cells8 (room (Var.enc c) n)).size) := by show _ = _; rw [info_ten, hr]
  have HI3 : Hid ((cells8 (List.replicate 10 0)).size = (cells8 (room (Var.enc c) n)).size) := by show _ = _; rw [hr]; rfl
  have HC := Lib.hid (fun w => bytesOf_is c n hc hn w)
  have HBT := Lib.hid (fun w hs => bitsOf_is a n1 cap b w hs)
  have HN := Lib.hid hn
  have HS := Lib.hid hs
  have HCD := Lib.hid hcd
  have HL := Lib.hid hs.1
  have h10i : (n : Int) ≤ 10 := by omega
  have hng : ∀ r, decide (b.take n = Var.enc c) = r → Hid (decide (b.take n = Var.enc c) = r) := fun _ h => h
  obtain ⟨r, hr0⟩ : ∃ r, decide (b.take n = Var.enc c) = r := ⟨_, rfl⟩
  have HR := Lib.hid hr0
  clear hn hr hs hcd hng hr0
  cases r with
  | false =>
    have HT : Hid (Var.take b = none) := by
      refine Var.take_ne ?_
      rw [← HCD.out, HN.out]
      have := HR.out
      rw [decide_eq_false_iff_not] at this
      exact fun h => this h.symm
    go_enter Try.func58, Try.ntmps58
    go_wp2_with (first
      | (go_at_call 67; refine (HBT.out _ HS.out).mono ?_; rw [← HCD.out]; rintro e w1 ⟨rfl, hw1⟩; obtain rfl := hw1.symm)
      | (go_at_call 39; refine (HC.out _).mono ?_; rintro e w1 ⟨rfl, hb⟩; have HB := Lib.hid hb; clear hb)
      | (refine wpList_store_g (by rfl) 78 (.tmp 6) (.tmp 13) (by rfl) _ (cells8 (room (Var.enc c) n)) (by rfl) (by rfl) 78 (cells8 (List.replicate 10 0)) (heap_alloc_new _ _) HI.out HI3.out (cells8_one _) ?_; intro w2 hh2 hg2 hs2; have HB2 := Lib.hid (below_made HB.out hg2); have HX2 := Lib.hid (ten_sl hh2 HN.out hc); clear hh2 hg2 hs2)
      | (go_at_call 68; refine (hasPrefix_is _ _ _ _ _ _ _ _ _ _ (HS.out.below HB2.out (Nat.le_refl _)) HX2.out hp HR.out).mono ?_; rintro e w3 ⟨rfl, hw3⟩; obtain rfl := hw3.symm)
      | fail)
    go_ret3
    exact ⟨.inr ⟨HT.out, rfl⟩, HB2.out⟩
  | true =>
    have HT : Hid (Var.take b = some (c, b.drop n)) := by
      have h := Var.take_eq (b := b)
      rw [← HCD.out, HN.out] at h
      refine h ?_
      have := HR.out
      rw [decide_eq_true_iff] at this
      exact this.symm
    have hnn : n ≤ n1 := by
      have h := HR.out
      rw [decide_eq_true_iff] at h
      have := congrArg List.length h
      rw [List.length_take, HL.out, HN.out] at this
      omega
    obtain ⟨b1, o1, rfl, _, _⟩ := HS.out.at (by omega)
    have hni : (n : Int) ≤ (n1 : Int) := by omega
    have HWF := Lib.hid HS.out.2.2.2.1
    by_cases hcap : n = cap
    · subst hcap
      obtain rfl : n1 = n := by omega
      clear hni hnc
      have hwr : (n1 : Int) ≤ 9223372036854775807 := by omega
      go_enter Try.func58, Try.ntmps58
      go_wp2_with (first
        | (go_at_call 67; refine (HBT.out _ HS.out).mono ?_; rw [← HCD.out]; rintro e w1 ⟨rfl, hw1⟩; obtain rfl := hw1.symm)
        | (go_at_call 39; refine (HC.out _).mono ?_; rintro e w1 ⟨rfl, hb⟩; have HB := Lib.hid hb; clear hb)
        | (refine wpList_store_g (by rfl) 78 (.tmp 6) (.tmp 13) (by rfl) _ (cells8 (room (Var.enc c) n1)) (by rfl) (by rfl) 78 (cells8 (List.replicate 10 0)) (heap_alloc_new _ _) HI.out HI3.out (cells8_one _) ?_; intro w2 hh2 hg2 hs2; have HB2 := Lib.hid (below_made HB.out hg2); have HX2 := Lib.hid (ten_sl hh2 HN.out hc); clear hh2 hg2 hs2)
        | (go_at_call 68; refine (hasPrefix_is _ _ _ _ _ _ _ _ _ _ (HS.out.below HB2.out (Nat.le_refl _)) HX2.out hp HR.out).mono ?_; rintro e w3 ⟨rfl, hw3⟩; obtain rfl := hw3.symm)
        | (go_at_call 38; refine (bclone_is _ _ _ (b.drop n1) _ (by rw [List.drop_eq_nil_of_le (by rw [HL.out]; exact Nat.le_refl _)]; exact ⟨by simp, by omega, by unfold maxLen; omega, by simp, .inl (by omega)⟩) (by omega)).mono ?_; rintro e w4 ⟨a4, c4, rfl, hown, hb⟩; have HO := Lib.hid hown; have HB4 := Lib.hid (HB2.out.trans (hb.mono HB2.out.size)); clear hown hb)
        | fail)
      go_ret3
      exact ⟨.inl ⟨c, b.drop n1, a4, _, c4, HT.out, rfl, Sl.of_owns (k := .u8) HO.out (fun z hz => HWF.out z (List.mem_of_mem_drop hz)) (by rw [List.length_drop, HL.out]; try omega)⟩, HB4.out⟩
    · have hcapi : ¬ (n : Int) = (cap : Int) := by omega
      have hcapl : (n : Int) ≤ (cap : Int) := by omega
      have hwr : (n1 : Int) ≤ 9223372036854775807 := by omega
      go_enter Try.func58, Try.ntmps58
      go_wp2_with (first
        | (go_at_call 67; refine (HBT.out _ HS.out).mono ?_; rw [← HCD.out]; rintro e w1 ⟨rfl, hw1⟩; obtain rfl := hw1.symm)
        | (go_at_call 39; refine (HC.out _).mono ?_; rintro e w1 ⟨rfl, hb⟩; have HB := Lib.hid hb; clear hb)
        | (refine wpList_store_g (by rfl) 78 (.tmp 6) (.tmp 13) (by rfl) _ (cells8 (room (Var.enc c) n)) (by rfl) (by rfl) 78 (cells8 (List.replicate 10 0)) (heap_alloc_new _ _) HI.out HI3.out (cells8_one _) ?_; intro w2 hh2 hg2 hs2; have HB2 := Lib.hid (below_made HB.out hg2); have HX2 := Lib.hid (ten_sl hh2 HN.out hc); clear hh2 hg2 hs2)
        | (go_at_call 68; refine (hasPrefix_is _ _ _ _ _ _ _ _ _ _ (HS.out.below HB2.out (Nat.le_refl _)) HX2.out hp HR.out).mono ?_; rintro e w3 ⟨rfl, hw3⟩; obtain rfl := hw3.symm)
        | (go_at_call 38; refine (bclone_is _ _ _ (b.drop n) _ (by have h := (HS.out.below HB2.out (Nat.le_refl _)).piece n (n1 - n) (by omega); rwa [List.take_of_length_le (by rw [List.length_drop, HL.out]; exact Nat.le_refl _)] at h) (by omega)).mono ?_; rintro e w4 ⟨a4, c4, rfl, hown, hb⟩; have HO := Lib.hid hown; have HB4 := Lib.hid (HB2.out.trans (hb.mono HB2.out.size)); clear hown hb)
        | fail)
      go_ret3
      exact ⟨.inl ⟨c, b.drop n, a4, _, c4, HT.out, rfl, Sl.of_owns (k := .u8) HO.out (fun z hz => HWF.out z (List.mem_of_mem_drop hz)) (by rw [List.length_drop, HL.out]; try omega)⟩, HB4.out⟩

end Go.Proofs.Ytbfjihbkkcggmaa

/- What lies in blocks of other things than bytes stays while bytes are put; append of bytes that tells so. Names no function of the program. -/
namespace Go.Proofs.Ytbfjihbkkcggmaa
open Go.RowKit

/-- what lies below B, or in blocks of anything but bytes, stays -/
structure Keeps (B : Nat) (w w' : World) : Prop where
  low : Below B w w'
  high : ∀ (b : Nat) (cur : Array Value) (t : TypeId) (fr : Nat × Nat), w.heap[b]? = some (Obj.cells cur t fr) → t ≠ 5 → w'.heap[b]? = some (Obj.cells cur t fr)
set_option maxRecDepth 100000 in
theorem Keeps.refl (B : Nat) (w : World) : Keeps B w w := ⟨Below.refl _ _, fun _ _ _ _ h _ => h⟩
set_option maxRecDepth 100000 in
theorem Keeps.trans {B : Nat} {a b c : World} (h : Keeps B a b) (k : Keeps B b c) : Keeps B a c :=
  ⟨h.low.trans k.low, fun g cur t fr hg ht => k.high g cur t fr (h.high g cur t fr hg ht) ht⟩
set_option maxRecDepth 100000 in
theorem Keeps.mono {B B' : Nat} {w w' : World} (h : Keeps B w w') (hB : B' ≤ B) : Keeps B' w w' := ⟨h.low.mono hB, h.high⟩
set_option maxRecDepth 100000 in
theorem Keeps.of_below {B : Nat} {w w' : World} (h : Below w.heap.size w w') (hB : B ≤ w.heap.size) : Keeps B w w' :=
  ⟨h.mono hB, fun b cur t fr hb _ => by rw [h.block b (Array.getElem?_eq_some_iff.1 hb).1]; exact hb⟩
set_option maxRecDepth 100000 in
theorem Keeps.alloc {B : Nat} {w : World} (hB : B ≤ w.heap.size) (o : Obj) : Keeps B w (w.alloc o) :=
  Keeps.of_below ((Below.refl _ w).alloc (Nat.le_refl _) o) hB
set_option maxRecDepth 100000 in
theorem Keeps.of_grown {B n size : Nat} {w w' : World} {v : Value} {xs : List Value} (hl : Below B w w') (ho : w.ownsRow B 5 size v n xs) (hg : w.grownBy w' v.ownBlock) : Keeps B w w' := by
  refine ⟨hl, fun b cur t fr hb ht => ?_⟩
  rw [hg.block b (Array.getElem?_eq_some_iff.1 hb).1 ?_]
  · exact hb
  · intro e
    rcases ho.2 with ⟨rfl, _⟩ | ⟨g, c, cur', rfl, _, hh, _⟩
    · cases e
    · have : b = g := by simpa [Value.ownBlock] using e
      subst this
      rw [hb] at hh
      cases hh
      exact ht rfl
set_option maxRecDepth 100000 in
theorem Keeps.size {B : Nat} {w w' : World} (h : Keeps B w w') : w.heap.size ≤ w'.heap.size := h.low.size
set_option maxRecDepth 100000 in
theorem Keeps.drawn {B : Nat} {w w1 w2 : World} (h : Keeps B w w1) (hq : ∃ q, w2 = w1.drewN q) : Keeps B w w2 := by
  obtain ⟨q, rfl⟩ := hq; exact ⟨⟨h.low.os, h.low.tape, h.low.output, h.low.size, h.low.block⟩, h.high⟩
set_option maxRecDepth 100000 in
theorem Keeps.drew {B : Nat} {w w1 : World} (h : Keeps B w w1) : Keeps B w w1.drew := ⟨⟨h.low.os, h.low.tape, h.low.output, h.low.size, h.low.block⟩, h.high⟩
set_option maxRecDepth 100000 in
theorem Keeps.cell {B b off : Nat} {w w' : World} {cur : Array Value} {t : TypeId} {fr : Nat × Nat} (h : Keeps B w w') (hb : w.heap[b]? = some (Obj.cells cur t fr)) (ht : t ≠ 5) : w'.cell? ⟨b, off, none⟩ = cur[off]? :=
  cell_of_row w' b off cur t fr (h.high b cur t fr hb ht)
set_option maxRecDepth 100000 in
/-- numbers in a new block stay -/
theorem Keeps.lit {B : Nat} {w w' : World} {k : IntKind} {t : TypeId} {b n m : Nat} (zs : List Int) (h : Keeps B (w.alloc (.cells (zs.map (Value.int k)).toArray t)) w') (ht : t ≠ 5) (hb : b = w.heap.size) (hw : ∀ z ∈ zs, (Lit.int k z).wf = true) (hl : zs.length ≤ maxLen) (hn : zs.length = n) (hm : zs.length = m) :
    Sl k w' (some ⟨b, 0, none⟩) n m zs := by
  subst hb hn hm
  refine ⟨rfl, Nat.le_refl _, hl, hw, .inr ⟨w.heap.size, 0, rfl, fun i hi => ?_⟩⟩
  rw [h.cell (heap_alloc_new w _) ht]
  simp [hi]

/-- a call answers a row of the call's own, that has these bytes -/
def PutsIs (B : Nat) (w' : World) (e : Ending) (zs : List Int) : Prop := ∃ a n c, e = .returned (.slice a n c) ∧ w'.ownsRow B 5 1 (.slice a n c) n (u8s zs)
set_option maxRecDepth 100000 in
theorem u8s_len {w : World} {B n : Nat} {v : Value} {zs : List Int} (h : w.ownsRow B 5 1 v n (u8s zs)) : zs.length = n := by
  have := h.1; simpa [u8s] using this
set_option maxRecDepth 100000 in
theorem own_keeps {w w' : World} {B B' n : Nat} {v : Value} {zs : List Int} (h : w.ownsRow B 5 1 v n (u8s zs)) (hb : Below w.heap.size w w') : w'.ownsRow B 5 1 v n (u8s zs) := ownsRow_below h hb (Nat.le_refl _)

set_option maxRecDepth 100000 in
theorem append_bytes_g {w : World} {ops : Array Oper} {rest : List Oper} {o : Oper} {act : Act} {Q : Exit → Act → World → Prop} (hw : Region.wanted o (yielded ops act.tmps) = true) (s x : Operand)
    (ho : o.op = .call { callee := .builtin .append, args := #[s, x], argTypes := #[29, 29] }) (base : Nat) (v : Value) (n : Nat) (xs : List Int) (hs : act.eval s = v)
    (hown : w.ownsRow base 5 1 v n (u8s xs)) (a : Option Addr) (m c : Nat) (zs : List Int) (hx : act.eval x = .slice a m c) (hz : Sl .u8 w a m c zs)
    (N : Nat) (hN : n + m = N) (h63 : N ≤ 1000000000000) (hbase : base ≤ w.heap.size)
    (h : ∀ a' c' w', w'.ownsRow base 5 1 (.slice a' N c') N (u8s (xs ++ zs)) → Keeps base w w' → wpList Try.prog ops Q rest (act.put o.dst (.slice a' N c')) w') :
    wpList Try.prog ops Q (o :: rest) act w := by
  subst hN
  have hm := hz.2.1
  refine wpList_step fun K hK => ?_
  rw [if_pos hw]
  refine wp_append_cells s x 29 5 ho (.int .u8 0) 1 1 Try.underlying29 info_u8 rfl (by omega) base v n (u8s xs) hs hown a m c (u8s zs) hx (by simp [u8s, hz.1]) ?_ (ints_oneCell .u8 zs) (by unfold maxLen; omega) (by omega) hbase ?_
  · intro h0
    obtain ⟨b, off, rfl, _, hc⟩ := hz.at h0
    refine ⟨_, rfl, fun j u hj => ?_⟩
    have hjl : j < zs.length := by
      rcases Nat.lt_or_ge j zs.length with hlt | hge
      · exact hlt
      · simp [u8s, List.getElem?_eq_none hge] at hj
    have := hc j (by have := hz.1; omega)
    rw [show (⟨b, off, none⟩ : Addr).add j = ⟨b, off + j, none⟩ from by simp [Addr.add], this]
    simp [u8s, hjl] at hj
    rw [← hj]; simp [hjl]
  · intro a' c' w' h1 h2 h3 _
    exact hK _ _ (h a' c' w' (by rw [show u8s (xs ++ zs) = u8s xs ++ u8s zs from by simp [u8s]]; exact h1) (Keeps.of_grown h2 hown h3))

set_option maxRecDepth 100000 in
/-- a number's bytes, by themselves -/
theorem vput0_is (x m : Nat) (hx : x < 18446744073709551616) (hm : (Var.enc x).length = m) (w : World) :
    Calls Try.prog 57 #[.slice none 0 0, .int .u64 (x : Int)] w fun e w' => ∃ a' c', e = .returned (.slice a' m c') ∧ Sl .u8 w' a' m c' (Var.enc x) ∧ Below w.heap.size w w' := by
  refine (vput_is none 0 0 [] x m hx hm w Sl.nil (by omega)).mono ?_
  rintro e w' ⟨a', c', rfl, ho, -, hb⟩
  simp only [Nat.zero_add, List.nil_append] at ho
  exact ⟨a', c', by rw [Nat.zero_add], Sl.of_owns ho (Var.enc_wf x) hm, hb⟩

end Go.Proofs.Ytbfjihbkkcggmaa
