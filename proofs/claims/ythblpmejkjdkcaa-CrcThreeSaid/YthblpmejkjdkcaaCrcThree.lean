/- For every three lists of bytes CrcThree answers true, and turns nothing that was there. No condition. -/
import Derived.Test.YthblpmejkjdkcaaRows
import Derived.Test.YthblpmejkjdkcaaCrcAwake
import Derived.Deep.RegionHeld3
import Derived.BigQuiet
import Derived.WalkKit
import Derived.ProofKit
import Derived.OpenShut
import Derived.ShutString
import Derived.ChangeOld
import Derived.Below
namespace Go.Proofs.Ythblpmejkjdkcaa.crcThree
open Go.ChangeShapes Go.WideShapes Go.ChangeAt Go.RowKit
open Go.ChangeMaps (open_string shut_string)
set_option linter.unusedVariables false

theorem own : ownKnob Try.prog.godebug = none := by kernel_rfl
theorem laidOut : laidOutB Try.prog = true := by kernel_rfl

/-- WHAT THE WALK IS TOLD OF A SLICE OF INTEGERS THAT CAME IN: it is nil; or it leads to a row of 'cap' cells, the numbers 'zs' (the first 'len' are its elements, the rest its spare room), each fitting its kind. -/
def IsRow (k : IntKind) (w : World) (a : Option Addr) (len cap : Nat) (zs : List Int) : Prop :=
  (a = none ∧ len = 0 ∧ cap = 0 ∧ zs = []) ∨
  ∃ x, a = some x ∧ len ≤ cap ∧ cap ≤ maxLen ∧ zs.length = cap ∧ (∀ i, i < zs.length → w.cell? (x.add i) = some (.int k (zs.getD i 0))) ∧ ∀ n ∈ zs, (Lit.int k n).wf = true

/-- what is in one of three, or in all, bit by bit: the first n -/
def x3 (a b c : List Int) (n : Nat) : List Int := (List.range n).map fun j => (((a.getD j 0).toNat ^^^ (b.getD j 0).toNat ^^^ (c.getD j 0).toNat : Nat) : Int)
theorem x3_length (a b c : List Int) (n : Nat) : (x3 a b c n).length = n := by simp [x3]
theorem x3_getD (a b c : List Int) {n i : Nat} (h : i < n) : (x3 a b c n).getD i 0 = (((a.getD i 0).toNat ^^^ (b.getD i 0).toNat ^^^ (c.getD i 0).toNat : Nat) : Int) := by
  simp [x3, h]
theorem x3_next {a b c : List Int} {i x y z : Nat} (hx : (x : Int) = a.getD i 0) (hy : (y : Int) = b.getD i 0) (hz : (z : Int) = c.getD i 0) : x3 a b c (i + 1) = x3 a b c i ++ [((x ^^^ y ^^^ z : Nat) : Int)] := by
  simp only [x3, List.range_succ, List.map_append, List.map_cons, List.map_nil]
  rw [← hx, ← hy, ← hz]; rfl
theorem bytes_getD {l : List Int} (h : Crc.Bytes l) (i : Nat) : 0 ≤ l.getD i 0 ∧ l.getD i 0 ≤ 255 := by
  by_cases hi : i < l.length
  · rw [show l.getD i 0 = l[i] from by simp [hi]]; exact h _ (List.getElem_mem hi)
  · rw [show l.getD i 0 = 0 from by simp [List.getElem?_eq_none (Nat.le_of_not_lt hi)]]; omega
theorem x3_bytes {a b c : List Int} (ha : Crc.Bytes a) (hb : Crc.Bytes b) (hc : Crc.Bytes c) (n : Nat) : Crc.Bytes (x3 a b c n) := by
  intro z hz
  simp only [x3, List.mem_map] at hz
  obtain ⟨j, _, rfl⟩ := hz
  have h1 := bytes_getD ha j
  have h2 := bytes_getD hb j
  have h3 := bytes_getD hc j
  have : (a.getD j 0).toNat ^^^ (b.getD j 0).toNat ^^^ (c.getD j 0).toNat < 256 := Nat.xor_lt_two_pow (n := 8) (Nat.xor_lt_two_pow (n := 8) (by omega) (by omega)) (by omega)
  omega
theorem x3_sum {a b c : List Int} {n : Nat} (ha : Crc.Bytes a) (hb : Crc.Bytes b) (hc : Crc.Bytes c) (h1 : a.length = n) (h2 : n ≤ b.length) (h3 : n ≤ c.length) :
    Crc.sum (x3 a b c n) = Crc.sum a ^^^ Crc.sum (b.take n) ^^^ Crc.sum (c.take n) := by
  refine Crc.sum_xor3 (x3_bytes ha hb hc n) ha (fun z hz => hb z (List.mem_of_mem_take hz)) (fun z hz => hc z (List.mem_of_mem_take hz)) (by rw [x3_length, h1]) (by rw [x3_length]; simp; omega) (by rw [x3_length]; simp; omega) ?_
  intro i hi
  rw [x3_length] at hi
  rw [x3_getD a b c hi]
  simp [hi]
/-- the first j of whatever slice -/
theorem sl_begin {k : IntKind} {w : World} {a : Option Addr} {n cap : Nat} {zs : List Int} (h : Sl k w a n cap zs) (j : Nat) (hj : j ≤ n) : Sl k w a j cap (zs.take j) := by
  obtain ⟨h1, h2, h3, h4, h5⟩ := h
  refine ⟨by simp; omega, by omega, h3, fun z hz => h4 z (List.mem_of_mem_take hz), ?_⟩
  rcases h5 with h5 | ⟨b, off, ha, hc⟩
  · exact .inl (by omega)
  · refine .inr ⟨b, off, ha, fun i hi => ?_⟩
    rw [hc i (by omega)]
    simp [hi]
theorem map_add0 (a : Option Addr) : Option.map (fun x => Addr.add x 0) a = a := by
  cases a with
  | none => rfl
  | some x => rfl

/-! ### STEP 1: THE WALK: the Go text returns true, AND WRITES NOTHING THAT WAS THERE: 'Below w.heap.size w w'' (Derived/Below.lean: '.refl', '.alloc', '.drew', '.setCell' at a new block, '.trans'). Open each 'IsRow' by 'rcases' AHEAD of 'go_enter'; part every test ahead of the walk. -/
set_option maxRecDepth 100000 in
set_option maxHeartbeats 6000000 in
theorem walk (a0 : Option Addr) (len0 cap0 : Nat) (z0 : List Int) (a1 : Option Addr) (len1 cap1 : Nat) (z1 : List Int) (a2 : Option Addr) (len2 cap2 : Nat) (z2 : List Int) (w : World) (w0 : IsRow .u8 w a0 len0 cap0 z0) (w1 : IsRow .u8 w a1 len1 cap1 z1) (w2 : IsRow .u8 w a2 len2 cap2 z2) :
    Calls Try.prog 5 #[.slice a0 len0 cap0, .slice a1 len1 cap1, .slice a2 len2 cap2] w fun e w' => e = .returned (.bool true) ∧ Below w.heap.size w w' := by
  have hn00 : a0 = none → cap0 = 0 := by
    rcases w0 with ⟨_, _, h, _⟩ | ⟨x, h, _⟩
    · exact fun _ => h
    · intro h'; rw [h] at h'; cases h'
  have HN0 := Lib.hid hn00
  clear hn00
  have hs0 := Sl.of_row w0
  generalize z0.take len0 = a at hs0
  have hcm0 := hs0.2.2.1
  have hnc0 := hs0.2.1
  unfold maxLen at hcm0
  have HA := Lib.hid hs0
  clear hs0 w0
  have hn01 : a1 = none → cap1 = 0 := by
    rcases w1 with ⟨_, _, h, _⟩ | ⟨x, h, _⟩
    · exact fun _ => h
    · intro h'; rw [h] at h'; cases h'
  have HN1 := Lib.hid hn01
  clear hn01
  have hs1 := Sl.of_row w1
  generalize z1.take len1 = b at hs1
  have hcm1 := hs1.2.2.1
  have hnc1 := hs1.2.1
  unfold maxLen at hcm1
  have HB := Lib.hid hs1
  clear hs1 w1
  have hn02 : a2 = none → cap2 = 0 := by
    rcases w2 with ⟨_, _, h, _⟩ | ⟨x, h, _⟩
    · exact fun _ => h
    · intro h'; rw [h] at h'; cases h'
  have HN2 := Lib.hid hn02
  clear hn02
  have hs2 := Sl.of_row w2
  generalize z2.take len2 = c at hs2
  have hcm2 := hs2.2.2.1
  have hnc2 := hs2.2.1
  unfold maxLen at hcm2
  have HC := Lib.hid hs2
  clear hs2 w2
  by_cases g0 : 300 < len0
  · have hi0 : (300 : Int) < (len0 : Int) := by omega
    go_enter Try.func5, Try.ntmps5
    go_wp2_with fail
    refine (awake_any _).mono ?_
    rintro e w1 ⟨rfl, B1⟩
    go_wp2
    go_ret
    exact ⟨rfl, B1⟩
  by_cases g1 : len1 < len0
  · have hi0 : decide ((300 : Int) < (len0 : Int)) = false := by simp; omega
    have hi1 : (len1 : Int) < (len0 : Int) := by omega
    clear g0
    go_enter Try.func5, Try.ntmps5
    go_wp2_with fail
    refine (awake_any _).mono ?_
    rintro e w1 ⟨rfl, B1⟩
    go_wp2
    go_ret
    exact ⟨rfl, B1⟩
  by_cases g2 : len2 < len0
  · have hi0 : decide ((300 : Int) < (len0 : Int)) = false := by simp; omega
    have hi1 : decide ((len1 : Int) < (len0 : Int)) = false := by simp; omega
    have hi2 : (len2 : Int) < (len0 : Int) := by omega
    clear g0 g1
    go_enter Try.func5, Try.ntmps5
    go_wp2_with fail
    refine (awake_any _).mono ?_
    rintro e w1 ⟨rfl, B1⟩
    go_wp2
    all_goals
      go_ret
      exact ⟨rfl, B1⟩
  have hi0 : decide ((300 : Int) < (len0 : Int)) = false := by simp; omega
  have hi1 : decide ((len1 : Int) < (len0 : Int)) = false := by simp; omega
  have hi2 : decide ((len2 : Int) < (len0 : Int)) = false := by simp; omega
  have hi1n : decide (len1 < len0) = false := by simp; omega
  have hi2n : decide (len2 < len0) = false := by simp; omega
  have hmx : Try.prog.follows .mixedOrders = true := by kernel_rfl
  have hlen : len0 ≤ 300 := by omega
  have hl1 : len0 ≤ len1 := by omega
  have hl2 : len0 ≤ len2 := by omega
  have HLA : Hid (a.length = len0) := HA.out.1
  have HSUM := Lib.hid (x3_sum HA.out.bytes HB.out.bytes HC.out.bytes HLA.out (by rw [HB.out.1]; exact hl1) (by rw [HC.out.1]; exact hl2))
  have HXB := Lib.hid (x3_bytes HA.out.bytes HB.out.bytes HC.out.bytes)
  clear g0 g1 g2
  go_enter Try.func5, Try.ntmps5
  go_wp2_with fail
  refine (awake_any _).mono ?_
  rintro e w1 ⟨rfl, B1⟩
  have HB1 := Lib.hid B1
  have HSZ := Lib.hid B1.size
  clear B1
  go_wp2
  go_loopw [8, 9] (fun dv ix wr => ∃ (i : Nat) (d : Option Addr) (cd : Nat), dv = .slice d i cd ∧ ix = .int .i64 (i : Int) ∧ i ≤ len0 ∧ Hid (d = none → cd = 0) ∧ Hid (wr.ownsRow w.heap.size 5 1 (.slice d i cd) i (u8s (x3 a b c i))) ∧ Hid (Below w.heap.size w wr)) (fun _ ix _ => len0 - (intOf ix).toNat)
  case atStart => exact ⟨0, none, 0, rfl, rfl, Nat.zero_le _, (fun _ => rfl), World.ownsRow_nil _ _ _ _, HB1.out⟩
  case round =>
    obtain ⟨i, d, cd, rfl, rfl, hi, HNIL, HOW, HBW⟩ := hrel
    by_cases hlt : i < len0
    · obtain ⟨x, hx, hx256⟩ := HA.out.byteAt hlt
      obtain ⟨y, hy, hy256⟩ := HB.out.byteAt (show i < len1 by omega)
      obtain ⟨z, hz, hz256⟩ := HC.out.byteAt (show i < len2 by omega)
      obtain ⟨ba, oa, rfl, hba, hca⟩ := HA.out.at (by omega)
      obtain ⟨bb, ob, rfl, hbb, hcb⟩ := HB.out.at (by omega)
      obtain ⟨bc, oc, rfl, hbc, hcc⟩ := HC.out.at (by omega)
      have ka := hca i hlt
      have kb := hcb i (by omega)
      have kc := hcc i (by omega)
      have HNX := Lib.hid (x3_next hx hy hz)
      rw [← hx] at ka
      rw [← hy] at kb
      rw [← hz] at kc
      have hp : bits .xor .u8 (x : Int) (y : Int) = ((x ^^^ y : Nat) : Int) := u8_xor_nat _ _ hx256 hy256
      have hp8 : x ^^^ y < 256 := Nat.xor_lt_two_pow (n := 8) hx256 hy256
      have hq : bits .xor .u8 ((x ^^^ y : Nat) : Int) (z : Int) = ((x ^^^ y ^^^ z : Nat) : Int) := u8_xor_nat _ _ hp8 hz256
      have hq8 : x ^^^ y ^^^ z < 256 := Nat.xor_lt_two_pow (n := 8) hp8 hz256
      obtain ⟨p, hpd⟩ : ∃ p, p = x ^^^ y := ⟨_, rfl⟩
      obtain ⟨q, hqd⟩ : ∃ q, q = x ^^^ y ^^^ z := ⟨_, rfl⟩
      rw [← hqd] at hq hq8
      rw [← hpd] at hp hq
      rw [← hqd] at HNX
      have HQ8 := Lib.hid hq8
      have hli : (i : Int) < (len0 : Int) := by omega
      have hli1 : (i : Int) < (len1 : Int) := by omega
      have hli2 : (i : Int) < (len2 : Int) := by omega
      have HKK : Hid (∀ W, Below w.heap.size w W → W.cell? ⟨ba, oa + i, none⟩ = some (.int .u8 (x : Int)) ∧ W.cell? ⟨bb, ob + i, none⟩ = some (.int .u8 (y : Int)) ∧ W.cell? ⟨bc, oc + i, none⟩ = some (.int .u8 (z : Int))) := by
        intro W hW
        exact ⟨by rw [hW.cell (p := ⟨ba, oa + i, none⟩) hba]; exact ka, by rw [hW.cell (p := ⟨bb, ob + i, none⟩) hbb]; exact kb, by rw [hW.cell (p := ⟨bc, oc + i, none⟩) hbc]; exact kc⟩
      have HBD : Hid (Below w.heap.size w wr.drew) := ⟨HBW.out.os, HBW.out.tape, HBW.out.output, HBW.out.size, HBW.out.block⟩
      clear hca hcb hcc ka kb kc hx hy hz hp8 hpd hqd hba hbb hbc hx256 hy256 hz256
      go_wp2
      refine wp_region_held_drew (S := (fun W => W.cell? ⟨ba, oa + i, none⟩ = some (.int .u8 (x : Int)) ∧ W.cell? ⟨bb, ob + i, none⟩ = some (.int .u8 (y : Int)) ∧ W.cell? ⟨bc, oc + i, none⟩ = some (.int .u8 (z : Int)))) (by kernel_rfl) (by first | (first | exact HKK.out _ HB5.out | exact HKK.out _ (HBD.out.alloc HBD.out.size _) | exact HKK.out _ HBD.out) | ((try dsimp only); first | exact HKK.out _ HB5.out | exact HKK.out _ (HBD.out.alloc HBD.out.size _) | exact HKK.out _ HBD.out)) (fun hHeld => ?_)
      refine wpAnyH_take (i := 0) (v := ?vl1) rfl (by kernel_rfl) (by kernel_rfl) (by kernel_rfl) (fun _ _ _ h => h) (Or.inl ⟨by rfl, ?hl1⟩) (by assumption) ?rl1
      case hl1 => intro w hSw; (try dsimp only at hSw); go_simp; try with_reducible rfl
      simp only [Act.put, List.getElem_toArray, List.getElem_cons_succ, List.getElem_cons_zero, List.setIfInBounds_toArray, List.set_cons_succ, List.set_cons_zero]
      refine wpAnyH_take (i := 1) (v := ?vl4) rfl (by kernel_rfl) (by kernel_rfl) (by kernel_rfl) (fun _ _ _ h => h) (Or.inl ⟨by rfl, ?hl4⟩) (by assumption) ?rl4
      case hl4 => intro w hSw; (try dsimp only at hSw); go_simp; try with_reducible rfl
      simp only [Act.put, List.getElem_toArray, List.getElem_cons_succ, List.getElem_cons_zero, List.setIfInBounds_toArray, List.set_cons_succ, List.set_cons_zero]
      refine wpAnyH_take (i := 2) (v := ?vl7) rfl (by kernel_rfl) (by kernel_rfl) (by kernel_rfl) (fun _ _ _ h => h) (Or.inl ⟨by rfl, ?hl7⟩) (by assumption) ?rl7
      case hl7 => intro w hSw; (try dsimp only at hSw); go_simp; try with_reducible rfl
      simp only [Act.put, List.getElem_toArray, List.getElem_cons_succ, List.getElem_cons_zero, List.setIfInBounds_toArray, List.set_cons_succ, List.set_cons_zero]
      refine wpAnyH_take (i := 3) (v := ?vl10) rfl (by kernel_rfl) (by kernel_rfl) (by kernel_rfl) (fun _ _ _ h => h) (Or.inl ⟨by rfl, ?hl10⟩) (by assumption) ?rl10
      case hl10 => intro w hSw; (try dsimp only at hSw); go_simp; try with_reducible rfl
      simp only [Act.put, List.getElem_toArray, List.getElem_cons_succ, List.getElem_cons_zero, List.setIfInBounds_toArray, List.set_cons_succ, List.set_cons_zero]
      refine wpAnyH_take (i := 4) (v := ?vl13) rfl (by kernel_rfl) (by kernel_rfl) (by kernel_rfl) (fun _ _ _ h => h) (Or.inl ⟨by rfl, ?hl13⟩) (by assumption) ?rl13
      case hl13 => intro w hSw; (try dsimp only at hSw); go_simp; try with_reducible rfl
      simp only [Act.put, List.getElem_toArray, List.getElem_cons_succ, List.getElem_cons_zero, List.setIfInBounds_toArray, List.set_cons_succ, List.set_cons_zero]
      refine wpAnyH_take (i := 5) (v := ?vl16) rfl (by kernel_rfl) (by kernel_rfl) (by kernel_rfl) (fun _ _ _ h => h) (Or.inl ⟨by rfl, ?hl16⟩) (by assumption) ?rl16
      case hl16 => intro w hSw; (try dsimp only at hSw); go_simp; try with_reducible rfl
      simp only [Act.put, List.getElem_toArray, List.getElem_cons_succ, List.getElem_cons_zero, List.setIfInBounds_toArray, List.set_cons_succ, List.set_cons_zero]
      refine wpAnyH_take (i := 6) (v := ?vl19) rfl (by kernel_rfl) (by kernel_rfl) (by kernel_rfl) (fun _ _ _ h => h) (Or.inl ⟨by rfl, ?hl19⟩) (by assumption) ?rl19
      case hl19 => intro w hSw; (try dsimp only at hSw); go_simp; try with_reducible rfl
      simp only [Act.put, List.getElem_toArray, List.getElem_cons_succ, List.getElem_cons_zero, List.setIfInBounds_toArray, List.set_cons_succ, List.set_cons_zero]
      refine wpAnyH_take (i := 7) (v := ?vl22) rfl (by kernel_rfl) (by kernel_rfl) (by kernel_rfl) (fun _ _ _ h => h) (Or.inl ⟨by rfl, ?hl22⟩) (by assumption) ?rl22
      case hl22 => intro w hSw; (try dsimp only at hSw); go_simp; try with_reducible rfl
      simp only [Act.put, List.getElem_toArray, List.getElem_cons_succ, List.getElem_cons_zero, List.setIfInBounds_toArray, List.set_cons_succ, List.set_cons_zero]
      refine wpAnyH_take (i := 8) (v := ?vl25) rfl (by kernel_rfl) (by kernel_rfl) (by kernel_rfl) (fun _ _ _ h => h) (Or.inl ⟨by rfl, ?hl25⟩) (by assumption) ?rl25
      case hl25 => intro w hSw; (try dsimp only at hSw); go_simp; try with_reducible rfl
      simp only [Act.put, List.getElem_toArray, List.getElem_cons_succ, List.getElem_cons_zero, List.setIfInBounds_toArray, List.set_cons_succ, List.set_cons_zero]
      refine wpAnyH_take (i := 9) (v := ?vl28) rfl (by kernel_rfl) (by kernel_rfl) (by kernel_rfl) (fun _ _ _ h => h) (Or.inl ⟨by rfl, ?hl28⟩) (by assumption) ?rl28
      case hl28 => intro w hSw; (try dsimp only at hSw); go_simp; try with_reducible rfl
      simp only [Act.put, List.getElem_toArray, List.getElem_cons_succ, List.getElem_cons_zero, List.setIfInBounds_toArray, List.set_cons_succ, List.set_cons_zero]
      refine wpAnyH_take (i := 10) (v := ?vl31) rfl (by kernel_rfl) (by kernel_rfl) (by kernel_rfl) (fun _ _ _ h => h) (Or.inl ⟨by rfl, ?hl31⟩) (by assumption) ?rl31
      case hl31 => intro w hSw; (try dsimp only at hSw); go_simp; try with_reducible rfl
      simp only [Act.put, List.getElem_toArray, List.getElem_cons_succ, List.getElem_cons_zero, List.setIfInBounds_toArray, List.set_cons_succ, List.set_cons_zero]
      refine wpAnyH_take (i := 11) (v := ?vl34) rfl (by kernel_rfl) (by kernel_rfl) (by kernel_rfl) (fun _ _ _ h => h) (Or.inl ⟨by rfl, ?hl34⟩) (by assumption) ?rl34
      case hl34 => intro w hSw; (try dsimp only at hSw); go_simp; try with_reducible rfl
      simp only [Act.put, List.getElem_toArray, List.getElem_cons_succ, List.getElem_cons_zero, List.setIfInBounds_toArray, List.set_cons_succ, List.set_cons_zero]
      refine wpAnyH_take (i := 12) (v := ?vl37) rfl (by kernel_rfl) (by kernel_rfl) (by kernel_rfl) (fun _ _ _ h => h) (Or.inl ⟨by rfl, ?hl37⟩) (by assumption) ?rl37
      case hl37 => intro w hSw; (try dsimp only at hSw); go_simp; try with_reducible rfl
      simp only [Act.put, List.getElem_toArray, List.getElem_cons_succ, List.getElem_cons_zero, List.setIfInBounds_toArray, List.set_cons_succ, List.set_cons_zero]
      refine wpAnyH_take (i := 13) (v := ?vl40) rfl (by kernel_rfl) (by kernel_rfl) (by kernel_rfl) (fun _ _ _ h => h) (Or.inl ⟨by rfl, ?hl40⟩) (by assumption) ?rl40
      case hl40 => intro w hSw; (try dsimp only at hSw); go_simp; try with_reducible rfl
      simp only [Act.put, List.getElem_toArray, List.getElem_cons_succ, List.getElem_cons_zero, List.setIfInBounds_toArray, List.set_cons_succ, List.set_cons_zero]
      refine wpAnyH_take (i := 14) (v := ?vl43) rfl (by kernel_rfl) (by kernel_rfl) (by kernel_rfl) (fun _ _ _ h => h) (Or.inl ⟨by rfl, ?hl43⟩) (by assumption) ?rl43
      case hl43 => intro w hSw; (try dsimp only at hSw); go_simp; try with_reducible rfl
      simp only [Act.put, List.getElem_toArray, List.getElem_cons_succ, List.getElem_cons_zero, List.setIfInBounds_toArray, List.set_cons_succ, List.set_cons_zero]
      refine wpAnyH_ready (rs := [15]) (by kernel_rfl) (by simp) ?_
      refine AllReadyH.cons rfl (fun K hK => ?_) AllReadyH.nil
      go_simp
      refine hK.out _ _ (by first | (first | exact HKK.out _ HB5.out | exact HKK.out _ (HBD.out.alloc HBD.out.size _) | exact HKK.out _ HBD.out) | ((try dsimp only); first | exact HKK.out _ HB5.out | exact HKK.out _ (HBD.out.alloc HBD.out.size _) | exact HKK.out _ HBD.out)) (fun hHeld => ?_)
      clear hK K
      try simp only [Act.put, List.getElem_toArray, List.getElem_cons_succ, List.getElem_cons_zero, List.setIfInBounds_toArray, List.set_cons_succ, List.set_cons_zero]
      refine wpAnyH_ready (rs := [16]) (by kernel_rfl) (by simp) ?_
      refine AllReadyH.cons rfl (fun K hK => ?_) AllReadyH.nil
      refine step_append_bytes (by rfl) (.tmp 36) (.tmp 51) (by rfl) w.heap.size _ i (x3 a b c i) (by rfl) ((show World.ownsRow wr.drew _ _ _ _ _ _ from HOW.out).alloc _) (some ⟨wr.heap.size, 0, none⟩) 1 1 [(q : Int)] (by rfl) (Sl.newB (w := wr.drew) [(q : Int)] (by intro u hu; simp at hu; subst hu; simp [Lit.wf, IntKind.min, IntKind.max, IntKind.signed, IntKind.bits]; have := HQ8.out; omega) (by unfold maxLen; simp) rfl rfl rfl) (i + 1) rfl (by omega) (by have := HBD.out.size; simp; exact Nat.le_succ_of_le this) ?_
      intro d5 c5 w5 hown5 hb5 _
      have HO5 : Hid (w5.ownsRow w.heap.size 5 1 (.slice d5 (i + 1) c5) (i + 1) (u8s (x3 a b c (i + 1)))) := by show World.ownsRow _ _ _ _ _ _ _; rw [HNX.out]; exact hown5
      have HB5 : Hid (Below w.heap.size w w5) := (HBD.out.alloc HBD.out.size _).trans hb5
      have HN5 : Hid (d5 = none → c5 = 0) := by
        obtain ⟨a', c', h1, h2⟩ := owns_form hown5
        cases h1; exact h2
      clear hown5 hb5
      refine hK.out _ _ (by first | (first | exact HKK.out _ HB5.out | exact HKK.out _ (HBD.out.alloc HBD.out.size _) | exact HKK.out _ HBD.out) | ((try dsimp only); first | exact HKK.out _ HB5.out | exact HKK.out _ (HBD.out.alloc HBD.out.size _) | exact HKK.out _ HBD.out)) (fun hHeld => ?_)
      clear hK K
      try simp only [Act.put, List.getElem_toArray, List.getElem_cons_succ, List.getElem_cons_zero, List.setIfInBounds_toArray, List.set_cons_succ, List.set_cons_zero]
      refine wpAnyH_take (i := 17) (v := ?vl65) rfl (by kernel_rfl) (by kernel_rfl) (by kernel_rfl) (fun _ _ _ h => h) (Or.inl ⟨by rfl, ?hl65⟩) (by assumption) ?rl65
      case hl65 => intro w hSw; (try dsimp only at hSw); go_simp; try with_reducible rfl
      simp only [Act.put, List.getElem_toArray, List.getElem_cons_succ, List.getElem_cons_zero, List.setIfInBounds_toArray, List.set_cons_succ, List.set_cons_zero]
      refine wpAnyH_done (by kernel_rfl) ?_ _
      go_wp2
      go_roundw
      case rel => exact ⟨i + 1, d5, c5, rfl, by go_num, by omega, HN5.out, HO5.out, HB5.out⟩
      case measure => simp [intOf]; omega
    · obtain rfl : i = len0 := by omega
      have hmp1 := map_add0 a1
      have hmp2 := map_add0 a2
      have hc1 : (i : Int) ≤ (cap1 : Int) := by omega
      have hc2 : (i : Int) ≤ (cap2 : Int) := by omega
      have HD := Lib.hid (Sl.of_owns (k := .u8) HOW.out (bytes_wf (HXB.out _)) (x3_length a b c i))
      have HA2 := Lib.hid (HA.out.below HBW.out (Nat.le_refl _))
      have HB2 := Lib.hid (sl_begin (HB.out.below HBW.out (Nat.le_refl _)) i hl1)
      have HC2 := Lib.hid (sl_begin (HC.out.below HBW.out (Nat.le_refl _)) i hl2)
      have hsa := Crc.sum_lt HA2.out.bytes
      have hsb := Crc.sum_lt HB2.out.bytes
      have hsc := Crc.sum_lt HC2.out.bytes
      obtain ⟨sd, hsd⟩ : ∃ s, Crc.sum (x3 a b c i) = s := ⟨_, rfl⟩
      obtain ⟨sa, hsad⟩ : ∃ s, Crc.sum a = s := ⟨_, rfl⟩
      obtain ⟨sb, hsbd⟩ : ∃ s, Crc.sum (b.take i) = s := ⟨_, rfl⟩
      obtain ⟨sc, hscd⟩ : ∃ s, Crc.sum (c.take i) = s := ⟨_, rfl⟩
      have hsum := HSUM.out
      rw [hsd, hsad, hsbd, hscd] at hsum
      rw [hsad] at hsa
      rw [hsbd] at hsb
      rw [hscd] at hsc
      have HCD : Hid (∀ w, Sl .u8 w d i cd (x3 a b c i) → Calls Try.prog 10 #[.slice d i cd] w fun e w' => e = .returned (.int .u32 (sd : Int)) ∧ w' = w) := by
        intro w h; rw [← hsd]; exact (csum_is _ _ _ _ w h).mono fun _ _ h => ⟨h.1, h.2.symm⟩
      have HCA : Hid (∀ w, Sl .u8 w a0 i cap0 a → Calls Try.prog 10 #[.slice a0 i cap0] w fun e w' => e = .returned (.int .u32 (sa : Int)) ∧ w' = w) := by
        intro w h; rw [← hsad]; exact (csum_is _ _ _ _ w h).mono fun _ _ h => ⟨h.1, h.2.symm⟩
      have HCB : Hid (∀ w, Sl .u8 w a1 i cap1 (b.take i) → Calls Try.prog 10 #[.slice a1 i cap1] w fun e w' => e = .returned (.int .u32 (sb : Int)) ∧ w' = w) := by
        intro w h; rw [← hsbd]; exact (csum_is _ _ _ _ w h).mono fun _ _ h => ⟨h.1, h.2.symm⟩
      have HCC : Hid (∀ w, Sl .u8 w a2 i cap2 (c.take i) → Calls Try.prog 10 #[.slice a2 i cap2] w fun e w' => e = .returned (.int .u32 (sc : Int)) ∧ w' = w) := by
        intro w h; rw [← hscd]; exact (csum_is _ _ _ _ w h).mono fun _ _ h => ⟨h.1, h.2.symm⟩
      have hx1 : bits .xor .u32 (sa : Int) (sb : Int) = ((sa ^^^ sb : Nat) : Int) := u32_xor_nat _ _ hsa hsb
      have hp8 : sa ^^^ sb < 4294967296 := Nat.xor_lt_two_pow (n := 32) hsa hsb
      have hx2 : bits .xor .u32 ((sa ^^^ sb : Nat) : Int) (sc : Int) = ((sa ^^^ sb ^^^ sc : Nat) : Int) := u32_xor_nat _ _ hp8 hsc
      obtain ⟨sp, hsp⟩ : ∃ s, s = sa ^^^ sb := ⟨_, rfl⟩
      rw [← hsum] at hx2
      rw [← hsp] at hx1 hx2
      have hdd : ((sd : Int) == (sd : Int)) = true := by simp
      clear hsum hsd hsad hsbd hscd hsp hp8 hsa hsb hsc
      go_wp2
      go_quiet (first
        | (go_at_call_of 10 cd; exact Calls.quiet_of_same (HCD.out _ (HD.out.drewN _)))
        | (go_at_call_of 10 cap0; exact Calls.quiet_of_same (HCA.out _ (HA2.out.drewN _)))
        | (go_at_call_of 10 cap1; exact Calls.quiet_of_same (HCB.out _ (HB2.out.drewN _)))
        | (go_at_call_of 10 cap2; exact Calls.quiet_of_same (HCC.out _ (HC2.out.drewN _))))
      go_wp2
      go_ret
      exact ⟨by first | rfl | simp, below_drawn HBW.out ⟨_, rfl⟩⟩

/-! ### THE ROW's STEP: WRITTEN OUT: LEAVE IT -/
set_option maxRecDepth 100000 in
theorem lifted (os : Os) (started : os.Started) (H : Type) (enc : TypeId × Value → H) :
    ReturnsInHanded {} Try.checked os 5 .any (Rows.crcThreeSpec.pre6 enc Try.prog Try.f5 Rows.crcThreeRow.domain false) (Rows.crcThreeSpec.post enc Try.prog Try.f5 false true false false) := by
  refine returnsInHanded_of_change (C := Try.checked) own started (by kernel_rfl) Try.func5
    (ChangeSpec.witness6 (enc := enc) (C := Try.checked) false ⟨#[], #[.slice none 0 0, .slice none 0 0, .slice none 0 0], []⟩ 8 (by kernel_rfl) (by kernel_rfl) (by kernel_rfl) (by kernel_rfl)) ?_
  intro W base args ds gs before hval0 hW hcnd _
  have hval : ∀ (j : Nat) t v, Try.f5.params[j]? = some t → args[j]? = some v → Value.okWide Try.prog W .any base t v := hval0
  have hW' := hW
  obtain ⟨p, q, hA0, hV, rfl, hfz, hnd⟩ := hW
  have hA : DataW.TrodAll enc Try.prog W 0 (fun _ => true) true Try.f5.params.toList args.toList ds p := hA0
  rw [Try.params5] at hA hval
  obtain ⟨v0, vs0, d0, ds0, p0, q0, hargs, rfl, rfl, h0, r0⟩ := trodAll_cons hA
  obtain ⟨v1, vs1, d1, ds1, p1, q1, rfl, rfl, rfl, h1, r1⟩ := trodAll_cons r0
  obtain ⟨v2, vs2, d2, ds2, p2, q2, rfl, rfl, rfl, h2, r2⟩ := trodAll_cons r1
  obtain ⟨rfl, rfl, rfl⟩ := trodAll_nil r2
  obtain rfl : args = #[v0, v1, v2] := by cases args; simp_all
  obtain ⟨rfl, rfl⟩ := trodVars_none hV
  obtain ⟨a0, len0, cap0, rfl⟩ := okWide_slice Try.underlying22 (hval 0 22 v0 rfl rfl)
  have k0 := h0
  have lt0 : ∀ x ∈ p0, x.block < W.heap.size := by obtain ⟨m, hm⟩ := k0; exact DataW.trod_lt m _ _ _ hm
  obtain ⟨z0, w0⟩ : ∃ zs, IsRow .u8 W a0 len0 cap0 zs := by
    obtain ⟨fuel, hf⟩ := h0
    rcases open_ints Try.underlying22 Try.underlying5 (by kernel_rfl) hf with ⟨hcs, _⟩ | ⟨x, l, c, zs, hcs, _, hl, hm, hz, _, hcell, hwz⟩
    · simp [Value.cells] at hcs
      obtain ⟨rfl, rfl, rfl⟩ := hcs
      exact ⟨[], .inl ⟨rfl, rfl, rfl, rfl⟩⟩
    · simp [Value.cells] at hcs
      obtain ⟨rfl, rfl, rfl⟩ := hcs
      exact ⟨zs, .inr ⟨_, rfl, hl, hm, by simpa using hz, hcell, hwz⟩⟩
  obtain ⟨a1, len1, cap1, rfl⟩ := okWide_slice Try.underlying22 (hval 1 22 v1 rfl rfl)
  have k1 := h1
  have lt1 : ∀ x ∈ p1, x.block < W.heap.size := by obtain ⟨m, hm⟩ := k1; exact DataW.trod_lt m _ _ _ hm
  obtain ⟨z1, w1⟩ : ∃ zs, IsRow .u8 W a1 len1 cap1 zs := by
    obtain ⟨fuel, hf⟩ := h1
    rcases open_ints Try.underlying22 Try.underlying5 (by kernel_rfl) hf with ⟨hcs, _⟩ | ⟨x, l, c, zs, hcs, _, hl, hm, hz, _, hcell, hwz⟩
    · simp [Value.cells] at hcs
      obtain ⟨rfl, rfl, rfl⟩ := hcs
      exact ⟨[], .inl ⟨rfl, rfl, rfl, rfl⟩⟩
    · simp [Value.cells] at hcs
      obtain ⟨rfl, rfl, rfl⟩ := hcs
      exact ⟨zs, .inr ⟨_, rfl, hl, hm, by simpa using hz, hcell, hwz⟩⟩
  obtain ⟨a2, len2, cap2, rfl⟩ := okWide_slice Try.underlying22 (hval 2 22 v2 rfl rfl)
  have k2 := h2
  have lt2 : ∀ x ∈ p2, x.block < W.heap.size := by obtain ⟨m, hm⟩ := k2; exact DataW.trod_lt m _ _ _ hm
  obtain ⟨z2, w2⟩ : ∃ zs, IsRow .u8 W a2 len2 cap2 zs := by
    obtain ⟨fuel, hf⟩ := h2
    rcases open_ints Try.underlying22 Try.underlying5 (by kernel_rfl) hf with ⟨hcs, _⟩ | ⟨x, l, c, zs, hcs, _, hl, hm, hz, _, hcell, hwz⟩
    · simp [Value.cells] at hcs
      obtain ⟨rfl, rfl, rfl⟩ := hcs
      exact ⟨[], .inl ⟨rfl, rfl, rfl, rfl⟩⟩
    · simp [Value.cells] at hcs
      obtain ⟨rfl, rfl, rfl⟩ := hcs
      exact ⟨zs, .inr ⟨_, rfl, hl, hm, by simpa using hz, hcell, hwz⟩⟩
  clear hA0 hval0
  refine (walk a0 len0 cap0 z0 a1 len1 cap1 z1 a2 len2 cap2 z2 W w0 w1 w2).mono fun e W' ⟨he, bel⟩ => ?_
  subst he
  exact ⟨_, rfl, _, _, _, [], _, [], hW', trodAll_mk1 (shut_bool Try.underlying4 _), (trodAll_cons_mk (Below.trod laidOut (by kernel_rfl) (of_decide_eq_true (by kernel_rfl)) k0 bel lt0) (trodAll_cons_mk (Below.trod laidOut (by kernel_rfl) (of_decide_eq_true (by kernel_rfl)) k1 bel lt1) (trodAll_cons_mk (Below.trod laidOut (by kernel_rfl) (of_decide_eq_true (by kernel_rfl)) k2 bel lt2) trodAll_mk0))), rfl, bel.frame _, fun h => by cases h⟩

theorem over : Rows.crcThreeRow.holds Try.pinned (OpenSpec.ofChange Rows.crcThreeSpec) :=
  OpenClaim.holds_of_wide 5 Try.f5 rfl rfl rfl rfl rfl rfl rfl ⟨rfl, rfl, rfl, rfl, rfl⟩ rfl rfl rfl rfl rfl (by kernel_rfl) Try.func5 (by kernel_rfl)
    (of_decide_eq_true (by kernel_rfl)) (by unfold Func.isWrapper; first | (rw [if_pos (by decide +kernel)]; kernel_rfl) | (rw [if_neg (by decide +kernel)]; exact ⟨rfl, rfl⟩))
    (fun os started H enc _ => lifted os started H enc)

/-- ████ THE STATEMENT ████ -/
theorem proved : Rows.CrcThreeSaid := over
#print axioms proved
end Go.Proofs.Ythblpmejkjdkcaa.crcThree
