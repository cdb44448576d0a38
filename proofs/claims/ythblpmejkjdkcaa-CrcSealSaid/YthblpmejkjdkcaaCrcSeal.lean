/- For every list of bytes CrcSeal answers true, and turns nothing that was there. No condition. -/
import Derived.Test.YthblpmejkjdkcaaRows
import Derived.Test.YthblpmejkjdkcaaCrcAwake
import Derived.WalkKit
import Derived.ProofKit
import Derived.OpenShut
import Derived.ShutString
import Derived.ChangeOld
import Derived.Below
namespace Go.Proofs.Ythblpmejkjdkcaa.crcSeal
open Go.ChangeShapes Go.WideShapes Go.ChangeAt Go.RowKit
open Go.ChangeMaps (open_string shut_string)
set_option linter.unusedVariables false

theorem own : ownKnob Try.prog.godebug = none := by kernel_rfl
theorem laidOut : laidOutB Try.prog = true := by kernel_rfl

/-- WHAT THE WALK IS TOLD OF A SLICE OF INTEGERS THAT CAME IN: it is nil; or it leads to a row of 'cap' cells, the numbers 'zs' (the first 'len' are its elements, the rest its spare room), each fitting its kind. -/
def IsRow (k : IntKind) (w : World) (a : Option Addr) (len cap : Nat) (zs : List Int) : Prop :=
  (a = none ∧ len = 0 ∧ cap = 0 ∧ zs = []) ∨
  ∃ x, a = some x ∧ len ≤ cap ∧ cap ≤ maxLen ∧ zs.length = cap ∧ (∀ i, i < zs.length → w.cell? (x.add i) = some (.int k (zs.getD i 0))) ∧ ∀ n ∈ zs, (Lit.int k n).wf = true

theorem sum_lock {b : List Int} (h : Crc.Bytes b) : Crc.sum (Crc.lock b) = 558161692 := by
  rw [Crc.sum, Crc.raw_lock h]; decide +kernel
theorem csum_lock (a : Option Addr) (n cap : Nat) (b : List Int) (w : World) (hb : Crc.Bytes b) (hs : Sl .u8 w a n cap (Crc.lock b)) :
    Calls Try.prog 10 #[.slice a n cap] w fun e w' => e = .returned (.int .u32 558161692) ∧ w = w' := by
  have h := csum_is a n cap _ w hs
  rw [sum_lock hb] at h; exact h

/-! ### STEP 1: THE WALK: the Go text returns true, AND WRITES NOTHING THAT WAS THERE: 'Below w.heap.size w w'' (Derived/Below.lean: '.refl', '.alloc', '.drew', '.setCell' at a new block, '.trans'). Open each 'IsRow' by 'rcases' AHEAD of 'go_enter'; part every test ahead of the walk. -/
set_option maxRecDepth 100000 in
set_option maxHeartbeats 6000000 in
theorem walk (a0 : Option Addr) (len0 cap0 : Nat) (z0 : List Int) (w : World) (w0 : IsRow .u8 w a0 len0 cap0 z0) :
    Calls Try.prog 6 #[.slice a0 len0 cap0] w fun e w' => e = .returned (.bool true) ∧ Below w.heap.size w w' := by
  have hn00 : a0 = none → cap0 = 0 := by
    rcases w0 with ⟨_, _, h, _⟩ | ⟨x, h, _⟩
    · exact fun _ => h
    · intro h'; rw [h] at h'; cases h'
  have HN0 := Lib.hid hn00
  clear hn00
  have hs0 := Sl.of_row w0
  generalize z0.take len0 = b at hs0
  have hcm0 := hs0.2.2.1
  have hnc0 := hs0.2.1
  unfold maxLen at hcm0
  have HS := Lib.hid hs0
  clear hs0 w0
  by_cases g0 : 1000 < len0
  · have hi0 : (1000 : Int) < (len0 : Int) := by omega
    go_enter Try.func6, Try.ntmps6
    go_wp2_with fail
    refine (awake_any _).mono ?_
    rintro e w1 ⟨rfl, B1⟩
    go_wp2
    go_ret
    exact ⟨rfl, B1⟩
  have hi0 : ¬ (1000 : Int) < (len0 : Int) := by omega
  have hlen : len0 ≤ 1000 := by omega
  have HBY := Lib.hid HS.out.bytes
  have HL : Hid ((Crc.lock b).length = len0 + 4) := by show _ = _; rw [Crc.lock_length, HS.out.1]
  have HBL := Lib.hid (Crc.lock_bytes HBY.out)
  have hnn : ((len0 : Int) + 4 == (len0 : Int) + 4) = true := by simp
  go_enter Try.func6, Try.ntmps6
  go_wp2_with fail
  refine (awake_any _).mono ?_
  rintro e w1 ⟨rfl, B1⟩
  have S1 := Lib.hid (HS.out.below B1 (Nat.le_refl _))
  go_wp2_with fail
  refine (cseal_is _ _ _ b _ S1.out (by omega)).mono ?_
  intro e w2 h2
  obtain ⟨a2, n2, c2, rfl, hn2, hs2, _, hb2⟩ := h2.sl (bytes_wf HBL.out)
  obtain rfl : n2 = len0 + 4 := by rw [hn2]; exact HL.out
  have S2 := Lib.hid hs2
  have B2 := B1.trans (hb2.mono B1.size)
  clear h2 hn2 hs2 hb2 B1 S1
  go_wp2_with fail
  refine (csum_lock _ _ _ b _ HBY.out S2.out).mono ?_
  rintro e w3 ⟨rfl, hw3⟩
  subst hw3
  go_wp2_with fail
  refine (cseal_is none 0 0 [] _ Sl.nil (by omega)).mono ?_
  intro e w4 h4
  obtain ⟨a4, n4, c4, rfl, hn4, hs4, _, hb4⟩ := h4.sl (bytes_wf (Crc.lock_bytes (by intro z hz; simp at hz)))
  have S4 := Lib.hid (S2.out.below hb4 (Nat.le_refl _))
  have X4 := Lib.hid hs4
  have B4 := B2.trans (hb4.mono B2.size)
  clear h4 hn4 hs4 hb4 B2 S2
  go_wp2_with fail
  refine (csum_lock _ _ _ [] _ (by intro z hz; simp at hz) X4.out).mono ?_
  rintro e w5 ⟨rfl, hw5⟩
  subst hw5
  go_wp2_with fail
  refine (cseal_is _ _ _ (Crc.lock b) _ S4.out (by omega)).mono ?_
  intro e w6 h6
  obtain ⟨a6, n6, c6, rfl, hn6, hs6, _, hb6⟩ := h6.sl (bytes_wf (Crc.lock_bytes HBL.out))
  have S6 := Lib.hid (S4.out.below hb6 (Nat.le_refl _))
  have X6 := Lib.hid hs6
  have B6 := B4.trans (hb6.mono B4.size)
  clear h6 hn6 hs6 hb6 B4 S4 X4
  go_wp2_with fail
  refine (csum_lock _ _ _ (Crc.lock b) _ HBL.out X6.out).mono ?_
  rintro e w7 ⟨rfl, hw7⟩
  subst hw7
  go_wp2_with fail
  refine (csum_lock _ _ _ b _ HBY.out S6.out).mono ?_
  rintro e w8 ⟨rfl, hw8⟩
  subst hw8
  go_wp2
  go_ret
  exact ⟨by first | rfl | simp, B6⟩

/-! ### THE ROW's STEP: WRITTEN OUT: LEAVE IT -/
set_option maxRecDepth 100000 in
theorem lifted (os : Os) (started : os.Started) (H : Type) (enc : TypeId × Value → H) :
    ReturnsInHanded {} Try.checked os 6 .any (Rows.crcSealSpec.pre6 enc Try.prog Try.f6 Rows.crcSealRow.domain false) (Rows.crcSealSpec.post enc Try.prog Try.f6 false true false false) := by
  refine returnsInHanded_of_change (C := Try.checked) own started (by kernel_rfl) Try.func6
    (ChangeSpec.witness6 (enc := enc) (C := Try.checked) false ⟨#[], #[.slice none 0 0], []⟩ 8 (by kernel_rfl) (by kernel_rfl) (by kernel_rfl) (by kernel_rfl)) ?_
  intro W base args ds gs before hval0 hW hcnd _
  have hval : ∀ (j : Nat) t v, Try.f6.params[j]? = some t → args[j]? = some v → Value.okWide Try.prog W .any base t v := hval0
  have hW' := hW
  obtain ⟨p, q, hA0, hV, rfl, hfz, hnd⟩ := hW
  have hA : DataW.TrodAll enc Try.prog W 0 (fun _ => true) true Try.f6.params.toList args.toList ds p := hA0
  rw [Try.params6] at hA hval
  obtain ⟨v0, vs0, d0, ds0, p0, q0, hargs, rfl, rfl, h0, r0⟩ := trodAll_cons hA
  obtain ⟨rfl, rfl, rfl⟩ := trodAll_nil r0
  obtain rfl : args = #[v0] := by cases args; simp_all
  obtain ⟨rfl, rfl⟩ := trodVars_none hV
  obtain ⟨a0, len0, cap0, rfl⟩ := okWide_slice Try.underlying22 (hval 0 22 v0 rfl rfl)
  have k0 := h0
  have lt0 : ∀ x ∈ p0, x.block < W.heap.size := by obtain ⟨m, hm⟩ := k0; exact DataW.trod_lt m _ _ _ hm
  obtain ⟨z0, w0⟩ : ∃ zs, IsRow .u8 W a0 len0 cap0 zs := by
    obtain ⟨fuel, hf⟩ := h0
    rcases open_ints Try.underlying22 Try.underlying5 (by kernel_rfl) hf with ⟨hcs, _⟩ | ⟨x, l, c, zs, hcs, _, hl, hm, hz, _, hcell, hwz⟩
    · simp [Value.cells] at hcs
      obtain ⟨rfl, rfl, rfl⟩ := hcs
      exact ⟨[], .inl ⟨rfl, rfl, rfl, rfl⟩⟩
    · simp [Value.cells] at hcs
      obtain ⟨rfl, rfl, rfl⟩ := hcs
      exact ⟨zs, .inr ⟨_, rfl, hl, hm, by simpa using hz, hcell, hwz⟩⟩
  clear hA0 hval0
  refine (walk a0 len0 cap0 z0 W w0).mono fun e W' ⟨he, bel⟩ => ?_
  subst he
  exact ⟨_, rfl, _, _, _, [], _, [], hW', trodAll_mk1 (shut_bool Try.underlying4 _), (trodAll_cons_mk (Below.trod laidOut (by kernel_rfl) (of_decide_eq_true (by kernel_rfl)) k0 bel lt0) trodAll_mk0), rfl, bel.frame _, fun h => by cases h⟩

theorem over : Rows.crcSealRow.holds Try.pinned (OpenSpec.ofChange Rows.crcSealSpec) :=
  OpenClaim.holds_of_wide 6 Try.f6 rfl rfl rfl rfl rfl rfl rfl ⟨rfl, rfl, rfl, rfl, rfl⟩ rfl rfl rfl rfl rfl (by kernel_rfl) Try.func6 (by kernel_rfl)
    (of_decide_eq_true (by kernel_rfl)) (by unfold Func.isWrapper; first | (rw [if_pos (by decide +kernel)]; kernel_rfl) | (rw [if_neg (by decide +kernel)]; exact ⟨rfl, rfl⟩))
    (fun os started H enc _ => lifted os started H enc)

/-- ████ THE STATEMENT ████ -/
theorem proved : Rows.CrcSealSaid := over
#print axioms proved
end Go.Proofs.Ythblpmejkjdkcaa.crcSeal
