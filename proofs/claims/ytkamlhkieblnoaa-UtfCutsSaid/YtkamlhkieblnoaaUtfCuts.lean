/- For every list of numbers and every cut UtfCuts answers true, and turns nothing that was there. No condition. -/
import Derived.Test.YtkamlhkieblnoaaRows
import Derived.Test.YtkamlhkieblnoaaUtfWalkK
import Derived.WalkKit
import Derived.SizedLaws
import Derived.ProofKit
import Derived.OpenShut
import Derived.ShutString
import Derived.ChangeOld
import Derived.Below
namespace Go.Proofs.Ytkamlhkieblnoaa.utfCuts
open Go.ChangeShapes Go.WideShapes Go.ChangeAt Go.RowKit
open Go.ChangeMaps (open_string shut_string)
set_option linter.unusedVariables false

theorem own : ownKnob Try.prog.godebug = none := by kernel_rfl
theorem laidOut : laidOutB Try.prog = true := by kernel_rfl

/-- WHAT THE WALK IS TOLD OF A SLICE OF INTEGERS THAT CAME IN: it is nil; or it leads to a row of 'cap' cells, the numbers 'zs' (the first 'len' are its elements, the rest its spare room), each fitting its kind. -/
def IsRow (k : IntKind) (w : World) (a : Option Addr) (len cap : Nat) (zs : List Int) : Prop :=
  (a = none ∧ len = 0 ∧ cap = 0 ∧ zs = []) ∨
  ∃ x, a = some x ∧ len ≤ cap ∧ cap ≤ maxLen ∧ zs.length = cap ∧ (∀ i, i < zs.length → w.cell? (x.add i) = some (.int k (zs.getD i 0))) ∧ ∀ n ∈ zs, (Lit.int k n).wf = true

theorem first_any {k : IntKind} {w : World} {a : Option Addr} {n cap : Nat} {zs : List Int} (h : Sl k w a n cap zs) (j : Nat) (hj : j ≤ n) : Sl k w a j cap (zs.take j) := by
  rcases Nat.eq_zero_or_pos n with h0 | hp
  · obtain rfl : j = 0 := by omega
    exact ⟨rfl, Nat.zero_le _, h.2.2.1, by simp, .inl rfl⟩
  · obtain ⟨b, off, rfl, _, _⟩ := h.at hp
    exact h.first j hj
/-- bytes of signs that are cut are signs just if the cut is where one's bytes end: j is the first place where as many bytes are reached -/
theorem cut_read (zs x : List Int) (k j : Nat) (hg : Utf.allGood zs = true) (hk : k ≤ (Utf.put zs).length) (hj : j ≤ zs.length) (hb : ∀ i, i < j → (Utf.put (zs.take i)).length < k)
    (he : j = zs.length ∨ k ≤ (Utf.put (zs.take j)).length) (hr : Utf.IsRead ((Utf.put zs).take k) (some x)) : (Utf.put (zs.take j)).length = k ∧ x = zs.take j := by
  obtain ⟨hgx, hpx⟩ := hr
  obtain ⟨l', rfl, hl'⟩ := Utf.put_cancel x zs ((Utf.put zs).drop k) hgx hg (by rw [hpx, List.take_append_drop])
  have hlen : (Utf.put x).length = k := by rw [hpx, List.length_take]; omega
  have hxt : (x ++ l').take x.length = x := List.take_left
  rcases Nat.lt_trichotomy j x.length with h | h | h
  · have h1 : (x ++ l').take j = x.take j := by rw [List.take_append_of_le_length (by omega)]
    rcases he with he | he
    · simp at he; omega
    · rw [h1] at he
      have h2 : Utf.put x = Utf.put (x.take j) ++ Utf.put (x.drop j) := by rw [← Utf.put_append, List.take_append_drop]
      have h3 := Utf.put_length_ge (x.drop j)
      have h4 := congrArg List.length h2
      rw [List.length_append, hlen] at h4
      rw [List.length_drop] at h3
      omega
  · subst h
    rw [hxt]
    exact ⟨hlen, rfl⟩
  · have := hb x.length h
    rw [hxt, hlen] at this
    omega
theorem cut_none (zs : List Int) (k j : Nat) (hg : Utf.allGood zs = true) (hr : Utf.IsRead ((Utf.put zs).take k) none) : (Utf.put (zs.take j)).length ≠ k := by
  intro h
  have h2 : Utf.put zs = Utf.put (zs.take j) ++ Utf.put (zs.drop j) := by rw [← Utf.put_append, List.take_append_drop]
  refine hr (zs.take j) ?_ ?_
  · unfold Utf.allGood at *
    rw [List.all_eq_true] at *
    intro z hz; exact hg z (List.mem_of_mem_take hz)
  · rw [h2, ← h, List.take_left]

/-! ### STEP 1: THE WALK: the Go text returns true, AND WRITES NOTHING THAT WAS THERE: 'Below w.heap.size w w'' (Derived/Below.lean: '.refl', '.alloc', '.drew', '.setCell' at a new block, '.trans'). Open each 'IsRow' by 'rcases' AHEAD of 'go_enter'; part every test ahead of the walk. -/
set_option maxHeartbeats 2000000 in
theorem walk (a0 : Option Addr) (len0 cap0 : Nat) (z0 : List Int) (a1 : Int) (w : World) (w0 : IsRow .i64 w a0 len0 cap0 z0) (hr0 : len0 * 8 ≤ 140737488351232) (w1 : (Lit.int .u16 a1).wf = true) :
    Calls Try.prog 9 #[.slice a0 len0 cap0, .int .u16 a1] w fun e w' => e = .returned (.bool true) ∧ Below w.heap.size w w' := by
  have hs := Sl.of_row w0
  generalize z0.take len0 = zs at hs
  have hcm0 := hs.2.2.1
  have hnc0 := hs.2.1
  unfold maxLen at hcm0
  have HS := Lib.hid hs
  clear hs w0
  obtain ⟨hk0, hk1⟩ := bounds_u16 w1
  clear w1
  obtain ⟨pb, per, hp⟩ := putIs_ex zs
  have HP := Lib.hid hp
  by_cases hok : per = 0 ∧ len0 ≤ 1000
  · obtain ⟨rfl, hl0⟩ := hok
    obtain ⟨hg, rfl⟩ : Utf.allGood zs = true ∧ pb = Utf.put zs := by
      obtain ⟨h1, h2, _⟩ | ⟨_, _, h⟩ := hp
      · exact ⟨h1, h2⟩
      · cases h
    clear hp
    have hpl := Utf.put_length_le zs
    rw [HS.out.1] at hpl
    obtain ⟨k, hk⟩ : ∃ k : Nat, a1 % (((Utf.put zs).length : Int) + 1) = (k : Int) := ⟨(a1 % (((Utf.put zs).length : Int) + 1)).toNat, (Int.toNat_of_nonneg (Int.emod_nonneg _ (by omega))).symm⟩
    have hkl : k ≤ (Utf.put zs).length := by
      have := Int.emod_lt_of_pos a1 (show (0 : Int) < ((Utf.put zs).length : Int) + 1 from by omega)
      omega
    obtain ⟨rl, rer, hr⟩ := readIs_ex ((Utf.put zs).take k)
    have hi0 : decide ((1000 : Int) < (len0 : Int)) = false := by simp; omega
    have HR := Lib.hid hr
    have HG := Lib.hid hg
    clear hr hg
    go_enter Try.func9, Try.ntmps9
    go_wp2_with fail
    refine (awake_any _).mono ?_
    rintro e w1 ⟨rfl, B1⟩
    go_wp2_with fail
    refine (put_ok _ _ _ zs _ (HS.out.below B1 (Nat.le_refl _)) (by omega) HG.out).mono ?_
    rintro e w2 ⟨g2, c2, rfl, hs2, hb2⟩
    have B2 : Below w.heap.size w w2 := B1.trans (hb2.mono B1.size)
    have hmc := hs2.2.1
    have hcm2 := hs2.2.2.1
    unfold maxLen at hcm2
    have HF := Lib.hid (hs2.first k hkl)
    clear hb2 B1 hs2
    go_wp2_with fail
    refine (read_gen _ _ _ _ rl rer _ HR.out HF.out (by omega)).mono ?_
    rintro e w3 ⟨a3, c3, rfl, R3, hb3⟩
    have B3 : Below w.heap.size w w3 := B2.trans (hb3.mono B2.size)
    have HR3 := Lib.hid R3
    clear hb3 B2 HF R3
    go_wp2_with fail
    go_loopw [11, 12] (fun nv ix wr => ∃ j : Nat, j ≤ len0 ∧ ix = .int .i64 (j : Int) ∧ nv = .int .i64 ((Utf.put (zs.take j)).length : Int) ∧ Hid (∀ i, i < j → (Utf.put (zs.take i)).length < k) ∧ Hid (Sl .i64 wr a3 rl.length c3 rl) ∧ Below w.heap.size w wr) (fun _ ix _ => len0 - (intOf ix).toNat)
    case atStart => exact ⟨0, Nat.zero_le _, rfl, rfl, fun i hi => by omega, HR3, B3⟩
    case round =>
      obtain ⟨j, hj, rfl, rfl, HB, HRL, hbel⟩ := hrel
      clear HR3 B3
      by_cases hA : j < len0
      · have hAi : decide ((j : Int) < (len0 : Int)) = true := by simp; omega
        by_cases hB : k ≤ (Utf.put (zs.take j)).length
        · have hBi : decide (((Utf.put (zs.take j)).length : Int) < (k : Int)) = false := by simp; omega
          obtain ⟨hrd, rfl⟩ | ⟨hrd, rfl, rfl⟩ := HR.out
          · have hce := cut_read zs rl k j HG.out hkl (by rw [HS.out.1]; exact hj) HB.out (.inr hB) hrd
            have hnk : (((Utf.put (zs.take j)).length : Int) == (k : Int)) = true := by simp; omega
            have HCE := Lib.hid hce.2
            have hjc : j ≤ cap0 := by omega
            clear hce hrd
            have HX := Lib.hid (first_any (HS.out.below hbel (Nat.le_refl _)) j hj)
            go_wp2_with fail
            refine (same_is _ _ _ _ _ _ rl (zs.take j) true _ HRL.out HX.out (by rw [HCE.out]; simp)).mono ?_
            rintro e w8 ⟨rfl, q, rfl⟩
            go_wp2
            go_ret
            exact ⟨rfl, below_drewN hbel q⟩
          · have hne := cut_none zs k j HG.out hrd
            have hnk : (((Utf.put (zs.take j)).length : Int) == (k : Int)) = false := by simp; omega
            clear hne hrd
            go_wp2
            go_ret
            exact ⟨rfl, hbel⟩
        · have hBi : decide (((Utf.put (zs.take j)).length : Int) < (k : Int)) = true := by simp; omega
          have hs2 := HS.out.below hbel (Nat.le_refl _)
          obtain ⟨z, hz⟩ : ∃ z, z = zs.getD j 0 := ⟨_, rfl⟩
          have hjz : j < zs.length := by rw [hs2.1]; exact hA
          have e1 := put_take_succ zs j hjz
          rw [← hz] at e1
          have e2 : (Utf.put (zs.take (j + 1))).length = (Utf.put (zs.take j)).length + Utf.size z := by rw [e1, List.length_append, Utf.enc_length]
          have hgz : Utf.allGood [z] = true := by
            have := List.all_eq_true.1 HG.out z (by rw [hz]; simp [hjz])
            simp [Utf.allGood, this]
          obtain ⟨b, off, rfl, _, _⟩ := hs2.at (by omega)
          have hpc := hs2.piece j 1 (by omega)
          have ez : (zs.drop j).take 1 = [z] := by rw [hz, List.drop_eq_getElem_cons hjz]; show [zs[j]] = [zs.getD j 0]; simp [hjz]
          rw [ez] at hpc
          have hpe : Utf.put [z] = Utf.enc z := by simp [Utf.put]
          have hel : (Utf.enc z).length = Utf.size z := Utf.enc_length z
          have hz4 := Utf.size_le z
          have hBn : (Utf.put (zs.take j)).length < k := by omega
          have E2 := Lib.hid e2
          have HGZ := Lib.hid hgz
          have HPC := Lib.hid hpc
          have HPE := Lib.hid hpe
          have HEL := Lib.hid hel
          have hjc : ¬ cap0 = j := by omega
          have hjc1 : j + 1 ≤ cap0 := by omega
          clear hs2 hz hjz e1 e2 hgz hpc ez hpe hel
          go_wp2_with fail
          refine (put_is _ _ _ [z] (Utf.enc z) (Utf.size z) _ HPC.out (by decide) HGZ.out HPE.out HEL.out).mono ?_
          rintro e w5 ⟨g5, c5, rfl, hs5, hb5⟩
          have B5 : Below w.heap.size w w5 := hbel.trans (hb5.mono hbel.size)
          have HRL5 : Hid (Sl .i64 w5 a3 rl.length c3 rl) := HRL.out.below hb5 (Nat.le_refl _)
          clear hs5 hb5
          go_wp2
          go_roundw
          case rel => exact ⟨j + 1, by omega, by go_num, congrArg (Value.int .i64) (by rw [E2.out]; omega), fun i hi => by rcases Nat.lt_or_ge i j with h | h; exact HB.out i h; (obtain rfl : i = j := by omega); exact hBn, HRL5, B5⟩
          case measure => simp [intOf]; omega
      · have hAi : decide ((j : Int) < (len0 : Int)) = false := by simp; omega
        obtain ⟨hrd, rfl⟩ | ⟨hrd, rfl, rfl⟩ := HR.out
        · have hce := cut_read zs rl k j HG.out hkl (by rw [HS.out.1]; exact hj) HB.out (.inl (by rw [HS.out.1]; omega)) hrd
          have hnk : (((Utf.put (zs.take j)).length : Int) == (k : Int)) = true := by simp; omega
          have HCE := Lib.hid hce.2
          have hjc : j ≤ cap0 := by omega
          clear hce hrd
          have HX := Lib.hid (first_any (HS.out.below hbel (Nat.le_refl _)) j hj)
          go_wp2_with fail
          refine (same_is _ _ _ _ _ _ rl (zs.take j) true _ HRL.out HX.out (by rw [HCE.out]; simp)).mono ?_
          rintro e w8 ⟨rfl, q, rfl⟩
          go_wp2
          go_ret
          exact ⟨rfl, below_drewN hbel q⟩
        · have hne := cut_none zs k j HG.out hrd
          have hnk : (((Utf.put (zs.take j)).length : Int) == (k : Int)) = false := by simp; omega
          clear hne hrd
          go_wp2
          go_ret
          exact ⟨rfl, hbel⟩
  · have hi0 : per = 0 ∨ per = 10 := by
      obtain ⟨_, _, h⟩ | ⟨_, _, h⟩ := id hp
      · exact .inl h
      · exact .inr h
    clear hp
    rcases hi0 with rfl | rfl
    · have hi1 : decide ((1000 : Int) < (len0 : Int)) = true := by simp; omega
      clear hok
      go_enter Try.func9, Try.ntmps9
      go_wp2_with fail
      refine (awake_any _).mono ?_
      rintro e w1 ⟨rfl, B1⟩
      go_wp2_with fail
      refine (put_gen _ _ _ zs _ _ _ HP.out (HS.out.below B1 (Nat.le_refl _)) (by omega)).mono ?_
      rintro e w2 ⟨a2, c2, rfl, hs2, hb2⟩
      have B2 : Below w.heap.size w w2 := B1.trans (hb2.mono B1.size)
      clear hs2
      go_wp2
      go_ret
      exact ⟨rfl, B2⟩
    · clear hok
      go_enter Try.func9, Try.ntmps9
      go_wp2_with fail
      refine (awake_any _).mono ?_
      rintro e w1 ⟨rfl, B1⟩
      go_wp2_with fail
      refine (put_gen _ _ _ zs _ _ _ HP.out (HS.out.below B1 (Nat.le_refl _)) (by omega)).mono ?_
      rintro e w2 ⟨a2, c2, rfl, hs2, hb2⟩
      have B2 : Below w.heap.size w w2 := B1.trans (hb2.mono B1.size)
      clear hs2
      go_wp2
      go_ret
      exact ⟨rfl, B2⟩

/-! ### THE ROW's STEP: WRITTEN OUT: LEAVE IT -/
set_option maxRecDepth 100000 in
theorem lifted (os : Os) (started : os.Started) (H : Type) (enc : TypeId × Value → H) :
    ReturnsInHanded {} Try.checked os 9 .any (Rows.utfCutsSpec.pre6 enc Try.prog Try.f9 Rows.utfCutsRow.domain false) (Rows.utfCutsSpec.post enc Try.prog Try.f9 false true false false) := by
  refine returnsInHanded_of_change_sized (C := Try.checked) own started (by kernel_rfl) Try.func9
    (ChangeSpec.witness6 (enc := enc) (C := Try.checked) false ⟨#[], #[.slice none 0 0, .int .u16 0], []⟩ 8 (by kernel_rfl) (by kernel_rfl) (by kernel_rfl) (by kernel_rfl)) ?_
  intro W base args ds gs before hval0 hW hcnd hsz0 _
  have hsz : (DataW.weightsEach Try.prog (Try.f9.params.toList ++ Rows.utfCutsSpec.plain.varTypes Try.prog) (ds ++ gs)).all (· ≤ reachBytes) = true := hsz0
  clear hsz0
  have hval : ∀ (j : Nat) t v, Try.f9.params[j]? = some t → args[j]? = some v → Value.okWide Try.prog W .any base t v := hval0
  have hW' := hW
  obtain ⟨p, q, hA0, hV, rfl, hfz, hnd⟩ := hW
  have hA : DataW.TrodAll enc Try.prog W 0 (fun _ => true) true Try.f9.params.toList args.toList ds p := hA0
  rw [Try.params9] at hA hval hsz
  obtain ⟨v0, vs0, d0, ds0, p0, q0, hargs, rfl, rfl, h0, r0⟩ := trodAll_cons hA
  obtain ⟨v1, vs1, d1, ds1, p1, q1, rfl, rfl, rfl, h1, r1⟩ := trodAll_cons r0
  obtain ⟨rfl, rfl, rfl⟩ := trodAll_nil r1
  obtain rfl : args = #[v0, v1] := by cases args; simp_all
  obtain ⟨rfl, rfl⟩ := trodVars_none hV
  obtain ⟨a0, len0, cap0, rfl⟩ := okWide_slice Try.underlying22 (hval 0 22 v0 rfl rfl)
  have k0 := h0
  have lt0 : ∀ x ∈ p0, x.block < W.heap.size := by obtain ⟨m, hm⟩ := k0; exact DataW.trod_lt m _ _ _ hm
  obtain ⟨z0, w0, hr0⟩ : ∃ zs, IsRow .i64 W a0 len0 cap0 zs ∧ len0 * 8 ≤ 140737488351232 := by
    obtain ⟨fuel, hf⟩ := h0
    rcases open_ints Try.underlying22 Try.underlying3 (by kernel_rfl) hf with ⟨hcs, _⟩ | ⟨x, l, c, zs, hcs, _, hl, hm, hz, hx, hcell, hwz⟩
    · simp [Value.cells] at hcs
      obtain ⟨rfl, rfl, rfl⟩ := hcs
      exact ⟨[], .inl ⟨rfl, rfl, rfl, rfl⟩, by omega⟩
    · simp [Value.cells] at hcs
      obtain ⟨rfl, rfl, rfl⟩ := hcs
      simp only [Prod.mk.injEq] at hx
      obtain ⟨rfl, rfl⟩ := hx
      have hz' : zs.length = cap0 := by simpa using hz
      have hb8 : Try.prog.bytesOf 3 = 8 := by kernel_rfl
      have := sized_slice hsz (j := 0) (t := 22) (e := 3) rfl rfl Try.underlying22
      rw [hb8] at this
      simp only [lits, List.length_map, List.length_take, List.length_drop, reachBytes] at this
      exact ⟨zs, .inr ⟨_, rfl, hl, hm, hz', hcell, hwz⟩, by omega⟩
  obtain ⟨a1, rfl, rfl, rfl, w1⟩ := open_int Try.underlying39 (hval 1 39 v1 rfl rfl) h1
  clear hA0 hval0
  refine (walk a0 len0 cap0 z0 a1 W w0 hr0 w1).mono fun e W' ⟨he, bel⟩ => ?_
  subst he
  exact ⟨_, rfl, _, _, _, [], _, [], hW', trodAll_mk1 (shut_bool Try.underlying4 _), (trodAll_cons_mk (Below.trod laidOut (by kernel_rfl) (of_decide_eq_true (by kernel_rfl)) k0 bel lt0) (trodAll_cons_mk (shut_int Try.underlying39 w1) trodAll_mk0)), rfl, bel.frame _, fun h => by cases h⟩

theorem over : Rows.utfCutsRow.holds Try.pinned (OpenSpec.ofChange Rows.utfCutsSpec) :=
  OpenClaim.holds_of_wide 9 Try.f9 rfl rfl rfl rfl rfl rfl rfl ⟨rfl, rfl, rfl, rfl, rfl⟩ rfl rfl rfl rfl rfl (by kernel_rfl) Try.func9 (by kernel_rfl)
    (of_decide_eq_true (by kernel_rfl)) (by unfold Func.isWrapper; first | (rw [if_pos (by decide +kernel)]; kernel_rfl) | (rw [if_neg (by decide +kernel)]; exact ⟨rfl, rfl⟩))
    (fun os started H enc _ => lifted os started H enc)

/-- ████ THE STATEMENT ████ -/
theorem proved : Rows.UtfCutsSaid := over
#print axioms proved
end Go.Proofs.Ytkamlhkieblnoaa.utfCuts
