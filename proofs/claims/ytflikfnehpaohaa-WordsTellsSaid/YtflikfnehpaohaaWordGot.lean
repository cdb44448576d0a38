/- The program's Read of layer 9. -/
import Derived.Test.YtflikfnehpaohaaWordRead
namespace Go.Proofs.Ytflikfnehpaohaa
open Go.RowKit

set_option maxRecDepth 100000 in
theorem splitA_le : ∀ (b cur : List Int), ∀ x ∈ Line.splitA cur b, x.length ≤ cur.length + b.length
  | [], cur => by
    unfold Line.splitA
    split <;> simp
  | c :: b, cur => by
    unfold Line.splitA
    split
    · intro x hx
      rcases List.mem_cons.1 hx with rfl | hx
      · simp
      · have := splitA_le b [] x hx; simp at this ⊢; omega
    · intro x hx
      have := splitA_le b (cur ++ [c]) x hx
      simp at this ⊢; omega
set_option maxRecDepth 100000 in
theorem split_le (b : List Int) : ∀ x ∈ Line.split b, x.length ≤ b.length := fun x hx => by
  have := splitA_le b [] x hx; simpa using this
set_option maxRecDepth 100000 in
theorem ins_len_old {o : List (List Int)} {z : List Int} {xs : List Wd} {n : Nat} (h : nums xs = ins o z) (hl : xs.length = n) : (ins o z).length = n := by
  rw [← h, nums_length, hl]

set_option maxHeartbeats 12800000 in
set_option maxRecDepth 100000 in
theorem wread_is (a0 : Option Addr) (n0 cap0 : Nat) (zs : List Int) (g : Wl.Got) (w : World) (hs : Sl .u8 w a0 n0 cap0 zs) (hnil : a0 = none → cap0 = 0) (hn : n0 ≤ 1000000) (hr : Wl.read zs = g) :
    Calls Try.prog 10 #[.slice a0 n0 cap0] w fun e w' => GotW w w' e g := by
  have HS := Lib.hid hs
  have HNIL := Lib.hid hnil
  have HSH : Hid (∀ x ∈ Line.split zs, x.length ≤ 1000000) := fun x hx => by have := split_le zs x hx; have := hs.1; omega
  obtain ⟨ls, hls⟩ : ∃ ls, Line.split zs = ls := ⟨_, rfl⟩
  unfold Wl.read at hr
  rw [hls] at hr
  have HR := Lib.hid hr
  have HLS := Lib.hid hls
  clear hs hnil hr hls
  go_enter Try.func10, Try.ntmps10
  go_wp2_with fail
  refine (split_own a0 n0 cap0 zs _ HS.out HNIL.out hn).mono ?_
  rintro e w1 ⟨la, M, lc, rows, rfl, hrows, hbn, -, hb1, hform⟩
  have HB1 := Lib.hid hb1
  have HROWS := Lib.hid hrows
  have HBN : Hid (bnums rows = ls) := by show _ = _; rw [hbn, HLS.out]
  have HFORM := Lib.hid hform
  have HLM : Hid (ls.length = M) := by show _ = _; rw [← HBN.out, bnums_length, hrows.1]
  have hlcm := hrows.2.2.1
  have hMlc := hrows.2.1
  unfold maxLen at hlcm
  clear hrows hbn hform hb1
  go_wp2
  go_loopw [5, 14] (fun rv ix wr => ∃ (i : Nat) (a1 : Option Addr) (n1 c1 : Nat) (xs : List Wd), i ≤ M ∧ rv = .slice a1 n1 c1 ∧ ix = .int .i64 (i : Int) ∧ n1 ≤ 300 ∧ Hid (Held w1.heap.size wr a1 n1 c1 xs) ∧ Hid (Rise (nums xs)) ∧ Hid (Below w1.heap.size w1 wr) ∧ Hid (Wl.readA i (nums xs) (ls.drop i) = g)) (fun _ ix _ => M - (intOf ix).toNat)
  case atStart =>
    refine ⟨0, none, 0, 0, [], Nat.zero_le _, rfl, rfl, by omega, Held.nil _ _, List.Pairwise.nil, Below.refl _ _, ?_⟩
    show Wl.readA 0 [] (ls.drop 0) = g
    rw [List.drop_zero]; exact HR.out
  case round =>
    obtain ⟨i, a1, n1, c1, xs, hi, rfl, rfl, hn1, HH, HRI, HBW, HREAD⟩ := hrel
    by_cases hlt : i < M
    · obtain ⟨b1, o1, za, zn, zc, z, rfl, hb1, hgd, hcl, hsl, hz⟩ := (HROWS.out.below HBW.out (Nat.le_refl _)).one i hlt
      have hb1' : b1 < wr.heap.size := hb1
      have hzl : ls.getD i [] = z := by rw [← HBN.out]; exact hz
      have hzin : z ∈ ls := by rw [← hzl, List.getD_eq_getElem?_getD, List.getElem?_eq_getElem (by rw [HLM.out]; exact hlt), Option.getD_some]; exact List.getElem_mem _
      have hznl : zn ≤ 1000000 := by have h1 := HSH.out z (by rw [HLS.out]; exact hzin); have : z.length = zn := hsl.1; omega
      have HZN : Hid (za = none → zc = 0) := fun e => by
        have hm : rows.getD i Bd.no ∈ rows := by rw [List.getD_eq_getElem?_getD, List.getElem?_eq_getElem (by rw [HROWS.out.1]; exact hlt), Option.getD_some]; exact List.getElem_mem _
        obtain ⟨b, hb⟩ := HFORM.out _ hm
        rw [hgd] at hb
        simp only at hb
        rw [e] at hb; cases hb
      have HSTEP := Lib.hid (wread_step HREAD.out (by rw [HLM.out]; exact hlt) hzl)
      have HSL := Lib.hid hsl
      have hlti : (i : Int) < (M : Int) := by omega
      have hi0 : (0 : Int) ≤ (i : Int) := by omega
      have HA : ∀ ob W, Below (wr.alloc ob).heap.size (wr.alloc ob) W → Hid (W.heap[wr.heap.size]? = some ob ∧ Below wr.heap.size wr W ∧ wr.heap.size < W.heap.size) := fun ob W h => by
        have e1 : (wr.alloc ob).heap.size = wr.heap.size + 1 := World.size_alloc wr ob
        exact ⟨(h.block _ (by omega)).trans (heap_alloc_new wr ob), ((Below.refl _ wr).alloc (Nat.le_refl _) ob).trans (h.mono (by omega)), by have := h.size; omega⟩
      obtain ⟨q, hq⟩ : ∃ q, Line.bare z = q := ⟨_, rfl⟩
      have HQ := Lib.hid hq
      have HCL := Lib.hid hcl
      clear hsl hz hzl hzin hgd hq
      cases q
      · obtain ⟨⟨l, er⟩, hp⟩ : ∃ p, Wl.word z = p := ⟨_, rfl⟩
        have HP := Lib.hid hp
        have HST2 : Hid ((if er ≠ 0 then (⟨[], (i : Int), er⟩ : Wl.Got) else if 300 < (ins (nums xs) l).length then ⟨[], (i : Int), 81⟩ else Wl.readA (i + 1) (ins (nums xs) l) (ls.drop (i + 1))) = g) := by
          have h := HSTEP.out
          rw [HQ.out, if_neg (by decide), hp] at h
          exact h
        clear hp HSTEP
        go_wp2_with fail
        refine (bare_any za zn zc z _ (HSL.out.alloc _) HZN.out hznl).mono ?_
        rintro e w2 ⟨he, hb2⟩
        rw [HQ.out] at he
        subst he
        obtain ⟨hbx2, hbw2, hsz2⟩ := (HA _ w2 hb2).out
        have HX2 : Hid (w2.heap[wr.heap.size]? = some (.cells #[Value.int .i64 (i : Int)] 3 (0, 0))) := hbx2
        have hbx2c : w2.cell? ⟨wr.heap.size, 0, none⟩ = some (.int .i64 (i : Int)) := by simp [World.cell?, hbx2]
        have hcl2 : w2.cell? ⟨b1, o1 + i, none⟩ = some (.slice za zn zc) := by rw [hbw2.cell (p := ⟨b1, o1 + i, none⟩) hb1']; exact HCL.out
        have HBW2 := Lib.hid hbw2
        have HSZ2 := Lib.hid hsz2
        have HSL2 : Hid (Sl .u8 w2 za zn zc z) := HSL.out.below hbw2 (Nat.le_refl _)
        clear hb2 hbx2 hbw2 hsz2 hcl
        go_wp2_with fail
        refine (readWord_is za zn zc z (l, er) w2 HSL2.out HZN.out hznl HP.out).mono ?_
        rintro e w3 ⟨a3, c3, rfl, hs3, hfar, hb3⟩
        have HB3 : Hid (Below wr.heap.size wr w3) := HBW2.out.trans (hb3.mono (by have := HSZ2.out; omega))
        have hX3 : w3.heap[wr.heap.size]? = some (.cells #[Value.int .i64 (i : Int)] 3 (0, 0)) := (hb3.block _ (by have := HSZ2.out; exact this)).trans HX2.out
        have HX3A : ∀ ob, Hid ((w3.alloc ob).cell? ⟨wr.heap.size, 0, none⟩ = some (.int .i64 (i : Int))) := fun ob => by
          have h1 : w3.cell? ⟨wr.heap.size, 0, none⟩ = some (.int .i64 (i : Int)) := by simp [World.cell?, hX3]
          show _ = _
          rw [World.cell?_alloc_old _ _ _ (by show wr.heap.size ≠ w3.heap.size; have := cell_lt h1; omega)]; exact h1
        have HS3 : ∀ ob, Hid (Sl .i64 (w3.alloc ob) a3 l.length c3 l) := fun ob => hs3.alloc ob
        have HFAR : Hid (∀ k, k < w2.heap.size → (⟨a3, l.length, c3, l⟩ : Wd).Far (some k)) := hfar
        have HHA : ∀ ob, Hid (Held w1.heap.size (w3.alloc ob) a1 n1 c1 xs) := fun ob => HH.out.below (HB3.out.alloc HB3.out.size ob)
        have HBA : ∀ ob, Hid (Below w1.heap.size w1 (w3.alloc ob)) := fun ob => HBW.out.trans ((HB3.out.alloc HB3.out.size ob).mono HBW.out.size)
        have hl3 := hs3.2.1
        have hm3 := hs3.2.2.1
        unfold maxLen at hm3
        simp only at hl3 hm3
        clear hb3 hs3 hfar hX3 hbx2c hcl2
        simp only at *
        by_cases he0 : er = 0
        · subst he0
          have HST3 : Hid ((if 300 < (ins (nums xs) l).length then (⟨[], (i : Int), 81⟩ : Wl.Got) else Wl.readA (i + 1) (ins (nums xs) l) (ls.drop (i + 1))) = g) := by
            have h := HST2.out
            rw [if_neg (by simp)] at h
            exact h
          have HFA : Hid ((⟨a3, l.length, c3, l⟩ : Wd).Far (Value.slice a1 n1 c1).ownBlock) := by
            cases hob : (Value.slice a1 n1 c1).ownBlock with
            | none => exact Wd.Good.far (w := w3.alloc (.cells #[] 0)) (x := ⟨a3, l.length, c3, l⟩) (HS3 _).out (by simp)
            | some b => exact HFAR.out b (by have := (HH.out.1.lt b hob).2; have := HSZ2.out; omega)
          clear HST2
          go_wp2_with fail
          refine (with_is w1.heap.size a1 n1 c1 xs a3 l.length c3 l _ (HHA _).out (by omega) HRI.out (HS3 _).out HFA.out (HBA _).out.size).mono ?_
          rintro e w4 ⟨a4, n4, c4, ys, rfl, hh4, hn4, hgr4, -⟩
          have HH4 := Lib.hid hh4
          have HN4 := Lib.hid hn4
          have HL4 : Hid ((ins (nums xs) l).length = n4) := ins_len_old hn4 hh4.length
          have HB4 : Hid (Below w1.heap.size w1 w4) := (HBA _).out.grown hgr4 (HBA _).out.size (fun k hk => ((HHA (.cells #[] 0)).out.1.lt k hk).1)
          have hbx4 : w4.cell? ⟨wr.heap.size, 0, none⟩ = some (.int .i64 (i : Int)) := hgr4.cell (HX3A _).out (fun e => by
            have := (HH.out.1.lt _ e.symm).2
            simp at this)
          have hnc4 := hh4.ws.2.1
          have hcm4 := hh4.ws.2.2.1
          unfold maxLen at hcm4
          clear hh4 hn4 hgr4
          by_cases h300 : 300 < n4
          · have h300i : (300 : Int) < (n4 : Int) := by omega
            have HEND : Hid ((⟨[], (i : Int), 81⟩ : Wl.Got) = g) := by
              have h := HST3.out
              rw [if_pos (by rw [HL4.out]; exact h300)] at h; exact h
            go_wp2_with fail
            refine (readC_is 81 wr.heap.size i w4 hbx4).mono ?_
            rintro e w5 ⟨rfl, hq5⟩
            have HB5 := Lib.hid (below_drawn HB4.out hq5)
            clear hq5
            go_wp2
            go_ret3
            rw [← HEND.out]
            exact ⟨none, 0, 0, [], rfl, Ws.nil, rfl, fun _ => rfl, HB1.out.trans (HB5.out.mono HB1.out.size)⟩
          · have h300i : ¬ (300 : Int) < (n4 : Int) := by omega
            have HEND : Hid (Wl.readA (i + 1) (nums ys) (ls.drop (i + 1)) = g) := by
              have h := HST3.out
              rw [if_neg (by rw [HL4.out]; exact h300), ← HN4.out] at h; exact h
            have HRY : Hid (Rise (nums ys)) := by rw [HN4.out]; exact rise_ins HRI.out
            go_wp2
            go_roundw
            case rel => exact ⟨i + 1, a4, n4, c4, ys, by omega, rfl, by go_num, by omega, HH4.out, HRY.out, HB4.out, HEND.out⟩
            case measure => simp [intOf]; omega
        · have hne : (er != 0) = true := by simpa using he0
          have HEND : Hid ((⟨[], (i : Int), er⟩ : Wl.Got) = g) := by
            have h := HST2.out
            rw [if_pos he0] at h; exact h
          go_wp2_with fail
          refine (readC_is er wr.heap.size i _ (HX3A _).out).mono ?_
          rintro e w5 ⟨rfl, hq5⟩
          have HB5 := Lib.hid (below_drawn (HBA _).out hq5)
          clear hq5
          go_wp2
          go_ret3
          rw [← HEND.out]
          exact ⟨none, 0, 0, [], rfl, Ws.nil, rfl, fun _ => rfl, HB1.out.trans (HB5.out.mono HB1.out.size)⟩
      · have HST2 : Hid (Wl.readA (i + 1) (nums xs) (ls.drop (i + 1)) = g) := by
          have h := HSTEP.out
          rw [HQ.out, if_pos rfl] at h
          exact h
        clear HSTEP
        go_wp2_with fail
        refine (bare_any za zn zc z _ (HSL.out.alloc _) HZN.out hznl).mono ?_
        rintro e w2 ⟨he, hb2⟩
        rw [HQ.out] at he
        subst he
        obtain ⟨hbx2, hbw2, hsz2⟩ := (HA _ w2 hb2).out
        have HBW2 := Lib.hid hbw2
        clear hb2 hbx2 hbw2 hsz2 hcl
        go_wp2
        go_roundw
        case rel => exact ⟨i + 1, a1, n1, c1, xs, by omega, rfl, by go_num, hn1, HH.out.below HBW2.out, HRI.out, HBW.out.trans (HBW2.out.mono HBW.out.size), HST2.out⟩
        case measure => simp [intOf]; omega
    · obtain rfl : i = M := by omega
      have HEND : Hid ((⟨nums xs, -1, 0⟩ : Wl.Got) = g) := by
        have h := HREAD.out
        rw [← HLM.out, List.drop_length] at h
        exact h
      go_wp2
      go_ret3
      rw [← HEND.out]
      exact ⟨a1, n1, c1, xs, rfl, HH.out.ws, rfl, HH.out.2.2, HB1.out.trans (HBW.out.mono HB1.out.size)⟩

end Go.Proofs.Ytflikfnehpaohaa
