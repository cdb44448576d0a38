/- Used by the law. -/
import Derived.Test.YtjmabjeaodojeaaGreatPackN
import Derived.Test.YtjmabjeaodojeaaGreatSpecWriteW
import Derived.Test.YtjmabjeaodojeaaGreatPackI
namespace Go.Proofs.YtjmabjeaodojeaaGreat
open Go.RowKit

def Grow1 (base : Nat) (w : World) (v : Value) (n : Nat) (xs : List Int) : Prop :=
  (∃ a, v = .slice a n n ∧ Sl .u8 w a n n xs ∧ 0 < n) ∨ w.ownsRow base 5 1 v n (u8s xs)
theorem Grow1.below {base : Nat} {w w' : World} {v : Value} {n : Nat} {xs : List Int} (h : Grow1 base w v n xs) {B : Nat} (hb : Below B w w') (hB : w.heap.size ≤ B) : Grow1 base w' v n xs := by
  rcases h with ⟨a, h1, h2, h3⟩ | h
  · exact .inl ⟨a, h1, h2.below hb hB, h3⟩
  · exact .inr (ownsRow_below h hb hB)
theorem Grow1.alloc {base : Nat} {w : World} {v : Value} {n : Nat} {xs : List Int} (h : Grow1 base w v n xs) (o : Obj) : Grow1 base (w.alloc o) v n xs :=
  h.below (B := w.heap.size) ((Below.refl _ w).alloc (Nat.le_refl _) o) (Nat.le_refl _)
theorem Grow1.slice {base : Nat} {w : World} {v : Value} {n : Nat} {xs : List Int} (h : Grow1 base w v n xs) : ∃ a c, v = .slice a n c ∧ (a = none → c = 0) := by
  rcases h with ⟨a, h1, h2, h3⟩ | h
  · obtain ⟨b, off, e, _⟩ := h2.at h3
    exact ⟨a, n, h1, fun h => by rw [h] at e; cases e⟩
  · exact owns_form h
set_option maxRecDepth 100000 in
theorem append_grow {w : World} {ops : Array Oper} {rest : List Oper} {o : Oper} {act : Act} {Q : Exit → Act → World → Prop} (hg : o.guard = none) (s x : Operand)
    (ho : o.op = .call { callee := .builtin .append, args := #[s, x], argTypes := #[22, 22] }) (base : Nat) (v : Value) (n : Nat) (xs : List Int) (hs : act.eval s = v)
    (hG : Grow1 base w v n xs) (b : Option Addr) (m c : Nat) (zs : List Int) (hx : act.eval x = .slice b m c) (hz : Sl .u8 w b m c zs) (hm : 0 < m)
    (N : Nat) (hN : n + m = N) (h63 : N ≤ 1000000000) (hbase : base ≤ w.heap.size)
    (h : ∀ a' c' w', w'.ownsRow base 5 1 (.slice a' N c') N (u8s (xs ++ zs)) → Below base w w' → (a' = none → c' = 0) → wpList Tryz.prog ops Q rest (act.put o.dst (.slice a' N c')) w') :
    wpList Tryz.prog ops Q (o :: rest) act w := by
  rcases hG with ⟨a, rfl, h2, h3⟩ | hG
  · exact append_full hg s x ho base a n xs hs h2 h3 b m c zs hx hz hm N hN h63 hbase h
  · exact append_bytes (by simp [Region.wanted, hg]) s x ho base v n xs hs hG b m c zs hx hz N hN h63 hbase h

def Buf (w0 W : World) (g : Nat) (zs : List Int) : Prop :=
  ∃ a c, W.heap[g]? = some (.cells #[.slice a zs.length c] 22 (0, 0)) ∧ W.ownsRow (g + 1) 5 1 (.slice a zs.length c) zs.length (u8s zs) ∧ (a = none → c = 0) ∧ w0.heap.size ≤ g ∧ g + 1 ≤ W.heap.size ∧ Below w0.heap.size w0 W
theorem Buf.below {w0 W W' : World} {g : Nat} {zs : List Int} (h : Buf w0 W g zs) (hb : Below W.heap.size W W') : Buf w0 W' g zs := by
  obtain ⟨a, c, h1, h2, h3, h4, h5, h6⟩ := h
  exact ⟨a, c, (hb.block g (by omega)).trans h1, ownsRow_below h2 hb (Nat.le_refl _), h3, h4, Nat.le_trans h5 hb.size, h6.trans (hb.mono (by omega))⟩

set_option maxRecDepth 100000 in
set_option maxHeartbeats 3200000 in
theorem end_is (w0 W : World) (g : Nat) (zs : List Int) (hB : Buf w0 W g zs) (a : Option Addr) (m c : Nat) (ys : List Int) (hs : Sl .u8 W a m c ys) (ha : a = none → c = 0) (hlim : zs.length + m ≤ 1000000) :
    Calls Tryz.prog 19 #[.slice a m c, .pointer (some ⟨g, 0, none⟩)] W fun e w' => e = .returned (.tuple #[]) ∧ Buf w0 w' g (zs ++ ys ++ [10]) := by
  obtain ⟨pa, pc, hh, hown, hnil, hwg, hgW, hb⟩ := hB
  obtain ⟨n, hn⟩ : ∃ n, zs.length = n := ⟨_, rfl⟩
  rw [hn] at hh hown hlim
  have hml : ys.length = m := hs.1
  obtain ⟨N1, hN1⟩ : ∃ N, n + m = N := ⟨_, rfl⟩
  obtain ⟨N2, hN2⟩ : ∃ N, N1 + 1 = N := ⟨_, rfl⟩
  have HLEN : Hid ((zs ++ ys ++ [10]).length = N2) := by show _ = _; simp; omega
  have hc0 : W.cell? ⟨g, 0, none⟩ = some (.slice pa n pc) := by simp [World.cell?, hh]
  have HHG := Lib.hid hh
  have HOWN := Lib.hid hown
  have HS := Lib.hid hs
  have HA := Lib.hid ha
  have HB := Lib.hid hb
  have HWG := Lib.hid hwg
  have HGW := Lib.hid hgW
  clear hh hown hs ha hb hnil hwg hgW hn hml
  go_enter Tryz.func19, Tryz.ntmps19
  go_wp2_with first
    | (at_builtin; refine append_bytes (by rfl) (.tmp 3) (.tmp 4) (by rfl) (g + 1) _ n zs (by rfl) HOWN.out a m c ys (by rfl) HS.out N1 hN1 (by omega) HGW.out ?_
       intro a3 c3 w3 hown3 hb3 hnil3
       have HO3 := Lib.hid hown3
       have HB3 := Lib.hid hb3
       have HZ3 : Hid (g + 1 ≤ w3.heap.size) := Nat.le_trans HGW.out hb3.size
       clear hown3 hb3 hnil3)
    | (at_builtin; refine append_bytes (by rfl) (.tmp 5) (.tmp 6) (by rfl) (g + 1) _ N1 (zs ++ ys) (by rfl) (HO3.out.alloc _) (some ⟨w3.heap.size, 0, none⟩) 1 1 [10] (by rfl) (Sl.newB [10] (by decide) (by unfold maxLen; simp) rfl rfl rfl) N2 hN2 (by omega) (Nat.le_trans HZ3.out (by simp)) ?_
       intro a4 c4 w4 hown4 hb4 hnil4
       have HO4 := Lib.hid hown4
       have HN4 := Lib.hid hnil4
       have HB4 : Hid (Below (g + 1) W w4) := HB3.out.trans (((Below.refl (g + 1) w3).alloc HZ3.out _).trans hb4)
       have hh4 : w4.heap[g]? = some (.cells #[.slice pa n pc] 22 (0, 0)) := (HB4.out.block g (Nat.lt_succ_self g)).trans HHG.out
       have HH4 := Lib.hid hh4
       have hc4 : w4.cell? ⟨g, 0, none⟩ = some (.slice pa n pc) := by simp [World.cell?, hh4]
       have hf4 : w4.frozen? ⟨g, 0, none⟩ = false := by simp [World.frozen?, hh4]
       clear hown4 hb4 hnil4 hh4)
  go_end0
  refine ⟨rfl, a4, c4, ?_, ?_, HN4.out, HWG.out, ?_, ?_⟩
  · rw [HLEN.out, heap_setCell_same _ _ _ _ _ _ HH4.out]; rfl
  · rw [HLEN.out]
    refine HO4.out.kept (w' := w4.setCell ⟨g, 0, none⟩ (.slice a4 N2 c4)) (row := some g) ⟨rfl, rfl, rfl, by simp, fun k _ hk => heap_setCell_other _ _ _ _ (fun e => hk (by rw [e]))⟩ ?_
    cases a4 with
    | none => exact .inl rfl
    | some p =>
      refine .inr fun e => ?_
      obtain e' : p.block = g := Option.some.inj e
      have := (HO4.out.lt p.block rfl).1
      omega
  · have h1 := HB4.out.size
    have h2 := HGW.out
    simp; omega
  · refine Below.setCell (p := ⟨g, 0, none⟩) (HB.out.trans (HB4.out.mono ?_)) HWG.out _
    have := HWG.out; omega

def baseUp (b : List Int) (i : Nat) : List Int := Spec.wBASE ++ (b.take i).flatMap fun x => 32 :: Num.dig x.toNat
theorem baseUp_next {b : List Int} {i : Nat} {x : Int} (h : i < b.length) (hx : b.getD i 0 = x) : baseUp b (i + 1) = baseUp b i ++ [32] ++ Num.dig x.toNat := by
  unfold baseUp
  rw [List.take_succ_eq_append_getElem h, List.flatMap_append, List.getD_eq_getElem?_getD, List.getElem?_eq_getElem h, Option.getD_some] at *
  rw [hx]; simp
theorem baseUp_all (b : List Int) : baseUp b b.length = File.baseLine b := by unfold baseUp File.baseLine; rw [List.take_length]

set_option maxHeartbeats 3200000 in
set_option maxRecDepth 100000 in
theorem fbaseLine_is (c : Cw) (w : World) (hc : c.Good w) :
    Calls Tryz.prog 20 #[c.v] w fun e w' => ∃ a' n c', e = .returned (.slice a' n c') ∧ n = (File.baseLine c.base).length ∧ Sl .u8 w' a' n c' (File.baseLine c.base) ∧ (a' = none → c' = 0) ∧ Below w.heap.size w w' ∧ n ≤ 1000 := by
  obtain ⟨m, l, o, t, a, n, cap, xs⟩ := c
  have HC := Lib.hid hc
  have HBG : Hid (∀ x ∈ ([m, l, o, t] : List Int), 0 ≤ x ∧ x < 18446744073709551616) := hc.2
  have HB0 : ∀ oa ob : Obj, Hid (Below w.heap.size w ((w.alloc oa).alloc ob) ∧ ((w.alloc oa).alloc ob).heap.size = w.heap.size + 2) := fun oa ob => ⟨((Below.refl _ w).alloc (Nat.le_refl _) oa).alloc (by rw [World.size_alloc]; omega) ob, by rw [World.size_alloc, World.size_alloc]⟩
  have HLW : ∀ A fr, Hid (Sl .u8 ((w.alloc A).alloc (.cells #[.int .u8 66, .int .u8 65, .int .u8 83, .int .u8 69] 5 fr)) (some ⟨w.heap.size + 1, 0, none⟩) 4 4 [66, 65, 83, 69]) := fun A fr =>
    Sl.newB [66, 65, 83, 69] (by decide) (by unfold maxLen; simp) (by rw [World.size_alloc]) rfl rfl
  clear hc
  have HB : Hid (([m, l, o, t] : List Int).length = 4) := rfl
  obtain ⟨bs, hbs⟩ : ∃ bs, ([m, l, o, t] : List Int) = bs := ⟨_, rfl⟩
  have HBS := Lib.hid hbs
  rw [hbs] at HBG HB
  simp only [Cw.v, Cw.cells, Cw.base]
  clear hbs
  have kc := conv_const1 w
  go_enter Tryz.func20, Tryz.ntmps20
  go_wp2_with fail
  refine (baseSteps_is ⟨m, l, o, t, a, n, cap, xs⟩ _ (((HC.out.alloc _).alloc _))).mono ?_
  rintro e w1 ⟨g, rfl, hg, hb1⟩
  rw [show Cw.base ⟨m, l, o, t, a, n, cap, xs⟩ = bs from HBS.out] at hg
  have HSG := Lib.hid hg
  have HL1 : Hid (Sl .u8 w1 (some ⟨w.heap.size + 1, 0, none⟩) 4 4 [66, 65, 83, 69]) := (HLW _ _).out.below hb1 (Nat.le_refl _)
  have HW1 : Hid (Below w.heap.size w w1 ∧ w.heap.size + 2 ≤ w1.heap.size) := ⟨(HB0 _ _).out.1.trans (hb1.mono (by rw [(HB0 _ _).out.2]; omega)), by have := hb1.size; rw [(HB0 _ _).out.2] at this; exact this⟩
  clear hg hb1 kc
  go_wp2
  go_loopw [3, 11] (fun lv ix wr => ∃ (i N : Nat), i ≤ 4 ∧ ix = .int .i64 (i : Int) ∧ N ≤ 4 + i * 40 ∧ Hid ((baseUp bs i).length = N) ∧ (∃ a c, lv = .slice a N c) ∧ Hid (Grow1 w1.heap.size wr lv N (baseUp bs i)) ∧ Hid (Below w1.heap.size w1 wr)) (fun _ ix _ => 4 - (intOf ix).toNat)
  case atStart =>
    exact ⟨0, 4, by omega, rfl, by omega, rfl, ⟨_, _, rfl⟩, .inl ⟨_, rfl, HL1.out, by omega⟩, Below.refl _ _⟩
  case round =>
    obtain ⟨i, N, hi, rfl, hN, HLN, ⟨a1, c1, rfl⟩, HGR, HBW⟩ := hrel
    by_cases hlt : i < 4
    · obtain ⟨gb, go, hga, hgb, hgc⟩ := (HSG.out.below HBW.out (Nat.le_refl _)).at (by omega)
      obtain ⟨x, hx⟩ : ∃ x, bs.getD i 0 = x := ⟨_, rfl⟩
      have hcx := hgc i hlt
      rw [hx] at hcx
      simp only [Option.some.injEq, Addr.mk.injEq, and_true] at hga
      obtain ⟨rfl, rfl⟩ := hga
      rw [Nat.zero_add] at hcx
      have hxm : x ∈ bs := by
        rw [← hx, List.getD_eq_getElem?_getD, List.getElem?_eq_getElem (by rw [HB.out]; exact hlt), Option.getD_some]; exact List.getElem_mem _
      have hxb := HBG.out x hxm
      obtain ⟨d, hd⟩ : ∃ d : Nat, x = (d : Int) := ⟨x.toNat, by omega⟩
      subst hd
      have hdb : d < 18446744073709551616 := by omega
      have HUP : Hid (baseUp bs (i + 1) = baseUp bs i ++ [32] ++ Num.dig d) := by
        show _ = _
        rw [baseUp_next (by rw [HB.out]; exact hlt) hx]; simp
      have h20 := Num.len_20 hdb
      have hlti : (i : Int) < 4 := by omega
      have HDG : ∀ W, Hid (Calls Tryz.prog 50 #[.int .u64 d] W fun e w' => BytesIs W w' e (Num.dig d)) := fun W => write_any d hdb W
      have HZ : Hid (w1.heap.size ≤ wr.heap.size) := HBW.out.size
      have HDP : Hid (0 < (Num.dig d).length) := Num.dig_pos d
      obtain ⟨N1, hN1⟩ : ∃ N1, N + 1 = N1 := ⟨_, rfl⟩
      clear hgb hgc hx hxm hxb hdb
      go_wp2_with first
        | (at_builtin; refine append_grow (by rfl) (.tmp 15) (.tmp 16) (by rfl) w1.heap.size _ N (baseUp bs i) (by rfl) (HGR.out.alloc _) (some ⟨wr.heap.size, 0, none⟩) 1 1 [32] (by rfl) (Sl.newB [32] (by decide) (by unfold maxLen; simp) rfl rfl rfl) (by omega) N1 hN1 (by omega) (Nat.le_trans HZ.out (by simp)) ?_
           intro a3 c3 w3 hown3 hb3 hnil3
           have HO3 := Lib.hid hown3
           have HB3 : Hid (Below w1.heap.size w1 w3) := (HBW.out.alloc HZ.out _).trans hb3
           clear hown3 hb3 hnil3)
      refine (HDG w3).out.mono ?_
      rintro e w4 ⟨a4, n4, c4, rfl, hn4, hown4, hnil4, hb4⟩
      have HS4 : Hid (Sl .u8 w4 a4 n4 c4 (Num.dig d)) := Sl.of_owns (k := .u8) hown4 (Num.dig_wf d) (by rw [hn4])
      have HO4 : Hid (w4.ownsRow w1.heap.size 5 1 (.slice a3 N1 c3) N1 (u8s (baseUp bs i ++ [32]))) := ownsRow_below HO3.out hb4 (Nat.le_refl _)
      have HB4 : Hid (Below w1.heap.size w1 w4) := HB3.out.trans (hb4.mono HB3.out.size)
      have HZ4 : Hid (w1.heap.size ≤ w4.heap.size) := HB4.out.size
      have hn4' : n4 ≤ 20 := by omega
      have HN4 := Lib.hid hn4
      obtain ⟨N2, hN2⟩ : ∃ N2, N1 + n4 = N2 := ⟨_, rfl⟩
      clear hn4 hown4 hnil4 hb4
      go_wp2_with first
        | (at_builtin; refine append_bytes (by rfl) (.tmp 17) (.tmp 19) (by rfl) w1.heap.size _ N1 (baseUp bs i ++ [32]) (by rfl) HO4.out a4 n4 c4 (Num.dig d) (by rfl) HS4.out N2 hN2 (by omega) HZ4.out ?_
           intro a5 c5 w5 hown5 hb5 hnil5
           have HO5 := Lib.hid hown5
           have HB5 : Hid (Below w1.heap.size w1 w5) := HB4.out.trans hb5
           clear hown5 hb5 hnil5)
      go_roundw
      case rel =>
        refine ⟨i + 1, N2, by omega, by go_num, by omega, ?_, ⟨_, _, rfl⟩, ?_, HB5.out⟩
        · show _ = _
          rw [HUP.out]
          have := HLN.out
          have := HN4.out
          simp; omega
        · show Grow1 _ _ _ _ _
          rw [HUP.out]; exact .inr HO5.out
      case measure => simp [intOf]; omega
    · obtain rfl : i = 4 := by omega
      go_wp2
      go_ret
      have hup : baseUp bs 4 = File.baseLine bs := by rw [← HB.out]; exact baseUp_all bs
      have HG := HGR.out
      rw [hup] at HG
      have hln := HLN.out
      rw [hup] at hln
      obtain ⟨a6, c6, he, hnil⟩ := HG.slice
      cases he
      refine ⟨a1, N, c1, rfl, by rw [HBS.out]; exact hln.symm, ?_, hnil, HW1.out.1.trans (HBW.out.mono (by have := HW1.out.2; omega)), by omega⟩
      rw [HBS.out]
      have hwf : ∀ z ∈ File.baseLine bs, (Lit.int .u8 z).wf = true := by
        unfold File.baseLine
        intro z hz
        rcases List.mem_append.1 hz with hz | hz
        · unfold Spec.wBASE at hz; simp at hz; rcases hz with rfl | rfl | rfl | rfl <;> decide
        · obtain ⟨y, _, hz⟩ := List.mem_flatMap.1 hz
          rcases List.mem_cons.1 hz with rfl | hz
          · decide
          · exact Num.dig_wf _ z hz
      rcases HG with ⟨a7, he, h2, _⟩ | h
      · cases he; exact h2
      · exact Sl.of_owns (k := .u8) h hwf hln

def writeUp (c : File.Cst) (i : Nat) : List Int := File.baseLine c.base ++ [10] ++ (c.rules.take i).flatMap fun r => Spec.write r ++ [10]
theorem writeUp_next {c : File.Cst} {i : Nat} {r : Rul} (h : i < c.rules.length) (hr : c.rules.getD i Rul.no = r) : writeUp c (i + 1) = writeUp c i ++ Spec.write r ++ [10] := by
  unfold writeUp
  rw [List.take_succ_eq_append_getElem h, List.flatMap_append, List.getD_eq_getElem?_getD, List.getElem?_eq_getElem h, Option.getD_some] at *
  rw [hr]; simp
theorem writeUp_all (c : File.Cst) : writeUp c c.rules.length = File.write c := by
  unfold writeUp File.write File.lines
  rw [List.take_length, List.flatMap_cons, List.flatMap_map]
set_option maxRecDepth 100000 in
theorem info_costs : (Tryz.prog.info? 26).map (·.size) = some 5 := by kernel_rfl
theorem buf_new (w : World) : Buf w (w.alloc (.cells #[.slice none 0 0] 22 (0, 0))) w.heap.size [] :=
  ⟨none, 0, heap_alloc_new w _, ⟨rfl, .inl ⟨rfl, rfl⟩⟩, fun _ => rfl, Nat.le_refl _, by simp, (Below.refl _ w).alloc (Nat.le_refl _) _⟩
theorem Buf.size {w0 W : World} {g : Nat} {zs : List Int} (h : Buf w0 W g zs) : Below w0.heap.size w0 W := by obtain ⟨_, _, _, _, _, _, _, h⟩ := h; exact h
theorem Buf.read {w0 W : World} {g : Nat} {zs : List Int} (h : Buf w0 W g zs) (hw : ∀ z ∈ zs, (Lit.int .u8 z).wf = true) : ∃ a c, W.cell? ⟨g, 0, none⟩ = some (.slice a zs.length c) ∧ Sl .u8 W a zs.length c zs ∧ (a = none → c = 0) := by
  obtain ⟨a, c, h1, h2, h3, _⟩ := h
  exact ⟨a, c, by simp [World.cell?, h1], Sl.of_owns (k := .u8) h2 hw rfl, h3⟩
theorem lit_wf {l : List Int} (h : l.all (fun z => (Lit.int .u8 z).wf) = true) : ∀ z ∈ l, (Lit.int .u8 z).wf = true := fun z hz => List.all_eq_true.1 h z hz
set_option maxRecDepth 100000 in
theorem baseLine_wf (bs : List Int) : ∀ z ∈ File.baseLine bs, (Lit.int .u8 z).wf = true := by
  unfold File.baseLine
  intro z hz
  rcases List.mem_append.1 hz with hz | hz
  · unfold Spec.wBASE at hz; simp at hz; rcases hz with rfl | rfl | rfl | rfl <;> decide
  · obtain ⟨y, _, hz⟩ := List.mem_flatMap.1 hz
    rcases List.mem_cons.1 hz with rfl | hz
    · decide
    · exact Num.dig_wf _ z hz
set_option maxRecDepth 100000 in
theorem field_wf {l : List Int} (hg : Utf.allGood l = true) : ∀ z ∈ Spec.field l, (Lit.int .u8 z).wf = true := by
  unfold Spec.field
  split
  · exact lit_wf (by decide)
  · exact put_wf hg
set_option maxRecDepth 100000 in
theorem swrite_wf {r : Rul} (h : Spec.fit r = true) : ∀ z ∈ Spec.write r, (Lit.int .u8 z).wf = true := by
  obtain ⟨hc, _, _⟩ := Spec.fit_parts h
  obtain ⟨gl, gr, _⟩ := Spec.chk_sides hc
  unfold Spec.write
  intro z hz
  simp only [List.mem_append] at hz
  rcases hz with ((((hz | hz) | hz) | hz) | hz) | hz
  · exact lit_wf (l := [82, 69, 80, 32]) (by decide) z hz
  · exact field_wf gl z hz
  · exact lit_wf (l := [32]) (by decide) z hz
  · exact field_wf gr z hz
  · exact lit_wf (l := [32]) (by decide) z hz
  · exact Num.dig_wf _ z hz
set_option maxRecDepth 100000 in
theorem fwrite_wf {c : File.Cst} (h : ∀ r ∈ c.rules, Spec.fit r = true) : ∀ z ∈ File.write c, (Lit.int .u8 z).wf = true := by
  unfold File.write
  intro z hz
  obtain ⟨l, hl, hz⟩ := List.mem_flatMap.1 hz
  rcases List.mem_append.1 hz with hz | hz
  · unfold File.lines at hl
    rcases List.mem_cons.1 hl with rfl | hl
    · exact baseLine_wf _ z hz
    · obtain ⟨r, hr, rfl⟩ := List.mem_map.1 hl
      exact swrite_wf (h r hr) z hz
  · exact lit_wf (l := [10]) (by decide) z hz

set_option maxHeartbeats 6400000 in
set_option maxRecDepth 100000 in
theorem fwrite_is (c : Cw) (ok : Bool) (out : List Int) (er : Int) (w : World) (hc : c.Good w) (hok : File.check c.c = ok) (ho : (if ok = true then File.write c.c else []) = out) (he : (if ok = true then 0 else 60) = er) :
    Calls Tryz.prog 8 #[c.v] w fun e w' => ∃ a' n c', e = .returned (.tuple #[.slice a' n c', .int .i64 er]) ∧ n = out.length ∧ Sl .u8 w' a' n c' out ∧ (a' = none → c' = 0) ∧ Below w.heap.size w w' ∧ n ≤ 220000 := by
  have HBX : ∀ ob, ob = Obj.cells c.cells 26 (0, 0) → ∀ w1, Below (w.alloc ob).heap.size (w.alloc ob) w1 → Hid (w1.heap[w.heap.size]? = some (.cells c.cells 26 (0, 0)) ∧ Below w.heap.size w w1) := fun ob hob w1 h => box5_kept (c := c) hob h
  obtain ⟨m, l, o, t, a, n, cap, xs⟩ := c
  obtain ⟨cc, hcc⟩ : ∃ cc, Cw.c ⟨m, l, o, t, a, n, cap, xs⟩ = cc := ⟨_, rfl⟩
  have HCC := Lib.hid hcc
  have hrl : cc.rules = ruls xs := by rw [← hcc]; rfl
  have hbl : cc.base = Cw.base ⟨m, l, o, t, a, n, cap, xs⟩ := by rw [← hcc]; rfl
  have hnl : cc.rules.length = n := by rw [hrl, ruls_length, hc.1.1]
  have HRL := Lib.hid hrl
  have HBL := Lib.hid hbl
  have HNL := Lib.hid hnl
  rw [hcc] at hok ho
  have hncap : n ≤ maxLen := Nat.le_trans hc.1.2.1 hc.1.2.2.1
  unfold maxLen at hncap
  have HC := Lib.hid hc
  have HOK := Lib.hid hok
  have HO := Lib.hid ho
  have HE := Lib.hid he
  have HI : Hid ((Tryz.prog.info? 26).map (·.size) = some (#[Value.int .u64 m, Value.int .u64 l, Value.int .u64 o, Value.int .u64 t, Value.slice a n cap]).size) := info_costs
  have eg : ∀ args w, (callFunc 19 args).run Tryz.prog w = .ok (.enter 19 args) w := enters_of Tryz.func19 (by kernel_rfl) rfl
  clear hc hok ho he hcc hrl hbl hnl
  simp only [Cw.v, Cw.cells] at *
  go_enter Tryz.func8, Tryz.ntmps8
  go_wp2_with fail
  refine (fcheck_is ⟨m, l, o, t, a, n, cap, xs⟩ ok _ (HC.out.alloc _) (by rw [HCC.out]; exact HOK.out)).mono ?_
  rintro e w1 ⟨rfl, hb1⟩
  obtain ⟨hh1, hbb1⟩ := (HBX _ rfl _ hb1).out
  have HH1 := Lib.hid hh1
  have HB1 := Lib.hid hbb1
  clear hb1 hh1 hbb1 HBX
  cases ok
  · obtain rfl : er = 60 := by rw [← HE.out]; rfl
    obtain rfl : out = [] := by rw [← HO.out]; rfl
    go_wp2
    go_ret2
    exact ⟨none, 0, 0, rfl, rfl, Sl.nil, fun _ => rfl, HB1.out, by omega⟩
  · obtain rfl : er = 0 := by rw [← HE.out]; rfl
    have hck := File.check_parts HOK.out
    have HFIT : Hid (∀ r ∈ cc.rules, Spec.fit r = true) := hck.2.2.1
    have hn200 : n ≤ 200 := by rw [← HNL.out]; exact hck.2.1
    have HOUT : Hid (File.write cc = out) := by show _ = _; rw [← HO.out]; rfl
    have HBUF0 : Hid (Buf w1 (w1.alloc (.cells #[.slice none 0 0] 22 (0, 0))) w1.heap.size []) := buf_new w1
    have HH2 : Hid (∀ ob, (w1.alloc ob).heap[w.heap.size]? = some (.cells #[Value.int .u64 m, Value.int .u64 l, Value.int .u64 o, Value.int .u64 t, Value.slice a n cap] 26 (0, 0))) := fun ob => ((World.grownBy_alloc w1 ob none).block _ (Array.getElem?_eq_some_iff.1 HH1.out).1 (by simp)).trans HH1.out
    have HC1 : Hid (∀ ob, Cw.Good (w1.alloc ob) ⟨m, l, o, t, a, n, cap, xs⟩) := fun ob => (HC.out.below HB1.out (Nat.le_refl _)).alloc ob
    clear hck
    go_wp2_with (refine wpList_load_row_w (by rfl) 26 (.tmp 1) (by rfl) w.heap.size (by rfl) 26 #[Value.int .u64 m, Value.int .u64 l, Value.int .u64 o, Value.int .u64 t, Value.slice a n cap] (0, 0) _ (HH2.out _) Tryz.underlying26 (by rfl) HI.out ?_)
    refine (fbaseLine_is ⟨m, l, o, t, a, n, cap, xs⟩ _ (HC1.out _)).mono ?_
    rintro e w2 ⟨a2, n2, c2, rfl, hn2, hs2, hnil2, hb2, hn2b⟩
    have HBUF2 : Hid (Buf w1 w2 w1.heap.size []) := HBUF0.out.below hb2
    have HS2 := Lib.hid hs2
    have HN2 := Lib.hid hnil2
    have HLN2 := Lib.hid hn2
    clear hs2 hnil2 hb2 hn2
    go_wp2_with fail
    refine (end_is w1 w2 w1.heap.size [] HBUF2.out a2 n2 c2 _ HS2.out HN2.out (by simp; omega)).mono ?_
    rintro e w3 ⟨rfl, hbuf3⟩
    rw [List.nil_append, ← HBL.out] at hbuf3
    have HW0 : Hid (writeUp cc 0 = File.baseLine cc.base ++ [10]) := by show _ = _; unfold writeUp; simp
    rw [← HW0.out] at hbuf3
    have HBUF3 := Lib.hid hbuf3
    have HWL0 : Hid ((writeUp cc 0).length = n2 + 1) := by show _ = _; rw [HW0.out, HBL.out]; have := HLN2.out; simp; omega
    have hh3 : w3.heap[w.heap.size]? = some (.cells #[Value.int .u64 m, Value.int .u64 l, Value.int .u64 o, Value.int .u64 t, Value.slice a n cap] 26 (0, 0)) := (hbuf3.size.block _ (Array.getElem?_eq_some_iff.1 HH1.out).1).trans HH1.out
    have hc34 : w3.cell? ⟨w.heap.size, 4, none⟩ = some (.slice a n cap) := by simp [World.cell?, hh3]
    have HB13 : Hid (Below w.heap.size w w3) := HB1.out.trans (hbuf3.size.mono HB1.out.size)
    clear hbuf3 hh3
    go_wp2
    go_loopw [21] (fun ix wr => ∃ (i : Nat), i ≤ n ∧ ix = .int .i64 (i : Int) ∧ Hid ((writeUp cc i).length ≤ 1001 + i * 1001) ∧ Hid (Buf w1 wr w1.heap.size (writeUp cc i))) (fun ix _ => n - (intOf ix).toNat)
    case atStart =>
      refine ⟨0, Nat.zero_le _, rfl, ?_, HBUF3.out⟩
      show _ ≤ _
      rw [HWL0.out]; omega
    case round =>
      obtain ⟨i, hi, rfl, HLN, HBUF⟩ := hrel
      by_cases hlt : i < n
      · obtain ⟨b1, o1, la, ln, lc, LL, ra, rn, rc, RR, C, rfl, hb1, hx1, hx2, hx3, hsl, hsr, hC0, hC1, hz1⟩ := HC.out.1.one i hlt
        have hB : Below w.heap.size w wr := HB1.out.trans (HBUF.out.size.mono HB1.out.size)
        have hx1' : wr.cell? ⟨b1, o1 + i * 3, none⟩ = some (.slice la ln lc) := by rw [hB.cell (p := ⟨b1, o1 + i * 3, none⟩) hb1]; exact hx1
        have hx2' : wr.cell? ⟨b1, o1 + i * 3 + 1, none⟩ = some (.slice ra rn rc) := by rw [hB.cell (p := ⟨b1, o1 + i * 3 + 1, none⟩) hb1]; exact hx2
        have hx3' : wr.cell? ⟨b1, o1 + i * 3 + 2, none⟩ = some (.int .u64 C) := by rw [hB.cell (p := ⟨b1, o1 + i * 3 + 2, none⟩) hb1]; exact hx3
        have HGX : Hid ((⟨la, ln, lc, LL, ra, rn, rc, RR, C⟩ : Rw).Good wr) := Rw.Good.below (w := w) ⟨hsl, hsr, hC0, hC1⟩ hB (Nat.le_refl _)
        have hget : cc.rules.getD i Rul.no = ⟨LL, RR, C⟩ := by rw [HRL.out, ruls_at, hz1]; rfl
        have hil : i < cc.rules.length := by rw [HNL.out]; exact hlt
        have hfit : Spec.fit ⟨LL, RR, C⟩ = true := by
          refine HFIT.out _ ?_
          rw [← hget, List.getD_eq_getElem?_getD, List.getElem?_eq_getElem hil, Option.getD_some]; exact List.getElem_mem _
        have hsh := fit_short hfit
        have HLL : Hid (LL.length ≤ 1000 ∧ RR.length ≤ 1000) := ⟨by have : LL.length ≤ 8 := hsh.1; omega, by have : RR.length ≤ 8 := hsh.2; omega⟩
        have HWLN : Hid ((Spec.write ⟨LL, RR, C⟩).length ≤ 1000) := write_len (r := ⟨LL, RR, C⟩) (by have : LL.length ≤ 8 := hsh.1; show LL.length ≤ 100; omega) (by have : RR.length ≤ 8 := hsh.2; show RR.length ≤ 100; omega) hC0 hC1
        have HNX : Hid (writeUp cc (i + 1) = writeUp cc i ++ Spec.write ⟨LL, RR, C⟩ ++ [10]) := writeUp_next hil hget
        have HFX := Lib.hid hfit
        have hlti : (i : Int) < (n : Int) := by omega
        have HGA : ∀ ob, Hid (Buf w1 (wr.alloc ob) w1.heap.size (writeUp cc i)) := fun ob => HBUF.out.below ((Below.refl _ wr).alloc (Nat.le_refl _) ob)
        clear hsl hsr hz1 hx1 hx2 hx3 hB hget hil hfit hsh
        go_wp2_with fail
        refine (write7_is ⟨la, ln, lc, LL, ra, rn, rc, RR, C⟩ true (Spec.write ⟨LL, RR, C⟩) 0 _ (HGX.out.alloc _) HLL.out HFX.out (by simp [Rw.r]) (by simp)).mono ?_
        rintro e w4 ⟨a4, n4, c4, rfl, hn4, hs4, hnil4, hb4⟩
        have HBUF4 : Hid (Buf w1 w4 w1.heap.size (writeUp cc i)) := (HGA _).out.below hb4
        have HS4 := Lib.hid hs4
        have HN4 := Lib.hid hnil4
        have HNL4 := Lib.hid hn4
        clear hs4 hnil4 hb4 hn4
        go_wp2_with fail
        refine (end_is w1 w4 w1.heap.size (writeUp cc i) HBUF4.out a4 n4 c4 _ HS4.out HN4.out (by have h1 := HLN.out; have h2 := HWLN.out; have h3 := HNL4.out; omega)).mono ?_
        rintro e w5 ⟨rfl, hbuf5⟩
        rw [← HNX.out] at hbuf5
        have HBUF5 := Lib.hid hbuf5
        clear hbuf5
        go_wp2
        go_roundw
        case rel =>
          refine ⟨i + 1, by omega, by go_num, ?_, HBUF5.out⟩
          show _ ≤ _
          rw [HNX.out]
          have h1 := HLN.out
          have h2 := HWLN.out
          simp only [List.length_append, List.length_cons, List.length_nil]
          omega
        case measure => simp [intOf]; omega
      · obtain rfl : i = n := by omega
        have hall : writeUp cc i = out := by rw [← HOUT.out, ← writeUp_all, HNL.out]
        obtain ⟨a6, c6, hc6, hs6, hnil6⟩ := HBUF.out.read (by rw [hall, ← HOUT.out]; exact fwrite_wf HFIT.out)
        have hln := HLN.out
        rw [hall] at hc6 hs6 hln
        obtain ⟨N6, hN6⟩ : ∃ N6, out.length = N6 := ⟨_, rfl⟩
        rw [hN6] at hc6 hs6 hln
        have HS6 := Lib.hid hs6
        have HNN := Lib.hid hnil6
        have HNE := Lib.hid hN6
        have HBF : Hid (Below w.heap.size w wr) := HB1.out.trans (HBUF.out.size.mono HB1.out.size)
        clear hs6 hnil6 hN6 hall
        go_wp2
        go_ret2
        exact ⟨a6, N6, c6, rfl, HNE.out.symm, HS6.out, HNN.out, HBF.out, by omega⟩

end Go.Proofs.YtjmabjeaodojeaaGreat
