/- Used by the law. -/
import Derived.Test.YtjmabjeaodojeaaGreatSpecRefF
import Derived.Test.YtjmabjeaodojeaaGreatNumRef
import Derived.Test.YtjmabjeaodojeaaGreatPackB
import Derived.Test.YtjmabjeaodojeaaGreatPackD
import Derived.WalkArith
import Derived.Laws.AppendOwn
import Derived.ArgAppend
import Derived.Lib.SlBytesConst
import Derived.Test.YtjmabjeaodojeaaGreatGenStr
namespace Go.Proofs.YtjmabjeaodojeaaGreat
open Go.RowKit

def FieldIs (w w' : World) (e : Ending) (f : List Int) : Prop :=
  ∃ a' n' c', e = .returned (.slice a' n' c') ∧ n' = f.length ∧ Sl .u8 w' a' n' c' f ∧ Below w.heap.size w w'

set_option maxHeartbeats 1600000 in
set_option maxRecDepth 100000 in
theorem rfield_is (a : Option Addr) (n cap : Nat) (l f : List Int) (w : World) (hs : Sl .i64 w a n cap l) (hn : n ≤ 1000000) (hg : Utf.allGood l = true) (hf : Spec.field l = f) :
    Calls Tryz.prog 54 #[.slice a n cap] w fun e w' => FieldIs w w' e f := by
  have hl := hs.1
  have HS := Lib.hid hs
  have HG := Lib.hid hg
  unfold Spec.field at hf
  clear hs hg
  by_cases h0 : l = []
  · rw [if_pos h0] at hf
    subst hf
    subst h0
    obtain rfl : n = 0 := by simpa using hl.symm
    go_enter Tryz.func54, Tryz.ntmps54
    go_wp2
    go_ret
    exact ⟨_, 1, 1, rfl, rfl, Sl.lay [95] (by decide) (by unfold maxLen; simp) rfl rfl rfl, (Below.refl _ w).alloc (Nat.le_refl _) _⟩
  · rw [if_neg h0] at hf
    have hp : 0 < l.length := List.length_pos_iff.2 h0
    have hni : ¬ (n : Int) = 0 := by omega
    have HF := Lib.hid hf
    clear hf h0
    go_enter Tryz.func54, Tryz.ntmps54
    go_wp2_with fail
    refine (rput_ok a n cap l w HS.out (by omega) HG.out).mono ?_
    rintro e w1 ⟨g, c, rfl, hs1, hb⟩
    go_wp2
    go_ret
    exact ⟨g, _, c, rfl, by rw [HF.out], by rw [← HF.out]; exact hs1, hb⟩

theorem field_len {l f : List Int} (hl : l.length ≤ 1000) (hf : Spec.field l = f) : f.length ≤ 4000 := by
  unfold Spec.field at hf
  split at hf
  · subst hf; simp
  · subst hf; have := Utf.put_length_le l; omega
set_option maxRecDepth 100000 in
theorem append_full {w : World} {ops : Array Oper} {rest : List Oper} {o : Oper} {act : Act} {Q : Exit → Act → World → Prop} (hg : o.guard = none) (s x : Operand)
    (ho : o.op = .call { callee := .builtin .append, args := #[s, x], argTypes := #[22, 22] }) (base : Nat) (a : Option Addr) (n : Nat) (xs : List Int) (hs : act.eval s = .slice a n n)
    (hS : Sl .u8 w a n n xs) (hn : 0 < n) (b : Option Addr) (m c : Nat) (zs : List Int) (hx : act.eval x = .slice b m c) (hz : Sl .u8 w b m c zs) (hm : 0 < m)
    (N : Nat) (hN : n + m = N) (h63 : N ≤ 1000000000) (hbase : base ≤ w.heap.size)
    (h : ∀ a' c' w', w'.ownsRow base 5 1 (.slice a' N c') N (u8s (xs ++ zs)) → Below base w w' → (a' = none → c' = 0) → wpList Tryz.prog ops Q rest (act.put o.dst (.slice a' N c')) w') :
    wpList Tryz.prog ops Q (o :: rest) act w := by
  subst hN
  obtain ⟨i0, hi, hz0, hz1, hz2⟩ := info_parts info_u8
  have rd : ∀ {b : Option Addr} {m c : Nat} {zs : List Int}, Sl .u8 w b m c zs → 0 < m → ∃ y, b = some y ∧ ∀ j u, (u8s zs)[j]? = some u → w.cell? (y.add j) = some u := by
    intro b m c zs hz h0
    obtain ⟨b, off, rfl, _, hc⟩ := hz.at h0
    refine ⟨_, rfl, fun j u hj => ?_⟩
    have hjl : j < zs.length := by
      rcases Nat.lt_or_ge j zs.length with hlt | hge
      · exact hlt
      · simp [u8s, List.getElem?_eq_none hge] at hj
    have := hc j (by have := hz.1; omega)
    rw [show (⟨b, off, none⟩ : Addr).add j = ⟨b, off + j, none⟩ from by simp [Addr.add], this]
    simp [u8s, hjl] at hj
    rw [← hj]; simp [hjl]
  obtain ⟨y, rfl, hy⟩ := rd hS hn
  obtain ⟨y', rfl, hy'⟩ := rd hz hm
  refine wpList_append_grows w hg s x 22 ho 5 i0 (.int .u8 0) 1 1 Tryz.underlying22 hi hz0 hz1 hz2 rfl (by decide) (some y) n n (u8s xs) hs (fun e => by cases e) (by simp [u8s, hS.1]) (fun b hb => by cases hb; exact hy)
    y' m c (u8s zs) hx (by simp [u8s, hz.1]) hy' (ints_oneCell .u8 zs) (by omega) (by unfold maxLen; omega) (by omega) ?_
  intro v' w' hown hgr
  obtain ⟨a', c', rfl, hnil⟩ := owns_form hown
  exact h a' c' w' (owns_mono (by rw [show u8s (xs ++ zs) = u8s xs ++ u8s zs from by simp [u8s]]; exact hown) hbase) ((Below.refl _ _).grown hgr hbase (fun k hk => by cases hk)) hnil
theorem field_pos {l f : List Int} (hf : Spec.field l = f) : 0 < f.length := by
  unfold Spec.field at hf
  split at hf
  · subst hf; simp
  · rename_i h; subst hf; have := Utf.put_length_ge l; have := List.length_pos_iff.2 h; omega

set_option maxHeartbeats 800000 in
set_option maxRecDepth 100000 in
theorem rwrite7_is (x : Rw) (fit : Bool) (out : List Int) (er : Int) (w : World) (hx : x.Good w) (hl : x.r.L.length ≤ 1000 ∧ x.r.R.length ≤ 1000) (hf : Spec.fit x.r = fit)
    (ho : (if fit = true then Spec.write x.r else []) = out) (he : (if fit = true then 0 else 60) = er) :
    Calls Tryz.prog 23 #[x.v] w fun e w' => ∃ a' n' c', e = .returned (.tuple #[.slice a' n' c', .int .i64 er]) ∧ n' = out.length ∧ Sl .u8 w' a' n' c' out ∧ (a' = none → c' = 0) ∧ Below w.heap.size w w' := by
  obtain ⟨la, ln, lc, L, ra, rn, rc, R, C⟩ := x
  have HX := Lib.hid hx
  have HF := Lib.hid hf
  have HO := Lib.hid ho
  have HL := Lib.hid hl
  have HE := Lib.hid he
  have hln : ln ≤ 1000 := by have h1 : L.length = ln := hx.1.1; have h2 : L.length ≤ 1000 := hl.1; omega
  have hrn : rn ≤ 1000 := by have h1 : R.length = rn := hx.2.1.1; have h2 : R.length ≤ 1000 := hl.2; omega
  have HB : ∀ o, Hid (Below w.heap.size w (w.alloc o)) := fun o => (Below.refl _ w).alloc (Nat.le_refl _) o
  clear hx hf ho hl he
  simp only [Rw.v, Rw.l, Rw.rt, Rw.c]
  go_enter Tryz.func23, Tryz.ntmps23
  go_wp2_with fail
  refine (rfit_is ⟨la, ln, lc, L, ra, rn, rc, R, C⟩ fit _ (HX.out.alloc _) HF.out).mono ?_
  rintro e w1 ⟨rfl, hb1⟩
  have hf1 : w1.heap[w.heap.size]? = some (.cells #[.slice la ln lc, .slice ra rn rc, .int .u64 C] 39 (0, 0)) := by
    rw [hb1.block _ (by unfold World.alloc; simp)]
    unfold World.alloc; simp
  have hc0 : w1.cell? ⟨w.heap.size, 0, none⟩ = some (.slice la ln lc) := by simp [World.cell?, hf1]
  have hc1 : w1.cell? ⟨w.heap.size, 1, none⟩ = some (.slice ra rn rc) := by simp [World.cell?, hf1]
  have hc2 : w1.cell? ⟨w.heap.size, 2, none⟩ = some (.int .u64 C) := by simp [World.cell?, hf1]
  have HB1 : Hid (Below w.heap.size w w1) := (HB _).out.trans (hb1.mono (by simp))
  have hsz1 : w.heap.size < w1.heap.size := by have := hb1.size; simp at this; omega
  clear hb1 hf1
  cases fit
  · obtain rfl : er = 60 := by rw [← HE.out]; rfl
    obtain rfl : out = [] := by rw [← HO.out]; rfl
    go_wp2
    go_ret2
    exact ⟨none, 0, 0, rfl, rfl, Sl.nil, fun _ => rfl, HB1.out⟩
  · obtain rfl : er = 0 := by rw [← HE.out]; rfl
    have hfp := Spec.fit_parts HF.out
    have hcs := Spec.chk_sides hfp.1
    have HGL : Hid (Utf.allGood L = true) := hcs.1
    have HGR : Hid (Utf.allGood R = true) := hcs.2.1
    have hC1 : C < 18446744073709551615 := hcs.2.2
    have hC0 : 0 ≤ C := HX.out.2.2.1
    obtain ⟨d, rfl⟩ : ∃ d : Nat, C = (d : Int) := ⟨C.toNat, by omega⟩
    have hd : d < 18446744073709551616 := by omega
    obtain ⟨f, hff⟩ : ∃ f, Spec.field L = f := ⟨_, rfl⟩
    obtain ⟨g, hgg⟩ : ∃ g, Spec.field R = g := ⟨_, rfl⟩
    have hfl := field_len HL.out.1 hff
    have hgl := field_len HL.out.2 hgg
    have HFF := Lib.hid hff
    have HGG := Lib.hid hgg
    have HOUT : Hid (out = ((([82, 69, 80, 32] ++ f) ++ [32]) ++ g ++ [32]) ++ Num.dig d) := by
      show _ = _
      rw [← HO.out, ← hff, ← hgg]
      show Spec.write ⟨L, R, (d : Int)⟩ = _
      unfold Spec.write
      simp
    have hdl := Num.len_20 hd
    have HDW := Lib.hid (Num.dig_wf d)
    have HDG : ∀ W, Hid (Calls Tryz.prog 22 #[.int .u64 d] W fun e w' => BytesIs W w' e (Num.dig d)) := fun W => rwrite_any d hd W
    clear hfp hcs hff hgg hC1 hC0
    have HCL : Hid (∀ (k : Nat) (W : World), Below (w.heap.size + 1) w1 W → W.cell? ⟨w.heap.size, k, none⟩ = w1.cell? ⟨w.heap.size, k, none⟩) := fun k W hB => hB.cell (p := ⟨w.heap.size, k, none⟩) (Nat.lt_succ_self _)
    have HLW : ∀ fr, Hid (Sl .u8 (w1.alloc (.cells #[.int .u8 82, .int .u8 69, .int .u8 80, .int .u8 32] 5 fr)) (some ⟨w1.heap.size, 0, none⟩) 4 4 [82, 69, 80, 32]) := fun fr =>
      Sl.of_heap (zs := [82, 69, 80, 32]) (t := 5) (fr := fr) (heap_alloc_new w1 _) (by decide) rfl (by unfold maxLen; omega)
    have kc := fun (w : World) (C : Array Value) (n c : Nat) => Lib.run_convert_bytes_const (P := Tryz.prog) w 22 5 C n c Tryz.underlying22 Tryz.underlying5
    go_wp2_with fail
    refine (rfield_is la ln lc L f _ ((HX.out.below HB1.out (Nat.le_refl _)).alloc _).1 (by omega) HGL.out HFF.out).mono ?_
    rintro e w2 ⟨a2, n2, c2, rfl, hn2, hs2, hb2⟩
    have HLw2 : Hid (Sl .u8 w2 (some ⟨w1.heap.size, 0, none⟩) 4 4 [82, 69, 80, 32]) := (HLW _).out.below hb2 (Nat.le_refl _)
    have HBw2 : Hid (Below (w.heap.size + 1) w1 w2) := ((Below.refl _ w1).alloc hsz1 _).trans (hb2.mono (by simp; omega))
    have hszw2 : w.heap.size < w2.heap.size := Nat.lt_of_lt_of_le hsz1 HBw2.out.size
    have HN2 := Lib.hid hn2
    have hfp1 := field_pos HFF.out
    have hn2b : n2 ≤ 4000 := by omega
    have hn2p : 0 < n2 := by omega
    have HS2 := Lib.hid hs2
    clear hn2 hs2 hb2 HLW
    obtain ⟨N3, hN3⟩ : ∃ N, 4 + n2 = N := ⟨_, rfl⟩
    obtain ⟨N4, hN4⟩ : ∃ N, N3 + 1 = N := ⟨_, rfl⟩
    go_wp2_with first
      | (at_builtin; refine append_full (by rfl) (.tmp 11) (.tmp 14) (by rfl) (w.heap.size + 1) _ 4 [82, 69, 80, 32] (by rfl) HLw2.out (by omega) a2 n2 c2 f (by rfl) HS2.out (by omega) N3 hN3 (by omega) hszw2 ?_
         intro a3 c3 w3 hownw3 hbw3 hnilw3
         have HOw3 := Lib.hid hownw3
         have HBw3 : Hid (Below (w.heap.size + 1) w1 w3) := HBw2.out.trans hbw3
         have hszw3 : w.heap.size < w3.heap.size := Nat.lt_of_lt_of_le hsz1 HBw3.out.size
         clear hnilw3
         clear hownw3 hbw3)
      | (at_builtin; refine append_bytes (by rfl) (.tmp 15) (.tmp 16) (by rfl) (w.heap.size + 1) _ N3 ([82, 69, 80, 32] ++ f) (by rfl) (HOw3.out.alloc _) (some ⟨w3.heap.size, 0, none⟩) 1 1 ([32]) (by rfl) (Sl.newB [32] (by decide) (by unfold maxLen; simp) rfl rfl rfl) N4 hN4 (by omega) (Nat.le_trans hszw3 (by simp)) ?_
         intro a4 c4 w4 hownw4 hbw4 hnilw4
         have HOw4 := Lib.hid hownw4
         have HBw4 : Hid (Below (w.heap.size + 1) w1 w4) := (HBw3.out.alloc hszw3 _).trans hbw4
         have hszw4 : w.heap.size < w4.heap.size := Nat.lt_of_lt_of_le hsz1 HBw4.out.size
         have hc1w4 : w4.cell? ⟨w.heap.size, 1, none⟩ = some (.slice ra rn rc) := (HCL.out 1 w4 HBw4.out).trans hc1
         clear hnilw4
         clear hownw4 hbw4)
    refine (rfield_is ra rn rc R g _ ((HX.out.below (HB1.out.trans (HBw4.out.mono (Nat.le_succ _))) (Nat.le_refl _))).2.1 (by omega) HGR.out HGG.out).mono ?_
    rintro e w5 ⟨a5, n5, c5, rfl, hn5, hs5, hb5⟩
    have HOw5 : Hid (w5.ownsRow (w.heap.size + 1) 5 1 (.slice a4 N4 c4) N4 (u8s (([82, 69, 80, 32] ++ f) ++ [32]))) := ownsRow_below HOw4.out hb5 (Nat.le_refl _)
    have HBw5 : Hid (Below (w.heap.size + 1) w1 w5) := HBw4.out.trans (hb5.mono hszw4)
    have hszw5 : w.heap.size < w5.heap.size := Nat.lt_of_lt_of_le hsz1 HBw5.out.size
    have HN5 := Lib.hid hn5
    have hn5b : n5 ≤ 4000 := by omega
    have HS5 := Lib.hid hs5
    clear hn5 hs5 hb5
    obtain ⟨N6, hN6⟩ : ∃ N, N4 + n5 = N := ⟨_, rfl⟩
    obtain ⟨N7, hN7⟩ : ∃ N, N6 + 1 = N := ⟨_, rfl⟩
    go_wp2_with first
      | (at_builtin; refine append_bytes (by rfl) (.tmp 18) (.tmp 21) (by rfl) (w.heap.size + 1) _ N4 (([82, 69, 80, 32] ++ f) ++ [32]) (by rfl) HOw5.out (a5) n5 c5 (g) (by rfl) HS5.out N6 hN6 (by omega) hszw5 ?_
         intro a6 c6 w6 hownw6 hbw6 hnilw6
         have HOw6 := Lib.hid hownw6
         have HBw6 : Hid (Below (w.heap.size + 1) w1 w6) := HBw5.out.trans hbw6
         have hszw6 : w.heap.size < w6.heap.size := Nat.lt_of_lt_of_le hsz1 HBw6.out.size
         clear hnilw6
         clear hownw6 hbw6)
      | (at_builtin; refine append_bytes (by rfl) (.tmp 22) (.tmp 23) (by rfl) (w.heap.size + 1) _ N6 ((([82, 69, 80, 32] ++ f) ++ [32]) ++ g) (by rfl) (HOw6.out.alloc _) (some ⟨w6.heap.size, 0, none⟩) 1 1 ([32]) (by rfl) (Sl.newB [32] (by decide) (by unfold maxLen; simp) rfl rfl rfl) N7 hN7 (by omega) (Nat.le_trans hszw6 (by simp)) ?_
         intro a7 c7 w7 hownw7 hbw7 hnilw7
         have HOw7 := Lib.hid hownw7
         have HBw7 : Hid (Below (w.heap.size + 1) w1 w7) := (HBw6.out.alloc hszw6 _).trans hbw7
         have hszw7 : w.heap.size < w7.heap.size := Nat.lt_of_lt_of_le hsz1 HBw7.out.size
         have hc2w7 : w7.cell? ⟨w.heap.size, 2, none⟩ = some (.int .u64 (d : Int)) := (HCL.out 2 w7 HBw7.out).trans hc2
         clear hnilw7
         clear hownw7 hbw7)
    refine (HDG _).out.mono ?_
    rintro e w8 ⟨a8, n8, c8, rfl, hn8, hs8, hnil8, hb8⟩
    have HOw8 : Hid (w8.ownsRow (w.heap.size + 1) 5 1 (.slice a7 N7 c7) N7 (u8s ((([82, 69, 80, 32] ++ f) ++ [32]) ++ g ++ [32]))) := ownsRow_below HOw7.out hb8 (Nat.le_refl _)
    have HBw8 : Hid (Below (w.heap.size + 1) w1 w8) := HBw7.out.trans (hb8.mono hszw7)
    have hszw8 : w.heap.size < w8.heap.size := Nat.lt_of_lt_of_le hsz1 HBw8.out.size
    have HN8 := Lib.hid hn8
    have hn8b : n8 ≤ 20 := by omega
    have HS8 : Hid (Sl .u8 w8 a8 n8 c8 (Num.dig d)) := Sl.of_owns (k := .u8) hs8 HDW.out hn8.symm
    clear hn8 hs8 hb8 hnil8
    obtain ⟨N9, hN9⟩ : ∃ N, N7 + n8 = N := ⟨_, rfl⟩
    go_wp2_with (at_builtin; refine append_bytes (by rfl) (.tmp 25) (.tmp 28) (by rfl) (w.heap.size + 1) _ N7 ((([82, 69, 80, 32] ++ f) ++ [32]) ++ g ++ [32]) (by rfl) HOw8.out (a8) n8 c8 (Num.dig d) (by rfl) HS8.out N9 hN9 (by omega) hszw8 ?_
                 intro a9 c9 w9 hownw9 hbw9 hnilw9
                 have HOw9 := Lib.hid hownw9
                 have HBw9 : Hid (Below (w.heap.size + 1) w1 w9) := HBw8.out.trans hbw9
                 have hszw9 : w.heap.size < w9.heap.size := Nat.lt_of_lt_of_le hsz1 HBw9.out.size
                 clear hownw9 hbw9)
    go_ret2
    have hlen : out.length = N9 := by have h2 := HN2.out; have h5 := HN5.out; have h8 := HN8.out; rw [HOUT.out]; simp only [List.length_append, List.length_cons, List.length_nil]; omega
    have hwf : ∀ z ∈ out, (Lit.int .u8 z).wf = true := by
      rw [HOUT.out]
      intro z hz
      simp only [List.mem_append] at hz
      rcases hz with ((((hz | hz) | hz) | hz) | hz) | hz
      · revert z; decide
      · exact HS2.out.2.2.2.1 z hz
      · revert z; decide
      · exact HS5.out.2.2.2.1 z hz
      · revert z; decide
      · exact HDW.out z hz
    refine ⟨a9, N9, c9, rfl, hlen.symm, Sl.of_owns (k := .u8) (by rw [HOUT.out]; exact HOw9.out) hwf hlen, hnilw9, HB1.out.trans (HBw9.out.mono (Nat.le_succ _))⟩

end Go.Proofs.YtjmabjeaodojeaaGreat
