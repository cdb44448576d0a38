/- Used by the law. -/
import Derived.Test.YtimjdlbhbiklgaaWalkRefC
namespace Go.Proofs.Ytimjdlbhbiklgaa
open Go.RowKit Tri Wlk

def TellF (w : World) (L : List (List Int)) (er : Int) (e : Ending) (w' : World) : Prop := ∃ a' k c' outs, e = .returned (.tuple #[.slice a' k c', .int .i64 er]) ∧ Ml w.heap.size w' a' k c' outs ∧ nums outs = L ∧ Below w.heap.size w w'
theorem CntAt.of {w : World} {g n : Nat} {l : List St} {ms : List Int} (h : IoR w g n ms) (hn : NumR (manyV l) n 0 ms) (h0 : 0 < n) : CntAt w g n l :=
  ⟨(h.lt g rfl).2, fun j hj => h.cell hn.1 hj (hn.2.1 j (Nat.zero_le _) hj)⟩
set_option maxRecDepth 100000 in
set_option maxHeartbeats 1600000 in
theorem rfrom12_is (a b : Option Addr) (len cap m cap2 : Nat) (xs : List Sw) (zs : List Int) (n : Int) (w : World) (L : List (List Int)) (er : Int) (hx : Ss w a len cap xs) (hz : Sl .i64 w b m cap2 zs) (hnil : b = none → cap2 = 0) (hr : fromC (sts xs) zs n = (L, er)) :
    Calls Try.prog 13 #[.slice a len cap, .slice b m cap2, .int .i64 n] w fun e w' => TellF w L er e w' := by
  have HX := Lib.hid hx
  have HZ := Lib.hid hz
  cases hcc : check (sts xs)
  · have hr0 : L = [] ∧ er = 100 := by unfold fromC at hr; rw [if_pos hcc] at hr; cases hr; exact ⟨rfl, rfl⟩
    obtain ⟨rfl, rfl⟩ := hr0
    clear hx hr hz hnil
    go_enter Try.func13, Try.ntmps13
    go_wp2_with (go_at_call 26; refine (rcheck10_is a len cap xs false _ HX.out hcc).mono ?_; rintro e w1 ⟨rfl, hb1⟩)
    go_ret2
    exact ⟨none, 0, 0, [], rfl, Ml.start _ _, rfl, hb1⟩
  · by_cases hn0 : n < 0
    · have hr0 : L = [] ∧ er = 1 := by unfold fromC at hr; rw [if_neg (by rw [hcc]; exact Bool.noConfusion), if_pos (.inl hn0)] at hr; cases hr; exact ⟨rfl, rfl⟩
      obtain ⟨rfl, rfl⟩ := hr0
      have hd : decide (n < 0) = true := decide_eq_true hn0
      clear hx hr hz hnil
      go_enter Try.func13, Try.ntmps13
      go_wp2_with (go_at_call 26; refine (rcheck10_is a len cap xs true _ HX.out hcc).mono ?_; rintro e w1 ⟨rfl, hb1⟩)
      go_ret2
      exact ⟨none, 0, 0, [], rfl, Ml.start _ _, rfl, hb1⟩
    · by_cases hn3 : 300 < n
      · have hr0 : L = [] ∧ er = 1 := by unfold fromC at hr; rw [if_neg (by rw [hcc]; exact Bool.noConfusion), if_pos (.inr hn3)] at hr; cases hr; exact ⟨rfl, rfl⟩
        obtain ⟨rfl, rfl⟩ := hr0
        have hd : decide (n < 0) = false := decide_eq_false hn0
        have hd3 : decide (n > 300) = true := decide_eq_true hn3
        clear hx hr hz hnil
        go_enter Try.func13, Try.ntmps13
        go_wp2_with (go_at_call 26; refine (rcheck10_is a len cap xs true _ HX.out hcc).mono ?_; rintro e w1 ⟨rfl, hb1⟩)
        go_ret2
        exact ⟨none, 0, 0, [], rfl, Ml.start _ _, rfl, hb1⟩
      · obtain ⟨N, rfl⟩ : ∃ N : Nat, n = (N : Int) := ⟨n.toNat, by omega⟩
        have hr0 : L = (ge (sts xs) 0 zs).take N ∧ er = 0 := by unfold fromC at hr; rw [if_neg (by rw [hcc]; exact Bool.noConfusion), if_neg (by omega), Int.toNat_natCast] at hr; cases hr; exact ⟨rfl, rfl⟩
        obtain ⟨rfl, rfl⟩ := hr0
        have hln : (sts xs).length = len := by rw [sts_length]; exact hx.1
        have h1 := (check_size hcc).1
        have h0 : 0 < len := by omega
        have hd : decide ((N : Int) < 0) = false := decide_eq_false hn0
        have hd3 : decide ((N : Int) > 300) = false := decide_eq_false hn3
        have hN3 : N ≤ 300 := by omega
        clear hx hr hz hln h1
        go_enter Try.func13, Try.ntmps13
        go_wp2_with (first
          | (go_at_call 26; refine (rcheck10_is a len cap xs true _ HX.out hcc).mono ?_; rintro e w1 ⟨rfl, hb1⟩; have HB1 := Lib.hid hb1; clear hb1)
          | (go_at_call 33; refine (rmany_is hcc a len cap xs w1 (HX.out.below HB1.out (Nat.le_refl _)) rfl).mono ?_; rintro e w2 ⟨ms, rfl, hown, hnum, hb2⟩; have HC2 := Lib.hid (CntAt.of hown hnum h0); have HB2 : Hid (Below w.heap.size w w2) := HB1.out.trans (hb2.mono HB1.out.size); clear hown hnum hb2)
          | (go_at_call 32; refine (behind_is hcc a len cap xs rfl w1.heap.size len b m cap2 zs hnil len 0 h0 (by omega) w2 none 0 0 [] N (HX.out.below HB2.out (Nat.le_refl _)) HC2.out (Nat.le_refl _) Sl.nil (fun _ => rfl) (Nat.le_refl _) (HZ.out.below HB2.out (Nat.le_refl _)) hN3).mono ?_; rintro e w3 ⟨a3, k3, c3, o3, rfl, m3, n3, b3⟩))
        go_ret2
        exact ⟨a3, k3, c3, o3, rfl, ⟨own_lower m3.row HB2.out.size, fun x hx => own_lower (m3.own x hx) HB2.out.size, m3.wfs, m3.lens, m3.len, m3.nil⟩, by rw [n3, bhd_start], HB2.out.trans (b3.mono HB2.out.size)⟩
theorem words_fromR {l : List St} (h : (wds l 0).length ≤ 300 ∨ check l = false) : fromC l [] 300 = wordsC l := by
  unfold fromC wordsC
  cases hc : check l
  · rfl
  · rcases h with h | h
    · rw [if_neg (by simp), if_neg (by omega), if_neg (by simp), if_neg (by omega), ge_nil, show (300 : Int).toNat = 300 from rfl, List.take_of_length_le (by omega)]
    · rw [hc] at h; cases h
set_option maxRecDepth 100000 in
set_option maxHeartbeats 1600000 in
theorem rwords12_is (a : Option Addr) (len cap : Nat) (xs : List Sw) (w : World) (L : List (List Int)) (er : Int) (hx : Ss w a len cap xs) (hr : wordsC (sts xs) = (L, er)) :
    Calls Try.prog 11 #[.slice a len cap] w fun e w' => TellF w L er e w' := by
  have HX := Lib.hid hx
  cases hcc : check (sts xs)
  · have hr0 : L = [] ∧ er = 100 := by unfold wordsC at hr; rw [if_pos hcc] at hr; cases hr; exact ⟨rfl, rfl⟩
    obtain ⟨rfl, rfl⟩ := hr0
    clear hx hr
    go_enter Try.func11, Try.ntmps11
    go_wp2_with (go_at_call 26; refine (rcheck10_is a len cap xs false _ HX.out hcc).mono ?_; rintro e w1 ⟨rfl, hb1⟩)
    go_ret2
    exact ⟨none, 0, 0, [], rfl, Ml.start _ _, rfl, hb1⟩
  · by_cases hm : 300 < (wds (sts xs) 0).length
    · have hr0 : L = [] ∧ er = 81 := by unfold wordsC at hr; rw [if_neg (by rw [hcc]; exact Bool.noConfusion), if_pos hm] at hr; cases hr; exact ⟨rfl, rfl⟩
      obtain ⟨rfl, rfl⟩ := hr0
      have hmc : manyC (sts xs) = 301 := by unfold manyC; rw [if_pos hcc]; unfold mny; omega
      clear hx hr hm
      go_enter Try.func11, Try.ntmps11
      go_wp2_with (first
        | (go_at_call 26; refine (rcheck10_is a len cap xs true _ HX.out hcc).mono ?_; rintro e w1 ⟨rfl, hb1⟩)
        | (go_at_call 18; refine (rmany12_is a len cap xs w1 301 (HX.out.below hb1 (Nat.le_refl _)) hmc).mono ?_; rintro e w2 ⟨rfl, hb2⟩))
      go_ret2
      exact ⟨none, 0, 0, [], rfl, Ml.start _ _, rfl, hb1.trans (hb2.mono hb1.size)⟩
    · have hmc : manyC (sts xs) ≤ 300 := by unfold manyC; rw [if_pos hcc]; unfold mny; omega
      have hfr : fromC (sts xs) [] 300 = (L, er) := by rw [words_fromR (.inl (by omega)), hr]
      obtain ⟨r, hr1⟩ : ∃ r, manyC (sts xs) = r := ⟨_, rfl⟩
      rw [hr1] at hmc
      have hng : ¬ (300 : Int) < (r : Int) := by omega
      have hdg : decide ((r : Int) > 300) = false := decide_eq_false (by omega)
      clear hx hr hm hmc
      go_enter Try.func11, Try.ntmps11
      go_wp2_with (first
        | (go_at_call 26; refine (rcheck10_is a len cap xs true _ HX.out hcc).mono ?_; rintro e w1 ⟨rfl, hb1⟩; have HB1 := Lib.hid hb1; clear hb1)
        | (go_at_call 18; refine (rmany12_is a len cap xs w1 r (HX.out.below HB1.out (Nat.le_refl _)) hr1).mono ?_; rintro e w2 ⟨rfl, hb2⟩; have HB2 : Hid (Below w.heap.size w w2) := HB1.out.trans (hb2.mono HB1.out.size); clear hb2)
        | (go_at_call 13; refine (rfrom12_is a none len cap 0 0 xs [] 300 w2 L er (HX.out.below HB2.out (Nat.le_refl _)) Sl.nil (fun _ => rfl) hfr).mono ?_; rintro e w3 ⟨a', k, c', outs, rfl, h1, h2, h3⟩))
      go_ret2
      exact ⟨a', k, c', outs, rfl, ⟨own_lower h1.row HB2.out.size, fun x hx => own_lower (h1.own x hx) HB2.out.size, h1.wfs, h1.lens, h1.len, h1.nil⟩, h2, HB2.out.trans (h3.mono HB2.out.size)⟩
end Go.Proofs.Ytimjdlbhbiklgaa
