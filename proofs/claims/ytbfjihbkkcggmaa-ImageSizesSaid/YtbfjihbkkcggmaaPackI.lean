import Derived.Test.YtbfjihbkkcggmaaVarRef
import Derived.Test.YtbfjihbkkcggmaaPackC
import Derived.Test.YtbfjihbkkcggmaaPackH
import Derived.Test.YtbfjihbkkcggmaaPackD
/- The document's put: numbers, one behind the other. -/
namespace Go.Proofs.Ytbfjihbkkcggmaa
open Go.RowKit

/-- a call answers a slice of these bytes -/
def SlIs (w' : World) (e : Ending) (zs : List Int) : Prop := ∃ a n c, e = .returned (.slice a n c) ∧ Sl .u8 w' a n c zs
set_option maxRecDepth 100000 in
theorem MadeB.is {w w' : World} {e : Ending} {l : List Int} (h : MadeB w w' e l) (hl : ∀ z ∈ l, (Lit.int .u8 z).wf = true) : SlIs w' e l ∧ Below w.heap.size w w' := by
  obtain ⟨a, n, c, h1, _, h2, _, h3⟩ := h.sl hl
  exact ⟨⟨a, n, c, h1, h2⟩, h3⟩
set_option maxRecDepth 100000 in
theorem app_wf {a b : List Int} (ha : ∀ z ∈ a, (Lit.int .u8 z).wf = true) (hb : ∀ z ∈ b, (Lit.int .u8 z).wf = true) : ∀ z ∈ a ++ b, (Lit.int .u8 z).wf = true := by
  intro z hz
  rcases List.mem_append.1 hz with hz | hz
  · exact ha z hz
  · exact hb z hz
set_option maxRecDepth 100000 in
/-- the numbers of a slice, put one more -/
theorem puts_next {l : List Int} {i c : Nat} (h : i < l.length) (hc : (c : Int) = l.getD i 0) (b : List Int) : b ++ Img.flat ((l.take (i + 1)).map Int.toNat) = (b ++ Img.flat ((l.take i).map Int.toNat)) ++ Var.enc c := by
  have e : l[i] = (c : Int) := by simpa [h] using hc.symm
  rw [List.take_succ_eq_append_getElem h, e, List.map_append, Img.flat_app, List.append_assoc]
  simp [Img.flat]
set_option maxRecDepth 100000 in
theorem puts_le {l : List Int} (i : Nat) (b : List Int) : (b ++ Img.flat ((l.take i).map Int.toNat)).length ≤ (b ++ Img.flat (l.map Int.toNat)).length := by
  have h : l.map Int.toNat = (l.take i).map Int.toNat ++ (l.drop i).map Int.toNat := by rw [← List.map_append, List.take_append_drop]
  rw [h, Img.flat_app]
  simp only [List.length_append]
  omega
set_option maxRecDepth 100000 in
theorem Sl.natAt {w : World} {a : Option Addr} {n cap : Nat} {l : List Int} (h : Sl .i64 w a n cap l) (h0 : ∀ z ∈ l, 0 ≤ z) {j : Nat} (hj : j < n) : ∃ x : Nat, (x : Int) = l.getD j 0 ∧ x < 9223372036854775808 := by
  have hl := h.1
  have e : l.getD j 0 = l[j] := by simp [show j < l.length by omega]
  have hm : l.getD j 0 ∈ l := by rw [e]; exact List.getElem_mem (by omega)
  have h1 := h0 _ hm
  have h2 := bounds_i64 (h.2.2.2.1 _ hm)
  exact ⟨(l.getD j 0).toNat, by omega, by omega⟩

end Go.Proofs.Ytbfjihbkkcggmaa

/- image.put of numbers, of costs, and of a side: numbers, one behind the other. -/
namespace Go.Proofs.Ytbfjihbkkcggmaa
open Go.RowKit

set_option maxRecDepth 100000 in
theorem Sl.natAtU {w : World} {a : Option Addr} {n cap : Nat} {l : List Int} (h : Sl .u64 w a n cap l) (h0 : ∀ z ∈ l, 0 ≤ z) {j : Nat} (hj : j < n) : ∃ x : Nat, (x : Int) = l.getD j 0 ∧ x < 18446744073709551616 := by
  have hl := h.1
  have e : l.getD j 0 = l[j] := by simp [show j < l.length by omega]
  have hm : l.getD j 0 ∈ l := by rw [e]; exact List.getElem_mem (by omega)
  have h1 := h0 _ hm
  have h2 := bounds_u64 (h.2.2.2.1 _ hm)
  exact ⟨(l.getD j 0).toNat, by omega, by omega⟩

set_option maxHeartbeats 1600000 in
set_option maxRecDepth 100000 in
theorem puti_is (B : Nat) (a : Option Addr) (n c : Nat) (b : List Int) (la : Option Addr) (ln lc : Nat) (l : List Int) (w : World) (ho : w.ownsRow B 5 1 (.slice a n c) n (u8s b)) (hl : ∀ w1, Keeps B w w1 → Sl .i64 w1 la ln lc l) (h0 : ∀ z ∈ l, 0 ≤ z) (hb : (b ++ Img.flat (l.map Int.toNat)).length ≤ 200000000000) (hB : B ≤ w.heap.size) :
    Calls Try.prog 41 #[.slice a n c, .slice la ln lc] w fun e w' => PutsIs B w' e (b ++ Img.flat (l.map Int.toNat)) ∧ Keeps B w w' := by
  have hnc := (hl w (Keeps.refl _ _)).2.1
  have hcm := (hl w (Keeps.refl _ _)).2.2.1
  unfold maxLen at hcm
  have HLL : Hid (l.length = ln) := (hl w (Keeps.refl _ _)).1
  have HL := Lib.hid hl
  have HO := Lib.hid ho
  have HZ := Lib.hid h0
  have HB := Lib.hid hb
  have HBW := Lib.hid hB
  clear hl ho h0 hb hB
  go_enter Try.func41, Try.ntmps41
  go_wp2
  go_loopw [0, 9] (fun bv ix wr => ∃ (i k c : Nat) (a : Option Addr), bv = .slice a k c ∧ ix = .int .i64 (i : Int) ∧ i ≤ ln ∧ Hid (wr.ownsRow B 5 1 (.slice a k c) k (u8s (b ++ Img.flat ((l.take i).map Int.toNat)))) ∧ Hid (Keeps B w wr)) (fun _ ix _ => ln - (intOf ix).toNat)
  case atStart => exact ⟨0, n, c, a, rfl, rfl, Nat.zero_le _, by show World.ownsRow _ _ _ _ _ _ _; simpa [Img.flat] using HO.out, Keeps.refl _ _⟩
  case round =>
    obtain ⟨i, k, c, a', rfl, rfl, hi, HX, HK⟩ := hrel
    by_cases hlt : i < ln
    · have hs := HL.out _ HK.out
      obtain ⟨x, hx, hx9⟩ := hs.natAt HZ.out hlt
      obtain ⟨b1, o1, rfl, _, hc1⟩ := hs.at (by omega)
      have hx1 := hc1 i hlt
      have HN := Lib.hid (puts_next (by rw [HLL.out]; exact hlt) hx b)
      rw [← hx] at hx1
      have hli : (i : Int) < (ln : Int) := by omega
      have hxu : IntKind.u64.wrap (x : Int) = (x : Int) := by rw [wrap_u64v]; omega
      have hk : k ≤ 200000000000 := by
        have h1 := puts_le (l := l) i b
        have h2 := HB.out
        rw [u8s_len HX.out] at h1
        omega
      have hx64 : x < 18446744073709551616 := by omega
      obtain ⟨m, hm⟩ : ∃ m, (Var.enc x).length = m := ⟨_, rfl⟩
      have hm10 : m ≤ 10 := by rw [← hm]; exact Var.len_10 hx64
      have HPC := Lib.hid (vput0_is x m hx64 hm wr)
      have HSZ : Hid (B ≤ wr.heap.size) := Nat.le_trans HBW.out HK.out.size
      clear hs hc1 hx hm
      go_wp2_with (first
        | (go_at_call 57; refine HPC.out.mono ?_; rintro e w2 ⟨a2, c2, rfl, hs2, hb2⟩; have S2 := Lib.hid hs2; have K2 := Lib.hid (HK.out.trans (Keeps.of_below hb2 HSZ.out)); have O2 := Lib.hid (ownsRow_below HX.out hb2 (Nat.le_refl _)); have Z2 : Hid (B ≤ w2.heap.size) := Nat.le_trans HSZ.out hb2.size; clear hs2 hb2)
        | (at_builtin; refine append_bytes_g (by rfl) (.tmp 13) (.tmp 16) (by rfl) B _ k _ (by rfl) O2.out a2 m c2 (Var.enc x) (by rfl) S2.out (k + m) rfl (by omega) Z2.out ?_; intro a3 c3 w3 hown3 hk3; have O3 := Lib.hid hown3; have K3 := Lib.hid (K2.out.trans hk3); clear hown3 hk3)
        | fail)
      go_roundw
      case rel => exact ⟨i + 1, k + m, c3, a3, rfl, by go_num, by omega, by rw [HN.out]; exact O3.out, K3.out⟩
      case measure => simp [intOf]; omega
    · obtain rfl : i = ln := by omega
      have htk : l.take i = l := List.take_of_length_le (by rw [HLL.out]; exact Nat.le_refl _)
      have HXF : Hid (wr.ownsRow B 5 1 (.slice a' k c) k (u8s (b ++ Img.flat (l.map Int.toNat)))) := by
        have h := HX.out
        rwa [htk] at h
      clear HX htk
      go_wp2
      go_ret
      exact ⟨⟨a', k, c, rfl, HXF.out⟩, HK.out⟩

set_option maxHeartbeats 1600000 in
set_option maxRecDepth 100000 in
theorem putu_is (B : Nat) (a : Option Addr) (n c : Nat) (b : List Int) (la : Option Addr) (ln lc : Nat) (l : List Int) (w : World) (ho : w.ownsRow B 5 1 (.slice a n c) n (u8s b)) (hl : ∀ w1, Keeps B w w1 → Sl .u64 w1 la ln lc l) (h0 : ∀ z ∈ l, 0 ≤ z) (hb : (b ++ Img.flat (l.map Int.toNat)).length ≤ 200000000000) (hB : B ≤ w.heap.size) :
    Calls Try.prog 40 #[.slice a n c, .slice la ln lc] w fun e w' => PutsIs B w' e (b ++ Img.flat (l.map Int.toNat)) ∧ Keeps B w w' := by
  have hnc := (hl w (Keeps.refl _ _)).2.1
  have hcm := (hl w (Keeps.refl _ _)).2.2.1
  unfold maxLen at hcm
  have HLL : Hid (l.length = ln) := (hl w (Keeps.refl _ _)).1
  have HL := Lib.hid hl
  have HO := Lib.hid ho
  have HZ := Lib.hid h0
  have HB := Lib.hid hb
  have HBW := Lib.hid hB
  clear hl ho h0 hb hB
  go_enter Try.func40, Try.ntmps40
  go_wp2
  go_loopw [0, 9] (fun bv ix wr => ∃ (i k c : Nat) (a : Option Addr), bv = .slice a k c ∧ ix = .int .i64 (i : Int) ∧ i ≤ ln ∧ Hid (wr.ownsRow B 5 1 (.slice a k c) k (u8s (b ++ Img.flat ((l.take i).map Int.toNat)))) ∧ Hid (Keeps B w wr)) (fun _ ix _ => ln - (intOf ix).toNat)
  case atStart => exact ⟨0, n, c, a, rfl, rfl, Nat.zero_le _, by show World.ownsRow _ _ _ _ _ _ _; simpa [Img.flat] using HO.out, Keeps.refl _ _⟩
  case round =>
    obtain ⟨i, k, c, a', rfl, rfl, hi, HX, HK⟩ := hrel
    by_cases hlt : i < ln
    · have hs := HL.out _ HK.out
      obtain ⟨x, hx, hx9⟩ := hs.natAtU HZ.out hlt
      obtain ⟨b1, o1, rfl, _, hc1⟩ := hs.at (by omega)
      have hx1 := hc1 i hlt
      have HN := Lib.hid (puts_next (by rw [HLL.out]; exact hlt) hx b)
      rw [← hx] at hx1
      have hli : (i : Int) < (ln : Int) := by omega
      have hxu : IntKind.u64.wrap (x : Int) = (x : Int) := by rw [wrap_u64v]; omega
      have hk : k ≤ 200000000000 := by
        have h1 := puts_le (l := l) i b
        have h2 := HB.out
        rw [u8s_len HX.out] at h1
        omega
      have hx64 : x < 18446744073709551616 := by omega
      obtain ⟨m, hm⟩ : ∃ m, (Var.enc x).length = m := ⟨_, rfl⟩
      have hm10 : m ≤ 10 := by rw [← hm]; exact Var.len_10 hx64
      have HPC := Lib.hid (vput0_is x m hx64 hm wr)
      have HSZ : Hid (B ≤ wr.heap.size) := Nat.le_trans HBW.out HK.out.size
      clear hs hc1 hx hm
      go_wp2_with (first
        | (go_at_call 57; refine HPC.out.mono ?_; rintro e w2 ⟨a2, c2, rfl, hs2, hb2⟩; have S2 := Lib.hid hs2; have K2 := Lib.hid (HK.out.trans (Keeps.of_below hb2 HSZ.out)); have O2 := Lib.hid (ownsRow_below HX.out hb2 (Nat.le_refl _)); have Z2 : Hid (B ≤ w2.heap.size) := Nat.le_trans HSZ.out hb2.size; clear hs2 hb2)
        | (at_builtin; refine append_bytes_g (by rfl) (.tmp 13) (.tmp 15) (by rfl) B _ k _ (by rfl) O2.out a2 m c2 (Var.enc x) (by rfl) S2.out (k + m) rfl (by omega) Z2.out ?_; intro a3 c3 w3 hown3 hk3; have O3 := Lib.hid hown3; have K3 := Lib.hid (K2.out.trans hk3); clear hown3 hk3)
        | fail)
      go_roundw
      case rel => exact ⟨i + 1, k + m, c3, a3, rfl, by go_num, by omega, by rw [HN.out]; exact O3.out, K3.out⟩
      case measure => simp [intOf]; omega
    · obtain rfl : i = ln := by omega
      have htk : l.take i = l := List.take_of_length_le (by rw [HLL.out]; exact Nat.le_refl _)
      have HXF : Hid (wr.ownsRow B 5 1 (.slice a' k c) k (u8s (b ++ Img.flat (l.map Int.toNat)))) := by
        have h := HX.out
        rwa [htk] at h
      clear HX htk
      go_wp2
      go_ret
      exact ⟨⟨a', k, c, rfl, HXF.out⟩, HK.out⟩

set_option maxRecDepth 100000 in
/-- one number -/
theorem puti1_is (B : Nat) (a : Option Addr) (n c : Nat) (b : List Int) (x : Nat) (g : Nat) (W w : World) (ho : w.ownsRow B 5 1 (.slice a n c) n (u8s b)) (hW : Keeps B (W.alloc (.cells #[.int .i64 (x : Int)] 3)) w) (hg : g = W.heap.size) (hx : x < 9223372036854775808) (hb : (b ++ Var.enc x).length ≤ 200000000000) (hB : B ≤ w.heap.size) :
    Calls Try.prog 41 #[.slice a n c, .slice (some ⟨g, 0, none⟩) 1 1] w fun e w' => PutsIs B w' e (b ++ Var.enc x) ∧ Keeps B w w' := by
  have e : b ++ Var.enc x = b ++ Img.flat ([(x : Int)].map Int.toNat) := by simp [Img.flat]
  rw [e] at hb ⊢
  exact puti_is B a n c b _ 1 1 [(x : Int)] w ho (fun w1 hk => Keeps.lit [(x : Int)] (hW.trans hk) (by decide) hg (by intro z hz; simp at hz; subst hz; exact WalkArith.wf_i64 ⟨by omega, by omega⟩) (by unfold maxLen; simp) rfl rfl) (by intro z hz; simp at hz; omega) hb hB
set_option maxRecDepth 100000 in
theorem putu1_is (B : Nat) (a : Option Addr) (n c : Nat) (b : List Int) (x : Nat) (g : Nat) (W w : World) (ho : w.ownsRow B 5 1 (.slice a n c) n (u8s b)) (hW : Keeps B (W.alloc (.cells #[.int .u64 (x : Int)] 23)) w) (hg : g = W.heap.size) (hx : x < 18446744073709551616) (hb : (b ++ Var.enc x).length ≤ 200000000000) (hB : B ≤ w.heap.size) :
    Calls Try.prog 40 #[.slice a n c, .slice (some ⟨g, 0, none⟩) 1 1] w fun e w' => PutsIs B w' e (b ++ Var.enc x) ∧ Keeps B w w' := by
  have e : b ++ Var.enc x = b ++ Img.flat ([(x : Int)].map Int.toNat) := by simp [Img.flat]
  rw [e] at hb ⊢
  exact putu_is B a n c b _ 1 1 [(x : Int)] w ho (fun w1 hk => Keeps.lit [(x : Int)] (hW.trans hk) (by decide) hg (by intro z hz; simp at hz; subst hz; exact WalkArith.wf_u64 ⟨by omega, by omega⟩) (by unfold maxLen; simp) rfl rfl) (by intro z hz; simp at hz; omega) hb hB

set_option maxHeartbeats 1600000 in
set_option maxRecDepth 100000 in
theorem putSide_is (B : Nat) (a : Option Addr) (n c : Nat) (b : List Int) (la : Option Addr) (ln lc : Nat) (l : List Int) (w : World) (ho : w.ownsRow B 5 1 (.slice a n c) n (u8s b)) (hl : ∀ w1, Keeps B w w1 → Sl .i64 w1 la ln lc l) (h0 : ∀ z ∈ l, 0 ≤ z) (hb : (b ++ Img.flat (Img.sideNums l)).length ≤ 200000000000) (hB : B ≤ w.heap.size) :
    Calls Try.prog 42 #[.slice a n c, .slice la ln lc] w fun e w' => PutsIs B w' e (b ++ Img.flat (Img.sideNums l)) ∧ Keeps B w w' := by
  have hnc := (hl w (Keeps.refl _ _)).2.1
  have hcm := (hl w (Keeps.refl _ _)).2.2.1
  unfold maxLen at hcm
  have hll := (hl w (Keeps.refl _ _)).1
  have he : b ++ Img.flat (Img.sideNums l) = (b ++ Var.enc ln) ++ Img.flat (l.map Int.toNat) := by rw [Img.sideNums, Img.flat_cons, hll, List.append_assoc]
  rw [he] at hb ⊢
  have hb1 : (b ++ Var.enc ln).length ≤ 200000000000 := by rw [List.length_append] at hb; omega
  have HL := Lib.hid hl
  have HO := Lib.hid ho
  have HZ := Lib.hid h0
  have HB := Lib.hid hb
  have HB1 := Lib.hid hb1
  have HBW := Lib.hid hB
  have HA : Hid (Keeps B w (w.alloc (.cells #[.int .i64 (ln : Int)] 3))) := Keeps.alloc HBW.out _
  have HOA : Hid ((w.alloc (.cells #[.int .i64 (ln : Int)] 3)).ownsRow B 5 1 (.slice a n c) n (u8s b)) := ownsRow_below HO.out ((Below.refl _ w).alloc (Nat.le_refl _) _) (Nat.le_refl _)
  have HP1 := Lib.hid (puti1_is B a n c b ln w.heap.size w _ HOA.out (Keeps.refl _ _) rfl (by omega) HB1.out (Nat.le_trans HBW.out HA.out.size))
  clear hl ho h0 hb hb1 hB he hll
  go_enter Try.func42, Try.ntmps42
  go_wp2_with fail
  refine HP1.out.mono ?_
  rintro e w2 ⟨⟨a2, n2, c2, rfl, ho2⟩, hk2⟩
  have K2 := Lib.hid (HA.out.trans hk2)
  have HP2 := Lib.hid (puti_is B a2 n2 c2 _ la ln lc l w2 ho2 (fun w1 hk => HL.out w1 (K2.out.trans hk)) HZ.out HB.out (Nat.le_trans HBW.out K2.out.size))
  clear ho2 hk2 HP1 HOA HA
  go_wp2_with fail
  refine HP2.out.mono ?_
  rintro e w3 ⟨⟨a3, n3, c3, rfl, ho3⟩, hk3⟩
  have K3 := Lib.hid (K2.out.trans hk3)
  have O3 := Lib.hid ho3
  clear ho3 hk3 HP2
  go_wp2
  go_ret
  exact ⟨⟨a3, n3, c3, rfl, O3.out⟩, K3.out⟩

end Go.Proofs.Ytbfjihbkkcggmaa

/- The program's putCosts: those of costs, behind bytes. -/
namespace Go.Proofs.Ytbfjihbkkcggmaa
open Go.RowKit

set_option maxRecDepth 100000 in
theorem rulesNums_nextP {l : List Rul} {i : Nat} (h : i < l.length) (x : Rul) (hx : l.getD i Rul.no = x) : Img.rulesNums (l.take (i + 1)) = Img.rulesNums (l.take i) ++ Img.ruleNums x := by
  have e : l[i] = x := by simpa [h] using hx
  rw [List.take_succ_eq_append_getElem h, e]
  simp [Img.rulesNums]
set_option maxRecDepth 100000 in
theorem rulesNums_leP {l : List Rul} (i : Nat) (b : List Int) : (b ++ Img.flat (Img.rulesNums (l.take i))).length ≤ (b ++ Img.flat (Img.rulesNums l)).length := by
  have h : Img.rulesNums l = Img.rulesNums (l.take i) ++ Img.rulesNums (l.drop i) := by
    unfold Img.rulesNums
    rw [← List.flatMap_append, List.take_append_drop]
  rw [h, Img.flat_app]
  simp only [List.length_append]
  omega

set_option maxRecDepth 100000 in
/-- four numbers -/
theorem putu4_is (B : Nat) (a : Option Addr) (n c : Nat) (b : List Int) (x y z t : Nat) (g : Nat) (W w : World) (ho : w.ownsRow B 5 1 (.slice a n c) n (u8s b)) (hW : Keeps B (W.alloc (.cells #[.int .u64 (x : Int), .int .u64 (y : Int), .int .u64 (z : Int), .int .u64 (t : Int)] 23)) w) (hg : g = W.heap.size)
    (hx : x < 18446744073709551616 ∧ y < 18446744073709551616 ∧ z < 18446744073709551616 ∧ t < 18446744073709551616) (hb : (b ++ Img.flat [x, y, z, t]).length ≤ 200000000000) (hB : B ≤ w.heap.size) :
    Calls Try.prog 40 #[.slice a n c, .slice (some ⟨g, 0, none⟩) 4 4] w fun e w' => PutsIs B w' e (b ++ Img.flat [x, y, z, t]) ∧ Keeps B w w' := by
  have e : b ++ Img.flat [x, y, z, t] = b ++ Img.flat ([(x : Int), (y : Int), (z : Int), (t : Int)].map Int.toNat) := by simp [Img.flat]
  rw [e] at hb ⊢
  have hwx : ∀ v ∈ [(x : Int), (y : Int), (z : Int), (t : Int)], (Lit.int .u64 v).wf = true ∧ 0 ≤ v := by
    intro v hv
    simp only [List.mem_cons, List.not_mem_nil, or_false] at hv
    rcases hv with rfl | rfl | rfl | rfl <;> exact ⟨WalkArith.wf_u64 ⟨by omega, by omega⟩, by omega⟩
  exact putu_is B a n c b _ 4 4 [(x : Int), (y : Int), (z : Int), (t : Int)] w ho (fun w1 hk => Keeps.lit [(x : Int), (y : Int), (z : Int), (t : Int)] (hW.trans hk) (by decide) hg (fun v hv => (hwx v hv).1) (by unfold maxLen; simp) rfl rfl) (fun v hv => (hwx v hv).2) hb hB

set_option maxHeartbeats 6400000 in
set_option maxRecDepth 100000 in
theorem putCosts_is (B : Nat) (a : Option Addr) (n1 cap : Nat) (b : List Int) (c : Cw) (w : World) (ho : w.ownsRow B 5 1 (.slice a n1 cap) n1 (u8s b)) (hc : ∀ w1, Keeps B w w1 → c.Good w1) (hk : File.check c.c = true) (hb : (b ++ Img.flat (Img.costNums c.c)).length ≤ 200000000000) (hB : B ≤ w.heap.size) :
    Calls Try.prog 20 #[.slice a n1 cap, c.v] w fun e w' => PutsIs B w' e (b ++ Img.flat (Img.costNums c.c)) ∧ Keeps B w w' := by
  obtain ⟨cm, cl, co, ct, ra, rn, rcap, xs⟩ := c
  have hc0 := hc w (Keeps.refl _ _)
  have hbs := hc0.2
  simp only [Cw.base, List.mem_cons, List.not_mem_nil, or_false, forall_eq_or_imp, forall_eq] at hbs
  obtain ⟨⟨hm0, hm1⟩, ⟨hl0, hl1⟩, ⟨ho0, ho1⟩, ⟨ht0, ht1⟩⟩ := hbs
  obtain ⟨m, rfl⟩ : ∃ m : Nat, cm = (m : Int) := ⟨cm.toNat, by omega⟩
  obtain ⟨l, rfl⟩ : ∃ m : Nat, cl = (m : Int) := ⟨cl.toNat, by omega⟩
  obtain ⟨o, rfl⟩ : ∃ m : Nat, co = (m : Int) := ⟨co.toNat, by omega⟩
  obtain ⟨t, rfl⟩ : ∃ m : Nat, ct = (m : Int) := ⟨ct.toNat, by omega⟩
  have HM9 : Hid (m < 18446744073709551616 ∧ l < 18446744073709551616 ∧ o < 18446744073709551616 ∧ t < 18446744073709551616) := ⟨by omega, by omega, by omega, by omega⟩
  have HRS : Hid (∀ w1, Keeps B w w1 → Rs w1 ra rn rcap xs) := fun w1 h => (hc w1 h).1
  have HLX : Hid (xs.length = rn) := hc0.1.1
  have hrc := hc0.1.2.1
  have hrm := hc0.1.2.2.1
  unfold maxLen at hrm
  have HFIT : Hid (∀ x ∈ ruls xs, Spec.fit x = true) := (File.check_parts hk).2.2.1
  have hrn : rn ≤ 200 := by
    have h := (File.check_parts hk).2.1
    have h2 : (ruls xs).length ≤ 200 := h
    rw [ruls_length, HLX.out] at h2
    exact h2
  have hnums : Img.flat (Img.costNums (Cw.c ⟨(m : Int), (l : Int), (o : Int), (t : Int), ra, rn, rcap, xs⟩)) = Img.flat [m, l, o, t] ++ (Var.enc rn ++ Img.flat (Img.rulesNums (ruls xs))) := by
    show Img.flat (([(m : Int), (l : Int), (o : Int), (t : Int)].map Int.toNat) ++ (ruls xs).length :: Img.rulesNums (ruls xs)) = _
    rw [ruls_length, HLX.out, Img.flat_app, Img.flat_cons]
    simp only [List.map_cons, List.map_nil, Int.toNat_natCast]
  rw [hnums] at hb ⊢
  obtain ⟨Z1, hZ1⟩ : ∃ Z, Z = b ++ Img.flat [m, l, o, t] := ⟨_, rfl⟩
  obtain ⟨Z2, hZ2⟩ : ∃ Z, Z = Z1 ++ Var.enc rn := ⟨_, rfl⟩
  have hZ : b ++ (Img.flat [m, l, o, t] ++ (Var.enc rn ++ Img.flat (Img.rulesNums (ruls xs)))) = Z2 ++ Img.flat (Img.rulesNums (ruls xs)) := by
    rw [hZ2, hZ1]; simp only [List.append_assoc]
  rw [hZ] at hb ⊢
  have HB := Lib.hid hb
  have HL1 : Hid ((b ++ Img.flat [m, l, o, t]).length ≤ 200000000000) := by
    show _ ≤ _; rw [← hZ1]; rw [List.length_append, hZ2, List.length_append] at hb; omega
  have HL2 : Hid ((Z1 ++ Var.enc rn).length ≤ 200000000000) := by
    show _ ≤ _; rw [← hZ2]; rw [List.length_append] at hb; omega
  have HZ1 := Lib.hid hZ1
  have HZ2 := Lib.hid hZ2
  have HSZ := Lib.hid hB
  obtain ⟨WB, hWB⟩ : ∃ WB, WB = w.alloc (.cells #[.int .u64 (m : Int), .int .u64 (l : Int), .int .u64 (o : Int), .int .u64 (t : Int), .slice ra rn rcap] 26) := ⟨_, rfl⟩
  have KB : Hid (Keeps B w WB ∧ WB.heap.size = w.heap.size + 1) := by rw [hWB]; exact ⟨Keeps.alloc hB _, by simp⟩
  have HWB : Hid (∀ W, Keeps B WB W → W.cell? ⟨w.heap.size, 0, none⟩ = some (.int .u64 (m : Int)) ∧ W.cell? ⟨w.heap.size, 1, none⟩ = some (.int .u64 (l : Int)) ∧ W.cell? ⟨w.heap.size, 2, none⟩ = some (.int .u64 (o : Int)) ∧ W.cell? ⟨w.heap.size, 3, none⟩ = some (.int .u64 (t : Int)) ∧ W.cell? ⟨w.heap.size, 4, none⟩ = some (.slice ra rn rcap)) := by
    intro W hW
    rw [hWB] at hW
    refine ⟨hW.cell (heap_alloc_new w _) (by decide), hW.cell (heap_alloc_new w _) (by decide), hW.cell (heap_alloc_new w _) (by decide), hW.cell (heap_alloc_new w _) (by decide), hW.cell (heap_alloc_new w _) (by decide)⟩
  have OB : Hid (WB.ownsRow B 5 1 (.slice a n1 cap) n1 (u8s b)) := by rw [hWB]; exact ownsRow_below ho ((Below.refl _ w).alloc (Nat.le_refl _) _) (Nat.le_refl _)
  have hbx : (w.alloc (.cells #[.int .u64 (m : Int), .int .u64 (l : Int), .int .u64 (o : Int), .int .u64 (t : Int), .slice ra rn rcap] 26)).alloc (.cells #[.int .u64 (m : Int), .int .u64 (l : Int), .int .u64 (o : Int), .int .u64 (t : Int)] 23) = WB.alloc (.cells #[.int .u64 (m : Int), .int .u64 (l : Int), .int .u64 (o : Int), .int .u64 (t : Int)] 23) := by rw [hWB]
  have HP1 := Lib.hid (putu4_is B a n1 cap b m l o t (w.heap.size + 1) WB (WB.alloc (.cells #[.int .u64 (m : Int), .int .u64 (l : Int), .int .u64 (o : Int), .int .u64 (t : Int)] 23)) (ownsRow_below OB.out ((Below.refl _ WB).alloc (Nat.le_refl _) _) (Nat.le_refl _)) (Keeps.refl _ _) KB.out.2.symm HM9.out HL1.out (by have := KB.out.2; simp; omega))
  rw [← hbx] at HP1
  have HBX := Lib.hid hbx
  have HLB : Hid (B ≤ WB.heap.size) := by show _ ≤ _; have := KB.out.2; omega
  clear hc hc0 hk hb hB hZ hZ1 hZ2 hnums hm0 hm1 hl0 hl1 ho0 ho1 ht0 ht1 hWB hbx ho OB
  show Calls _ _ #[.slice a n1 cap, .agg #[.int .u64 (m : Int), .int .u64 (l : Int), .int .u64 (o : Int), .int .u64 (t : Int), .slice ra rn rcap]] w _
  go_enter Try.func20, Try.ntmps20
  go_wp2_with (first
    | (go_at_call 40; refine HP1.out.mono ?_; rintro e w1 ⟨⟨a1, n1', c1, rfl, ho1⟩, hk1⟩; rw [HBX.out] at hk1; rw [← HZ1.out] at ho1; have K1 : Hid (Keeps B WB w1) := (Keeps.alloc HLB.out _).trans hk1; have O1 := Lib.hid ho1; obtain ⟨k0, k1, k2, k3, k4⟩ := HWB.out _ K1.out; have Z1' : Hid (B ≤ w1.heap.size) := Nat.le_trans HLB.out K1.out.size; clear ho1 hk1)
    | fail)
  have hkk := And.intro k0 (And.intro k1 (And.intro k2 k3))
  clear k0 k1 k2 k3 hkk
  have HP2 := Lib.hid (puti1_is B a1 n1' c1 Z1 rn w1.heap.size w1 (w1.alloc (.cells #[.int .i64 (rn : Int)] 3)) (ownsRow_below O1.out ((Below.refl _ w1).alloc (Nat.le_refl _) _) (Nat.le_refl _)) (Keeps.refl _ _) rfl (by omega) HL2.out (Nat.le_trans Z1'.out (by simp)))
  clear HP1 O1
  go_wp2_with (first
    | (go_at_call 41; refine HP2.out.mono ?_; rintro e w2 ⟨⟨a2, n2, c2, rfl, ho2⟩, hk2⟩; rw [← HZ2.out] at ho2; have K2 : Hid (Keeps B WB w2) := K1.out.trans ((Keeps.alloc Z1'.out _).trans hk2); have O2 := Lib.hid ho2; obtain ⟨-, -, -, -, k5⟩ := HWB.out _ K2.out; clear ho2 hk2)
    | fail)
  clear HP2 k4 K1 Z1'
  go_wp2
  go_loopw [0, 27] (fun bv ix wr => ∃ (i k c : Nat) (a : Option Addr), bv = .slice a k c ∧ ix = .int .i64 (i : Int) ∧ i ≤ rn ∧ Hid (wr.ownsRow B 5 1 (.slice a k c) k (u8s (Z2 ++ Img.flat (Img.rulesNums ((ruls xs).take i))))) ∧ Hid (Keeps B WB wr)) (fun _ ix _ => rn - (intOf ix).toNat)
  case atStart => exact ⟨0, n2, c2, a2, rfl, rfl, Nat.zero_le _, by show World.ownsRow _ _ _ _ _ _ _; simpa [Img.flat, Img.rulesNums] using O2.out, K2.out⟩
  case round =>
    obtain ⟨i, k, c, a', rfl, rfl, hi, HX, HK⟩ := hrel
    have HKW : Hid (Keeps B w wr) := KB.out.1.trans HK.out
    by_cases hlt : i < rn
    · obtain ⟨rb, ro, la, ln, lc, L, qa, qn, qc, R, C, rfl, hrb, e1, e2, e3, hsL, hsR, hC0, hC9, hg⟩ := (HRS.out _ HKW.out).one i hlt
      have hat : (ruls xs).getD i Rul.no = ⟨L, R, C⟩ := by rw [ruls_at, hg]; rfl
      have hnx := rulesNums_nextP (by rw [ruls_length, HLX.out]; exact hlt) _ hat
      have hfit := Img.fit_rule (HFIT.out ⟨L, R, C⟩ (by rw [← hat]; rw [show (ruls xs).getD i Rul.no = (ruls xs)[i]'(by rw [ruls_length, HLX.out]; exact hlt) from by simp [ruls_length, HLX.out, hlt]]; exact List.getElem_mem _))
      have HFL := Lib.hid (Img.side_small hfit.1)
      have HFR := Lib.hid (Img.side_small hfit.2.1)
      have HGD : Hid (∀ W, Keeps B w W → Sl .i64 W la ln lc L ∧ Sl .i64 W qa qn qc R) := by
        intro W hW
        have h := (HRS.out W hW).good i
        rw [hg] at h; exact ⟨h.1, h.2.1⟩
      obtain ⟨C, rfl⟩ : ∃ m : Nat, C = (m : Int) := ⟨C.toNat, by omega⟩
      have hC9' : C < 18446744073709551616 := by omega
      have hli : (i : Int) < (rn : Int) := by omega
      obtain ⟨Y0, hY0⟩ : ∃ Y, Y = Z2 ++ Img.flat (Img.rulesNums ((ruls xs).take i)) := ⟨_, rfl⟩
      obtain ⟨Y1, hY1⟩ : ∃ Y, Y = Y0 ++ Img.flat (Img.sideNums L) := ⟨_, rfl⟩
      obtain ⟨Y2, hY2⟩ : ∃ Y, Y = Y1 ++ Img.flat (Img.sideNums R) := ⟨_, rfl⟩
      have hY : Z2 ++ Img.flat (Img.rulesNums ((ruls xs).take (i + 1))) = Y2 ++ Var.enc C := by
        rw [hnx, Img.flat_app, hY2, hY1, hY0, Img.ruleNums]
        simp only [Img.flat_app, Img.flat_one, List.append_assoc, Int.toNat_natCast]
      have hyl : (Y2 ++ Var.enc C).length ≤ 200000000000 := by
        rw [← hY]
        exact Nat.le_trans (rulesNums_leP (i + 1) Z2) HB.out
      have HY := Lib.hid hY
      have HY1 := Lib.hid hY1
      have HY2 := Lib.hid hY2
      have HYL := Lib.hid hyl
      have HYL2 : Hid ((Y1 ++ Img.flat (Img.sideNums R)).length ≤ 200000000000) := by show _ ≤ _; rw [← hY2]; rw [List.length_append] at hyl; omega
      have HYL1 : Hid ((Y0 ++ Img.flat (Img.sideNums L)).length ≤ 200000000000) := by show _ ≤ _; rw [← hY1]; have h := HYL2.out; rw [List.length_append] at h; omega
      have HX0 : Hid (wr.ownsRow B 5 1 (.slice a' k c) k (u8s Y0)) := by rw [hY0]; exact HX.out
      have HSZR : Hid (B ≤ wr.heap.size) := Nat.le_trans HLB.out HK.out.size
      obtain ⟨WR, hWR⟩ : ∃ WR, WR = wr.alloc (.cells #[.slice la ln lc, .slice qa qn qc, .int .u64 (C : Int)] 54) := ⟨_, rfl⟩
      have KR : Hid (Keeps B wr WR) := by rw [hWR]; exact Keeps.alloc HSZR.out _
      have HWR : Hid (∀ W, Keeps B WR W → W.cell? ⟨wr.heap.size, 0, none⟩ = some (.slice la ln lc) ∧ W.cell? ⟨wr.heap.size, 1, none⟩ = some (.slice qa qn qc) ∧ W.cell? ⟨wr.heap.size, 2, none⟩ = some (.int .u64 (C : Int))) := by
        intro W hW
        rw [hWR] at hW
        exact ⟨hW.cell (heap_alloc_new wr _) (by decide), hW.cell (heap_alloc_new wr _) (by decide), hW.cell (heap_alloc_new wr _) (by decide)⟩
      have OR : Hid (WR.ownsRow B 5 1 (.slice a' k c) k (u8s Y0)) := by rw [hWR]; exact ownsRow_below HX0.out ((Below.refl _ wr).alloc (Nat.le_refl _) _) (Nat.le_refl _)
      have HP3 := Lib.hid (putSide_is B a' k c Y0 la ln lc L WR OR.out (fun w1 hk => (HGD.out w1 (HKW.out.trans (KR.out.trans hk))).1) (fun z hz => (HFL.out z hz).1) HYL1.out (Nat.le_trans HSZR.out KR.out.size))
      rw [hWR] at HP3
      have HWRE := Lib.hid hWR
      clear hg hat hnx hfit hsL hsR hY hY0 hY1 hY2 hyl hWR HX HX0
      go_wp2_with fail
      refine HP3.out.mono ?_
      rintro e w3 ⟨⟨a3, n3, c3, rfl, ho3⟩, hk3⟩
      rw [← HWRE.out] at hk3
      rw [← HY1.out] at ho3
      have K3 : Hid (Keeps B WR w3) := hk3
      have O3 := Lib.hid ho3
      obtain ⟨-, k1, k2⟩ := HWR.out _ K3.out
      clear ho3 hk3
      have hkd := k2
      clear hkd k2
      have HP4 := Lib.hid (putSide_is B a3 n3 c3 Y1 qa qn qc R w3 O3.out (fun w1 hk => (HGD.out w1 (HKW.out.trans (KR.out.trans (K3.out.trans hk)))).2) (fun z hz => (HFR.out z hz).1) HYL2.out (Nat.le_trans HSZR.out (Nat.le_trans KR.out.size K3.out.size)))
      clear HP3 O3
      go_wp2_with fail
      refine HP4.out.mono ?_
      rintro e w4 ⟨⟨a4, n4, c4, rfl, ho4⟩, hk4⟩
      rw [← HY2.out] at ho4
      have K4 : Hid (Keeps B WR w4) := K3.out.trans hk4
      have O4 := Lib.hid ho4
      obtain ⟨-, -, k3⟩ := HWR.out _ K4.out
      have Z4 : Hid (B ≤ w4.heap.size) := Nat.le_trans HSZR.out (Nat.le_trans KR.out.size K4.out.size)
      clear ho4 hk4
      clear HP4 k1 K3
      have HP5 := Lib.hid (putu1_is B a4 n4 c4 Y2 C w4.heap.size w4 (w4.alloc (.cells #[.int .u64 (C : Int)] 23)) (ownsRow_below O4.out ((Below.refl _ w4).alloc (Nat.le_refl _) _) (Nat.le_refl _)) (Keeps.refl _ _) rfl hC9' HYL.out (Nat.le_trans Z4.out (by simp)))
      clear O4
      go_wp2_with (first
        | (go_at_call 40; refine HP5.out.mono ?_; rintro e w5 ⟨⟨a5, n5, c5, rfl, ho5⟩, hk5⟩; rw [← HY.out] at ho5; have K5 : Hid (Keeps B WB w5) := HK.out.trans (KR.out.trans (K4.out.trans ((Keeps.alloc Z4.out _).trans hk5))); have O5 := Lib.hid ho5; clear ho5 hk5)
        | fail)
      clear HP5 k3 K4 Z4
      go_roundw
      case rel => exact ⟨i + 1, n5, c5, a5, rfl, by go_num, by omega, O5.out, K5.out⟩
      case measure => simp [intOf]; omega
    · obtain rfl : i = rn := by omega
      have htk : (ruls xs).take i = ruls xs := List.take_of_length_le (by rw [ruls_length, HLX.out]; exact Nat.le_refl _)
      have HXF : Hid (wr.ownsRow B 5 1 (.slice a' k c) k (u8s (Z2 ++ Img.flat (Img.rulesNums (ruls xs))))) := by
        have h := HX.out
        rwa [htk] at h
      clear htk HX
      go_wp2
      go_ret
      exact ⟨⟨a', k, c, rfl, HXF.out⟩, HKW.out⟩

end Go.Proofs.Ytbfjihbkkcggmaa
