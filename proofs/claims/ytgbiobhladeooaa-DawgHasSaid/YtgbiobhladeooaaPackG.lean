import Derived.Test.YtgbiobhladeooaaPackB
import Derived.Shelf.GgSortFunc.SmallK
import Derived.Shelf.SlSortFuncK.AtK
import Derived.Shelf.SlSortFuncK.PivotK
import Derived.Shelf.SlSortFuncK.PartitionK
import Derived.Shelf.SlSortFuncK.HeapSortK
import Derived.Shelf.SlSortFuncK.PartialInsertionK
import Derived.Shelf.SlSortFuncK.BreakPatternsK
import Derived.Sort.Walk13
import Derived.Sort.AssemblyPlain
import Derived.Test.YtgbiobhladeooaaChecked
import Derived.WalkKit
import Derived.WalkLawsBesides
import Derived.Below
import Derived.ProofKit
import Derived.Outline
import Derived.BigGuardPart
import Derived.Deep.QuietTactic
import Derived.LoopN
import Derived.WalkMore
import Derived.OpenShut
import Derived.Laws.Small
import Derived.Lib.Hide
import Derived.Deep.LoopGhost
import Derived.Shelf.Abstract
import Derived.Sort.WalkB2
import Derived.Sort.WalkB12
import Derived.Sort.LotD4
import Derived.Laws.Rows
/- A sort by a function that may make memory of its own: what each step of it leaves of the world. No program. -/
namespace Go.Proofs.Ytgbiobhladeooaa
open Go.RowKit Go.Lib Go.Sort

variable {P : Program} {α : Type} [Inhabited α] {enc : α → List Value} {k blk off n g sf : Nat} {lb sb : Array Value} {lt : α → α → Bool} {w W wr w1 : World} {D D' : Array α}

/-- all blocks but one lie as they lay -/
structure Kp (blk : Nat) (W W' : World) : Prop where
  size : W.heap.size ≤ W'.heap.size
  block : ∀ b, b < W.heap.size → b ≠ blk → W'.heap[b]? = W.heap[b]?
set_option maxRecDepth 100000 in
theorem Kp.refl (W : World) : Kp blk W W := ⟨Nat.le_refl _, fun _ _ _ => rfl⟩
set_option maxRecDepth 100000 in
theorem Kp.trans {W1 W2 W3 : World} (h : Kp blk W1 W2) (h' : Kp blk W2 W3) : Kp blk W1 W3 := ⟨Nat.le_trans h.size h'.size, fun b hb hne => (h'.block b (Nat.lt_of_lt_of_le hb h.size) hne).trans (h.block b hb hne)⟩
set_option maxRecDepth 100000 in
theorem Kp.cell {W W' : World} (h : Kp blk W W') {b o : Nat} {v : Value} (hc : W.cell? ⟨b, o, none⟩ = some v) (hne : b ≠ blk) : W'.cell? ⟨b, o, none⟩ = some v :=
  (World.cell?_of_block (w := W) (h.block b (cell_lt hc) hne)).trans hc
set_option maxRecDepth 100000 in
theorem Kp.alloc (W : World) (o : Obj) : Kp blk W (W.alloc o) := ⟨by simp, fun b hb _ => by rw [alloc_eq_grow]; exact heap_grow_old W _ hb⟩
set_option maxRecDepth 100000 in
theorem Kp.grow (W : World) (q : Nat) (os : Array Obj) : Kp blk W (Sort.grow (Sort.ahead W q) os) := ⟨by rw [size_grow]; exact Nat.le_add_right _ _, fun b hb _ => heap_grow_old (Sort.ahead W q) os hb⟩
set_option maxRecDepth 100000 in
theorem Kp.setCells : ∀ (l : List Value) (W : World) (o : Nat), Kp blk W (W.setCells blk o l)
  | [], W, _ => Kp.refl W
  | v :: l, W, o => by
    rw [World.setCells]
    refine Kp.trans ⟨by simp [World.setCell], fun b _ hne => Below.heap_setCell _ _ _ _ hne⟩ (Kp.setCells l (W.setCell ⟨blk, o, none⟩ v) (o + 1))

/-- what the sort is handed: how the elements lie, what 'less' and 'swap' do -/
structure Srt (P : Program) (enc : α → List Value) (k : Nat) (lt : α → α → Bool) (g : Nat) (lb : Array Value) (sf : Nat) (sb : Array Value) (blk off n : Nat) (w : World) : Prop where
  hk : ∀ x, (enc x).length = k
  eg : ∀ args w, (callFunc g args).run P w = .ok (.enter g args) w
  less : ∀ (D : Array α) (W : World), D.size = n → AtK enc k w blk off D W → ∀ i j : Nat, i < n → j < n →
    Calls P g (#[.int .i64 i, .int .i64 j] ++ lb) W fun e W' => e = .returned (.bool (lt D[i]! D[j]!)) ∧ ∃ q os, W' = Sort.grow (Sort.ahead W q) os
  swap : SwapSwapsK P sf sb enc k blk off n
  row : ∃ d0 : Array α, d0.size = n ∧ HoldsK enc k w blk off d0
  old : blk < w.heap.size
  few : n < 4611686018427387904

/-- behind a step: the row holds D, all else that lay in W lies as it lay -/
def Post (enc : α → List Value) (k blk off n : Nat) (w W : World) (D : Array α) (wr : World) : Prop := D.size = n ∧ AtK enc k w blk off D wr ∧ Kp blk W wr
/-- within a step that has laid its two functions at the end of W -/
def Mid (enc : α → List Value) (k : Nat) (g : Nat) (lb : Array Value) (sf : Nat) (sb : Array Value) (blk off n : Nat) (w W : World) (D : Array α) (wr : World) : Prop :=
  Post enc k blk off n w W D wr ∧ W.heap.size ≠ blk ∧ wr.cell? ⟨W.heap.size, 0, none⟩ = some (.func (.func g) #[] lb) ∧ wr.cell? ⟨W.heap.size, 1, none⟩ = some (.func (.func sf) #[] sb)
set_option maxRecDepth 100000 in
theorem AtK.le (h : AtK enc k w blk off D W) : w.heap.size ≤ W.heap.size := by
  obtain ⟨q, os, rfl⟩ := h
  rw [size_grow, size_putRowK]; exact Nat.le_add_right _ _
set_option maxRecDepth 100000 in
theorem AtK.refl (h : HoldsK enc k w blk off D) : AtK enc k w blk off D w := ⟨0, #[], by rw [grow_empty, ahead_zero, putRowK_self enc k w blk off D h]⟩
set_option maxRecDepth 100000 in
theorem Srt.same (S : Srt P enc k lt g lb sf sb blk off n w) (hD : D.size = n) (h : AtK enc k w blk off D W) (q : Nat) (os : Array Obj) : AtK enc k w blk off D (Sort.grow (Sort.ahead W q) os) := by
  obtain ⟨d0, hs, h0⟩ := S.row
  exact AtK.same h h0 (hD.trans hs.symm) S.old ⟨q, os, rfl⟩
set_option maxRecDepth 100000 in
theorem Srt.holds (S : Srt P enc k lt g lb sf sb blk off n w) (hD : D.size = n) (h : AtK enc k w blk off D W) : HoldsK enc k W blk off D := by
  obtain ⟨d0, hs, h0⟩ := S.row
  exact (AtK.holds h h0 (hD.trans hs.symm) S.old).1
set_option maxRecDepth 100000 in
theorem Srt.apart (S : Srt P enc k lt g lb sf sb blk off n w) (h : AtK enc k w blk off D W) : W.heap.size ≠ blk := by
  have := AtK.le h
  have := S.old
  omega
set_option maxRecDepth 100000 in
theorem Mid.start (S : Srt P enc k lt g lb sf sb blk off n w) (h : AtK enc k w blk off D W) (hD : D.size = n) (T : TypeId) : Mid enc k g lb sf sb blk off n w W D (W.alloc (.cells #[.func (.func g) #[] lb, .func (.func sf) #[] sb] T)) := by
  refine ⟨⟨hD, ?_, Kp.alloc W _⟩, S.apart h, by simp, by simp⟩
  have := S.same hD h 0 #[.cells #[.func (.func g) #[] lb, .func (.func sf) #[] sb] T]
  rw [ahead_zero] at this
  rw [alloc_eq_grow]; exact this
set_option maxRecDepth 100000 in
theorem Mid.at (h : Mid enc k g lb sf sb blk off n w W D wr) : AtK enc k w blk off D wr := h.1.2.1
set_option maxRecDepth 100000 in
theorem Mid.size (h : Mid enc k g lb sf sb blk off n w W D wr) : D.size = n := h.1.1
set_option maxRecDepth 100000 in
theorem Mid.fn (h : Mid enc k g lb sf sb blk off n w W D wr) : wr.cell? ⟨W.heap.size, 0, none⟩ = some (.func (.func g) #[] lb) := h.2.2.1
set_option maxRecDepth 100000 in
theorem Mid.sw (h : Mid enc k g lb sf sb blk off n w W D wr) : wr.cell? ⟨W.heap.size, 1, none⟩ = some (.func (.func sf) #[] sb) := h.2.2.2
set_option maxRecDepth 100000 in
theorem Mid.next (h : Mid enc k g lb sf sb blk off n w W D wr) (hp : Post enc k blk off n w wr D' w1) : Mid enc k g lb sf sb blk off n w W D' w1 :=
  ⟨⟨hp.1, hp.2.1, h.1.2.2.trans hp.2.2⟩, h.2.1, hp.2.2.cell h.2.2.1 h.2.1, hp.2.2.cell h.2.2.2 h.2.1⟩
set_option maxRecDepth 100000 in
/-- 'less', at two places -/
theorem Mid.less (S : Srt P enc k lt g lb sf sb blk off n w) (h : Mid enc k g lb sf sb blk off n w W D wr) (i j : Nat) (hi : i < n) (hj : j < n) {I J : Int} (hI : I = (i : Int)) (hJ : J = (j : Int)) {r : Bool} (hr : lt D[i]! D[j]! = r) :
    Calls P g (#[.int .i64 I, .int .i64 J] ++ lb) wr fun e w' => e = .returned (.bool r) ∧ Mid enc k g lb sf sb blk off n w W D w' := by
  subst hI hJ hr
  refine (S.less D wr h.size h.at i j hi hj).mono ?_
  rintro e w' ⟨rfl, q, os, rfl⟩
  exact ⟨rfl, h.next ⟨h.size, S.same h.size h.at q os, Kp.grow wr q os⟩⟩
set_option maxRecDepth 100000 in
/-- 'swap', of two places -/
theorem Mid.swap (S : Srt P enc k lt g lb sf sb blk off n w) (h : Mid enc k g lb sf sb blk off n w W D wr) (i j : Nat) (hi : i < n) (hj : j < n) {I J : Int} (hI : I = (i : Int)) (hJ : J = (j : Int)) :
    ∃ w', (callFunc sf (#[.int .i64 I, .int .i64 J] ++ sb)).run P wr = .ok (.value (.tuple #[])) w' ∧ Mid enc k g lb sf sb blk off n w W (swp D i j) w' := by
  subst hI hJ
  have hD := h.size
  refine ⟨_, S.swap wr D (S.holds hD h.at) hD i j hi hj, h.next ⟨by rw [size_swp]; exact hD, ?_, (Kp.setCells _ _ _).trans (Kp.setCells _ _ _)⟩⟩
  obtain ⟨q, os, rfl⟩ := h.at
  refine ⟨q, os, ?_⟩
  rw [← putRowK_grow enc k (Sort.ahead w q) os blk off D S.old, putRowK_swp enc k S.hk _ blk off D i j (by omega) (by omega), putRowK_grow enc k (Sort.ahead w q) os blk off _ S.old]
end Go.Proofs.Ytgbiobhladeooaa

/- sort.insertionSort_func, siftDown_func, heapSort_func, over a function that may make memory. -/
namespace Go.Proofs.Ytgbiobhladeooaa
open Go.RowKit Go.Lib Go.Sort

variable {α : Type} [Inhabited α] {enc : α → List Value} {k blk off n g sf : Nat} {lb sb : Array Value} {lt : α → α → Bool} {w : World}

set_option maxHeartbeats 2000000 in
set_option maxRecDepth 100000 in
theorem insertion_is (S : Srt Try.prog enc k lt g lb sf sb blk off n w) (a b : Nat) (D : Array α) (W : World) (hA : AtK enc k w blk off D W) (hD : D.size = n) (hab : a ≤ b) (hb : b ≤ n) :
    Calls Try.prog 96 #[.agg #[.func (.func g) #[] lb, .func (.func sf) #[] sb], .int .i64 (a : Int), .int .i64 (b : Int)] W fun e w' => e = .returned (.tuple #[]) ∧ Post enc k blk off n w W (insertionSort lt D a b) w' := by
  have HS := Lib.hid S
  have eg := S.eg
  have hn := S.few
  have HST := Lib.hid (Mid.start S hA hD 113)
  clear S hA hD
  go_enter Try.func96, Try.ntmps96
  go_wp2
  go_loopw [6] (fun vi wr => ∃ (i : Nat) (dk : Array α), vi = .int .i64 (i : Int) ∧ a < i ∧ i ≤ b + 1 ∧ Hid (Mid enc k g lb sf sb blk off n w W dk wr) ∧ Hid (insOuter lt a b i dk = insOuter lt a b (a + 1) D)) (fun vi _ => b + 1 - (intOf vi).toNat)
  case atStart => exact ⟨a + 1, D, by go_num, by omega, by omega, HST, Lib.hid rfl⟩
  case round =>
    obtain ⟨i, dk, rfl, hai, hib, HM, HO⟩ := hrel
    by_cases hlt : i < b
    · have hltz : (i : Int) < (b : Int) := by omega
      go_wp2
      generalize wr = wo at *
      go_loopw [7] (fun vj wr => ∃ (j : Nat) (dj : Array α), vj = .int .i64 (j : Int) ∧ a ≤ j ∧ j ≤ i ∧ Hid (Mid enc k g lb sf sb blk off n w W dj wr) ∧ Hid (insInner lt a j dj = insInner lt a i dk)) (fun vj _ => (intOf vj).toNat)
      case atStart => exact ⟨i, dk, rfl, by omega, Nat.le_refl _, HM, Lib.hid rfl⟩
      case round =>
        obtain ⟨j, dj, rfl, haj, hji, HJ, HI⟩ := hrel
        have c0 := HJ.out.fn
        by_cases hja : a < j
        · have hjaz : (a : Int) < (j : Int) := by omega
          cases hlv : lt dj[j]! dj[j - 1]! with
          | true =>
            have HLV := Lib.hid hlv
            clear hlv
            go_wp2_with (go_at_fn g; refine (Mid.less HS.out HJ.out j (j - 1) (by omega) (by omega) rfl (by omega) HLV.out).mono ?_; rintro e w2 ⟨rfl, hm⟩; have HM2 := Lib.hid hm; have c1 := hm.sw; obtain ⟨w3, hs, hm3⟩ := Mid.swap HS.out hm j (j - 1) (by omega) (by omega) (I := (j : Int)) (J := (j : Int) - 1) rfl (by omega); have HM3 := Lib.hid hm3; clear hm hm3)
            go_roundw
            case rel => exact ⟨j - 1, swp dj j (j - 1), by go_num, by omega, by omega, HM3, Lib.hid (by rw [← HI.out, insInner_go lt a j dj hja HLV.out])⟩
            case measure => simp [intOf]; omega
          | false =>
            have HLV := Lib.hid hlv
            clear hlv
            go_wp2_with (go_at_fn g; refine (Mid.less HS.out HJ.out j (j - 1) (by omega) (by omega) rfl (by omega) HLV.out).mono ?_; rintro e w2 ⟨rfl, hm⟩; have HM2 := Lib.hid hm; clear hm)
            go_roundw
            case rel => exact ⟨i + 1, dj, by go_num, by omega, by omega, HM2, Lib.hid (by rw [← HO.out, insOuter_go _ _ _ _ _ hlt, ← HI.out, insInner_stop _ _ _ _ (.inr HLV.out)])⟩
            case measure => simp [intOf]; omega
        · have hjaz : ¬ (a : Int) < (j : Int) := by omega
          go_wp2
          go_roundw
          case rel => exact ⟨i + 1, dj, by go_num, by omega, by omega, HJ, Lib.hid (by rw [← HO.out, insOuter_go _ _ _ _ _ hlt, ← HI.out, insInner_stop _ _ _ _ (.inl (by omega))])⟩
          case measure => simp [intOf]; omega
    · have hltz : ¬ (i : Int) < (b : Int) := by omega
      go_wp2
      go_end0
      refine ⟨rfl, ?_⟩
      have := HM.out.1
      unfold insertionSort
      rw [← HO.out, insOuter_stop _ _ _ _ _ hlt]
      exact this
end Go.Proofs.Ytgbiobhladeooaa

/- sort.siftDown_func, heapSort_func, over a function that may make memory. -/
namespace Go.Proofs.Ytgbiobhladeooaa
open Go.RowKit Go.Lib Go.Sort

variable {α : Type} [Inhabited α] {enc : α → List Value} {k blk off n g sf : Nat} {lb sb : Array Value} {lt : α → α → Bool} {w : World}

set_option maxHeartbeats 4000000 in
set_option maxRecDepth 100000 in
theorem siftDown_is (S : Srt Try.prog enc k lt g lb sf sb blk off n w) (lo hi first : Nat) (D : Array α) (W : World) (hA : AtK enc k w blk off D W) (hD : D.size = n) (hlo : lo ≤ hi) (hb : first + hi ≤ n) :
    Calls Try.prog 114 #[.agg #[.func (.func g) #[] lb, .func (.func sf) #[] sb], .int .i64 (lo : Int), .int .i64 (hi : Int), .int .i64 (first : Int)] W fun e w' => e = .returned (.tuple #[]) ∧ Post enc k blk off n w W (siftDown lt hi first lo D) w' := by
  have HS := Lib.hid S
  have eg := S.eg
  have hn := S.few
  have HST := Lib.hid (Mid.start S hA hD 113)
  clear S hA hD
  go_enter Try.func114, Try.ntmps114
  go_wp2
  go_loopg [8] (hi - lo) (fun kx s8 wr => ∃ (root : Nat) (dk : Array α), s8 = .int .i64 (root : Int) ∧ root ≤ hi ∧ hi - root ≤ kx ∧ Hid (Mid enc k g lb sf sb blk off n w W dk wr) ∧ Hid (siftDown lt hi first root dk = siftDown lt hi first lo D))
  case atStart => exact ⟨lo, D, rfl, hlo, Nat.le_refl _, HST, Lib.hid rfl⟩
  case round =>
    obtain ⟨root, dk, rfl, hr, hkx, HM, HE⟩ := hrel
    have c0 := HM.out.fn
    have d0 := HM.out.sw
    by_cases h0 : hi ≤ 2 * root + 1
    · have h0z : (hi : Int) ≤ 2 * (root : Int) + 1 := by omega
      go_wp2
      go_end0
      refine ⟨rfl, ?_⟩
      rw [← HE.out, sd_end lt dk h0]
      exact HM.out.1
    · have h0z : ¬ ((hi : Int) ≤ 2 * (root : Int) + 1) := by omega
      by_cases h1 : 2 * root + 2 < hi
      · have h1z : 2 * (root : Int) + 1 + 1 < (hi : Int) := by omega
        cases hL : lt dk[first + (2 * root + 1)]! dk[first + (2 * root + 2)]! with
        | true =>
          have HL := Lib.hid hL
          clear hL
          cases hG : lt dk[first + root]! dk[first + (2 * root + 2)]! with
          | true =>
            have HG := Lib.hid hG
            clear hG
            go_wp2_with (first | (go_at_fn g; refine (Mid.less HS.out HM1.out (first + root) (first + (2 * root + 2)) (by omega) (by omega) (I := (first : Int) + (root : Int)) (J := (first : Int) + (2 * (root : Int) + 1 + 1)) (by omega) (by omega) HG.out).mono ?_; rintro e w_HM2 ⟨rfl, hm_HM2⟩; have HM2 := Lib.hid hm_HM2; have c_HM2 := hm_HM2.fn; have d_HM2 := hm_HM2.sw; obtain ⟨w_HM3, hs_HM3, hm_HM3⟩ := Mid.swap HS.out hm_HM2 (first + root) (first + (2 * root + 2)) (by omega) (by omega) (I := (first : Int) + (root : Int)) (J := (first : Int) + (2 * (root : Int) + 1 + 1)) (by omega) (by omega); have HM3 := Lib.hid hm_HM3; clear hm_HM3; clear hm_HM2) | (go_at_fn g; refine (Mid.less HS.out HM.out (first + (2 * root + 1)) (first + (2 * root + 2)) (by omega) (by omega) (I := (first : Int) + (2 * (root : Int) + 1)) (J := (first : Int) + (2 * (root : Int) + 1) + 1) (by omega) (by omega) HL.out).mono ?_; rintro e w_HM1 ⟨rfl, hm_HM1⟩; have HM1 := Lib.hid hm_HM1; have c_HM1 := hm_HM1.fn; have d_HM1 := hm_HM1.sw; clear hm_HM1))
            go_roundg (hi - (2 * root + 2))
            case measure => omega
            case rel => exact ⟨2 * root + 2, swp dk (first + root) (first + (2 * root + 2)), by go_num, by omega, Nat.le_refl _, HM3, Lib.hid (by rw [← HE.out, sd_right_go lt dk h1 HL.out HG.out])⟩
          | false =>
            have HG := Lib.hid hG
            clear hG
            go_wp2_with (first | (go_at_fn g; refine (Mid.less HS.out HM1.out (first + root) (first + (2 * root + 2)) (by omega) (by omega) (I := (first : Int) + (root : Int)) (J := (first : Int) + (2 * (root : Int) + 1 + 1)) (by omega) (by omega) HG.out).mono ?_; rintro e w_HM2 ⟨rfl, hm_HM2⟩; have HM2 := Lib.hid hm_HM2; have c_HM2 := hm_HM2.fn; have d_HM2 := hm_HM2.sw; clear hm_HM2) | (go_at_fn g; refine (Mid.less HS.out HM.out (first + (2 * root + 1)) (first + (2 * root + 2)) (by omega) (by omega) (I := (first : Int) + (2 * (root : Int) + 1)) (J := (first : Int) + (2 * (root : Int) + 1) + 1) (by omega) (by omega) HL.out).mono ?_; rintro e w_HM1 ⟨rfl, hm_HM1⟩; have HM1 := Lib.hid hm_HM1; have c_HM1 := hm_HM1.fn; have d_HM1 := hm_HM1.sw; clear hm_HM1))
            (try simp only [Exit.inBlock, Exit.then]); refine bodyPost_ret (results_none rfl _ _ _) rfl ?_
            refine ⟨rfl, ?_⟩
            rw [← HE.out, sd_right_stop lt dk h1 HL.out HG.out]
            exact HM2.out.1
        | false =>
          have HL := Lib.hid hL
          clear hL
          cases hG : lt dk[first + root]! dk[first + (2 * root + 1)]! with
          | true =>
            have HG := Lib.hid hG
            clear hG
            go_wp2_with (first | (go_at_fn g; refine (Mid.less HS.out HM1.out (first + root) (first + (2 * root + 1)) (by omega) (by omega) (I := (first : Int) + (root : Int)) (J := (first : Int) + (2 * (root : Int) + 1)) (by omega) (by omega) HG.out).mono ?_; rintro e w_HM2 ⟨rfl, hm_HM2⟩; have HM2 := Lib.hid hm_HM2; have c_HM2 := hm_HM2.fn; have d_HM2 := hm_HM2.sw; obtain ⟨w_HM3, hs_HM3, hm_HM3⟩ := Mid.swap HS.out hm_HM2 (first + root) (first + (2 * root + 1)) (by omega) (by omega) (I := (first : Int) + (root : Int)) (J := (first : Int) + (2 * (root : Int) + 1)) (by omega) (by omega); have HM3 := Lib.hid hm_HM3; clear hm_HM3; clear hm_HM2) | (go_at_fn g; refine (Mid.less HS.out HM.out (first + (2 * root + 1)) (first + (2 * root + 2)) (by omega) (by omega) (I := (first : Int) + (2 * (root : Int) + 1)) (J := (first : Int) + (2 * (root : Int) + 1) + 1) (by omega) (by omega) HL.out).mono ?_; rintro e w_HM1 ⟨rfl, hm_HM1⟩; have HM1 := Lib.hid hm_HM1; have c_HM1 := hm_HM1.fn; have d_HM1 := hm_HM1.sw; clear hm_HM1))
            go_roundg (hi - (2 * root + 1))
            case measure => omega
            case rel => exact ⟨2 * root + 1, swp dk (first + root) (first + (2 * root + 1)), by go_num, by omega, Nat.le_refl _, HM3, Lib.hid (by rw [← HE.out, sd_left_go lt dk (by omega) (fun _ => HL.out) HG.out])⟩
          | false =>
            have HG := Lib.hid hG
            clear hG
            go_wp2_with (first | (go_at_fn g; refine (Mid.less HS.out HM1.out (first + root) (first + (2 * root + 1)) (by omega) (by omega) (I := (first : Int) + (root : Int)) (J := (first : Int) + (2 * (root : Int) + 1)) (by omega) (by omega) HG.out).mono ?_; rintro e w_HM2 ⟨rfl, hm_HM2⟩; have HM2 := Lib.hid hm_HM2; have c_HM2 := hm_HM2.fn; have d_HM2 := hm_HM2.sw; clear hm_HM2) | (go_at_fn g; refine (Mid.less HS.out HM.out (first + (2 * root + 1)) (first + (2 * root + 2)) (by omega) (by omega) (I := (first : Int) + (2 * (root : Int) + 1)) (J := (first : Int) + (2 * (root : Int) + 1) + 1) (by omega) (by omega) HL.out).mono ?_; rintro e w_HM1 ⟨rfl, hm_HM1⟩; have HM1 := Lib.hid hm_HM1; have c_HM1 := hm_HM1.fn; have d_HM1 := hm_HM1.sw; clear hm_HM1))
            (try simp only [Exit.inBlock, Exit.then]); refine bodyPost_ret (results_none rfl _ _ _) rfl ?_
            refine ⟨rfl, ?_⟩
            rw [← HE.out, sd_left_stop lt dk (by omega) (fun _ => HL.out) HG.out]
            exact HM2.out.1
      · have h1z : ¬ (2 * (root : Int) + 1 + 1 < (hi : Int)) := by omega
        cases hG : lt dk[first + root]! dk[first + (2 * root + 1)]! with
        | true =>
          have HG := Lib.hid hG
          clear hG
          go_wp2_with ((go_at_fn g; refine (Mid.less HS.out HM.out (first + root) (first + (2 * root + 1)) (by omega) (by omega) (I := (first : Int) + (root : Int)) (J := (first : Int) + (2 * (root : Int) + 1)) (by omega) (by omega) HG.out).mono ?_; rintro e w_HM2 ⟨rfl, hm_HM2⟩; have HM2 := Lib.hid hm_HM2; have c_HM2 := hm_HM2.fn; have d_HM2 := hm_HM2.sw; obtain ⟨w_HM3, hs_HM3, hm_HM3⟩ := Mid.swap HS.out hm_HM2 (first + root) (first + (2 * root + 1)) (by omega) (by omega) (I := (first : Int) + (root : Int)) (J := (first : Int) + (2 * (root : Int) + 1)) (by omega) (by omega); have HM3 := Lib.hid hm_HM3; clear hm_HM3; clear hm_HM2))
          go_roundg (hi - (2 * root + 1))
          case measure => omega
          case rel => exact ⟨2 * root + 1, swp dk (first + root) (first + (2 * root + 1)), by go_num, by omega, Nat.le_refl _, HM3, Lib.hid (by rw [← HE.out, sd_left_go lt dk (by omega) (fun h => absurd h h1) HG.out])⟩
        | false =>
          have HG := Lib.hid hG
          clear hG
          go_wp2_with ((go_at_fn g; refine (Mid.less HS.out HM.out (first + root) (first + (2 * root + 1)) (by omega) (by omega) (I := (first : Int) + (root : Int)) (J := (first : Int) + (2 * (root : Int) + 1)) (by omega) (by omega) HG.out).mono ?_; rintro e w_HM2 ⟨rfl, hm_HM2⟩; have HM2 := Lib.hid hm_HM2; have c_HM2 := hm_HM2.fn; have d_HM2 := hm_HM2.sw; clear hm_HM2))
          (try simp only [Exit.inBlock, Exit.then]); refine bodyPost_ret (results_none rfl _ _ _) rfl ?_
          refine ⟨rfl, ?_⟩
          rw [← HE.out, sd_left_stop lt dk (by omega) (fun h => absurd h h1) HG.out]
          exact HM2.out.1

set_option maxHeartbeats 4000000 in
set_option maxRecDepth 100000 in
theorem heapSort_is (S : Srt Try.prog enc k lt g lb sf sb blk off n w) (a b : Nat) (D : Array α) (W : World) (hA : AtK enc k w blk off D W) (hD : D.size = n) (hab : a ≤ b) (hb : b ≤ n) :
    Calls Try.prog 97 #[.agg #[.func (.func g) #[] lb, .func (.func sf) #[] sb], .int .i64 (a : Int), .int .i64 (b : Int)] W fun e w' => e = .returned (.tuple #[]) ∧ Post enc k blk off n w W (heapSort lt D a b) w' := by
  have HS := Lib.hid S
  have eg := S.eg
  have hn := S.few
  have HST := Lib.hid (Mid.start S hA hD 113)
  have ecast : ((b - a : Nat) : Int) = (b : Int) - (a : Int) := by omega
  clear S hA hD
  go_enter Try.func97, Try.ntmps97
  go_wp2
  go_loopg [9] ((b - a - 1) / 2 + 1) (fun kx s9 wr => s9 = .int .i64 ((kx : Int) - 1) ∧ kx ≤ (b - a - 1) / 2 + 1 ∧ ∃ (dk : Array α), Hid (Mid enc k g lb sf sb blk off n w W dk wr) ∧ Hid (heapBuild lt (b - a) a kx dk = heapBuild lt (b - a) a ((b - a - 1) / 2 + 1) D))
  case atStart => exact ⟨by rw [half_start hab], Nat.le_refl _, D, HST, Lib.hid rfl⟩
  case round =>
    obtain ⟨rfl, hkk, dk, HM, HE⟩ := hrel
    have c0 := HM.out.fn
    have d0 := HM.out.sw
    cases gk with
    | zero =>
      have HB : Hid (dk = heapBuild lt (b - a) a ((b - a - 1) / 2 + 1) D) := Lib.hid HE.out
      clear HE hkk
      go_wp2
      generalize wr = wo at *
      go_loopg [10] (b - a) (fun kx s10 wr => s10 = .int .i64 ((kx : Int) - 1) ∧ kx ≤ b - a ∧ ∃ (dj : Array α), Hid (Mid enc k g lb sf sb blk off n w W dj wr) ∧ Hid (heapPop lt a kx dj = heapPop lt a (b - a) dk))
      case atStart => exact ⟨by rw [ecast], Nat.le_refl _, dk, HM, Lib.hid rfl⟩
      case round =>
        clear c0 d0
        obtain ⟨rfl, hkk, dj, HJ, HE2⟩ := hrel
        have c0 := HJ.out.fn
        have d0 := HJ.out.sw
        cases gk with
        | zero =>
          go_wp2
          go_end0
          refine ⟨rfl, ?_⟩
          unfold heapSort
          rw [← HB.out, ← HE2.out]
          exact HJ.out.1
        | succ kx =>
          obtain ⟨w2, hs, hm2⟩ := Mid.swap HS.out HJ.out a (a + kx) (by omega) (by omega) (I := (a : Int)) (J := (a : Int) + (kx : Int)) rfl (by omega)
          have HM2 := Lib.hid hm2
          have c2 := hm2.fn
          have d2 := hm2.sw
          have HC := Lib.hid (siftDown_is HS.out 0 kx a (swp dj a (a + kx)) w2 hm2.at hm2.size (Nat.zero_le _) (by omega))
          clear hm2
          go_wp2_with (go_at_call 114; refine HC.out.mono ?_; rintro e w3 ⟨rfl, hp⟩; have HM3 := Lib.hid (HM2.out.next hp); clear hp)
          go_roundg kx
          case measure => omega
          case rel => exact ⟨by simp, by omega, _, HM3, Lib.hid HE2.out⟩
    | succ kx =>
      have HC := Lib.hid (siftDown_is HS.out kx (b - a) a dk wr HM.out.at HM.out.size (by omega) (by omega))
      rw [ecast] at HC
      go_wp2_with (go_at_call 114; refine HC.out.mono ?_; rintro e w3 ⟨rfl, hp⟩; have HM3 := Lib.hid (HM.out.next hp); clear hp)
      go_roundg kx
      case measure => omega
      case rel => exact ⟨by simp, by omega, _, HM3, Lib.hid HE.out⟩
end Go.Proofs.Ytgbiobhladeooaa

/- sort.order2_func, median_func, medianAdjacent_func, choosePivot_func, over a function that may make memory. -/
namespace Go.Proofs.Ytgbiobhladeooaa
open Go.RowKit Go.Lib Go.Sort

variable {α : Type} [Inhabited α] {enc : α → List Value} {k blk off n g sf : Nat} {lb sb : Array Value} {lt : α → α → Bool} {w W wr w1 : World} {D : Array α} {s c c1 : Nat}

/-- behind a step that counts in a number of its own, at s -/
structure PostS (enc : α → List Value) (k blk off n : Nat) (w W : World) (D : Array α) (s c : Nat) (wr : World) : Prop where
  at' : AtK enc k w blk off D wr
  size : W.heap.size ≤ wr.heap.size
  block : ∀ b, b < W.heap.size → b ≠ blk → b ≠ s → wr.heap[b]? = W.heap[b]?
  num : wr.heap[s]? = some (.cells #[.int .i64 (c : Int)] 3 (0, 0))
set_option maxRecDepth 100000 in
theorem PostS.in' (h : PostS enc k blk off n w W D s c wr) : s < wr.heap.size := (Array.getElem?_eq_some_iff.1 h.num).1
set_option maxRecDepth 100000 in
theorem PostS.refl (h : AtK enc k w blk off D W) (hs : W.heap[s]? = some (.cells #[.int .i64 (c : Int)] 3 (0, 0))) : PostS enc k blk off n w W D s c W := ⟨h, Nat.le_refl _, fun _ _ _ _ => rfl, hs⟩
set_option maxRecDepth 100000 in
theorem PostS.trans (h : PostS enc k blk off n w W D s c wr) (h' : PostS enc k blk off n w wr D s c1 w1) : PostS enc k blk off n w W D s c1 w1 :=
  ⟨h'.at', Nat.le_trans h.size h'.size, fun b hb h1 h2 => (h'.block b (Nat.lt_of_lt_of_le hb h.size) h1 h2).trans (h.block b hb h1 h2), h'.num⟩
set_option maxRecDepth 100000 in
theorem PostS.cell (h : PostS enc k blk off n w W D s c wr) {b o : Nat} {v : Value} (hc : W.cell? ⟨b, o, none⟩ = some v) (h1 : b ≠ blk) (h2 : b ≠ s) : wr.cell? ⟨b, o, none⟩ = some v :=
  (World.cell?_of_block (w := W) (h.block b (cell_lt hc) h1 h2)).trans hc
set_option maxRecDepth 100000 in
theorem Mid.counts (h : Mid enc k g lb sf sb blk off n w W D wr) (hs : W.heap[s]? = some (.cells #[.int .i64 (c : Int)] 3 (0, 0))) (hne : s ≠ blk) : PostS enc k blk off n w W D s c wr :=
  ⟨h.at, h.1.2.2.size, fun b hb h1 _ => h.1.2.2.block b hb h1, (h.1.2.2.block s (Array.getElem?_eq_some_iff.1 hs).1 hne).trans hs⟩
set_option maxRecDepth 100000 in
theorem PostS.read (h : PostS enc k blk off n w W D s c wr) : wr.cell? ⟨s, 0, none⟩ = some (.int .i64 (c : Int)) ∧ wr.frozen? ⟨s, 0, none⟩ = false := ⟨by rw [cell_of_row _ _ _ _ _ _ h.num]; rfl, frozen_of_row _ _ _ _ _ h.num⟩
set_option maxRecDepth 100000 in
theorem PostS.counted (hA : AtK enc k w blk off D W) (hs : W.heap[s]? = some (.cells #[.int .i64 (c : Int)] 3 (0, 0))) (hn : w.heap.size ≤ s) (m : Int) (hm : m = (c1 : Int)) : PostS enc k blk off n w W D s c1 (W.setCell ⟨s, 0, none⟩ (.int .i64 m)) := by
  subst hm
  refine ⟨?_, by simp [World.setCell], fun b _ _ h => heap_setCell_other _ _ _ _ h, ?_⟩
  · exact SWK.setCell_new (show SWK enc k w blk off D W from hA) s 0 _ hn
  · rw [heap_setCell_same W s 0 _ _ _ hs]; rfl

set_option maxHeartbeats 2000000 in
set_option maxRecDepth 100000 in
theorem order2_is (S : Srt Try.prog enc k lt g lb sf sb blk off n w) (a b : Nat) (D : Array α) (W : World) (hA : AtK enc k w blk off D W) (hD : D.size = n) (ha : a < n) (hb : b < n) (hs : W.heap[s]? = some (.cells #[.int .i64 (c : Int)] 3 (0, 0))) (hw : w.heap.size ≤ s) (hc : c < 1000) {r : Nat × Nat × Nat} (hr : order2 lt D a b c = r) :
    Calls Try.prog 121 #[.agg #[.func (.func g) #[] lb, .func (.func sf) #[] sb], .int .i64 (a : Int), .int .i64 (b : Int), .pointer (some ⟨s, 0, none⟩)] W fun e w' => e = .returned (.tuple #[.int .i64 (r.1 : Int), .int .i64 (r.2.1 : Int)]) ∧ PostS enc k blk off n w W D s r.2.2 w' := by
  subst hr
  have HS := Lib.hid S
  have eg := S.eg
  have hn := S.few
  have HW := Lib.hid hw
  have hm0 := Mid.start S hA hD 113
  have HST := Lib.hid hm0
  have c0 := hm0.fn
  have HN := Lib.hid hs
  have HSB := Lib.hid (show s ≠ blk by have := S.old; omega)
  clear S hA hD hs hw hm0
  cases hlv : lt D[b]! D[a]! with
  | true =>
    have e : order2 lt D a b c = (b, a, c + 1) := by unfold order2; rw [if_pos hlv]
    rw [e]
    have HLV := Lib.hid hlv
    clear hlv e
    go_enter Try.func121, Try.ntmps121
    go_wp2_with (go_at_fn g; refine (Mid.less HS.out HST.out b a hb ha rfl rfl HLV.out).mono ?_; rintro e w2 ⟨rfl, hm⟩; have HM := Lib.hid (hm.counts HN.out HSB.out); obtain ⟨hs3, hs4⟩ := HM.out.read; clear hm)
    go_ret2
    exact ⟨rfl, HM.out.trans (PostS.counted HM.out.at' HM.out.num HW.out _ (by omega))⟩
  | false =>
    have e : order2 lt D a b c = (a, b, c) := by unfold order2; rw [if_neg (by rw [hlv]; simp)]
    rw [e]
    have HLV := Lib.hid hlv
    clear hlv e
    go_enter Try.func121, Try.ntmps121
    go_wp2_with (go_at_fn g; refine (Mid.less HS.out HST.out b a hb ha rfl rfl HLV.out).mono ?_; rintro e w2 ⟨rfl, hm⟩; have HM := Lib.hid (hm.counts HN.out HSB.out); clear hm)
    go_ret2
    exact ⟨rfl, HM.out⟩
set_option maxRecDepth 100000 in
theorem order2_lt {a b : Nat} (ha : a < n) (hb : b < n) : (order2 lt D a b c).1 < n ∧ (order2 lt D a b c).2.1 < n := by
  unfold order2
  split <;> simp [ha, hb]

/-- within a step that counts: its own two functions lie where it began -/
def MidS (enc : α → List Value) (k : Nat) (g : Nat) (lb : Array Value) (sf : Nat) (sb : Array Value) (blk off n : Nat) (w W : World) (D : Array α) (s c : Nat) (wr : World) : Prop :=
  PostS enc k blk off n w W D s c wr ∧ (W.heap.size ≠ blk ∧ W.heap.size ≠ s) ∧ wr.cell? ⟨W.heap.size, 0, none⟩ = some (.func (.func g) #[] lb) ∧ wr.cell? ⟨W.heap.size, 1, none⟩ = some (.func (.func sf) #[] sb)
set_option maxRecDepth 100000 in
theorem MidS.start (S : Srt Try.prog enc k lt g lb sf sb blk off n w) (hA : AtK enc k w blk off D W) (hD : D.size = n) (hs : W.heap[s]? = some (.cells #[.int .i64 (c : Int)] 3 (0, 0))) (hw : w.heap.size ≤ s) (T : TypeId) : MidS enc k g lb sf sb blk off n w W D s c (W.alloc (.cells #[.func (.func g) #[] lb, .func (.func sf) #[] sb] T)) := by
  have hm := Mid.start S hA hD T
  have h1 := (Array.getElem?_eq_some_iff.1 hs).1
  exact ⟨hm.counts hs (by have := S.old; omega), ⟨hm.2.1, by omega⟩, hm.fn, hm.sw⟩
set_option maxRecDepth 100000 in
theorem MidS.next (h : MidS enc k g lb sf sb blk off n w W D s c wr) (hp : PostS enc k blk off n w wr D s c1 w1) : MidS enc k g lb sf sb blk off n w W D s c1 w1 :=
  ⟨h.1.trans hp, h.2.1, hp.cell h.2.2.1 h.2.1.1 h.2.1.2, hp.cell h.2.2.2 h.2.1.1 h.2.1.2⟩

set_option maxHeartbeats 2000000 in
set_option maxRecDepth 100000 in
theorem median_is (S : Srt Try.prog enc k lt g lb sf sb blk off n w) (i j m : Nat) (D : Array α) (W : World) (hA : AtK enc k w blk off D W) (hD : D.size = n) (hi : i < n) (hj : j < n) (hm : m < n) (hs : W.heap[s]? = some (.cells #[.int .i64 (c : Int)] 3 (0, 0))) (hw : w.heap.size ≤ s) (hc : c < 900) {r : Nat × Nat} (hr : median lt D i j m c = r) {I J M : Int} (hI : I = (i : Int)) (hJ : J = (j : Int)) (hM : M = (m : Int)) :
    Calls Try.prog 118 #[.agg #[.func (.func g) #[] lb, .func (.func sf) #[] sb], .int .i64 I, .int .i64 J, .int .i64 M, .pointer (some ⟨s, 0, none⟩)] W fun e w' => e = .returned (.int .i64 (r.1 : Int)) ∧ PostS enc k blk off n w W D s r.2 w' := by
  subst hI hJ hM
  have HS := Lib.hid S
  have HW := Lib.hid hw
  have HD := Lib.hid hD
  have hm0 := MidS.start S hA hD hs hw 113
  have HST := Lib.hid hm0
  have c0 := hm0.2.2.1
  have d0 := hm0.2.2.2
  obtain ⟨⟨x1, y1, s1⟩, hr1⟩ : ∃ p, order2 lt D i j c = p := ⟨_, rfl⟩
  obtain ⟨⟨x2, y2, s2⟩, hr2⟩ : ∃ p, order2 lt D y1 m s1 = p := ⟨_, rfl⟩
  obtain ⟨⟨x3, y3, s3⟩, hr3⟩ : ∃ p, order2 lt D x1 x2 s2 = p := ⟨_, rfl⟩
  have h1 := order2_lt (lt := lt) (D := D) (c := c) hi hj
  have k1 := order2_count lt D i j c
  rw [hr1] at h1 k1
  have h2 := order2_lt (lt := lt) (D := D) (c := s1) h1.2 hm
  have k2 := order2_count lt D y1 m s1
  rw [hr2] at h2 k2
  have k3 := order2_count lt D x1 x2 s2
  rw [hr3] at k3
  have HR : Hid (r = (y3, s3)) := by show _ = _; rw [← hr]; unfold median; simp only [hr1, hr2, hr3]
  have HR1 := Lib.hid hr1
  have HR2 := Lib.hid hr2
  have HR3 := Lib.hid hr3
  have H1 := Lib.hid h1
  have H2 := Lib.hid h2
  simp only at k1 k2 k3
  have HC := Lib.hid (show s1 < 1000 ∧ s2 < 1000 ∧ c < 1000 by omega)
  clear S hA hD hs hw hm0 hr hr1 hr2 hr3 h1 h2 k1 k2 k3
  go_enter Try.func118, Try.ntmps118
  go_wp2_with first | (go_at_call 121; refine (order2_is HS.out x1 x2 D w3 HM2.out.1.at' HD.out H1.out.1 H2.out.1 HM2.out.1.num HW.out HC.out.2.1 HR3.out).mono ?_; rintro e w4 ⟨rfl, hp⟩; have HM3 := Lib.hid (HM2.out.next hp); clear hp) | (go_at_call 121; refine (order2_is HS.out y1 m D w2 HM1.out.1.at' HD.out H1.out.2 hm HM1.out.1.num HW.out HC.out.1 HR2.out).mono ?_; rintro e w3 ⟨rfl, hp⟩; have HM2 := Lib.hid (HM1.out.next hp); have c2 := HM2.out.2.2.1; have d2 := HM2.out.2.2.2; clear hp) | (go_at_call 121; refine (order2_is HS.out i j D _ HST.out.1.at' HD.out hi hj HST.out.1.num HW.out HC.out.2.2 HR1.out).mono ?_; rintro e w2 ⟨rfl, hp⟩; have HM1 := Lib.hid (HST.out.next hp); have c1 := HM1.out.2.2.1; have d1 := HM1.out.2.2.2; clear hp)
  go_ret
  rw [HR.out]
  exact ⟨rfl, HM3.out.1⟩

set_option maxHeartbeats 2000000 in
set_option maxRecDepth 100000 in
theorem medianAdjacent_is (S : Srt Try.prog enc k lt g lb sf sb blk off n w) (i : Nat) (D : Array α) (W : World) (hA : AtK enc k w blk off D W) (hD : D.size = n) (h0 : 0 < i) (hi : i + 1 < n) (hs : W.heap[s]? = some (.cells #[.int .i64 (c : Int)] 3 (0, 0))) (hw : w.heap.size ≤ s) (hc : c < 900) {r : Nat × Nat} (hr : medianAdjacent lt D i c = r) {I : Int} (hI : I = (i : Int)) :
    Calls Try.prog 117 #[.agg #[.func (.func g) #[] lb, .func (.func sf) #[] sb], .int .i64 I, .pointer (some ⟨s, 0, none⟩)] W fun e w' => e = .returned (.int .i64 (r.1 : Int)) ∧ PostS enc k blk off n w W D s r.2 w' := by
  subst hI
  have hn := S.few
  have hm0 := MidS.start S hA hD hs hw 113
  have HST := Lib.hid hm0
  have c0 := hm0.2.2.1
  have d0 := hm0.2.2.2
  have hcall := median_is S (i - 1) i (i + 1) D _ hm0.1.at' hD (by omega) (by omega) hi hm0.1.num hw hc hr (I := (i : Int) - 1) (J := (i : Int)) (M := (i : Int) + 1) (by omega) rfl (by omega)
  have HC := Lib.hid hcall
  clear S hA hD hs hw hm0 hr hcall
  go_enter Try.func117, Try.ntmps117
  go_wp2_with (go_at_call 118; refine HC.out.mono ?_; rintro e w2 ⟨rfl, hp⟩; have HM := Lib.hid (HST.out.next hp); clear hp)
  go_ret
  exact ⟨rfl, HM.out.1⟩
set_option maxRecDepth 100000 in
theorem median_lt {a b c' x : Nat} (ha : a < n) (hb : b < n) (hc : c' < n) : (median lt D a b c' x).1 < n := by
  unfold median
  simp only []
  have h1 := order2_lt (lt := lt) (D := D) (c := x) ha hb
  have h2 := order2_lt (lt := lt) (D := D) (c := (order2 lt D a b x).2.2) h1.2 hc
  exact (order2_lt (lt := lt) (D := D) h1.1 h2.1).2
set_option maxRecDepth 100000 in
theorem hint_case (r : Nat) : (r = 0 ∧ hintCode (hintOf r) = 1) ∨ (r ≠ 0 ∧ r = 12 ∧ hintCode (hintOf r) = 2) ∨ (r ≠ 0 ∧ r ≠ 12 ∧ hintCode (hintOf r) = 0) := by
  unfold hintOf
  by_cases h0 : r = 0
  · exact .inl ⟨h0, by rw [if_pos h0]; rfl⟩
  · by_cases h1 : r = 12
    · exact .inr (.inl ⟨h0, h1, by rw [if_neg h0, if_pos h1]; rfl⟩)
    · exact .inr (.inr ⟨h0, h1, by rw [if_neg h0, if_neg h1]; rfl⟩)
set_option maxRecDepth 100000 in
/-- what the three loads of the count tell -/
theorem hint_tests {r : Nat} (h : r < 2000) : (((r : Int) == 0) = decide (r = 0)) ∧ (((r : Int) == 12) = decide (r = 12)) := by
  constructor
  · by_cases h0 : r = 0
    · subst h0; rfl
    · rw [decide_eq_false h0]; simpa using h0
  · by_cases h0 : r = 12
    · subst h0; rfl
    · rw [decide_eq_false h0]; simp; omega

set_option maxHeartbeats 4000000 in
set_option maxRecDepth 100000 in
theorem choosePivot_is (S : Srt Try.prog enc k lt g lb sf sb blk off n w) (a b : Nat) (D : Array α) (W : World) (hA : AtK enc k w blk off D W) (hD : D.size = n) (hab : a < b) (hb : b ≤ n) :
    Calls Try.prog 99 #[.agg #[.func (.func g) #[] lb, .func (.func sf) #[] sb], .int .i64 (a : Int), .int .i64 (b : Int)] W fun e w' => e = .returned (.tuple #[.int .i64 ((choosePivot lt D a b).1 : Int), .int .i64 (hintCode (choosePivot lt D a b).2)]) ∧ Post enc k blk off n w W D w' := by
  have HS := Lib.hid S
  have HD := Lib.hid hD
  have hn := S.few
  have hle := AtK.le hA
  have hold := S.old
  obtain ⟨q, hq⟩ : ∃ q, (b - a) / 4 = q := ⟨_, rfl⟩
  obtain ⟨m, hm⟩ : ∃ m, b - a = m := ⟨_, rfl⟩
  rw [hm] at hq
  have hq4 : 4 * q ≤ m ∧ m < 4 * q + 4 := by omega
  have hmz : (b : Int) - (a : Int) = (m : Int) := by omega
  have hqz : ((m : Int)).tdiv 4 = (q : Int) := by rw [← hq]; rfl
  have hm0 := Mid.start S hA hD 113
  obtain ⟨W1, hW1⟩ : ∃ W1, W.alloc (.cells #[.func (.func g) #[] lb, .func (.func sf) #[] sb] 113) = W1 := ⟨_, rfl⟩
  have hsz1 : W1.heap.size = W.heap.size + 1 := by rw [← hW1]; simp
  rw [hW1] at hm0
  have hA2 := S.same hD hm0.at 0 #[.cells #[.int .i64 0] 3]
  rw [ahead_zero, ← alloc_eq_grow] at hA2
  have hk2 : Kp blk W1 (W1.alloc (.cells #[.int .i64 0] 3)) := Kp.alloc _ _
  have hnum : (W1.alloc (.cells #[.int .i64 0] 3)).heap[W.heap.size + 1]? = some (.cells #[.int .i64 ((0 : Nat) : Int)] 3 (0, 0)) := by rw [← hsz1]; exact heap_alloc_new _ _
  have hM2 : MidS enc k g lb sf sb blk off n w W D (W.heap.size + 1) 0 (W1.alloc (.cells #[.int .i64 0] 3)) :=
    ⟨⟨hA2, by simp; omega, fun b hb h1 _ => (hk2.block b (by omega) h1).trans (hm0.1.2.2.block b hb h1), hnum⟩, ⟨hm0.2.1, by omega⟩, hk2.cell hm0.fn hm0.2.1, hk2.cell hm0.sw hm0.2.1⟩
  have HM := Lib.hid hM2
  have c0 := hM2.2.2.1
  have d0 := hM2.2.2.2
  have HWS := Lib.hid (show w.heap.size ≤ W.heap.size + 1 by omega)
  have HEND : Hid (∀ {c : Nat} {wr : World}, MidS enc k g lb sf sb blk off n w W D (W.heap.size + 1) c wr → Post enc k blk off n w W D wr) := fun {c wr} h => ⟨HD.out, h.1.at', ⟨h.1.size, fun b hb h1 => h.1.block b hb h1 (by omega)⟩⟩
  rw [choosePivot_eq]
  clear S hA hD hle hold hm0 hA2 hk2 hnum hM2
  by_cases h8 : m < 8
  · have h8z : (m : Int) < 8 := by omega
    have hraw : rawPivot lt D a b = (a + q * 2, 0) := by unfold rawPivot; rw [hm, if_neg (by omega), hq]
    rw [hraw]
    obtain ⟨hs3, -⟩ := HM.out.1.read
    clear hraw
    go_enter Try.func99, Try.ntmps99
    go_wp2
    go_ret2
    refine ⟨?_, HEND.out HM.out⟩
    rw [show ((a + q * 2 : Nat) : Int) = (a : Int) + (q : Int) * 2 by omega]
    rfl
  · have h8z : ¬ (m : Int) < 8 := by omega
    by_cases h50 : m < 50
    · have h50z : (m : Int) < 50 := by omega
      obtain ⟨⟨p, r⟩, hp⟩ : ∃ p, median lt D (a + q * 1) (a + q * 2) (a + q * 3) 0 = p := ⟨_, rfl⟩
      have hraw : rawPivot lt D a b = (p, r) := by unfold rawPivot; rw [hm, if_pos (by omega), if_neg (by omega), hq, hp]
      have hcount := median_count lt D (a + q * 1) (a + q * 2) (a + q * 3) 0
      rw [hp] at hcount
      simp only at hcount
      rw [hraw]
      have HP := Lib.hid hp
      obtain ⟨ht0, ht1⟩ := hint_tests (r := r) (by omega)
      have hcase := hint_case r
      obtain ⟨hcode, hh⟩ : ∃ x, hintCode (hintOf r) = x := ⟨_, rfl⟩
      rw [hh] at hcase
      simp only [hh]
      clear hraw hp hh
      rcases hcase with ⟨h0, rfl⟩ | ⟨h0, h1, rfl⟩ | ⟨h0, h1, rfl⟩
      all_goals (first | rw [decide_eq_true h0] at ht0 | rw [decide_eq_false h0] at ht0)
      all_goals (first | rw [decide_eq_true h1] at ht1 | rw [decide_eq_false h1] at ht1 | skip)
      all_goals clear hcount
      all_goals
        go_enter Try.func99, Try.ntmps99
        go_wp2_with (go_at_call 118; refine (median_is HS.out (a + q * 1) (a + q * 2) (a + q * 3) D _ HM.out.1.at' HD.out (by omega) (by omega) (by omega) HM.out.1.num HWS.out (by omega) HP.out (by omega) (by omega) (by omega)).mono ?_; rintro e w2 ⟨rfl, hp⟩; have HM2 := Lib.hid (HM.out.next hp); obtain ⟨hs3, -⟩ := HM2.out.1.read; clear hp)
        go_ret2
        exact ⟨rfl, HEND.out HM2.out⟩
    · have h50z : ¬ (m : Int) < 50 := by omega
      obtain ⟨⟨p1, r1⟩, hp1⟩ : ∃ p, medianAdjacent lt D (a + q * 1) 0 = p := ⟨_, rfl⟩
      obtain ⟨⟨p2, r2⟩, hp2⟩ : ∃ p, medianAdjacent lt D (a + q * 2) r1 = p := ⟨_, rfl⟩
      obtain ⟨⟨p3, r3⟩, hp3⟩ : ∃ p, medianAdjacent lt D (a + q * 3) r2 = p := ⟨_, rfl⟩
      obtain ⟨⟨p, r⟩, hp⟩ : ∃ p, median lt D p1 p2 p3 r3 = p := ⟨_, rfl⟩
      have hraw : rawPivot lt D a b = (p, r) := by unfold rawPivot; rw [hm, if_pos (by omega), if_pos (by omega), hq]; simp only [hp1, hp2, hp3, hp]
      have k1 := medianAdjacent_count lt D (a + q * 1) 0
      have k2 := medianAdjacent_count lt D (a + q * 2) r1
      have k3 := medianAdjacent_count lt D (a + q * 3) r2
      have k4 := median_count lt D p1 p2 p3 r3
      have l1 : (medianAdjacent lt D (a + q * 1) 0).1 < n := median_lt (by omega) (by omega) (by omega)
      have l2 : (medianAdjacent lt D (a + q * 2) r1).1 < n := median_lt (by omega) (by omega) (by omega)
      have l3 : (medianAdjacent lt D (a + q * 3) r2).1 < n := median_lt (by omega) (by omega) (by omega)
      rw [hp1] at k1 l1
      rw [hp2] at k2 l2
      rw [hp3] at k3 l3
      rw [hp] at k4
      simp only at k1 k2 k3 k4 l1 l2 l3
      rw [hraw]
      have HP1 := Lib.hid hp1
      have HP2 := Lib.hid hp2
      have HP3 := Lib.hid hp3
      have HP := Lib.hid hp
      have HL := Lib.hid (And.intro l1 (And.intro l2 l3))
      have HK := Lib.hid (show r1 < 900 ∧ r2 < 900 ∧ r3 < 900 by omega)
      obtain ⟨ht0, ht1⟩ := hint_tests (r := r) (by omega)
      have hcase := hint_case r
      obtain ⟨hcode, hh⟩ : ∃ x, hintCode (hintOf r) = x := ⟨_, rfl⟩
      rw [hh] at hcase
      simp only [hh]
      clear hraw hp hp1 hp2 hp3 hh k1 k2 k3 k4 l1 l2 l3
      rcases hcase with ⟨h0, rfl⟩ | ⟨h0, h1, rfl⟩ | ⟨h0, h1, rfl⟩
      all_goals (first | rw [decide_eq_true h0] at ht0 | rw [decide_eq_false h0] at ht0)
      all_goals (first | rw [decide_eq_true h1] at ht1 | rw [decide_eq_false h1] at ht1 | skip)
      all_goals
        go_enter Try.func99, Try.ntmps99
        go_wp2_with first | (go_at_call 118; refine (median_is HS.out p1 p2 p3 D _ HM3.out.1.at' HD.out HL.out.1 HL.out.2.1 HL.out.2.2 HM3.out.1.num HWS.out HK.out.2.2 HP.out rfl rfl rfl).mono ?_; rintro e w5 ⟨rfl, hp⟩; have HM4 := Lib.hid (HM3.out.next hp); obtain ⟨hs3, -⟩ := HM4.out.1.read; clear hp) | (go_at_call 117; refine (medianAdjacent_is HS.out (a + q * 3) D _ HM2.out.1.at' HD.out (by omega) (by omega) HM2.out.1.num HWS.out HK.out.2.1 HP3.out (by omega)).mono ?_; rintro e w4 ⟨rfl, hp⟩; have HM3 := Lib.hid (HM2.out.next hp); have c3 := HM3.out.2.2.1; have d3 := HM3.out.2.2.2; clear hp) | (go_at_call 117; refine (medianAdjacent_is HS.out (a + q * 2) D _ HM1.out.1.at' HD.out (by omega) (by omega) HM1.out.1.num HWS.out HK.out.1 HP2.out (by omega)).mono ?_; rintro e w3 ⟨rfl, hp⟩; have HM2 := Lib.hid (HM1.out.next hp); have c2 := HM2.out.2.2.1; have d2 := HM2.out.2.2.2; clear hp) | (go_at_call 117; refine (medianAdjacent_is HS.out (a + q * 1) D _ HM.out.1.at' HD.out (by omega) (by omega) HM.out.1.num HWS.out (by omega) HP1.out (by omega)).mono ?_; rintro e w2 ⟨rfl, hp⟩; have HM1 := Lib.hid (HM.out.next hp); have c1 := HM1.out.2.2.1; have d1 := HM1.out.2.2.2; clear hp)
        go_ret2
        exact ⟨rfl, HEND.out HM4.out⟩
end Go.Proofs.Ytgbiobhladeooaa
