import Derived.Test.YtimjdlbhbiklgaaPackX
import Derived.Test.YtimjdlbhbiklgaaDawgSort
import Derived.Deep.RegionHeld3
import Derived.Test.YtimjdlbhbiklgaaPackA
import Derived.Laws.OwnMore
/- Used by the law. -/
namespace Go.Proofs.Ytimjdlbhbiklgaa
open Go.RowKit Tri Go.Sort

theorem ahead_ahead (w : World) (p q : Nat) : Sort.ahead (Sort.ahead w p) q = Sort.ahead w (p + q) := by
  unfold Sort.ahead
  simp [Nat.add_assoc]
theorem grow_kept (w : World) (q : Nat) (gs : Array Obj) : w.grownBy (Sort.grow (Sort.ahead w q) gs) none := ⟨rfl, rfl, rfl, by rw [size_grow]; exact Nat.le_add_right _ _, fun b hb _ => heap_grow_old (Sort.ahead w q) gs hb⟩
set_option maxHeartbeats 3200000 in
set_option maxRecDepth 100000 in
theorem less49_is (bx mb cb M cc : Nat) (x y : Cw) (i j : Nat) (W : World) (hb : W.cell? ⟨bx, 0, none⟩ = some (.pointer (some ⟨mb, 0, none⟩))) (h3 : W.cell? ⟨mb, 3, none⟩ = some (.slice (some ⟨cb, 0, none⟩) M cc)) (hi : i < M) (hj : j < M) (hM : M ≤ cc ∧ cc ≤ maxLen)
    (hxc : ∀ t, t < 5 → W.cell? ⟨cb, i * 5 + t, none⟩ = x.cells[t]?) (hyc : ∀ t, t < 5 → W.cell? ⟨cb, j * 5 + t, none⟩ = y.cells[t]?) (hx : x.Reads W) (hy : y.Reads W) {r : Bool} (hr : clt x y = r) :
    Calls Try.prog 69 #[.int .i64 (i : Int), .int .i64 (j : Int), .pointer (some ⟨bx, 0, none⟩)] W fun e W' => e = .returned (.bool r) ∧ ∃ q os, W' = Sort.grow (Sort.ahead W q) os := by
  obtain ⟨xnum, xl, xa, xn, xc, xf, ⟨xfin, xb, xm, xd, xarcs⟩⟩ := x
  obtain ⟨ynum, yl, ya, yn, yc, yf, ⟨yfin, yb, ym, yd, yarcs⟩⟩ := y
  obtain ⟨hM1, hM2⟩ := hM
  unfold maxLen at hM2
  have HX : Hid (Cw.Reads W.drew ⟨xnum, xl, xa, xn, xc, xf, ⟨xfin, xb, xm, xd, xarcs⟩⟩) := Lib.hid hx
  have HY : Hid (Cw.Reads W.drew ⟨ynum, yl, ya, yn, yc, yf, ⟨yfin, yb, ym, yd, yarcs⟩⟩) := Lib.hid hy
  have HR := Lib.hid hr
  have hmx : Try.prog.follows .mixedOrders = true := by kernel_rfl
  have HS0 : Hid (W.drew.cell? ⟨bx, 0, none⟩ = some (.pointer (some ⟨mb, 0, none⟩)) ∧ W.drew.cell? ⟨mb, 3, none⟩ = some (.slice (some ⟨cb, 0, none⟩) M cc) ∧ W.drew.cell? ⟨cb, i * 5, none⟩ = some (.int .i64 (xnum : Int)) ∧ W.drew.cell? ⟨cb, i * 5 + 1, none⟩ = some (.int .i64 (xl : Int)) ∧ W.drew.cell? ⟨cb, i * 5 + 2, none⟩ = some (.slice xa xn xc) ∧ W.drew.cell? ⟨cb, i * 5 + 3, none⟩ = some (.bool xfin) ∧ W.drew.cell? ⟨cb, i * 5 + 4, none⟩ = some (.slice xb xm xd) ∧ W.drew.cell? ⟨cb, j * 5, none⟩ = some (.int .i64 (ynum : Int)) ∧ W.drew.cell? ⟨cb, j * 5 + 1, none⟩ = some (.int .i64 (yl : Int)) ∧ W.drew.cell? ⟨cb, j * 5 + 2, none⟩ = some (.slice ya yn yc) ∧ W.drew.cell? ⟨cb, j * 5 + 3, none⟩ = some (.bool yfin) ∧ W.drew.cell? ⟨cb, j * 5 + 4, none⟩ = some (.slice yb ym yd)) := Lib.hid ⟨hb, h3, hxc 0 (by omega), hxc 1 (by omega), hxc 2 (by omega), hxc 3 (by omega), hxc 4 (by omega), hyc 0 (by omega), hyc 1 (by omega), hyc 2 (by omega), hyc 3 (by omega), hyc 4 (by omega)⟩
  have HS : Hid (∀ (q : Nat) (gs : Array Obj), (fun W : World => W.cell? ⟨bx, 0, none⟩ = some (.pointer (some ⟨mb, 0, none⟩)) ∧ W.cell? ⟨mb, 3, none⟩ = some (.slice (some ⟨cb, 0, none⟩) M cc) ∧ W.cell? ⟨cb, i * 5, none⟩ = some (.int .i64 (xnum : Int)) ∧ W.cell? ⟨cb, i * 5 + 1, none⟩ = some (.int .i64 (xl : Int)) ∧ W.cell? ⟨cb, i * 5 + 2, none⟩ = some (.slice xa xn xc) ∧ W.cell? ⟨cb, i * 5 + 3, none⟩ = some (.bool xfin) ∧ W.cell? ⟨cb, i * 5 + 4, none⟩ = some (.slice xb xm xd) ∧ W.cell? ⟨cb, j * 5, none⟩ = some (.int .i64 (ynum : Int)) ∧ W.cell? ⟨cb, j * 5 + 1, none⟩ = some (.int .i64 (yl : Int)) ∧ W.cell? ⟨cb, j * 5 + 2, none⟩ = some (.slice ya yn yc) ∧ W.cell? ⟨cb, j * 5 + 3, none⟩ = some (.bool yfin) ∧ W.cell? ⟨cb, j * 5 + 4, none⟩ = some (.slice yb ym yd)) (Sort.grow (Sort.ahead W.drew q) gs)) := Lib.hid (fun q gs => by
    have hg := grow_kept W.drew q gs
    obtain ⟨c1, c2, c3, c4, c5, c6, c7, c8, c9, c10, c11, c12⟩ := HS0.out
    exact ⟨hg.cell c1 (by simp), hg.cell c2 (by simp), hg.cell c3 (by simp), hg.cell c4 (by simp), hg.cell c5 (by simp), hg.cell c6 (by simp), hg.cell c7 (by simp), hg.cell c8 (by simp), hg.cell c9 (by simp), hg.cell c10 (by simp), hg.cell c11 (by simp), hg.cell c12 (by simp)⟩)
  have hiz : (i : Int) < (M : Int) := by omega
  have hjz : (j : Int) < (M : Int) := by omega
  have hi0 : (0 : Int) ≤ (i : Int) := by omega
  have hj0 : (0 : Int) ≤ (j : Int) := by omega
  clear hx hy hr hb h3 hxc hyc
  go_enter Try.func69, Try.ntmps69
  go_wp2_with fail
  refine wp_region_held_drew (S := (fun W => W.cell? ⟨bx, 0, none⟩ = some (.pointer (some ⟨mb, 0, none⟩)) ∧ W.cell? ⟨mb, 3, none⟩ = some (.slice (some ⟨cb, 0, none⟩) M cc) ∧ W.cell? ⟨cb, i * 5, none⟩ = some (.int .i64 (xnum : Int)) ∧ W.cell? ⟨cb, i * 5 + 1, none⟩ = some (.int .i64 (xl : Int)) ∧ W.cell? ⟨cb, i * 5 + 2, none⟩ = some (.slice xa xn xc) ∧ W.cell? ⟨cb, i * 5 + 3, none⟩ = some (.bool xfin) ∧ W.cell? ⟨cb, i * 5 + 4, none⟩ = some (.slice xb xm xd) ∧ W.cell? ⟨cb, j * 5, none⟩ = some (.int .i64 (ynum : Int)) ∧ W.cell? ⟨cb, j * 5 + 1, none⟩ = some (.int .i64 (yl : Int)) ∧ W.cell? ⟨cb, j * 5 + 2, none⟩ = some (.slice ya yn yc) ∧ W.cell? ⟨cb, j * 5 + 3, none⟩ = some (.bool yfin) ∧ W.cell? ⟨cb, j * 5 + 4, none⟩ = some (.slice yb ym yd))) (by kernel_rfl) (by first | ((first | exact hS2 | exact HS0.out)) | ((try dsimp only); (first | exact hS2 | exact HS0.out))) (fun hHeld => ?_)
  refine wpAnyH_take (i := 0) (v := ?vlsa1) rfl (by kernel_rfl) (by kernel_rfl) (by kernel_rfl) (fun _ _ _ h => h) (Or.inl ⟨by rfl, ?hlsa1⟩) (by assumption) ?rlsa1
  case hlsa1 => intro w hSw; (try dsimp only at hSw); go_simp; try with_reducible rfl
  simp only [Act.put, List.getElem_toArray, List.getElem_cons_zero, List.setIfInBounds_toArray, List.set_cons_succ, List.set_cons_zero]
  refine wpAnyH_take (i := 1) (v := ?vlsa4) rfl (by kernel_rfl) (by kernel_rfl) (by kernel_rfl) (fun _ _ _ h => h) (Or.inl ⟨by rfl, ?hlsa4⟩) (by assumption) ?rlsa4
  case hlsa4 => intro w hSw; (try dsimp only at hSw); go_simp; try with_reducible rfl
  simp only [Act.put, List.getElem_toArray, List.setIfInBounds_toArray]
  refine wpAnyH_take (i := 2) (v := ?vlsa7) rfl (by kernel_rfl) (by kernel_rfl) (by kernel_rfl) (fun _ _ _ h => h) (Or.inl ⟨by rfl, ?hlsa7⟩) (by assumption) ?rlsa7
  case hlsa7 => intro w hSw; (try dsimp only at hSw); go_simp; try with_reducible rfl
  simp only [Act.put, List.getElem_toArray, List.getElem_cons_succ, List.getElem_cons_zero, List.setIfInBounds_toArray, List.set_cons_succ, List.set_cons_zero]
  refine wpAnyH_take (i := 3) (v := ?vlsa10) rfl (by kernel_rfl) (by kernel_rfl) (by kernel_rfl) (fun _ _ _ h => h) (Or.inl ⟨by rfl, ?hlsa10⟩) (by assumption) ?rlsa10
  case hlsa10 => intro w hSw; (try dsimp only at hSw); go_simp; try with_reducible rfl
  simp only [Act.put, List.getElem_toArray, List.getElem_cons_succ, List.getElem_cons_zero, List.setIfInBounds_toArray, List.set_cons_succ, List.set_cons_zero]
  refine wpAnyH_take (i := 4) (v := ?vlsa13) rfl (by kernel_rfl) (by kernel_rfl) (by kernel_rfl) (fun _ _ _ h => h) (Or.inl ⟨by rfl, ?hlsa13⟩) (by assumption) ?rlsa13
  case hlsa13 => intro w hSw; (try dsimp only at hSw); go_simp; try with_reducible rfl
  simp only [Act.put, List.getElem_toArray, List.getElem_cons_succ, List.getElem_cons_zero, List.setIfInBounds_toArray, List.set_cons_succ, List.set_cons_zero]
  refine wpAnyH_take (i := 5) (v := ?vlsa16) rfl (by kernel_rfl) (by kernel_rfl) (by kernel_rfl) (fun _ _ _ h => h) (Or.inl ⟨by rfl, ?hlsa16⟩) (by assumption) ?rlsa16
  case hlsa16 => intro w hSw; (try dsimp only at hSw); go_simp; try with_reducible rfl
  simp only [Act.put, List.getElem_toArray, List.getElem_cons_succ, List.getElem_cons_zero, List.setIfInBounds_toArray, List.set_cons_succ, List.set_cons_zero]
  refine wpAnyH_take (i := 6) (v := ?vlsa19) rfl (by kernel_rfl) (by kernel_rfl) (by kernel_rfl) (fun _ _ _ h => h) (Or.inl ⟨by rfl, ?hlsa19⟩) (by assumption) ?rlsa19
  case hlsa19 => intro w hSw; (try dsimp only at hSw); go_simp; try with_reducible rfl
  simp only [Act.put, List.getElem_toArray, List.getElem_cons_succ, List.getElem_cons_zero, List.setIfInBounds_toArray, List.set_cons_succ, List.set_cons_zero]
  refine wpAnyH_take (i := 7) (v := ?vlsa22) rfl (by kernel_rfl) (by kernel_rfl) (by kernel_rfl) (fun _ _ _ h => h) (Or.inl ⟨by rfl, ?hlsa22⟩) (by assumption) ?rlsa22
  case hlsa22 => intro w hSw; (try dsimp only at hSw); go_simp; try with_reducible rfl
  simp only [Act.put, List.getElem_toArray, List.getElem_cons_succ, List.getElem_cons_zero, List.setIfInBounds_toArray, List.set_cons_succ, List.set_cons_zero]
  refine wpAnyH_take (i := 8) (v := ?vlsa25) rfl (by kernel_rfl) (by kernel_rfl) (by kernel_rfl) (fun _ _ _ h => h) (Or.inl ⟨by rfl, ?hlsa25⟩) (by assumption) ?rlsa25
  case hlsa25 => intro w hSw; (try dsimp only at hSw); go_simp; try with_reducible rfl
  simp only [Act.put, List.getElem_toArray, List.getElem_cons_succ, List.getElem_cons_zero, List.setIfInBounds_toArray, List.set_cons_succ, List.set_cons_zero]
  refine wpAnyH_take (i := 9) (v := ?vlsa28) rfl (by kernel_rfl) (by kernel_rfl) (by kernel_rfl) (fun _ _ _ h => h) (Or.inl ⟨by rfl, ?hlsa28⟩) (by assumption) ?rlsa28
  case hlsa28 => intro w hSw; (try dsimp only at hSw); go_simp; try with_reducible rfl
  simp only [Act.put, List.getElem_toArray, List.getElem_cons_succ, List.getElem_cons_zero, List.setIfInBounds_toArray, List.set_cons_succ, List.set_cons_zero]
  refine wpAnyH_take (i := 10) (v := ?vlsa31) rfl (by kernel_rfl) (by kernel_rfl) (by kernel_rfl) (fun _ _ _ h => h) (Or.inl ⟨by rfl, ?hlsa31⟩) (by assumption) ?rlsa31
  case hlsa31 => intro w hSw; (try dsimp only at hSw); go_simp; try with_reducible rfl
  simp only [Act.put, List.getElem_toArray, List.getElem_cons_succ, List.getElem_cons_zero, List.setIfInBounds_toArray, List.set_cons_succ, List.set_cons_zero]
  refine wpAnyH_take (i := 11) (v := ?vlsa34) rfl (by kernel_rfl) (by kernel_rfl) (by kernel_rfl) (fun _ _ _ h => h) (Or.inl ⟨by rfl, ?hlsa34⟩) (by assumption) ?rlsa34
  case hlsa34 => intro w hSw; (try dsimp only at hSw); go_simp; try with_reducible rfl
  simp only [Act.put, List.getElem_toArray, List.getElem_cons_succ, List.getElem_cons_zero, List.setIfInBounds_toArray, List.set_cons_succ, List.set_cons_zero]
  refine wpAnyH_take (i := 12) (v := ?vlsa37) rfl (by kernel_rfl) (by kernel_rfl) (by kernel_rfl) (fun _ _ _ h => h) (Or.inl ⟨by rfl, ?hlsa37⟩) (by assumption) ?rlsa37
  case hlsa37 => intro w hSw; (try dsimp only at hSw); go_simp; try with_reducible rfl
  simp only [Act.put, List.getElem_toArray, List.getElem_cons_succ, List.getElem_cons_zero, List.setIfInBounds_toArray, List.set_cons_succ, List.set_cons_zero]
  refine wpAnyH_take (i := 13) (v := ?vlsa40) rfl (by kernel_rfl) (by kernel_rfl) (by kernel_rfl) (fun _ _ _ h => h) (Or.inl ⟨by rfl, ?hlsa40⟩) (by assumption) ?rlsa40
  case hlsa40 => intro w hSw; (try dsimp only at hSw); go_simp; try with_reducible rfl
  simp only [Act.put, List.getElem_toArray, List.getElem_cons_succ, List.getElem_cons_zero, List.setIfInBounds_toArray, List.set_cons_succ, List.set_cons_zero]
  refine wpAnyH_ready (rs := [14]) (by kernel_rfl) (by simp) ?_
  refine AllReadyH.cons rfl (fun K hK => ?_) AllReadyH.nil
  go_simp
  go_at_call 70
  refine (ahead_is ⟨xnum, xl, xa, xn, xc, xf, ⟨xfin, xb, xm, xd, xarcs⟩⟩ ⟨ynum, yl, ya, yn, yc, yf, ⟨yfin, yb, ym, yd, yarcs⟩⟩ _ HX.out HY.out HR.out).mono ?_
  rintro e W2 ⟨rfl, q, gs, rfl⟩
  have hS2 := HS.out q gs
  go_wp2_with fail
  refine hK.out _ _ (by (try dsimp only); (first | exact hS2 | exact HS0.out)) (fun hHeld => ?_)
  clear hK K
  try simp only [Act.put, List.getElem_toArray, List.getElem_cons_succ, List.getElem_cons_zero, List.setIfInBounds_toArray, List.set_cons_succ, List.set_cons_zero]
  refine wpAnyH_take (i := 15) (v := ?vlsa54) rfl (by kernel_rfl) (by kernel_rfl) (by kernel_rfl) (fun _ _ _ h => h) (Or.inl ⟨by rfl, ?hlsa54⟩) (by assumption) ?rlsa54
  case hlsa54 => intro w hSw; (try dsimp only at hSw); go_simp; try with_reducible rfl
  simp only [Act.put, List.getElem_toArray, List.getElem_cons_succ, List.getElem_cons_zero, List.setIfInBounds_toArray, List.set_cons_succ, List.set_cons_zero]
  refine wpAnyH_done (by kernel_rfl) ?_ _
  go_wp2
  go_ret
  exact ⟨rfl, 1 + q, gs, by rw [← ahead_ahead]; rfl⟩
end Go.Proofs.Ytimjdlbhbiklgaa

/- Used by the law. -/
namespace Go.Proofs.Ytimjdlbhbiklgaa
open Go.RowKit Tri Go.Sort

theorem clt_irrefl (x : Cw) : clt x x = false := by
  unfold clt
  simp [less_irrefl]
set_option maxRecDepth 100000 in
theorem clt_trans {a b c : Cw} (h1 : clt a b = true) (h2 : clt b c = true) : clt a c = true := by
  unfold clt at *
  simp only [Bool.or_eq_true, Bool.and_eq_true, decide_eq_true_eq] at *
  rcases h1 with h1 | ⟨h1, h1'⟩ <;> rcases h2 with h2 | ⟨h2, h2'⟩
  · exact .inl (by omega)
  · exact .inl (by omega)
  · exact .inl (by omega)
  · exact .inr ⟨by omega, less_trans h1' h2'⟩
set_option maxRecDepth 100000 in
theorem clt_ntrans {a b c : Cw} (h1 : clt a b = false) (h2 : clt b c = false) : clt a c = false := by
  unfold clt at *
  simp only [Bool.or_eq_false_iff, Bool.and_eq_false_iff, decide_eq_false_iff_not] at *
  obtain ⟨h1, h1'⟩ := h1
  obtain ⟨h2, h2'⟩ := h2
  refine ⟨by omega, ?_⟩
  by_cases e : a.long = c.long
  · right
    rcases h1' with h | h
    · omega
    · rcases h2' with h' | h'
      · omega
      · exact less_ntrans h h'
  · exact .inl e
abbrev Ck (w : World) (cb : Nat) := { x : Cw // x.Reads w ∧ ∀ b off, x.fa = some ⟨b, off, none⟩ → b ≠ cb }
instance {w : World} {cb : Nat} : Inhabited (Ck w cb) := ⟨⟨Cw.no, ⟨⟨rfl, Nat.le_refl _, by show 0 ≤ maxLen; omega, fun z hz => (by cases hz), .inl rfl⟩, by show 0 ≤ 1000; omega⟩, by intro b off e; cases e⟩⟩
def ckc {w : World} {cb : Nat} (x : Ck w cb) : List Value := x.1.cells
def cklt {w : World} {cb : Nat} (x y : Ck w cb) : Bool := clt x.1 y.1
theorem cklt_swo (w : World) (cb : Nat) : SWO (cklt (w := w) (cb := cb)) := ⟨fun x => clt_irrefl x.1, fun _ _ _ h h' => clt_trans h h', fun _ _ _ h h' => clt_ntrans h h'⟩
theorem ckc_one {w : World} {cb : Nat} (x : Ck w cb) : ∀ v ∈ ckc x, v.oneCell' = true := by
  intro u hu
  simp only [ckc, Cw.cells, List.mem_cons, List.not_mem_nil, or_false] at hu
  rcases hu with rfl | rfl | rfl | rfl | rfl <;> rfl
theorem kp_of_at {α : Type} [Inhabited α] {enc : α → List Value} {k blk off : Nat} {w W : World} {D : Array α} (h : AtK enc k w blk off D W) : Kp blk w W ∧ W.os = w.os ∧ W.tape = w.tape ∧ W.output = w.output := by
  obtain ⟨q, gs, rfl⟩ := h
  refine ⟨⟨?_, fun b hb hne => ?_⟩, rfl, rfl, rfl⟩
  · rw [size_grow]
    unfold putRowK putRow mapBlock
    simp
  · have hb' : b < (putRowK enc k (Sort.ahead w q) blk off D).heap.size := by
      unfold putRowK putRow mapBlock
      simp
      exact hb
    have e := heap_grow_old (putRowK enc k (Sort.ahead w q) blk off D) gs hb'
    rw [e]
    unfold putRowK putRow mapBlock
    simp only [Array.getElem?_modify]
    rw [if_neg (fun e => hne e.symm)]
    try rfl
theorem sl_kp {w W : World} {k : IntKind} {cb : Nat} {a : Option Addr} {n cap : Nat} {zs : List Int} (h : Sl k w a n cap zs) (hk : Kp cb w W) (hne : ∀ b off, a = some ⟨b, off, none⟩ → b ≠ cb) : Sl k W a n cap zs := by
  obtain ⟨h1, h2, h3, h4, h5⟩ := h
  refine ⟨h1, h2, h3, h4, ?_⟩
  rcases h5 with h5 | ⟨b, off, ha, hc⟩
  · exact .inl h5
  · exact .inr ⟨b, off, ha, fun i hi => hk.cell (hc i hi) (hne b off ha)⟩
theorem holds_cell {w W : World} {cb blk : Nat} {D : Array (Ck w cb)} (h : HoldsK ckc 5 W blk 0 D) {i t : Nat} (hi : i < D.size) (ht : t < 5) : W.cell? ⟨blk, i * 5 + t, none⟩ = (D[i]!).1.cells[t]? := by
  have hl : t < (ckc D[i]!).length := ht
  have h1 := (h (i * 5 + t) (by rw [size_flatK]; omega)).1
  rw [get_flatK ckc 5 D _ (by omega), show (i * 5 + t) / 5 = i by omega, show (i * 5 + t) % 5 = t by omega] at h1
  rw [show i * 5 + t = 0 + (i * 5 + t) by omega, h1, getElem!_pos (ckc D[i]!) t hl]
  show some _ = (ckc D[i]!)[t]?
  rw [List.getElem?_eq_getElem hl]; rfl

set_option maxRecDepth 100000 in
theorem sorted_is (bx mb cb cc B : Nat) (cs : List Cw) (w : World) (hb : w.cell? ⟨bx, 0, none⟩ = some (.pointer (some ⟨mb, 0, none⟩))) (h3 : w.cell? ⟨mb, 3, none⟩ = some (.slice (some ⟨cb, 0, none⟩) cs.length cc)) (hne : bx ≠ cb ∧ mb ≠ cb)
    (hrow : w.ownsRow B 106 5 (.slice (some ⟨cb, 0, none⟩) cs.length cc) cs.length (ccells cs)) (hcs : ∀ x ∈ cs, x.Reads w ∧ ∀ b off, x.fa = some ⟨b, off, none⟩ → b ≠ cb) (h1 : 1 ≤ cs.length) (h7 : cs.length ≤ 7000) (hcc : cs.length ≤ cc ∧ cc ≤ maxLen) :
    Calls Try.prog 68 #[.iface 72 (.slice (some ⟨cb, 0, none⟩) cs.length cc), .func (.func 69) #[] #[.pointer (some ⟨bx, 0, none⟩)]] w fun e w' =>
      e = .returned (.tuple #[]) ∧ ∃ cs' : List Cw, cs'.Perm cs ∧ (cs'.Pairwise fun a b => clt b a = false) ∧ Kp cb w w' ∧ (w'.os = w.os ∧ w'.tape = w.tape ∧ w'.output = w.output) ∧
        ∀ i, i < cs.length → ∀ t, t < 5 → w'.cell? ⟨cb, i * 5 + t, none⟩ = (cs'.getD i Cw.no).cells[t]? := by
  obtain ⟨d, hd⟩ : ∃ d : Array (Ck w cb), d = (cs.attach.map fun x => (⟨x.1, hcs x.1 x.2⟩ : Ck w cb)).toArray := ⟨_, rfl⟩
  have hds : d.size = cs.length := by rw [hd]; simp
  have hdl : d.toList.map (·.1) = cs := by
    rw [hd]
    simp only [List.map_map]
    refine List.ext_getElem (by simp) fun i h1 h2 => ?_
    simp
  have hdi : ∀ i, i < cs.length → (d[i]!).1 = cs.getD i Cw.no := by
    intro i hi
    have e : (d.toList.map (·.1))[i]'(by simp [hds]; exact hi) = cs[i] := by simp only [hdl]
    rw [getElem!_pos d i (by omega)]
    simp only [List.getElem_map, Array.getElem_toList] at e
    rw [e]; simp [hi]
  have hH : HoldsK ckc 5 w cb 0 d := by
    intro t ht
    rw [size_flatK, hds] at ht
    rw [get_flatK ckc 5 d t (by rw [hds]; exact ht)]
    have hi : t / 5 < cs.length := by omega
    have hr : t % 5 < 5 := Nat.mod_lt _ (by omega)
    refine ⟨?_, hrow.frozenAt _⟩
    have hc := ccells_at cs (t / 5) (t % 5) hi hr
    rw [show t / 5 * 5 + t % 5 = t by omega] at hc
    rw [show (0 : Nat) + t = t by omega, hrow.cellAt t ht, hc]
    have hl : t % 5 < (ckc d[t / 5]!).length := hr
    rw [getElem!_pos (ckc d[t / 5]!) (t % 5) hl]
    show _ = some ((ckc d[t / 5]!)[t % 5])
    rw [← List.getElem?_eq_getElem hl]
    show _ = (d[t / 5]!).1.cells[t % 5]?
    rw [hdi _ hi]
  have hblk := (hrow.lt cb rfl).2
  have hless : ∀ (D : Array (Ck w cb)) (W : World), D.size = d.size → AtK ckc 5 w cb 0 D W → ∀ i j : Nat, i < d.size → j < d.size →
      Calls Try.prog 69 (#[.int .i64 i, .int .i64 j] ++ #[.pointer (some ⟨bx, 0, none⟩)]) W fun e W' => e = .returned (.bool (cklt D[i]! D[j]!)) ∧ ∃ q os, W' = Sort.grow (Sort.ahead W q) os := by
    intro D W hs hA i j hi hj
    have hW := (AtK.holds hA hH hs hblk).1
    have hK := (kp_of_at hA).1
    have hrd : ∀ x : Ck w cb, x.1.Reads W := fun x => ⟨sl_kp x.2.1.1 hK x.2.2, x.2.1.2⟩
    exact less49_is bx mb cb cs.length cc (D[i]!).1 (D[j]!).1 i j W (hK.cell hb hne.1) (hK.cell h3 hne.2) (by omega) (by omega) hcc (fun t ht => holds_cell hW (by omega) ht) (fun t ht => holds_cell hW (by omega) ht) (hrd _) (hrd _) rfl
  have h := sortClasses_is (enc := ckc) (lt := cklt) (blk := cb) (off := 0) (g := 69) (lb := #[.pointer (some ⟨bx, 0, none⟩)]) (w := w) (fun _ => rfl) ckc_one (cklt_swo w cb) (enters_of Try.func69 (by kernel_rfl) rfl) cc d (by omega) (by omega) hless hH hblk
  rw [hds] at h
  refine h.mono ?_
  rintro e w' ⟨rfl, d', hp, hso, hd's, hat, hk⟩
  have hsz : d'.size = cs.length := hd's
  have hW := (AtK.holds hat hH (by omega) hblk).1
  refine ⟨rfl, d'.toList.map (·.1), ?_, ?_, hk, (kp_of_at hat).2, fun i hi t ht => ?_⟩
  · have h2 := hp.2.2
    have e1 : d'.extract 0 cs.length = d' := by rw [← hsz]; exact Array.extract_size
    have e2 : d.extract 0 cs.length = d := by rw [← hds]; exact Array.extract_size
    rw [e1, e2] at h2
    have h4 := h2.map (fun x : Ck w cb => x.1)
    rw [hdl] at h4
    exact h4
  · rw [List.pairwise_iff_getElem]
    intro i j hi hj hij
    simp only [List.length_map, Array.length_toList] at hi hj
    have h5 := hso i j (Nat.zero_le _) hij (by omega)
    rw [getElem!_pos d' i hi, getElem!_pos d' j hj] at h5
    simpa [cklt] using h5
  · rw [holds_cell hW (by omega) ht]
    have e : (d'.toList.map (·.1)).getD i Cw.no = (d'[i]!).1 := by
      rw [getElem!_pos d' i (by omega)]
      simp [show i < d'.size by omega]
    rw [e]
end Go.Proofs.Ytimjdlbhbiklgaa
