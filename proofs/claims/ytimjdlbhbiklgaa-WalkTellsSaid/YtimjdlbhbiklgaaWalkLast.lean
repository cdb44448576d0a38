/- Used by the law. -/
import Derived.Test.YtimjdlbhbiklgaaWalkBehind
import Derived.Test.YtimjdlbhbiklgaaDawgIter
import Derived.Test.YtimjdlbhbiklgaaDawgKeep
import Derived.Test.YtimjdlbhbiklgaaOrderInts
import Derived.Test.YtimjdlbhbiklgaaPackR
namespace Go.Proofs.Ytimjdlbhbiklgaa
open Go.RowKit Go.Shelf Tri Wlk
attribute [local go_sem] Oper.semAt_some

def NumAt (N : Nat → Int) (n h nb : Nat) (fe : Value) (w : World) (k : Nat) (O : Nat → Prop) (W : World) : Prop :=
  Boxed W h 57 fe ∧ Boxed W nb 23 (.slice (some ⟨h + 1, 0, none⟩) n n) ∧ O (h + 1) ∧ ¬ O h ∧ ¬ O nb ∧ Below h w W ∧
    ∃ zs : List Int, W.ownsRow h 3 1 (.slice (some ⟨h + 1, 0, none⟩) n n) n (i64s zs) ∧ zs.length = n ∧ (∀ z ∈ zs, (Lit.int .i64 z).wf = true) ∧ ∀ j, n - k ≤ j → j < n → zs.getD j 0 = N j
theorem numAt_keep {N : Nat → Int} {n h nb : Nat} {fe : Value} {w : World} {k base : Nat} {O : Nat → Prop} {W W' : World} (hb : h + 1 < base) (hnb : nb < base) (hw : h ≤ w.heap.size) (h0 : NumAt N n h nb fe w k O W) (hk : Keep (fun k => k < base ∨ O k) W W') : NumAt N n h nb fe w k O W' := by
  obtain ⟨h1, h2, h3, h4, h5, h6, zs, h7, h8⟩ := h0
  refine ⟨hk.boxed h1 (.inl (by omega)), hk.boxed h2 (.inl hnb), h3, h4, h5, h6.trans ((hk.mono (T := fun k => k < base) fun k _ h => .inl h).below (Nat.le_trans hw h6.size) (fun k h => by omega)), zs, own_keep h7 hk (fun r e => .inl ?_), h8⟩
  have : h + 1 = r := by simpa [Value.ownBlock] using e
  omega
theorem wf_small {z : Int} (h1 : -1000000 ≤ z) (h2 : z ≤ 1000000) : (Lit.int .i64 z).wf = true := by
  apply WalkArith.wf_i64 <;> omega
theorem i64s_set (zs : List Int) (k : Nat) (v : Int) : (i64s zs).set k (.int .i64 v) = i64s (zs.set k v) := by unfold i64s; rw [List.map_set]
theorem zeros_i64 (n : Nat) : (madeCells #[Value.int .i64 0] n).toList = i64s (List.replicate n 0) := by
  apply List.ext_getElem?
  intro j
  by_cases hj : j < n
  · have : j % 1 = 0 := by omega
    simp [madeCells, i64s, hj, this]
  · simp [madeCells, i64s, hj]

set_option maxRecDepth 100000 in
set_option maxHeartbeats 4000000 in
theorem fromLast_many {l : List St} (hc : check l = true) (a : Option Addr) (n cap : Nat) (ys : List Sw) (w : World) (hy : Ss w a n cap ys) (hys : sts ys = l) :
    Calls Try.prog 37 #[.slice a n cap, .func (.func 38) #[] #[]] w fun e w' => e = .returned (.slice (some ⟨w.heap.size + 1, 0, none⟩) n n) ∧ ∃ zs : List Int, w'.ownsRow w.heap.size 3 1 (.slice (some ⟨w.heap.size + 1, 0, none⟩) n n) n (i64s zs) ∧ zs.length = n ∧ (∀ z ∈ zs, (Lit.int .i64 z).wf = true) ∧ (∀ j, j < n → zs.getD j 0 = (mny l j : Int)) ∧ Below w.heap.size w w' := by
  have hyl : l.length = n := by rw [← hys, sts_length]; exact hy.1
  have HW : Hid (∀ i, i < n → (Lit.int .i64 ((mny l i : Int))).wf = true) := Lib.hid fun i hi => wf_small (by unfold mny; omega) (by unfold mny; omega)
  have hN : n ≤ 6001 := by have := (check_size hc).2; omega
  have hnum : ∀ (F : Fence) (m : Nat), F = Fence.wide → ∀ (i : Nat) (W : World) (x : Sw) (zs : List Int), i < n → x.Good W → l.getD i St.no = x.st → W.ownsRow w.heap.size 3 1 (.slice (some ⟨w.heap.size + 1, 0, none⟩) n n) n (i64s zs) → zs.length = n → (∀ z ∈ zs, (Lit.int .i64 z).wf = true) → (∀ j, i < j → j < n → zs.getD j 0 = (mny l j : Int)) →
      CallsIn F m Try.prog 38 #[.agg #[.bool x.fin, .slice x.a x.n x.cap], .slice (some ⟨w.heap.size + 1, 0, none⟩) n n] W fun e w' => e = .returned (.int .i64 ((mny l i : Int))) ∧ Below W.heap.size W w' := by
    intro F m hF i W x zs hi hx hxs ho hl hz hv
    subst hF
    exact callsIn_wide.2 (manyBehind_is hc i (by omega) x hxs _ _ _ zs W hx (Sl.of_owns ho hz hl) hyl.symm (fun j h1 h2 => hv j h1 (by omega)))
  refine (callsIn_wide (n := 20)).1 ?_
  obtain ⟨F, hF⟩ : ∃ F, F = Fence.wide := ⟨_, rfl⟩
  have hfn : ∀ f, F.fn f := by subst hF; exact fun _ => trivial
  have hro : F.round = none := by subst hF; rfl
  have hd : F.depth = none := by subst hF; rfl
  have hnu := fun (m : Nat) => hnum F m hF
  rw [← hF]
  clear hF hnum
  have hmix : Try.prog.follows .mixedOrders = true := by kernel_rfl
  refine callsIn_of_wp_marks Try.func37 rfl (hfn _) ?_ hro
  simp only [Try.ntmps37, List.size_toArray, List.length_cons, List.length_nil, Nat.reduceAdd, Nat.reduceSub, Array.replicate_succ, Array.replicate_zero, List.push_toArray, List.append_toArray, List.nil_append, List.cons_append]
  have HY := Lib.hid hy
  have HYS := Lib.hid hys
  have HNU := Lib.hid hnu
  obtain ⟨ia, hia, ha0, ha1, ha2⟩ := info_parts info_int
  obtain ⟨h, hh⟩ : ∃ h, h = w.heap.size := ⟨_, rfl⟩
  have hncap := hy.2.1
  clear hy hys hnu
  gi_wp2_with (first
    | (gi_at_make; refine wpListIn_make_full _ (by rfl) _ _ 23 (by rfl) w.heap.size 3 ia (.int .i64 0) 1 Try.underlying23 hia ha0 ha1 .i64 .i64 (n : Int) (n : Int) n (by rfl) (by rfl) rfl rfl (by rw [ha2]; omega) (by unfold maxLen; omega) (by simp) ?_; intro w4 hown4 hg4; have HO4 := Lib.hid hown4; have HG4 := Lib.hid hg4; clear hown4 hg4)
    | (gi_at_call 62; refine (backward_in F _ (hfn _) hro _ _ _ _).mono ?_; rintro e w' ⟨rfl, rfl⟩))
  have hns : Try.prog.follows .mixedOrders = true := hmix
  have bF := Boxed.new w 57 (.func (.func 38) #[] #[])
  obtain ⟨fe, hfe⟩ : ∃ fe : Value, fe = .func (.func 38) #[] #[] := ⟨_, rfl⟩
  have hz4 := HG4.out.size
  have bF4 : Boxed w4 w.heap.size 57 fe := by rw [hfe]; exact (HG4.out.block w.heap.size (by simp) (by simp)).trans bF
  have hb4 : Below w.heap.size w w4 := ((Below.refl w.heap.size w).alloc (Nat.le_refl _) _).trans ⟨HG4.out.os, HG4.out.tape, HG4.out.output, HG4.out.size, fun k hk => HG4.out.block k (by simp; omega) (by simp)⟩
  have hO4 := HO4.out
  rw [show (Value.int .i64 0).cells = #[Value.int .i64 0] from rfl, Nat.mul_one, zeros_i64, World.size_alloc] at hO4
  rw [World.size_alloc] at hz4
  obtain ⟨nb, hnb⟩ : ∃ nb, nb = w4.heap.size := ⟨_, rfl⟩
  obtain ⟨w1, hw1⟩ : ∃ w1, w1 = (w4.alloc (.cells #[.slice (some ⟨w.heap.size + 1, 0, none⟩) n n] 23)).alloc (.cells #[.slice a n cap] 22) := ⟨_, rfl⟩
  have z1 : w1.heap.size = nb + 2 := by rw [hw1, hnb]; simp
  have k1 : ∀ T, Keep T w4 w1 := fun T => by rw [hw1]; exact (Keep.alloc T w4 _).trans (Keep.alloc T _ _)
  have bN : Boxed w1 nb 23 (.slice (some ⟨w.heap.size + 1, 0, none⟩) n n) := by
    rw [hw1, hnb]; exact (Keep.alloc (fun _ => True) _ _).boxed (Boxed.new w4 23 (.slice (some ⟨w.heap.size + 1, 0, none⟩) n n)) trivial
  have bl : w1.cell? ⟨nb + 1, 0, none⟩ = some (.slice a n cap) := by
    have h := heap_alloc_new (w4.alloc (.cells #[.slice (some ⟨w.heap.size + 1, 0, none⟩) n n] 23)) (.cells #[.slice a n cap] 22)
    rw [World.size_alloc] at h
    rw [hw1, hnb, cell_of_obj h]; rfl
  have hlt4 : w.heap.size + 1 < w4.heap.size := (hO4.lt _ rfl).2
  have hbw1 : Below w.heap.size w w1 := hb4.trans ((k1 (fun _ => True)).below hb4.size (fun _ _ => trivial))
  have hI1 : NumAt (fun j => (mny l j : Int)) n w.heap.size nb fe w 0 (fun k => k = w.heap.size + 1) w1 :=
    ⟨(k1 (fun _ => True)).boxed bF4 trivial, bN, rfl, by omega, by omega, hbw1, List.replicate n 0, own_keep hO4 (k1 (fun _ => True)) (fun _ _ => trivial), by simp, (fun z hz => by rw [(List.mem_replicate.1 hz).2]; decide), fun j h1 h2 => by omega⟩
  rw [← hw1, ← hnb]
  have hnbl : w.heap.size + 1 < nb := by omega
  clear hO4 bF4 bF bN hw1 hnb hz4 hlt4 k1 hb4 HG4 HO4
  refine wpIn_range_iterH hro (fun h => by rw [hd] at h; cases h) (gf := 77) (lb := #[.pointer (some ⟨nb + 1, 0, none⟩)]) rfl (hfn _) (enters_of Try.func77 (by kernel_rfl) rfl)
    (encs := bpv (ys := ys)) (Rd := fun k => k < w.heap.size ∨ k = nb + 1) (T := Backs ys) (S := fun xs => Backs ys xs ∧ xs.length = n) (Sp := fun _ => True) (N := n) (w0 := w1)
    (fun l J Jx O W hW hO _ _ hY h0 => backward1_in F _ (hfn _) hro (by omega) l (nb + 1) a n cap ys w HY.out (by omega) J Jx hY (fun k => k < w.heap.size ∨ k = nb + 1) (fun _ h => .inl h) (.inr rfl) O W
      (by rintro k (h | rfl) <;> (have := hW.size; omega)) (fun k hk => (hO k hk).1) (hbw1.trans (hW.below (by omega) (fun k h => .inl h))) (hW.cell bl (.inr rfl)) h0)
    (Keep.refl _ _) (by rintro k (h | rfl) <;> omega) (fun _ => rfl)
    (fun pre O W => NumAt (fun j => (mny l j : Int)) n w.heap.size nb fe w pre.length O W) (fun _ _ _ _ => False) (fun _ _ _ _ h hk => numAt_keep (by omega) (by omega) (Nat.le_refl _) h hk) (fun _ _ _ _ _ h _ => h)
    (fun k => k = w.heap.size + 1) (by rintro k rfl; refine ⟨?_, by omega⟩; rintro (h | h) <;> omega)
    hI1
    (fun x bx => { tmps := #[.slice a n cap, .func (.func 38) #[] #[], undef, .pointer (some ⟨w.heap.size, 0, none⟩), .slice none 0 0, .pointer (some ⟨nb, 0, none⟩), .int .i64 (x.1.1 : Int), .pointer (some ⟨bx, 0, none⟩), .slice a n cap, .int .i64 (n : Int), .slice (some ⟨w.heap.size + 1, 0, none⟩) n n, .slice a n cap, .func (.func 77) #[] #[.pointer (some ⟨nb + 1, 0, none⟩)], .int .i64 (x.1.1 : Int), .agg #[.bool x.1.2.fin, .slice x.1.2.a x.1.2.n x.1.2.cap], undef, undef, undef, undef, undef, undef, undef, undef], defers := [] })
    (fun x => .cells #[.bool x.1.2.fin, .slice x.1.2.a x.1.2.n x.1.2.cap] 47) ?assign ?body ?done ?stop
  case assign =>
    intro l x W K hK
    simp only [bpv]
    gi_wp2
    exact hK
  case body =>
    rintro l2 pre x O X bx hTx ⟨h1, h2, h3, h4, h5, h6, zs, h7, h8, h9, h10⟩ hlt hsz hbx
    have hi : x.1.1 + pre.length + 1 = n := by
      have := hTx pre.length (by simp)
      rw [List.getElem_append_right (Nat.le_refl _)] at this
      simp only [Nat.sub_self, List.getElem_cons_zero] at this
      rw [this]; exact HY.out.1
    have hxg : x.1.2.Good X := by
      have hm : x.1.2 ∈ ys := by
        rw [← x.2.2, List.getD_eq_getElem?_getD, List.getElem?_eq_getElem x.2.1, Option.getD_some]; exact List.getElem_mem _
      exact (HY.out.2.2.2.1 _ hm).below h6 (Nat.le_refl _)
    have hxs : l.getD x.1.1 St.no = x.1.2.st := by rw [← HYS.out, sts_at, x.2.2]
    obtain ⟨⟨⟨i, ⟨fin, sa, sn, sc, arcs⟩⟩, hx2⟩, hxe⟩ : ∃ y, y = x := ⟨x, rfl⟩
    subst hxe
    simp only at hi hxg hxs hbx ⊢
    have hiN : i < n := by omega
    have hcall := fun (m : Nat) (W : World) (hW : Below X.heap.size X W) => (HNU.out m i W ⟨fin, sa, sn, sc, arcs⟩ zs hiN (Sw.Good.below hxg hW (Nat.le_refl _)) hxs (ownsRow_below h7 hW (Nat.le_refl _)) h8 h9 (fun j hj1 hj2 => h10 j (by omega) hj2)).inRound l2
    have ct := h1.cell
    rw [hfe] at ct
    have cn := h2.cell
    have c0 : X.cell? ⟨bx, 0, none⟩ = some (.bool fin) := by rw [cell_of_obj hbx]; rfl
    have c1 : X.cell? ⟨bx, 1, none⟩ = some (.slice sa sn sc) := by rw [cell_of_obj hbx]; rfl
    have hii : (i : Int) < (n : Int) := by omega
    have HCALL := Lib.hid hcall
    have H1 := Lib.hid h1
    have H2 := Lib.hid h2
    have H7 := Lib.hid h7
    have HXB := Lib.hid hbx
    have H9 := Lib.hid h9
    have H10 := Lib.hid h10
    clear hcall hbx h1 h2 h7 hxg hxs h9 h10
    have HS0 : Hid (∀ W, Below X.heap.size X W → W.cell? ⟨nb, 0, none⟩ = some (.slice (some ⟨w.heap.size + 1, 0, none⟩) n n) ∧ W.cell? ⟨w.heap.size, 0, none⟩ = some (.func (.func 38) #[] #[]) ∧ W.cell? ⟨bx, 0, none⟩ = some (.bool fin) ∧ W.cell? ⟨bx, 1, none⟩ = some (.slice sa sn sc)) := Lib.hid fun W hW => by
      have e1 := cell_lt cn
      have e2 := cell_lt ct
      have e3 := cell_lt c0
      exact ⟨by rw [hW.cell (p := ⟨nb, 0, none⟩) e1]; exact cn, by rw [hW.cell (p := ⟨w.heap.size, 0, none⟩) e2]; exact ct, by rw [hW.cell (p := ⟨bx, 0, none⟩) e3]; exact c0, by rw [hW.cell (p := ⟨bx, 1, none⟩) e3]; exact c1⟩
    have HSS : Hid (∀ (W : World) (v : Value), Below X.heap.size X W → (W.setCell ⟨w.heap.size + 1, i, none⟩ v).cell? ⟨nb, 0, none⟩ = some (.slice (some ⟨w.heap.size + 1, 0, none⟩) n n) ∧ (W.setCell ⟨w.heap.size + 1, i, none⟩ v).cell? ⟨w.heap.size, 0, none⟩ = some (.func (.func 38) #[] #[]) ∧ (W.setCell ⟨w.heap.size + 1, i, none⟩ v).cell? ⟨bx, 0, none⟩ = some (.bool fin) ∧ (W.setCell ⟨w.heap.size + 1, i, none⟩ v).cell? ⟨bx, 1, none⟩ = some (.slice sa sn sc)) := Lib.hid fun W v hW => by
      obtain ⟨g1, g2, g3, g4⟩ := HS0.out W hW
      have hbxn : w.heap.size + 1 ≠ bx := fun e => by
        have h0 := H7.out.cellAt 0 (by omega)
        rw [e] at h0
        have h1 : X.cell? ⟨bx, 0, none⟩ = some (.bool fin) := by rw [cell_of_obj HXB.out]; rfl
        rw [h1] at h0
        cases zs with
        | nil => cases h0
        | cons z zs => cases h0
      rw [World.cell?_setCell_far _ _ _ _ (by show w.heap.size + 1 ≠ nb; omega), World.cell?_setCell_far _ _ _ _ (by show w.heap.size + 1 ≠ w.heap.size; omega), World.cell?_setCell_far _ _ _ _ (by show w.heap.size + 1 ≠ bx; exact hbxn), World.cell?_setCell_far _ _ _ _ (by show w.heap.size + 1 ≠ bx; exact hbxn)]
      exact ⟨g1, g2, g3, g4⟩
    have hBX : Below X.heap.size X X.drew := below_drawn (Below.refl _ _) ⟨1, rfl⟩
    have hi0 : (0 : Int) ≤ (i : Int) := by omega
    have hfnr : ∀ f, (F.inRound l2).fn f := hfn
    clear ct cn c0 c1
    gi_wp2
    refine wpIn_region_held_drew (S := (fun W => W.cell? ⟨nb, 0, none⟩ = some (.slice (some ⟨w.heap.size + 1, 0, none⟩) n n) ∧ W.cell? ⟨w.heap.size, 0, none⟩ = some (.func (.func 38) #[] #[]) ∧ W.cell? ⟨bx, 0, none⟩ = some (.bool fin) ∧ W.cell? ⟨bx, 1, none⟩ = some (.slice sa sn sc))) (by kernel_rfl) (by first | ((first | exact hS7 | exact HS0.out _ hBX | exact HSS.out _ _ hb7)) | ((try dsimp only); (first | exact hS7 | exact HS0.out _ hBX | exact HSS.out _ _ hb7))) (fun hHeld => ?_)
    refine wpAnyHIn_take hfnr (by kernel_rfl) (i := 0) (v := ?v1) rfl (by kernel_rfl) (by kernel_rfl) (by kernel_rfl) (fun _ _ _ h => h) (Or.inl ⟨by rfl, ?h1⟩) (by assumption) ?r1
    case h1 => intro w hSw; (try dsimp only at hSw); go_simp; try with_reducible rfl
    simp only [Act.put, List.getElem_toArray, List.getElem_cons_succ, List.getElem_cons_zero, List.setIfInBounds_toArray, List.set_cons_succ, List.set_cons_zero]
    refine wpAnyHIn_take hfnr (by kernel_rfl) (i := 1) (v := ?v4) rfl (by kernel_rfl) (by kernel_rfl) (by kernel_rfl) (fun _ _ _ h => h) (Or.inl ⟨by rfl, ?h4⟩) (by assumption) ?r4
    case h4 => intro w hSw; (try dsimp only at hSw); go_simp; try with_reducible rfl
    simp only [Act.put, List.getElem_toArray, List.getElem_cons_succ, List.getElem_cons_zero, List.setIfInBounds_toArray, List.set_cons_succ, List.set_cons_zero]
    refine wpAnyHIn_take hfnr (by kernel_rfl) (i := 2) (v := ?v7) rfl (by kernel_rfl) (by kernel_rfl) (by kernel_rfl) (fun _ _ _ h => h) (Or.inl ⟨by rfl, ?h7⟩) (by assumption) ?r7
    case h7 => intro w hSw; (try dsimp only at hSw); go_simp; try with_reducible rfl
    simp only [Act.put, List.getElem_toArray, List.getElem_cons_succ, List.getElem_cons_zero, List.setIfInBounds_toArray, List.set_cons_succ, List.set_cons_zero]
    refine wpAnyHIn_take hfnr (by kernel_rfl) (i := 3) (v := ?v10) rfl (by kernel_rfl) (by kernel_rfl) (by kernel_rfl) (fun _ _ _ h => h) (Or.inl ⟨by rfl, ?h10⟩) (by assumption) ?r10
    case h10 => intro w hSw; (try dsimp only at hSw); go_simp; try with_reducible rfl
    simp only [Act.put, List.getElem_toArray, List.getElem_cons_succ, List.getElem_cons_zero, List.setIfInBounds_toArray, List.set_cons_succ, List.set_cons_zero]
    refine wpAnyHIn_take hfnr (by kernel_rfl) (i := 4) (v := ?v13) rfl (by kernel_rfl) (by kernel_rfl) (by kernel_rfl) (fun _ _ _ h => h) (Or.inl ⟨by rfl, ?h13⟩) (by assumption) ?r13
    case h13 => intro w hSw; (try dsimp only at hSw); go_simp; try with_reducible rfl
    simp only [Act.put, List.getElem_toArray, List.getElem_cons_succ, List.getElem_cons_zero, List.setIfInBounds_toArray, List.set_cons_succ, List.set_cons_zero]
    refine wpAnyHIn_ready (rs := [5]) (by kernel_rfl) (by simp) ?_
    refine AllReadyHIn.cons hfnr rfl (fun K hK => ?_) AllReadyHIn.nil
    go_simp
    gi_at_call 38
    refine (HCALL.out _ _ hBX).mono ?_
    rintro e w7 ⟨rfl, hb7'⟩
    have hb7 : Below X.heap.size X w7 := hBX.trans hb7'
    have hS7 := HS0.out w7 hb7
    have ho7 := ownsRow_below H7.out hb7 (Nat.le_refl _)
    have hc7 : w7.cell? ⟨w.heap.size + 1, i, none⟩ = some (.int .i64 (zs.getD i 0)) := (by rw [ho7.cellAt i (by omega)]; unfold i64s; simp [show i < zs.length by omega])
    have hf7 := ho7.frozenAt i
    gi_wp2_with fail
    refine hK.out _ _ (by first | ((first | exact hS7 | exact HS0.out _ hBX | exact HSS.out _ _ hb7)) | ((try dsimp only); (first | exact hS7 | exact HS0.out _ hBX | exact HSS.out _ _ hb7))) (fun hHeld => ?_)
    clear hK K
    try simp only [Act.put, List.getElem_toArray, List.getElem_cons_succ, List.getElem_cons_zero, List.setIfInBounds_toArray, List.set_cons_succ, List.set_cons_zero]
    refine wpAnyHIn_take hfnr (by kernel_rfl) (i := 6) (v := ?v31) rfl (by kernel_rfl) (by kernel_rfl) (by kernel_rfl) (fun _ _ _ h => h) (Or.inl ⟨by rfl, ?h31⟩) (by assumption) ?r31
    case h31 => intro w hSw; (try dsimp only at hSw); go_simp; try with_reducible rfl
    simp only [Act.put, List.getElem_toArray, List.getElem_cons_succ, List.getElem_cons_zero, List.setIfInBounds_toArray, List.set_cons_succ, List.set_cons_zero]
    refine wpAnyHIn_ready (rs := [7]) (by kernel_rfl) (by simp) ?_
    refine AllReadyHIn.cons hfnr rfl (fun K hK => ?_) AllReadyHIn.nil
    go_simp
    refine hK.out _ _ (by first | ((first | exact hS7 | exact HS0.out _ hBX | exact HSS.out _ _ hb7)) | ((try dsimp only); (first | exact hS7 | exact HS0.out _ hBX | exact HSS.out _ _ hb7))) (fun hHeld => ?_)
    clear hK K
    try simp only [Act.put, List.getElem_toArray, List.getElem_cons_succ, List.getElem_cons_zero, List.setIfInBounds_toArray, List.set_cons_succ, List.set_cons_zero]
    refine wpAnyHIn_done (by kernel_rfl) ?_ _
    clear hHeld
    have hk7 : Keep (fun k => ¬ O k) X w7 := ⟨hb7.os, hb7.tape, hb7.output, hb7.size, fun k hk _ => hb7.block k hk⟩
    have hk8 : Keep (fun k => ¬ O k) X (w7.setCell ⟨w.heap.size + 1, i, none⟩ (.int .i64 ((mny l i : Int)))) := hk7.trans (Keep.setCell _ _ _ (fun h => h h3))
    have hs8 := (ho7.stored i (.int .i64 ((mny l i : Int)))).1
    rw [i64s_set] at hs8
    refine ⟨O, hk8, fun k h => .inl h, hk8.boxed H1.out h4, hk8.boxed H2.out h5, h3, h4, h5, ?_, zs.set i ((mny l i : Int)), hs8, by simpa using h8, ?_, ?_⟩
    · exact h6.trans ((hb7.mono h6.size).setCell (p := ⟨w.heap.size + 1, i, none⟩) (by show w.heap.size ≤ w.heap.size + 1; omega) _)
    · intro z hz
      rcases List.mem_or_eq_of_mem_set hz with hz | hz
      · exact H9.out z hz
      · subst hz; exact HW.out i (by omega)
    · intro j hj1 hj2
      by_cases hji : j = i
      · subst hji
        rw [List.getD_eq_getElem?_getD, List.getElem?_set_self (by omega)]; rfl
      · rw [List.getD_eq_getElem?_getD, List.getElem?_set_ne (by omega), ← List.getD_eq_getElem?_getD]
        exact H10.out j (by simp at hj1; omega) hj2
  case done =>
    rintro D xs O X hD hUD ⟨hxs, hxl⟩ ⟨h1, h2, h3, h4, h5, h6, zs, h7, h8, h9, h10⟩ hK
    have hc := h2.cell
    have kD : Keep (fun k => k ≠ D) X (X.putObj D (.deferred none)) := Keep.putObj _ _ _ (fun h => h rfl)
    have h7' := own_keep h7 kD (fun r e => by
      have : w.heap.size + 1 = r := by simpa [Value.ownBlock] using e
      omega)
    have hbD : Below w.heap.size w (X.putObj D (.deferred none)) := h6.trans ((kD.mono (T := fun k => k < w.heap.size) fun k _ h => by omega).below h6.size (fun _ h => h))
    have HR := Lib.hid (And.intro h7' (And.intro h8 (And.intro h9 (And.intro h10 hbD))))
    clear h1 h2 h7 h7' h8 h9 h10 h6 hbD kD
    gi_wp2
    refine ⟨by simp, .inl ⟨_, _, rfl, run_takeDeferred hK, ?_⟩⟩
    exact ⟨_, results_tmp rfl _ _ _, rfl, zs, HR.out.1, HR.out.2.1, HR.out.2.2.1, fun j hj => HR.out.2.2.2.1 j (by omega) hj, HR.out.2.2.2.2⟩
  case stop =>
    rintro D c pre U X _ _ _ h _
    exact h.elim

set_option maxRecDepth 100000 in
set_option maxHeartbeats 4000000 in
theorem fromLast_deep {l : List St} (hc : check l = true) (a : Option Addr) (n cap : Nat) (ys : List Sw) (w : World) (hy : Ss w a n cap ys) (hys : sts ys = l) :
    Calls Try.prog 37 #[.slice a n cap, .func (.func 39) #[] #[]] w fun e w' => e = .returned (.slice (some ⟨w.heap.size + 1, 0, none⟩) n n) ∧ ∃ zs : List Int, w'.ownsRow w.heap.size 3 1 (.slice (some ⟨w.heap.size + 1, 0, none⟩) n n) n (i64s zs) ∧ zs.length = n ∧ (∀ z ∈ zs, (Lit.int .i64 z).wf = true) ∧ (∀ j, j < n → zs.getD j 0 = dp (wds l j)) ∧ Below w.heap.size w w' := by
  have hyl : l.length = n := by rw [← hys, sts_length]; exact hy.1
  have HW : Hid (∀ i, i < n → (Lit.int .i64 (dp (wds l i))).wf = true) := Lib.hid fun i hi => (by have := dp_bound hc (i := i) (by omega); exact wf_small (by omega) (by omega))
  have hN : n ≤ 6001 := by have := (check_size hc).2; omega
  have hnum : ∀ (F : Fence) (m : Nat), F = Fence.wide → ∀ (i : Nat) (W : World) (x : Sw) (zs : List Int), i < n → x.Good W → l.getD i St.no = x.st → W.ownsRow w.heap.size 3 1 (.slice (some ⟨w.heap.size + 1, 0, none⟩) n n) n (i64s zs) → zs.length = n → (∀ z ∈ zs, (Lit.int .i64 z).wf = true) → (∀ j, i < j → j < n → zs.getD j 0 = dp (wds l j)) →
      CallsIn F m Try.prog 39 #[.agg #[.bool x.fin, .slice x.a x.n x.cap], .slice (some ⟨w.heap.size + 1, 0, none⟩) n n] W fun e w' => e = .returned (.int .i64 (dp (wds l i))) ∧ Below W.heap.size W w' := by
    intro F m hF i W x zs hi hx hxs ho hl hz hv
    subst hF
    exact callsIn_wide.2 (deepBehind_is hc i (by omega) x hxs _ _ _ zs W hx (Sl.of_owns ho hz hl) hyl.symm (fun j h1 h2 => hv j h1 (by omega)))
  refine (callsIn_wide (n := 20)).1 ?_
  obtain ⟨F, hF⟩ : ∃ F, F = Fence.wide := ⟨_, rfl⟩
  have hfn : ∀ f, F.fn f := by subst hF; exact fun _ => trivial
  have hro : F.round = none := by subst hF; rfl
  have hd : F.depth = none := by subst hF; rfl
  have hnu := fun (m : Nat) => hnum F m hF
  rw [← hF]
  clear hF hnum
  have hmix : Try.prog.follows .mixedOrders = true := by kernel_rfl
  refine callsIn_of_wp_marks Try.func37 rfl (hfn _) ?_ hro
  simp only [Try.ntmps37, List.size_toArray, List.length_cons, List.length_nil, Nat.reduceAdd, Nat.reduceSub, Array.replicate_succ, Array.replicate_zero, List.push_toArray, List.append_toArray, List.nil_append, List.cons_append]
  have HY := Lib.hid hy
  have HYS := Lib.hid hys
  have HNU := Lib.hid hnu
  obtain ⟨ia, hia, ha0, ha1, ha2⟩ := info_parts info_int
  obtain ⟨h, hh⟩ : ∃ h, h = w.heap.size := ⟨_, rfl⟩
  have hncap := hy.2.1
  clear hy hys hnu
  gi_wp2_with (first
    | (gi_at_make; refine wpListIn_make_full _ (by rfl) _ _ 23 (by rfl) w.heap.size 3 ia (.int .i64 0) 1 Try.underlying23 hia ha0 ha1 .i64 .i64 (n : Int) (n : Int) n (by rfl) (by rfl) rfl rfl (by rw [ha2]; omega) (by unfold maxLen; omega) (by simp) ?_; intro w4 hown4 hg4; have HO4 := Lib.hid hown4; have HG4 := Lib.hid hg4; clear hown4 hg4)
    | (gi_at_call 62; refine (backward_in F _ (hfn _) hro _ _ _ _).mono ?_; rintro e w' ⟨rfl, rfl⟩))
  have hns : Try.prog.follows .mixedOrders = true := hmix
  have bF := Boxed.new w 57 (.func (.func 39) #[] #[])
  obtain ⟨fe, hfe⟩ : ∃ fe : Value, fe = .func (.func 39) #[] #[] := ⟨_, rfl⟩
  have hz4 := HG4.out.size
  have bF4 : Boxed w4 w.heap.size 57 fe := by rw [hfe]; exact (HG4.out.block w.heap.size (by simp) (by simp)).trans bF
  have hb4 : Below w.heap.size w w4 := ((Below.refl w.heap.size w).alloc (Nat.le_refl _) _).trans ⟨HG4.out.os, HG4.out.tape, HG4.out.output, HG4.out.size, fun k hk => HG4.out.block k (by simp; omega) (by simp)⟩
  have hO4 := HO4.out
  rw [show (Value.int .i64 0).cells = #[Value.int .i64 0] from rfl, Nat.mul_one, zeros_i64, World.size_alloc] at hO4
  rw [World.size_alloc] at hz4
  obtain ⟨nb, hnb⟩ : ∃ nb, nb = w4.heap.size := ⟨_, rfl⟩
  obtain ⟨w1, hw1⟩ : ∃ w1, w1 = (w4.alloc (.cells #[.slice (some ⟨w.heap.size + 1, 0, none⟩) n n] 23)).alloc (.cells #[.slice a n cap] 22) := ⟨_, rfl⟩
  have z1 : w1.heap.size = nb + 2 := by rw [hw1, hnb]; simp
  have k1 : ∀ T, Keep T w4 w1 := fun T => by rw [hw1]; exact (Keep.alloc T w4 _).trans (Keep.alloc T _ _)
  have bN : Boxed w1 nb 23 (.slice (some ⟨w.heap.size + 1, 0, none⟩) n n) := by
    rw [hw1, hnb]; exact (Keep.alloc (fun _ => True) _ _).boxed (Boxed.new w4 23 (.slice (some ⟨w.heap.size + 1, 0, none⟩) n n)) trivial
  have bl : w1.cell? ⟨nb + 1, 0, none⟩ = some (.slice a n cap) := by
    have h := heap_alloc_new (w4.alloc (.cells #[.slice (some ⟨w.heap.size + 1, 0, none⟩) n n] 23)) (.cells #[.slice a n cap] 22)
    rw [World.size_alloc] at h
    rw [hw1, hnb, cell_of_obj h]; rfl
  have hlt4 : w.heap.size + 1 < w4.heap.size := (hO4.lt _ rfl).2
  have hbw1 : Below w.heap.size w w1 := hb4.trans ((k1 (fun _ => True)).below hb4.size (fun _ _ => trivial))
  have hI1 : NumAt (fun j => dp (wds l j)) n w.heap.size nb fe w 0 (fun k => k = w.heap.size + 1) w1 :=
    ⟨(k1 (fun _ => True)).boxed bF4 trivial, bN, rfl, by omega, by omega, hbw1, List.replicate n 0, own_keep hO4 (k1 (fun _ => True)) (fun _ _ => trivial), by simp, (fun z hz => by rw [(List.mem_replicate.1 hz).2]; decide), fun j h1 h2 => by omega⟩
  rw [← hw1, ← hnb]
  have hnbl : w.heap.size + 1 < nb := by omega
  clear hO4 bF4 bF bN hw1 hnb hz4 hlt4 k1 hb4 HG4 HO4
  refine wpIn_range_iterH hro (fun h => by rw [hd] at h; cases h) (gf := 77) (lb := #[.pointer (some ⟨nb + 1, 0, none⟩)]) rfl (hfn _) (enters_of Try.func77 (by kernel_rfl) rfl)
    (encs := bpv (ys := ys)) (Rd := fun k => k < w.heap.size ∨ k = nb + 1) (T := Backs ys) (S := fun xs => Backs ys xs ∧ xs.length = n) (Sp := fun _ => True) (N := n) (w0 := w1)
    (fun l J Jx O W hW hO _ _ hY h0 => backward1_in F _ (hfn _) hro (by omega) l (nb + 1) a n cap ys w HY.out (by omega) J Jx hY (fun k => k < w.heap.size ∨ k = nb + 1) (fun _ h => .inl h) (.inr rfl) O W
      (by rintro k (h | rfl) <;> (have := hW.size; omega)) (fun k hk => (hO k hk).1) (hbw1.trans (hW.below (by omega) (fun k h => .inl h))) (hW.cell bl (.inr rfl)) h0)
    (Keep.refl _ _) (by rintro k (h | rfl) <;> omega) (fun _ => rfl)
    (fun pre O W => NumAt (fun j => dp (wds l j)) n w.heap.size nb fe w pre.length O W) (fun _ _ _ _ => False) (fun _ _ _ _ h hk => numAt_keep (by omega) (by omega) (Nat.le_refl _) h hk) (fun _ _ _ _ _ h _ => h)
    (fun k => k = w.heap.size + 1) (by rintro k rfl; refine ⟨?_, by omega⟩; rintro (h | h) <;> omega)
    hI1
    (fun x bx => { tmps := #[.slice a n cap, .func (.func 39) #[] #[], undef, .pointer (some ⟨w.heap.size, 0, none⟩), .slice none 0 0, .pointer (some ⟨nb, 0, none⟩), .int .i64 (x.1.1 : Int), .pointer (some ⟨bx, 0, none⟩), .slice a n cap, .int .i64 (n : Int), .slice (some ⟨w.heap.size + 1, 0, none⟩) n n, .slice a n cap, .func (.func 77) #[] #[.pointer (some ⟨nb + 1, 0, none⟩)], .int .i64 (x.1.1 : Int), .agg #[.bool x.1.2.fin, .slice x.1.2.a x.1.2.n x.1.2.cap], undef, undef, undef, undef, undef, undef, undef, undef], defers := [] })
    (fun x => .cells #[.bool x.1.2.fin, .slice x.1.2.a x.1.2.n x.1.2.cap] 47) ?assign ?body ?done ?stop
  case assign =>
    intro l x W K hK
    simp only [bpv]
    gi_wp2
    exact hK
  case body =>
    rintro l2 pre x O X bx hTx ⟨h1, h2, h3, h4, h5, h6, zs, h7, h8, h9, h10⟩ hlt hsz hbx
    have hi : x.1.1 + pre.length + 1 = n := by
      have := hTx pre.length (by simp)
      rw [List.getElem_append_right (Nat.le_refl _)] at this
      simp only [Nat.sub_self, List.getElem_cons_zero] at this
      rw [this]; exact HY.out.1
    have hxg : x.1.2.Good X := by
      have hm : x.1.2 ∈ ys := by
        rw [← x.2.2, List.getD_eq_getElem?_getD, List.getElem?_eq_getElem x.2.1, Option.getD_some]; exact List.getElem_mem _
      exact (HY.out.2.2.2.1 _ hm).below h6 (Nat.le_refl _)
    have hxs : l.getD x.1.1 St.no = x.1.2.st := by rw [← HYS.out, sts_at, x.2.2]
    obtain ⟨⟨⟨i, ⟨fin, sa, sn, sc, arcs⟩⟩, hx2⟩, hxe⟩ : ∃ y, y = x := ⟨x, rfl⟩
    subst hxe
    simp only at hi hxg hxs hbx ⊢
    have hiN : i < n := by omega
    have hcall := fun (m : Nat) (W : World) (hW : Below X.heap.size X W) => (HNU.out m i W ⟨fin, sa, sn, sc, arcs⟩ zs hiN (Sw.Good.below hxg hW (Nat.le_refl _)) hxs (ownsRow_below h7 hW (Nat.le_refl _)) h8 h9 (fun j hj1 hj2 => h10 j (by omega) hj2)).inRound l2
    have ct := h1.cell
    rw [hfe] at ct
    have cn := h2.cell
    have c0 : X.cell? ⟨bx, 0, none⟩ = some (.bool fin) := by rw [cell_of_obj hbx]; rfl
    have c1 : X.cell? ⟨bx, 1, none⟩ = some (.slice sa sn sc) := by rw [cell_of_obj hbx]; rfl
    have hii : (i : Int) < (n : Int) := by omega
    have HCALL := Lib.hid hcall
    have H1 := Lib.hid h1
    have H2 := Lib.hid h2
    have H7 := Lib.hid h7
    have HXB := Lib.hid hbx
    have H9 := Lib.hid h9
    have H10 := Lib.hid h10
    clear hcall hbx h1 h2 h7 hxg hxs h9 h10
    have HS0 : Hid (∀ W, Below X.heap.size X W → W.cell? ⟨nb, 0, none⟩ = some (.slice (some ⟨w.heap.size + 1, 0, none⟩) n n) ∧ W.cell? ⟨w.heap.size, 0, none⟩ = some (.func (.func 39) #[] #[]) ∧ W.cell? ⟨bx, 0, none⟩ = some (.bool fin) ∧ W.cell? ⟨bx, 1, none⟩ = some (.slice sa sn sc)) := Lib.hid fun W hW => by
      have e1 := cell_lt cn
      have e2 := cell_lt ct
      have e3 := cell_lt c0
      exact ⟨by rw [hW.cell (p := ⟨nb, 0, none⟩) e1]; exact cn, by rw [hW.cell (p := ⟨w.heap.size, 0, none⟩) e2]; exact ct, by rw [hW.cell (p := ⟨bx, 0, none⟩) e3]; exact c0, by rw [hW.cell (p := ⟨bx, 1, none⟩) e3]; exact c1⟩
    have HSS : Hid (∀ (W : World) (v : Value), Below X.heap.size X W → (W.setCell ⟨w.heap.size + 1, i, none⟩ v).cell? ⟨nb, 0, none⟩ = some (.slice (some ⟨w.heap.size + 1, 0, none⟩) n n) ∧ (W.setCell ⟨w.heap.size + 1, i, none⟩ v).cell? ⟨w.heap.size, 0, none⟩ = some (.func (.func 39) #[] #[]) ∧ (W.setCell ⟨w.heap.size + 1, i, none⟩ v).cell? ⟨bx, 0, none⟩ = some (.bool fin) ∧ (W.setCell ⟨w.heap.size + 1, i, none⟩ v).cell? ⟨bx, 1, none⟩ = some (.slice sa sn sc)) := Lib.hid fun W v hW => by
      obtain ⟨g1, g2, g3, g4⟩ := HS0.out W hW
      have hbxn : w.heap.size + 1 ≠ bx := fun e => by
        have h0 := H7.out.cellAt 0 (by omega)
        rw [e] at h0
        have h1 : X.cell? ⟨bx, 0, none⟩ = some (.bool fin) := by rw [cell_of_obj HXB.out]; rfl
        rw [h1] at h0
        cases zs with
        | nil => cases h0
        | cons z zs => cases h0
      rw [World.cell?_setCell_far _ _ _ _ (by show w.heap.size + 1 ≠ nb; omega), World.cell?_setCell_far _ _ _ _ (by show w.heap.size + 1 ≠ w.heap.size; omega), World.cell?_setCell_far _ _ _ _ (by show w.heap.size + 1 ≠ bx; exact hbxn), World.cell?_setCell_far _ _ _ _ (by show w.heap.size + 1 ≠ bx; exact hbxn)]
      exact ⟨g1, g2, g3, g4⟩
    have hBX : Below X.heap.size X X.drew := below_drawn (Below.refl _ _) ⟨1, rfl⟩
    have hi0 : (0 : Int) ≤ (i : Int) := by omega
    have hfnr : ∀ f, (F.inRound l2).fn f := hfn
    clear ct cn c0 c1
    gi_wp2
    refine wpIn_region_held_drew (S := (fun W => W.cell? ⟨nb, 0, none⟩ = some (.slice (some ⟨w.heap.size + 1, 0, none⟩) n n) ∧ W.cell? ⟨w.heap.size, 0, none⟩ = some (.func (.func 39) #[] #[]) ∧ W.cell? ⟨bx, 0, none⟩ = some (.bool fin) ∧ W.cell? ⟨bx, 1, none⟩ = some (.slice sa sn sc))) (by kernel_rfl) (by first | ((first | exact hS7 | exact HS0.out _ hBX | exact HSS.out _ _ hb7)) | ((try dsimp only); (first | exact hS7 | exact HS0.out _ hBX | exact HSS.out _ _ hb7))) (fun hHeld => ?_)
    refine wpAnyHIn_take hfnr (by kernel_rfl) (i := 0) (v := ?v1) rfl (by kernel_rfl) (by kernel_rfl) (by kernel_rfl) (fun _ _ _ h => h) (Or.inl ⟨by rfl, ?h1⟩) (by assumption) ?r1
    case h1 => intro w hSw; (try dsimp only at hSw); go_simp; try with_reducible rfl
    simp only [Act.put, List.getElem_toArray, List.getElem_cons_succ, List.getElem_cons_zero, List.setIfInBounds_toArray, List.set_cons_succ, List.set_cons_zero]
    refine wpAnyHIn_take hfnr (by kernel_rfl) (i := 1) (v := ?v4) rfl (by kernel_rfl) (by kernel_rfl) (by kernel_rfl) (fun _ _ _ h => h) (Or.inl ⟨by rfl, ?h4⟩) (by assumption) ?r4
    case h4 => intro w hSw; (try dsimp only at hSw); go_simp; try with_reducible rfl
    simp only [Act.put, List.getElem_toArray, List.getElem_cons_succ, List.getElem_cons_zero, List.setIfInBounds_toArray, List.set_cons_succ, List.set_cons_zero]
    refine wpAnyHIn_take hfnr (by kernel_rfl) (i := 2) (v := ?v7) rfl (by kernel_rfl) (by kernel_rfl) (by kernel_rfl) (fun _ _ _ h => h) (Or.inl ⟨by rfl, ?h7⟩) (by assumption) ?r7
    case h7 => intro w hSw; (try dsimp only at hSw); go_simp; try with_reducible rfl
    simp only [Act.put, List.getElem_toArray, List.getElem_cons_succ, List.getElem_cons_zero, List.setIfInBounds_toArray, List.set_cons_succ, List.set_cons_zero]
    refine wpAnyHIn_take hfnr (by kernel_rfl) (i := 3) (v := ?v10) rfl (by kernel_rfl) (by kernel_rfl) (by kernel_rfl) (fun _ _ _ h => h) (Or.inl ⟨by rfl, ?h10⟩) (by assumption) ?r10
    case h10 => intro w hSw; (try dsimp only at hSw); go_simp; try with_reducible rfl
    simp only [Act.put, List.getElem_toArray, List.getElem_cons_succ, List.getElem_cons_zero, List.setIfInBounds_toArray, List.set_cons_succ, List.set_cons_zero]
    refine wpAnyHIn_take hfnr (by kernel_rfl) (i := 4) (v := ?v13) rfl (by kernel_rfl) (by kernel_rfl) (by kernel_rfl) (fun _ _ _ h => h) (Or.inl ⟨by rfl, ?h13⟩) (by assumption) ?r13
    case h13 => intro w hSw; (try dsimp only at hSw); go_simp; try with_reducible rfl
    simp only [Act.put, List.getElem_toArray, List.getElem_cons_succ, List.getElem_cons_zero, List.setIfInBounds_toArray, List.set_cons_succ, List.set_cons_zero]
    refine wpAnyHIn_ready (rs := [5]) (by kernel_rfl) (by simp) ?_
    refine AllReadyHIn.cons hfnr rfl (fun K hK => ?_) AllReadyHIn.nil
    go_simp
    gi_at_call 39
    refine (HCALL.out _ _ hBX).mono ?_
    rintro e w7 ⟨rfl, hb7'⟩
    have hb7 : Below X.heap.size X w7 := hBX.trans hb7'
    have hS7 := HS0.out w7 hb7
    have ho7 := ownsRow_below H7.out hb7 (Nat.le_refl _)
    have hc7 : w7.cell? ⟨w.heap.size + 1, i, none⟩ = some (.int .i64 (zs.getD i 0)) := (by rw [ho7.cellAt i (by omega)]; unfold i64s; simp [show i < zs.length by omega])
    have hf7 := ho7.frozenAt i
    gi_wp2_with fail
    refine hK.out _ _ (by first | ((first | exact hS7 | exact HS0.out _ hBX | exact HSS.out _ _ hb7)) | ((try dsimp only); (first | exact hS7 | exact HS0.out _ hBX | exact HSS.out _ _ hb7))) (fun hHeld => ?_)
    clear hK K
    try simp only [Act.put, List.getElem_toArray, List.getElem_cons_succ, List.getElem_cons_zero, List.setIfInBounds_toArray, List.set_cons_succ, List.set_cons_zero]
    refine wpAnyHIn_take hfnr (by kernel_rfl) (i := 6) (v := ?v31) rfl (by kernel_rfl) (by kernel_rfl) (by kernel_rfl) (fun _ _ _ h => h) (Or.inl ⟨by rfl, ?h31⟩) (by assumption) ?r31
    case h31 => intro w hSw; (try dsimp only at hSw); go_simp; try with_reducible rfl
    simp only [Act.put, List.getElem_toArray, List.getElem_cons_succ, List.getElem_cons_zero, List.setIfInBounds_toArray, List.set_cons_succ, List.set_cons_zero]
    refine wpAnyHIn_ready (rs := [7]) (by kernel_rfl) (by simp) ?_
    refine AllReadyHIn.cons hfnr rfl (fun K hK => ?_) AllReadyHIn.nil
    go_simp
    refine hK.out _ _ (by first | ((first | exact hS7 | exact HS0.out _ hBX | exact HSS.out _ _ hb7)) | ((try dsimp only); (first | exact hS7 | exact HS0.out _ hBX | exact HSS.out _ _ hb7))) (fun hHeld => ?_)
    clear hK K
    try simp only [Act.put, List.getElem_toArray, List.getElem_cons_succ, List.getElem_cons_zero, List.setIfInBounds_toArray, List.set_cons_succ, List.set_cons_zero]
    refine wpAnyHIn_done (by kernel_rfl) ?_ _
    clear hHeld
    have hk7 : Keep (fun k => ¬ O k) X w7 := ⟨hb7.os, hb7.tape, hb7.output, hb7.size, fun k hk _ => hb7.block k hk⟩
    have hk8 : Keep (fun k => ¬ O k) X (w7.setCell ⟨w.heap.size + 1, i, none⟩ (.int .i64 (dp (wds l i)))) := hk7.trans (Keep.setCell _ _ _ (fun h => h h3))
    have hs8 := (ho7.stored i (.int .i64 (dp (wds l i)))).1
    rw [i64s_set] at hs8
    refine ⟨O, hk8, fun k h => .inl h, hk8.boxed H1.out h4, hk8.boxed H2.out h5, h3, h4, h5, ?_, zs.set i (dp (wds l i)), hs8, by simpa using h8, ?_, ?_⟩
    · exact h6.trans ((hb7.mono h6.size).setCell (p := ⟨w.heap.size + 1, i, none⟩) (by show w.heap.size ≤ w.heap.size + 1; omega) _)
    · intro z hz
      rcases List.mem_or_eq_of_mem_set hz with hz | hz
      · exact H9.out z hz
      · subst hz; exact HW.out i (by omega)
    · intro j hj1 hj2
      by_cases hji : j = i
      · subst hji
        rw [List.getD_eq_getElem?_getD, List.getElem?_set_self (by omega)]; rfl
      · rw [List.getD_eq_getElem?_getD, List.getElem?_set_ne (by omega), ← List.getD_eq_getElem?_getD]
        exact H10.out j (by simp at hj1; omega) hj2
  case done =>
    rintro D xs O X hD hUD ⟨hxs, hxl⟩ ⟨h1, h2, h3, h4, h5, h6, zs, h7, h8, h9, h10⟩ hK
    have hc := h2.cell
    have kD : Keep (fun k => k ≠ D) X (X.putObj D (.deferred none)) := Keep.putObj _ _ _ (fun h => h rfl)
    have h7' := own_keep h7 kD (fun r e => by
      have : w.heap.size + 1 = r := by simpa [Value.ownBlock] using e
      omega)
    have hbD : Below w.heap.size w (X.putObj D (.deferred none)) := h6.trans ((kD.mono (T := fun k => k < w.heap.size) fun k _ h => by omega).below h6.size (fun _ h => h))
    have HR := Lib.hid (And.intro h7' (And.intro h8 (And.intro h9 (And.intro h10 hbD))))
    clear h1 h2 h7 h7' h8 h9 h10 h6 hbD kD
    gi_wp2
    refine ⟨by simp, .inl ⟨_, _, rfl, run_takeDeferred hK, ?_⟩⟩
    exact ⟨_, results_tmp rfl _ _ _, rfl, zs, HR.out.1, HR.out.2.1, HR.out.2.2.1, fun j hj => HR.out.2.2.2.1 j (by omega) hj, HR.out.2.2.2.2⟩
  case stop =>
    rintro D c pre U X _ _ _ h _
    exact h.elim

end Go.Proofs.Ytimjdlbhbiklgaa
