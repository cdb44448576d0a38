/- slices.Insert of one word into a row of words: in place where there is room, or into a new row. -/
import Derived.Shelf.Spec.SlicesInsertGrow
import Derived.Deep.AppendLies
import Derived.Test.YtflikfnehpaohaaOrderWalkB
import Derived.Test.YtflikfnehpaohaaGenCells
namespace Go.Proofs.Ytflikfnehpaohaa
open Go Go.RowKit Go.Lib

set_option maxRecDepth 100000 in
theorem size_run_words (w : World) : (Go.sizeOf 24).run Try.prog w = .ok 1 w := by kernel_rfl
set_option maxRecDepth 100000 in
theorem one_cell_vals (xs : List Wd) : ∀ v ∈ vals xs, v.oneCell' = true := by
  intro v hv
  obtain ⟨x, _, rfl⟩ := List.mem_map.1 hv
  rfl

set_option maxRecDepth 100000 in
theorem cell_of_block {w : World} {g : Nat} {cur : Array Value} {t : TypeId} (h : w.heap[g]? = some (.cells cur t (0, 0))) (j : Nat) : w.cell? ⟨g, j, none⟩ = cur[j]? := by simp [World.cell?, h]

set_option maxHeartbeats 4000000 in
set_option maxRecDepth 100000 in
/-- there is room: in place -/
theorem insert_shift (b n c i vb : Nat) (cs : List Value) (u : Value) (w : World) (hi : i < n) (hroom : n + 1 ≤ c) (hc63 : c ≤ 9223372036854775807) (hvb : vb ≠ b) (hcl : cs.length = n)
    (hcs : ∀ j v, cs[j]? = some v → w.cell? ⟨b, 0 + j, none⟩ = some v) (hsp : ∀ j, j < n + 1 → (w.cell? ⟨b, 0 + j, none⟩).isSome = true) (hfz : ∀ j, j < n + 1 → w.frozen? ⟨b, 0 + j, none⟩ = false)
    (hvs : w.cell? ⟨vb, 0, none⟩ = some u) (h1c : ∀ v ∈ cs, v.oneCell' = true) (h1v : u.oneCell' = true)
    (tA tB : TypeId) (kA kB : Nat) (hsa : w.shape? vb = some (tA, kA)) (hsb : w.shape? b = some (tB, kB)) (hkB : kB ≠ 0) (hfa : w.frozen? ⟨vb, 0, none⟩ = false) (hfe : w.frozen? ⟨vb, kA, none⟩ = false) :
    Calls Try.prog 52 #[.slice (some ⟨b, 0, none⟩) n c, .int .i64 i, .slice (some ⟨vb, 0, none⟩) 1 1] w fun e w' =>
      e = .returned (.slice (some ⟨b, 0, none⟩) (n + 1) c) ∧ w' = (w.drew.setCells b (0 + (i + 1)) (cs.drop i)).setCells b (0 + i) [u] := by
  have hz2 : ¬ ((i : Int) = (n : Int)) := by omega
  have hov : ∀ lb cb, (callFunc 70 #[.slice (some ⟨vb, 0, none⟩) 1 1, .slice (some ⟨b, 0 + (i + 1), none⟩) lb cb]).run Try.prog w = .ok (.value (.bool false)) w := fun lb cb => by
    rw [run_callFunc_extern Try.func70 (by kernel_rfl) (by kernel_rfl) (by kernel_rfl) (e := Extern.SlicesOverlaps.overlaps #[23, 23] #[4]) (by kernel_rfl),
      Lib.run_overlaps_apart w 23 4 24 Try.underlying23 1 size_run_words ⟨vb, 0, none⟩ ⟨b, 0 + (i + 1), none⟩ 1 1 lb cb hvb tA tB kA kB hsa hsb hkB hfa hfe]
    rfl
  have hdl : (cs.drop i).length = n - i := by rw [List.length_drop, hcl]
  have hw1 : IntKind.i64.wrap ((i : Int) + 1) = (i : Int) + 1 := by rw [IntKind.wrap_i64]; omega
  have hb1 : (0 : Int) ≤ (i : Int) + 1 := by omega
  have hin : i ≤ n := by omega
  have htn : ((i : Int) + 1).toNat = i + 1 := by omega
  have hb2 : ¬ (c = i + 1) := by omega
  have hb3 : (i : Int) ≤ (n : Int) + 1 := by omega
  have hb4 : ¬ (c = i) := by omega
  have hcp1 : ∀ ty dc sc, (Builtin.copy_ #[23, 23] ty #[.slice (some ⟨b, 0 + (i + 1), none⟩) (n - i) dc, .slice (some ⟨b, 0 + i, none⟩) (n + 1 - i) sc]).run Try.prog w.drew = .ok (goInt (cs.drop i).length) (w.drew.setCells b (0 + (i + 1)) (cs.drop i)) := fun ty dc sc =>
    run_copy_cells w.drew _ _ ty 24 b (0 + (i + 1)) (n - i) dc ⟨b, 0 + i, none⟩ (n + 1 - i) sc (cs.drop i) Try.underlying23 size_words (by rw [hdl]; simp only [Nat.min_def]; split <;> omega)
      (fun j v hj => by rw [Addr.add_lit, Nat.add_assoc]; exact hcs (i + j) v (by rwa [List.getElem?_drop] at hj))
      (fun j hj => by rw [Nat.add_assoc]; exact hsp _ (by omega)) (fun j hj => by rw [Nat.add_assoc]; exact hfz _ (by omega)) (fun v hv => h1c v (List.mem_of_mem_drop hv))
  obtain ⟨W1, hW1⟩ : ∃ W1, W1 = w.drew.setCells b (0 + (i + 1)) (cs.drop i) := ⟨_, rfl⟩
  have hsp1 : ∀ k, k < n + 1 → (W1.cell? ⟨b, 0 + k, none⟩).isSome = true := fun k hk => by
    rw [hW1]
    exact isSome_setCells b _ _ _ (fun j hj => by rw [Nat.add_assoc]; exact hsp _ (by omega)) _ (hsp k hk)
  have hcp2 : ∀ (W : World), (∀ x, W.cell? x = W1.cell? x) → (∀ x, W.frozen? x = W1.frozen? x) → ∀ ty dc, (Builtin.copy_ #[23, 23] ty #[.slice (some ⟨b, 0 + i, none⟩) (n + 1 - i) dc, .slice (some ⟨vb, 0, none⟩) 1 1]).run Try.prog W = .ok (goInt ([u] : List Value).length) (W.setCells b (0 + i) [u]) := fun W hWc hWf ty dc =>
    run_copy_cells W _ _ ty 24 b (0 + i) (n + 1 - i) dc ⟨vb, 0, none⟩ 1 1 [u] Try.underlying23 size_words (by simp only [List.length_cons, List.length_nil, Nat.min_def]; split <;> omega)
      (fun j v hj => by
        match j, hj with
        | 0, hj =>
          simp only [List.getElem?_cons_zero, Option.some.injEq] at hj
          subst hj
          rw [Addr.add_lit, hWc, hW1, World.cell?_setCells_out b _ _ _ _ (fun h _ => absurd h hvb)]
          exact hvs)
      (fun j hj => by rw [hWc, Nat.add_assoc]; exact hsp1 _ (by simp at hj; omega)) (fun j hj => by rw [hWf, hW1, World.frozen?_setCells, Nat.add_assoc]; exact hfz _ (by simp at hj; omega)) (fun v hv => by simp only [List.mem_singleton] at hv; rw [hv]; exact h1v)
  rw [← hW1] at hcp1
  simp only [Nat.zero_add] at *
  have mixed : Try.prog.follows Departure.mixedOrders = true := by kernel_rfl
  go_enter Try.func52, Try.ntmps52
  go_wp2_with (simp only [hov])
  go_region_law_o (refine step_copy_runI rfl _ _ 23 23 rfl _ _ (by simp [Act.eval, Act.put]) (by simp [Act.eval, Act.put]) (hcp1 _ _ _) ?_)
  go_wp2_with (at_builtin; refine wpList_copy_runI _ rfl _ _ 23 23 rfl _ _ rfl rfl (hcp2 _ (fun _ => rfl) (fun _ => rfl) _ _) ?_)
  go_ret
  first | exact ⟨rfl, rfl⟩ | exact ⟨rfl, by rw [hW1]⟩

set_option maxHeartbeats 4000000 in
set_option maxRecDepth 100000 in
/-- there is no room: a new row -/
theorem insert_grow (b n c i vb : Nat) (cs : List Value) (u : Value) (w : World) (hi : i < n) (hnc : n ≤ c) (hroom : c < n + 1) (hbig : n ≤ 1000) (hcl : cs.length = n)
    (hcs : ∀ j v, cs[j]? = some v → w.cell? ⟨b, 0 + j, none⟩ = some v) (hvs : w.cell? ⟨vb, 0, none⟩ = some u) (h1c : ∀ v ∈ cs, v.oneCell' = true) (h1v : u.oneCell' = true) :
    Calls Try.prog 52 #[.slice (some ⟨b, 0, none⟩) n c, .int .i64 i, .slice (some ⟨vb, 0, none⟩) 1 1] w fun e w' => ∃ G ROW, n + 1 ≤ G ∧ G ≤ maxLen ∧ ROW.size = G ∧ (∀ j, j < i → ROW[j]? = cs[j]?) ∧
      e = .returned (.slice (some ⟨w.heap.size, 0, none⟩) (n + 1) G) ∧
      w' = (((w.alloc (.cells ROW 24)).drew.setCells w.heap.size i [u]).drew).setCells w.heap.size (i + 1) (cs.drop i) := by
  obtain ⟨i0, hi0, hz0, hzs, hzb⟩ := info_parts info_words
  have hz2 : ¬ ((i : Int) = (n : Int)) := by omega
  have hz3 : (c : Int) < (n : Int) + 1 := by omega
  have hbw : b < w.heap.size := cell_lt (hcs 0 _ (List.getElem?_eq_getElem (by omega)))
  have hvw : vb < w.heap.size := cell_lt hvs
  have hkk : (n : Int) + 1 - (i : Int) = ((n + 1 - i : Nat) : Int) := by omega
  have hik : i + (n + 1 - i) = n + 1 := by omega
  have hold : (Builtin.firstCells i0.size i (.slice (some ⟨b, 0, none⟩) i c)).run Try.prog w.drew = .ok (cs.take i).toArray w.drew := by
    rw [hzs]
    exact run_firstCells_some w.drew 1 i ⟨b, 0, none⟩ i c (cs.take i) (by rw [List.length_take]; omega) (fun j v hj => by
      rw [Addr.add_lit]
      rw [List.getElem?_take] at hj
      split at hj
      · exact hcs j v hj
      · cases hj)
  have hrz : ∀ ty, (Builtin.append_ #[23, 3] ty #[.slice (some ⟨b, 0, none⟩) i c, .int .i64 ((n : Int) + 1 - (i : Int))]).run Try.prog w =
      .ok (.slice (some ⟨w.heap.size, 0, none⟩) (n + 1) (grownCap w (n + 1) c 24)) (w.drew.alloc (.cells ((cs.take i).toArray ++ Builtin.zeroCells (Value.slice none 0 0).cells (n + 1 - i) ++ Builtin.zeroCells (Value.slice none 0 0).cells (grownCap w (n + 1) c 24 - (n + 1))) 24)) := fun ty => by
    have h := Lib.run_append_grow_zeros w 23 3 ty 24 i0 _ .i64 .i64 Try.underlying23 Try.underlying3 hi0 hz0 (some ⟨b, 0, none⟩) i c (cs.take i) hold (n + 1 - i) (by omega) (by omega) (by omega) (by omega) (by rw [hzb]; omega) (by rw [hzb, hik]; exact growslice_fits hroom (by omega))
    rw [hik] at h
    rw [hkk]
    exact h
  obtain ⟨G, hG⟩ : ∃ G, G = grownCap w (n + 1) c 24 := ⟨_, rfl⟩
  obtain ⟨ROW, hROW⟩ : ∃ ROW : Array Value, ROW = (cs.take i).toArray ++ Builtin.zeroCells (Value.slice none 0 0).cells (n + 1 - i) ++ Builtin.zeroCells (Value.slice none 0 0).cells (G - (n + 1)) := ⟨_, rfl⟩
  rw [← hG] at hrz
  rw [← hROW] at hrz
  have hGn : n + 1 ≤ G := by rw [hG]; exact grownCap_ge w _ _ _
  have hRs : ROW.size = G := by
    rw [hROW]
    simp [Builtin.zeroCells, Value.cells]
    omega
  have hRa : ∀ j, j < i → ROW[j]? = cs[j]? := fun j hj => by
    rw [hROW, Array.append_assoc, Array.getElem?_append_left (by simp; omega)]
    simp [List.getElem?_take, hj]
  have hGm : G ≤ maxLen := by
    rw [hG]; exact grownCap_le_maxLen w (n + 1) c 24 (by unfold maxLen; omega)
  have hRl : n + 1 ≤ ROW.size := by omega
  obtain ⟨W1, hW1⟩ : ∃ W1, W1 = w.drew.alloc (.cells ROW 24) := ⟨_, rfl⟩
  rw [← hW1] at hrz
  have hN : ∀ j, j < n + 1 → (W1.cell? ⟨w.heap.size, j, none⟩).isSome = true := fun j hj => by
    rw [hW1, World.cell?_alloc_at (w := w.drew) ROW _ w.heap.size j rfl, Array.getElem?_eq_getElem (by omega)]; rfl
  have hNf : ∀ j, W1.frozen? ⟨w.heap.size, j, none⟩ = false := fun j => by rw [hW1]; exact World.frozen?_alloc_at (w := w.drew) ROW _ w.heap.size j rfl
  have hOb : ∀ j v, w.cell? ⟨b, j, none⟩ = some v → W1.cell? ⟨b, j, none⟩ = some v := fun j v h => by rw [hW1, World.cell?_alloc_past (w := w.drew) _ b j hbw]; exact h
  have hOv : ∀ j v, w.cell? ⟨vb, j, none⟩ = some v → W1.cell? ⟨vb, j, none⟩ = some v := fun j v h => by rw [hW1, World.cell?_alloc_past (w := w.drew) _ vb j hvw]; exact h
  have hcpA : ∀ (W : World), (∀ x, W.cell? x = W1.cell? x) → (∀ x, W.frozen? x = W1.frozen? x) → ∀ ty dc, (Builtin.copy_ #[23, 23] ty #[.slice (some ⟨w.heap.size, i, none⟩) (n + 1 - i) dc, .slice (some ⟨vb, 0, none⟩) 1 1]).run Try.prog W = .ok (goInt ([u] : List Value).length) (W.setCells w.heap.size i [u]) := fun W hWc hWf ty dc =>
    run_copy_cells W _ _ ty 24 w.heap.size i (n + 1 - i) dc ⟨vb, 0, none⟩ 1 1 [u] Try.underlying23 size_words (by simp only [List.length_cons, List.length_nil, Nat.min_def]; split <;> omega)
      (fun j v hj => by
        match j, hj with
        | 0, hj =>
          simp only [List.getElem?_cons_zero, Option.some.injEq] at hj
          subst hj
          rw [Addr.add_lit, hWc]; exact hOv _ _ hvs)
      (fun j hj => by rw [hWc]; exact hN _ (by simp at hj; omega)) (fun j hj => by rw [hWf]; exact hNf _) (fun v hv => by simp only [List.mem_singleton] at hv; rw [hv]; exact h1v)
  have hG63 : G ≤ 9223372036854775807 := by unfold maxLen at hGm; omega
  have hGi : ¬ (G = i) := by omega
  have hGim : ¬ (G = i + 1) := by omega
  have hci : ¬ (c = i) := by omega
  have hbN : b ≠ w.heap.size := by omega
  have hdl : (cs.drop i).length = n - i := by rw [List.length_drop, hcl]
  have hcpB : ∀ (W : World), (∀ x, W.cell? x = (W1.setCells w.heap.size i [u]).cell? x) → (∀ x, W.frozen? x = (W1.setCells w.heap.size i [u]).frozen? x) → ∀ ty dc sc, (Builtin.copy_ #[23, 23] ty #[.slice (some ⟨w.heap.size, i + 1, none⟩) (n - i) dc, .slice (some ⟨b, 0 + i, none⟩) (n - i) sc]).run Try.prog W = .ok (goInt (cs.drop i).length) (W.setCells w.heap.size (i + 1) (cs.drop i)) := fun W hWc hWf ty dc sc =>
    run_copy_cells W _ _ ty 24 w.heap.size (i + 1) (n - i) dc ⟨b, 0 + i, none⟩ (n - i) sc (cs.drop i) Try.underlying23 size_words (by rw [hdl]; simp only [Nat.min_def]; split <;> omega)
      (fun j v hj => by
        rw [Addr.add_lit, hWc, World.cell?_setCells_out _ _ _ _ _ (fun h _ => absurd h hbN), Nat.add_assoc]
        exact hOb _ v (hcs (i + j) v (by rwa [List.getElem?_drop] at hj)))
      (fun j hj => by rw [hWc]; exact isSome_setCells _ _ _ _ (fun t ht => hN _ (by simp at ht; omega)) _ (hN _ (by omega)))
      (fun j hj => by rw [hWf, World.frozen?_setCells]; exact hNf _) (fun v hv => h1c v (List.mem_of_mem_drop hv))
  subst hW1
  have hE1 : ∀ x, ((w.alloc (.cells ROW 24)).drew).cell? x = (w.drew.alloc (.cells ROW 24)).cell? x := fun x => rfl
  have hE2 : ∀ x, ((w.alloc (.cells ROW 24)).drew).frozen? x = (w.drew.alloc (.cells ROW 24)).frozen? x := fun x => rfl
  have hF1 : ∀ x, (((w.alloc (.cells ROW 24)).drew.setCells w.heap.size i [u]).drew).cell? x = ((w.drew.alloc (.cells ROW 24)).setCells w.heap.size i [u]).cell? x := fun x => rfl
  have hF2 : ∀ x, (((w.alloc (.cells ROW 24)).drew.setCells w.heap.size i [u]).drew).frozen? x = ((w.drew.alloc (.cells ROW 24)).setCells w.heap.size i [u]).frozen? x := fun x => rfl
  have hw1 : IntKind.i64.wrap ((i : Int) + 1) = (i : Int) + 1 := by rw [IntKind.wrap_i64]; omega
  have hb1 : (0 : Int) ≤ (i : Int) + 1 := by omega
  have hin : i ≤ n := by omega
  have htn : ((i : Int) + 1).toNat = i + 1 := by omega
  have hb3 : (i : Int) ≤ (n : Int) := by omega
  have hfin : ∃ G' ROW', n + 1 ≤ G' ∧ G' ≤ maxLen ∧ ROW'.size = G' ∧ (∀ j, j < i → ROW'[j]? = cs[j]?) ∧ G' = G ∧ ROW' = ROW := ⟨G, ROW, hGn, hGm, hRs, hRa, rfl, rfl⟩
  have HFIN := Lib.hid hfin
  clear hkk hik hold hROW hG hRl hfin hRs hRa
  simp only [Nat.zero_add] at *
  have mixed : Try.prog.follows Departure.mixedOrders = true := by kernel_rfl
  go_enter Try.func52, Try.ntmps52
  go_wp2_with (first
    | (at_builtin; refine Lib.wpList_append_run _ rfl _ _ _ _ rfl _ _ rfl rfl _ _ (hrz _) ?_)
    | (at_builtin; refine wpList_copy_runI _ rfl _ _ 23 23 rfl _ _ rfl rfl (hcpA _ hE1 hE2 _ _) ?_)
    | (at_builtin; refine wpList_copy_runI _ rfl _ _ 23 23 rfl _ _ rfl rfl (hcpB _ (fun _ => rfl) (fun _ => rfl) _ _ _) ?_))
  go_region_law_o (refine step_copy_runI rfl _ _ 23 23 rfl (.slice (some ⟨w.heap.size, i + 1, none⟩) (n - i) (G - (i + 1))) (.slice (some ⟨b, i, none⟩) (n - i) (c - i)) (by simp [Act.eval, Act.put]) (by simp [Act.eval, Act.put]) (hcpB _ hF1 hF2 24 (G - (i + 1)) (c - i)) ?_)
  go_wp2
  go_ret
  obtain ⟨G', ROW', h1, h2, h3, h4, rfl, rfl⟩ := HFIN.out
  exact ⟨G', ROW', h1, h2, h3, h4, rfl, rfl⟩

set_option maxHeartbeats 4000000 in
set_option maxRecDepth 100000 in
/-- at the end -/
theorem insert_end (B vb : Nat) (a : Option Addr) (n c : Nat) (cs : List Value) (u : Value) (w : World) (hown : w.ownsRow B 24 1 (.slice a n c) n cs) (hbig : n ≤ 1000) (hB : B ≤ w.heap.size)
    (hvs : w.cell? ⟨vb, 0, none⟩ = some u) (h1v : u.oneCell' = true) :
    Calls Try.prog 52 #[.slice a n c, .int .i64 n, .slice (some ⟨vb, 0, none⟩) 1 1] w fun e w' => ∃ g c', e = .returned (.slice (some ⟨g, 0, none⟩) (n + 1) c') ∧
      w'.ownsRow B 24 1 (.slice (some ⟨g, 0, none⟩) (n + 1) c') (n + 1) (cs ++ [u]) ∧ w.grownBy w' (Value.slice a n c).ownBlock ∧ ((Value.slice a n c).ownBlock = some g ∨ w.heap.size ≤ g) := by
  obtain ⟨i0, hi0, hz0, hzs, hzb⟩ := info_parts info_words
  have hnews : ∀ j v, ([u] : List Value)[j]? = some v → w.cell? ((⟨vb, 0, none⟩ : Addr).add j) = some v := fun j v hj => by
    match j, hj with
    | 0, hj =>
      simp only [List.getElem?_cons_zero, Option.some.injEq] at hj
      subst hj
      simpa [Addr.add] using hvs
  have h1 : ∀ v ∈ ([u] : List Value), v.oneCell' = true := fun v hv => by simp only [List.mem_singleton] at hv; rw [hv]; exact h1v
  have HOWN := Lib.hid hown
  have HNEWS := Lib.hid hnews
  have H1 := Lib.hid h1
  have hnc : n ≤ c := by
    rcases hown.2 with h2 | ⟨g', cap', cur, h2, _, _, h3, _⟩
    · simp only [Value.slice.injEq] at h2; omega
    · simp only [Value.slice.injEq] at h2; omega
  clear hown hnews h1 hvs h1v
  rcases Nat.lt_or_ge n c with hlt | hge
  · have hb4 : ¬ (c = n) := by omega
    go_enter Try.func52, Try.ntmps52
    go_wp2_with (at_builtin; refine wpList_append_lies _ rfl _ _ 23 rfl B 24 i0 (.slice none 0 0) 1 24 Try.underlying23 hi0 hz0 hzs hzb rfl (by decide) _ n cs (by rfl) HOWN.out ⟨vb, 0, none⟩ 1 1 [u] (by rfl) (by rfl) HNEWS.out H1.out (by omega) (by unfold maxLen; omega) (by omega) hB _ rfl ?_; intro g5 c5 w5 hown5 hgrow5 hlies5 hlt5)
    go_ret
    exact ⟨g5, c5, rfl, hown5, hgrow5, hlies5.imp_right fun h => by omega⟩
  · obtain rfl : c = n := by omega
    go_enter Try.func52, Try.ntmps52
    go_wp2_with (at_builtin; refine wpList_append_lies _ rfl _ _ 23 rfl B 24 i0 (.slice none 0 0) 1 24 Try.underlying23 hi0 hz0 hzs hzb rfl (by decide) _ c cs (by rfl) HOWN.out ⟨vb, 0, none⟩ 1 1 [u] (by rfl) (by rfl) HNEWS.out H1.out (by omega) (by unfold maxLen; omega) (by omega) hB _ rfl ?_; intro g5 c5 w5 hown5 hgrow5 hlies5 hlt5)
    go_ret
    exact ⟨g5, c5, rfl, hown5, hgrow5, hlies5.imp_right fun h => by omega⟩

set_option maxRecDepth 100000 in
/-- a row with one word more, at its place -/
theorem insert_is (B vb : Nat) (a : Option Addr) (n c i : Nat) (xs : List Wd) (z : Wd) (w : World) (hown : w.ownsRow B 24 1 (.slice a n c) n (vals xs)) (hi : i ≤ n) (hbig : n ≤ 1000) (hB : B ≤ w.heap.size)
    (hv : w.heap[vb]? = some (.cells #[z.v] 24 (0, 0))) (hne : (Value.slice a n c).ownBlock ≠ some vb) :
    Calls Try.prog 52 #[.slice a n c, .int .i64 i, .slice (some ⟨vb, 0, none⟩) 1 1] w fun e w' => ∃ g c', e = .returned (.slice (some ⟨g, 0, none⟩) (n + 1) c') ∧
      w'.ownsRow B 24 1 (.slice (some ⟨g, 0, none⟩) (n + 1) c') (n + 1) (vals (xs.take i ++ z :: xs.drop i)) ∧ w.grownBy w' (Value.slice a n c).ownBlock ∧ ((Value.slice a n c).ownBlock = some g ∨ w.heap.size ≤ g) := by
  have hvs : w.cell? ⟨vb, 0, none⟩ = some z.v := by simp [World.cell?, hv]
  have hxl : xs.length = n := by have := hown.1; rw [vals_length] at this; omega
  rcases Nat.lt_or_ge i n with hlt | hge
  · obtain ⟨b, rfl⟩ : ∃ b, a = some ⟨b, 0, none⟩ := by
      rcases hown.2 with h2 | ⟨g', cap', cur, h2, _⟩
      · cases h2.1; omega
      · simp only [Value.slice.injEq] at h2
        exact ⟨g', h2.1⟩
    obtain ⟨hvl, hBb, hnc, hcm, hat, cur, hh, hsz⟩ := cells_owns hown
    have hcs : ∀ j v, (vals xs)[j]? = some v → w.cell? ⟨b, 0 + j, none⟩ = some v := fun j v hj => by
      have hjn : j < n := by
        rcases Nat.lt_or_ge j n with h | h
        · exact h
        · rw [List.getElem?_eq_none (by omega)] at hj; cases hj
      rw [Nat.zero_add, hat j hjn, hj]
    have hin : ∀ (W : World) (cur' : Array Value), W.heap[b]? = some (.cells cur' 24 (0, 0)) → cur'.size = c → ∀ j, j < c → (W.cell? ⟨b, j, none⟩).isSome = true := fun W cur' h1 h2 j hj => by
      simp only [World.cell?, h1]
      rw [Array.getElem?_eq_getElem (by omega)]; rfl
    have hlen : (vals (xs.take i ++ z :: xs.drop i)).length = n + 1 := by rw [vals_length]; simp; omega
    have hval : ∀ j, (vals (xs.take i ++ z :: xs.drop i))[j]? = if j < i then (vals xs)[j]? else if j = i then some z.v else (vals xs)[j - 1]? := fun j => by
      unfold vals
      simp only [List.getElem?_map]
      by_cases h1 : j < i
      · rw [if_pos h1, List.getElem?_append_left (by simp; omega), List.getElem?_take_of_lt h1]
      · rw [if_neg h1, List.getElem?_append_right (by simp; omega)]
        have hti : (xs.take i).length = i := by simp; omega
        rw [hti]
        by_cases h2 : j = i
        · rw [if_pos h2, h2]; simp
        · rw [if_neg h2]
          obtain ⟨q, rfl⟩ : ∃ q, j = i + q + 1 := ⟨j - i - 1, by omega⟩
          rw [show i + q + 1 - i = q + 1 by omega, List.getElem?_cons_succ, List.getElem?_drop, show i + q + 1 - 1 = i + q by omega]
    have hdrop : ∀ q, q < n - i → (w.cell? ⟨b, 0 + (i + q), none⟩) = ((vals xs).drop i)[q]? := fun q hq => by
      rw [Nat.zero_add, hat _ (by omega), List.getElem?_drop]
    have hdl : ((vals xs).drop i).length = n - i := by rw [List.length_drop, hvl]
    -- the cells of a row that was written so
    have fin : ∀ (W : World) (g G : Nat) (cur0 : Array Value), W.heap[g]? = some (.cells cur0 24 (0, 0)) → cur0.size = G → n + 1 ≤ G → G ≤ maxLen → B ≤ g → (∀ j, j < i → W.cell? ⟨g, j, none⟩ = (vals xs)[j]?) →
        ∀ (W' : World), (∀ j, j < i → W'.cell? ⟨g, j, none⟩ = W.cell? ⟨g, j, none⟩) → W'.cell? ⟨g, i, none⟩ = some z.v → (∀ q, q < n - i → W'.cell? ⟨g, i + 1 + q, none⟩ = ((vals xs).drop i)[q]?) →
        (∃ cur', W'.heap[g]? = some (.cells cur' 24 (0, 0)) ∧ cur'.size = G) → W'.ownsRow B 24 1 (.slice (some ⟨g, 0, none⟩) (n + 1) G) (n + 1) (vals (xs.take i ++ z :: xs.drop i)) := by
      rintro W g G cur0 hW hs0 hnG hGm hBg hW1 W' e1 e2 e3 ⟨cur', h1, h2⟩
      refine owns_cells hlen hnG hGm (fun j hj => ?_) hBg h1 h2
      rw [hval j]
      by_cases c1 : j < i
      · rw [if_pos c1, e1 j c1, hW1 j c1]
      · rw [if_neg c1]
        by_cases c2 : j = i
        · rw [if_pos c2, c2, e2]
        · rw [if_neg c2]
          obtain ⟨q, rfl⟩ : ∃ q, j = i + 1 + q := ⟨j - i - 1, by omega⟩
          rw [e3 q (by omega), List.getElem?_drop, show i + 1 + q - 1 = i + q by omega]
    rcases Nat.lt_or_ge c (n + 1) with hroom | hroom
    · refine (insert_grow b n c i vb (vals xs) z.v w hlt hnc hroom hbig hvl hcs hvs (one_cell_vals xs) rfl).mono ?_
      rintro e w' ⟨G, ROW, g1, g2, g3, g4, rfl, rfl⟩
      have hbk : ((w.alloc (.cells ROW 24)).drew).heap[w.heap.size]? = some (.cells ROW 24 (0, 0)) := heap_alloc_new w _
      obtain ⟨c1, k1, k2⟩ := setCells_block w.heap.size [z.v] i _ _ hbk
      obtain ⟨c2, k3, k4⟩ := setCells_block w.heap.size ((vals xs).drop i) (i + 1) ((w.alloc (.cells ROW 24)).drew.setCells w.heap.size i [z.v]).drew c1 k1
      have gr1 := (setCells_grown w.heap.size [z.v] i (w.alloc (.cells ROW 24)).drew).1
      have gr2 := (setCells_grown w.heap.size ((vals xs).drop i) (i + 1) ((w.alloc (.cells ROW 24)).drew.setCells w.heap.size i [z.v]).drew).1
      have isS : ∀ (W : World) (cur' : Array Value), W.heap[w.heap.size]? = some (.cells cur' 24 (0, 0)) → cur'.size = G → ∀ j, j < G → (W.cell? ⟨w.heap.size, j, none⟩).isSome = true := fun W cur' h1 h2 j hj => by
        simp only [World.cell?, h1]
        rw [Array.getElem?_eq_getElem (by omega)]; rfl
      refine ⟨w.heap.size, G, rfl, fin (w.alloc (.cells ROW 24)).drew w.heap.size G ROW hbk g3 g1 g2 hB (fun j hj => ?_) _ (fun j hj => ?_) ?_ (fun q hq => ?_) ⟨c2, k3, by omega⟩, ?_, .inr (Nat.le_refl _)⟩
      · rw [← g4 j hj]
        exact cell_of_block hbk j
      · rw [World.cell?_setCells_out _ _ _ _ _ (fun _ _ => .inl (by show j < i + 1; omega))]
        exact World.cell?_setCells_out _ _ _ _ _ (fun _ _ => .inl (by show j < i; omega))
      · rw [World.cell?_setCells_out _ _ _ _ _ (fun _ _ => .inl (by show i < i + 1; omega))]
        exact World.cell?_setCells_in w.heap.size [z.v] i (w.alloc (.cells ROW 24)).drew (fun j hj => isS _ _ hbk g3 _ (by simp at hj; omega)) 0 (by simp)
      · rw [World.cell?_setCells_in w.heap.size ((vals xs).drop i) (i + 1) ((w.alloc (.cells ROW 24)).drew.setCells w.heap.size i [z.v]).drew (fun j hj => isS _ _ k1 (by omega) _ (by omega)) q (by omega), List.getElem?_eq_getElem (by omega)]
      · have ge : w.grownBy (w.alloc (.cells ROW 24)) (Value.slice (some ⟨b, 0, none⟩) n c).ownBlock := World.grownBy_alloc w _ _
        refine ⟨gr2.os.trans (gr1.os.trans ge.os), gr2.tape.trans (gr1.tape.trans ge.tape), gr2.output.trans (gr1.output.trans ge.output), Nat.le_trans ge.size (Nat.le_trans gr1.size gr2.size), fun k hk hne' => ?_⟩
        have hkne : some k ≠ some w.heap.size := fun e => by simp only [Option.some.injEq] at e; omega
        have hk1 : k < (w.alloc (.cells ROW 24)).heap.size := by simp; omega
        exact (gr2.block k (Nat.lt_of_lt_of_le hk1 gr1.size) hkne).trans ((gr1.block k hk1 hkne).trans (ge.block k hk hne'))
    · have hvb : vb ≠ b := fun e => hne (by rw [e]; rfl)
      have hc63 : c ≤ 9223372036854775807 := by unfold maxLen at hcm; omega
      refine (insert_shift b n c i vb (vals xs) z.v w hlt hroom hc63 hvb hvl hcs (fun j hj => by rw [Nat.zero_add]; exact hin w cur hh hsz j (by omega)) (fun j hj => by simp [World.frozen?, hh]) hvs (one_cell_vals xs) rfl
        24 24 1 c (by simp [World.shape?, hv]) (by simp [World.shape?, hh, hsz]) (by omega) (by simp [World.frozen?, hv]) (by simp [World.frozen?, hv])).mono ?_
      rintro e w' ⟨rfl, rfl⟩
      have hbk : w.drew.heap[b]? = some (.cells cur 24 (0, 0)) := hh
      obtain ⟨c1, k1, k2⟩ := setCells_block b ((vals xs).drop i) (0 + (i + 1)) w.drew cur hbk
      obtain ⟨c2, k3, k4⟩ := setCells_block b [z.v] (0 + i) (w.drew.setCells b (0 + (i + 1)) ((vals xs).drop i)) c1 k1
      have gr1 := (setCells_grown b ((vals xs).drop i) (0 + (i + 1)) w.drew).1
      have gr2 := (setCells_grown b [z.v] (0 + i) (w.drew.setCells b (0 + (i + 1)) ((vals xs).drop i))).1
      have gr0 : w.grownBy w.drew (some b) := ⟨rfl, rfl, rfl, Nat.le_refl _, fun _ _ _ => rfl⟩
      refine ⟨b, c, rfl, fin w.drew b c cur hbk hsz hroom hcm hBb (fun j hj => hat j (by omega)) _ (fun j hj => ?_) ?_ (fun q hq => ?_) ⟨c2, k3, by omega⟩, gr0.trans (gr1.trans gr2), .inl rfl⟩
      · rw [World.cell?_setCells_out _ _ _ _ _ (fun _ _ => .inl (by show j < 0 + i; omega))]
        exact World.cell?_setCells_out _ _ _ _ _ (fun _ _ => .inl (by show j < 0 + (i + 1); omega))
      · have := World.cell?_setCells_in b [z.v] (0 + i) (w.drew.setCells b (0 + (i + 1)) ((vals xs).drop i)) (fun j hj => hin _ c1 k1 (by omega) _ (by simp at hj; omega)) 0 (by simp)
        simpa using this
      · rw [World.cell?_setCells_out _ _ _ _ _ (fun _ _ => .inr (by show 0 + i + 1 ≤ i + 1 + q; omega))]
        have := World.cell?_setCells_in b ((vals xs).drop i) (0 + (i + 1)) w.drew (fun j hj => hin _ cur hbk hsz _ (by omega)) q (by omega)
        rw [Nat.zero_add] at this
        rw [Nat.zero_add, this, List.getElem?_eq_getElem (by omega)]
  · obtain rfl : i = n := by omega
    refine (insert_end B vb a i c (vals xs) z.v w hown hbig hB hvs rfl).mono ?_
    rintro e w' ⟨g, c', h1, h2, h3, h4⟩
    refine ⟨g, c', h1, ?_, h3, h4⟩
    rw [List.take_of_length_le (by omega), List.drop_eq_nil_of_le (by omega), vals_app]
    exact h2

end Go.Proofs.Ytflikfnehpaohaa
