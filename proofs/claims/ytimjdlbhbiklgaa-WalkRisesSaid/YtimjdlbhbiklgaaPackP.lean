import Derived.Test.YtimjdlbhbiklgaaTrieLead
import Derived.Test.YtimjdlbhbiklgaaTrieRefE
import Derived.Test.YtimjdlbhbiklgaaPackI
import Derived.Carry
import Derived.Test.YtimjdlbhbiklgaaTrieStep
import Derived.Test.YtimjdlbhbiklgaaPackL
/- The program's Make of layer 10. Written by wip/gen/trie_make.py. -/
namespace Go.Proofs.Ytimjdlbhbiklgaa
open Go.RowKit Go.Maps Tri

set_option maxRecDepth 100000 in
theorem ne_is : (3 : TypeId) ≠ 47 := by decide
set_option maxRecDepth 100000 in
theorem ne_ia : (3 : TypeId) ≠ 59 := by decide
set_option maxRecDepth 100000 in
theorem ne_im : (3 : TypeId) ≠ 65 := by decide
set_option maxRecDepth 100000 in
theorem grown_below {w w' : World} (h : w.grownBy w' none) : Below w.heap.size w w' := ⟨h.os, h.tape, h.output, h.size, fun k hk => h.block k hk (by simp)⟩
set_option maxRecDepth 100000 in
theorem made_one : (madeCells (Value.agg #[.bool false, .slice none 0 0]).cells (1 * 2)).toList = scells [Sw.no] := by kernel_rfl
set_option maxRecDepth 100000 in
theorem made_ints (n : Nat) : (madeCells (Value.int .i64 0).cells (n * 1)).toList = (List.replicate n (0 : Int)).map (Value.int .i64) := by
  rw [Nat.mul_one, List.map_replicate]
  exact toList_madeCells_one (.int .i64 0) n
set_option maxRecDepth 100000 in
theorem alloc2_le (w : World) (A B : Obj) : w.heap.size ≤ ((w.alloc A).alloc B).heap.size := by rw [World.size_alloc, World.size_alloc]; omega
set_option maxRecDepth 100000 in
/-- what stands behind the first states, the map, the box -/
theorem Mk.start {w : World} {B g : Nat} (hB : B ≤ w.heap.size) (hown : w.ownsRow B 47 2 (.slice (some ⟨g, 0, none⟩) 1 1) 1 (scells [Sw.no])) :
    Mk ((w.alloc (.map #[] 0)).alloc (.cells #[.slice (some ⟨g, 0, none⟩) 1 1, .map (some w.heap.size)] 65)) B (w.heap.size + 1) w.heap.size 0 (some ⟨g, 0, none⟩) 1 1 [Sw.no] (.map []) := by
  have hz := World.size_alloc w (.map #[] 0)
  refine ⟨⟨by omega, hB⟩, ?_, (World.ownsMap_made _ _ _ _).alloc _, (hown.alloc _).alloc _, ?_, ?_, List.pairwise_singleton _ _⟩
  · rw [← hz]; exact heap_alloc_new _ _
  · intro x hx
    rw [List.mem_singleton.1 hx]; exact World.ownsRow_nil _ _ _ _
  · intro x hx
    rw [List.mem_singleton.1 hx]; intro y hy; cases hy
set_option maxRecDepth 100000 in
theorem MkAt.start {w : World} {B mb mp : Nat} {sa : Option Addr} (h : Mk w B mb mp 0 sa 1 1 [Sw.no] (.map [])) : MkAt w B mb mp [[]] :=
  ⟨0, sa, 1, 1, [Sw.no], .map [], h, by omega, by rw [bare_first]; rfl, mapOk_first (fun f s => wayAt_empty f s), rfl⟩
set_option maxRecDepth 100000 in
theorem MkAt.grow {w w' : World} {B mb mp : Nat} {U : List (List Int)} (h : MkAt w B mb mp U) (hg : w.grownBy w' none) : MkAt w' B mb mp U := by
  obtain ⟨M, sa, N, c, outs, D, h1, h2⟩ := h
  exact ⟨M, sa, N, c, outs, D, h1.grow hg, h2⟩
set_option maxRecDepth 100000 in
theorem MkAt.drew {w : World} {B mb mp : Nat} {U : List (List Int)} (h : MkAt w B mb mp U) : MkAt w.drew B mb mp U := by
  obtain ⟨M, sa, N, c, outs, D, h1, h2⟩ := h
  exact ⟨M, sa, N, c, outs, D, h1.drew, h2⟩
set_option maxRecDepth 100000 in
theorem Mk.setInt {w : World} {B B' mb mp M N c pb i n n' : Nat} {sa : Option Addr} {outs : List Sw} {D : DataW Unit} {l : List Value} {v : Value} (h : Mk w B mb mp M sa N c outs D) (ho : w.ownsRow B' 3 1 (.slice (some ⟨pb, 0, none⟩) n n') n l) : Mk (w.setCell ⟨pb, i, none⟩ v) B mb mp M sa N c outs D := by
  obtain ⟨cur, hc⟩ := own_obj ho (g := pb) rfl
  obtain ⟨es, clock, hb⟩ := h.mapObj
  refine h.kept (grown_set w ⟨pb, i, none⟩ v) ?_ ?_ (own_apart h.row hc (fun cur => cells_ne ne_is)) (fun x hx => own_apart (h.arcs x hx) hc (fun cur => cells_ne ne_ia))
  · intro e
    have e' : mb = pb := Option.some.inj e
    rw [← e', h.box] at hc
    simp only [Option.some.injEq, Obj.cells.injEq] at hc
    exact ne_im hc.2.1.symm
  · intro e
    have e' : mp = pb := Option.some.inj e
    rw [← e', hb] at hc
    cases hc
set_option maxRecDepth 100000 in
theorem MkAt.setInt {w : World} {B B' mb mp pb i n n' : Nat} {U : List (List Int)} {l : List Value} {v : Value} (h : MkAt w B mb mp U) (ho : w.ownsRow B' 3 1 (.slice (some ⟨pb, 0, none⟩) n n') n l) : MkAt (w.setCell ⟨pb, i, none⟩ v) B mb mp U := by
  obtain ⟨M, sa, N, c, outs, D, h1, h2⟩ := h
  exact ⟨M, sa, N, c, outs, D, h1.setInt ho, h2⟩
set_option maxRecDepth 100000 in
theorem pl_cell {w : World} {B pb n i L : Nat} {ps : List Int} (h : w.ownsRow B 3 1 (.slice (some ⟨pb, 0, none⟩) n n) n (ps.map (Value.int .i64))) (hl : ps.length = L) (hL : L = n) (hi : i < n) : w.cell? ⟨pb, i, none⟩ = some (.int .i64 (ps.getD i 0)) := by
  rw [h.cellAt i (by omega)]
  have : i < ps.length := by omega
  simp [this]
/-- the maker, and the words' places, when the first i words have had their sign number p -/
def MakeAt (v1 w : World) (B mb mp pb n : Nat) (ws : List (List Int)) (p i : Nat) : Prop :=
  ∃ ps : List Int, MkAt w B mb mp (soFar ws p i) ∧ PlOk ws (soFar ws p i) ps p i ∧ w.ownsRow B 3 1 (.slice (some ⟨pb, 0, none⟩) n n) n (ps.map (Value.int .i64)) ∧ Below B v1 w
set_option maxRecDepth 100000 in
theorem MakeAt.turn {v1 w : World} {B mb mp pb n p : Nat} {ws : List (List Int)} (hn : ws.length = n) (h : MakeAt v1 w B mb mp pb n ws p n) : MakeAt v1 w B mb mp pb n ws (p + 1) 0 := by
  obtain ⟨ps, h1, h2, h3, h4⟩ := h
  subst hn
  rw [soFar_all] at h1 h2
  exact ⟨ps, h1, plOk_turn h2, h3, h4⟩
set_option maxRecDepth 100000 in
theorem MakeAt.pass {v1 w w' : World} {B mb mp pb n p i : Nat} {ws : List (List Int)} {x : List Int} (hi : i < ws.length) (hx : ws.getD i [] = x) (hp : ¬ p < x.length) (hw : w' = w) (h : MakeAt v1 w B mb mp pb n ws p i) : MakeAt v1 w' B mb mp pb n ws p (i + 1) := by
  obtain ⟨ps, h1, h2, h3, h4⟩ := h
  subst hw
  have e := soFar_pass hi hx hp
  refine ⟨ps, ?_, ?_, h3, h4⟩
  · rw [e]; exact h1
  · rw [e]; exact plOk_pass h2 (by rw [hx]; exact hp)
set_option maxRecDepth 100000 in
theorem make_step {v1 w6 : World} {B mb mp pb n p i k : Nat} {ws : List (List Int)} {ps : List Int} {z : List Int} (hr : Rise ws) (hi : i < ws.length) (hx : ws.getD i [] = z) (hp : p < z.length)
    (hm : MkAt w6 B mb mp (more (soFar ws p i) (z.take (p + 1)))) (hk : k < (more (soFar ws p i) (z.take (p + 1))).length) (hq : (more (soFar ws p i) (z.take (p + 1))).getD k [] = z.take (p + 1)) (hpl : PlOk ws (soFar ws p i) ps p i)
    (hown : w6.ownsRow B 3 1 (.slice (some ⟨pb, 0, none⟩) n n) n (ps.map (Value.int .i64))) (hb : Below B v1 w6) :
    MakeAt v1 (w6.setCell ⟨pb, i, none⟩ (.int .i64 (k : Int))) B mb mp pb n ws p (i + 1) := by
  have e : soFar ws p (i + 1) = more (soFar ws p i) (z.take (p + 1)) := soFar_step hr hi hx hp
  have e2 : ∃ V, more (soFar ws p i) (z.take (p + 1)) = soFar ws p i ++ V := by
    unfold more
    split
    · exact ⟨[], by simp⟩
    · exact ⟨_, rfl⟩
  obtain ⟨V, hV⟩ := e2
  refine ⟨ps.set i (k : Int), ?_, ?_, ?_, Below.setCell (p := ⟨pb, i, none⟩) hb (hown.lt pb rfl).1 _⟩
  · rw [e]; exact hm.setInt hown
  · rw [e, hV]
    rw [hV] at hk hq
    exact plOk_step hpl hi hk (by rw [hx]; exact hq)
  · have h1 := (hown.stored i (.int .i64 (k : Int))).1
    rw [List.map_set]
    exact h1
/-- .. when the first j words' states are final -/
def FinAt (v1 w : World) (B mb mp pb n : Nat) (ws : List (List Int)) (ps : List Int) (j : Nat) : Prop :=
  ∃ M sa N c outs D, Mk w B mb mp M sa N c outs D ∧ sts outs = fins (begs ws) ws j ∧ w.ownsRow B 3 1 (.slice (some ⟨pb, 0, none⟩) n n) n (ps.map (Value.int .i64)) ∧ Below B v1 w
set_option maxRecDepth 100000 in
theorem FinAt.start {v1 w : World} {B mb mp pb n : Nat} {ws : List (List Int)} (h : MakeAt v1 w B mb mp pb n ws 20 0) : ∃ ps, PlOk ws (begs ws) ps 20 0 ∧ FinAt v1 w B mb mp pb n ws ps 0 := by
  obtain ⟨ps, ⟨M, sa, N, c, outs, D, h1, _, h3, _, _⟩, h2, h4, h5⟩ := h
  rw [soFar_end] at h2 h3
  exact ⟨ps, h2, M, sa, N, c, outs, D, h1, by rw [h3, bare_fins _ ws], h4, h5⟩
set_option maxRecDepth 100000 in
theorem FinAt.step {v1 w : World} {B mb mp pb n M N c sb k j : Nat} {ws : List (List Int)} {ps : List Int} {outs : List Sw} {D : DataW Unit} (hm : Mk w B mb mp M (some ⟨sb, 0, none⟩) N c outs D) (hst : sts outs = fins (begs ws) ws j) (hpl : w.ownsRow B 3 1 (.slice (some ⟨pb, 0, none⟩) n n) n (ps.map (Value.int .i64))) (hb : Below B v1 w)
    (hk : k < N) (hj : j < ws.length) (hkb : k < (begs ws).length) (hq : (begs ws).getD k [] = ws.getD j []) : FinAt v1 (w.setCell ⟨sb, k * 2, none⟩ (.bool true)) B mb mp pb n ws ps (j + 1) := by
  obtain ⟨scur, hso⟩ := own_obj hm.row (g := sb) rfl
  refine ⟨M, _, N, c, _, D, hm.final hk rfl, ?_, hpl.kept (grown_set w ⟨sb, k * 2, none⟩ _) (own_apart hpl hso (fun cur => cells_ne (ne_is.symm))), Below.setCell (p := ⟨sb, k * 2, none⟩) hb ((hm.row.lt sb rfl).1) _⟩
  rw [sts_set, hst, fins_step (begs_nodup ws) hj hkb hq]
  have h1 := sts_at outs k
  rw [hst] at h1
  rw [h1]; rfl

set_option maxHeartbeats 12800000 in
set_option maxRecDepth 100000 in
theorem tmake_is (a : Option Addr) (n cap : Nat) (xs : List Wd) (g : List St × Int) (w : World) (hs : Ws w a n cap xs) (_hnil : a = none → cap = 0) (hg : made (nums xs) = g) :
    Calls Try.prog 22 #[.slice a n cap] w fun e w' => MadeIs w w' e g := by
  have hnc := hs.2.1
  have hcm := hs.2.2.1
  unfold maxLen at hcm
  have HS := Lib.hid hs
  have HG := Lib.hid hg
  have HXL : Hid ((nums xs).length = n) := by show _ = _; rw [nums_length, hs.1]
  obtain ⟨⟨bs, er⟩, hp⟩ : ∃ p, Wl.write (nums xs) = p := ⟨_, rfl⟩
  have HP := Lib.hid hp
  have HMX : Hid (Try.prog.follows .mixedOrders = true) := by show _ = _; kernel_rfl
  have hmm := @run_makeMap Try.prog
  clear hs hg hp
  go_enter Try.func22, Try.ntmps22
  go_wp2_with fail
  refine (wwrite_is a n cap xs _ w HS.out HP.out).mono ?_
  rintro e v1 ⟨pa0, pc0, rfl, -, -, hb1⟩
  have HB1 : Hid (Below w.heap.size w v1) := hb1
  obtain ⟨bl, hbl⟩ : ∃ m, bs.length = m := ⟨_, rfl⟩
  simp only [hbl]
  clear hb1 hbl
  by_cases her : er = 0
  · subst her
    have hwe := Wl.write_err (nums xs)
    rw [HP.out] at hwe
    have hw3 : (nums xs).length ≤ 300 ∧ (∀ z ∈ nums xs, Wl.fit z = true) ∧ Rise (nums xs) := by
      rcases hwe with ⟨_, h1, h2, h3, _⟩ | ⟨h, _⟩
      · exact ⟨h1, h2, h3⟩
      · simp at h
    have HRISE := Lib.hid hw3.2.2
    have hn300 : n ≤ 300 := by rw [← HXL.out]; exact hw3.1
    have HGM : Hid ((make (nums xs), (0 : Int)) = g) := by
      show _ = _
      rw [← HG.out]; unfold made; rw [HP.out]; simp
    have HSHORT : Hid (Tri.Short (nums xs)) := fun z hz => (Wl.fit_parts (hw3.2.1 z hz)).2.1
    have HGOOD : Hid (∀ z ∈ nums xs, Utf.allGood z = true) := fun z hz => (Wl.fit_parts (hw3.2.1 z hz)).2.2.1
    clear hwe hw3
    obtain ⟨is, his, hs0, hs1, hs2⟩ := info_parts info_state
    obtain ⟨ii, hii, hi0, hi1, hi2⟩ := info_parts info_int
    go_wp2_with (first
      | (at_make
         refine wpList_make_full _ (by rfl) _ _ 22 (by rfl) v1.heap.size 47 is _ 2 Try.underlying22 his hs0 hs1 .i64 .i64 1 1 1 (by rfl) (by rfl) rfl rfl (by rw [hs2]; omega) (by unfold maxLen; omega) (Nat.le_refl _) ?_
         intro w2 hown2 hg2
         have HO2 : Hid (w2.ownsRow v1.heap.size 47 2 (.slice (some ⟨v1.heap.size, 0, none⟩) 1 1) 1 (scells [Sw.no])) := by show World.ownsRow _ _ _ _ _ _ _; rw [← made_one]; exact hown2
         have HG2 := Lib.hid hg2
         have HM3 := Lib.hid (Mk.start hg2.size HO2.out)
         clear hown2 hg2)
      | (at_make
         refine wpList_make_full _ (by rfl) _ _ 23 (by rfl) v1.heap.size 3 ii _ 1 Try.underlying23 hii hi0 hi1 .i64 .i64 (n : Int) (n : Int) n (by rfl) (by rfl) rfl rfl (by rw [hi2]; omega) (by unfold maxLen; omega) (Nat.le_trans HG2.out.size (alloc2_le _ _ _)) ?_
         intro w4 hown4 hg4
         rw [made_ints] at hown4
         have HO4 := Lib.hid hown4
         have HG4 := Lib.hid hg4
         clear hown4 hg4))
    have HB4 : Hid (Below v1.heap.size v1 w4) := ((grown_below HG2.out).alloc HG2.out.size _ |>.alloc (by rw [World.size_alloc]; have := HG2.out.size; omega) _).trans ((grown_below HG4.out).mono (Nat.le_trans HG2.out.size (alloc2_le _ _ _)))
    have HMA : Hid (MakeAt v1 w4 v1.heap.size (w2.heap.size + 1) w2.heap.size (w2.heap.size + 1 + 1) n (nums xs) 0 0) := ⟨List.replicate n 0, by rw [soFar_first]; exact (MkAt.start HM3.out).grow HG4.out, by rw [soFar_first, ← HXL.out]; exact plOk_first _, by have h := HO4.out; simpa [World.size_alloc] using h, HB4.out⟩
    clear HO2 HG2 HM3 HO4 HG4 HB4
    generalize w2.heap.size + 1 + 1 = pb at *
    generalize w2.heap.size + 1 = mb at *
    generalize w2.heap.size = mp at *
    go_loopw [27] (fun ix wr => ∃ p : Nat, p ≤ 20 ∧ ix = .int .i64 (p : Int) ∧ Hid (MakeAt v1 wr v1.heap.size mb mp pb n (nums xs) p 0)) (fun ix _ => 20 - (intOf ix).toNat)
    case atStart => exact ⟨0, by omega, rfl, HMA.out⟩
    case round =>
      obtain ⟨p, hp, rfl, HMP⟩ := hrel
      by_cases hlp : p < 20
      · have hlpi : (p : Int) < 20 := by omega
        go_wp2
        generalize wr = wo at *
        go_loopw [32] (fun ix wr => ∃ i : Nat, i ≤ n ∧ ix = .int .i64 (i : Int) ∧ Hid (MakeAt v1 wr v1.heap.size mb mp pb n (nums xs) p i)) (fun ix _ => n - (intOf ix).toNat)
        case atStart => exact ⟨0, by omega, rfl, HMP.out⟩
        case round =>
          obtain ⟨i, hi, rfl, HMI⟩ := hrel
          by_cases hlt : i < n
          · have hbv : Below v1.heap.size v1 wr := by obtain ⟨_, _, _, _, h⟩ := HMI.out; exact h
            have hbw : Below w.heap.size w wr := HB1.out.trans (hbv.mono HB1.out.size)
            obtain ⟨b1, o1, za, zn, zc, zz, rfl, hb1, hgd, hcl, hsl, hz⟩ := HS.out.one i hlt
            have hcl' : wr.cell? ⟨b1, o1 + i, none⟩ = some (.slice za zn zc) := by rw [hbw.cell (p := ⟨b1, o1 + i, none⟩) hb1]; exact hcl
            have HZW := Lib.hid hz
            have HZL := Lib.hid hsl.1
            have HSL := Lib.hid hsl
            have HBW := Lib.hid hbw
            have hzcm := hsl.2.2.1
            have hznc := hsl.2.1
            unfold maxLen at hzcm
            have hlti : (i : Int) < (n : Int) := by omega
            clear hbv hbw hgd hcl hsl hz hb1
            by_cases hpz : p < zn
            · have hpzi : (p : Int) < (zn : Int) := by omega
              obtain ⟨ps, hmk, hplo, hpl, hbv⟩ := HMI.out
              obtain ⟨k0, hk0, hps, hkq⟩ := plOk_at hplo (show i < (nums xs).length by rw [HXL.out]; exact hlt)
              rw [HZW.out] at hkq
              obtain ⟨zb, zo, rfl, hzb, hzc⟩ := HSL.out.at (by omega)
              obtain ⟨sg, hsg⟩ : ∃ z, zz.getD p 0 = z := ⟨_, rfl⟩
              have hpl' : p < zz.length := by rw [HZL.out]; exact hpz
              have hzp : wr.cell? ⟨zb, zo + p, none⟩ = some (.int .i64 sg) := by rw [HBW.out.cell (p := ⟨zb, zo + p, none⟩) hzb, hzc p hpz, hsg]
              have hp5 : wr.cell? ⟨pb, i, none⟩ = some (.int .i64 (k0 : Int)) := by rw [pl_cell hpl hplo.1 HXL.out hlt, hps]
              have HMK5 : Hid (MkAt wr.drew v1.heap.size mb mp (soFar (nums xs) p i)) := hmk.drew
              have HBS5 : Hid (v1.heap.size ≤ wr.drew.heap.size) := hbv.size
              have HLE : Hid ((soFar (nums xs) p i).length ≤ 6001) := soFar_le hlp (by rw [HXL.out]; exact hn300)
              have HK0 := Lib.hid hk0
              have HSGW : Hid ((Lit.int .i64 sg).wf = true) := HSL.out.2.2.2.1 sg (by rw [← hsg, List.getD_eq_getElem?_getD, List.getElem?_eq_getElem hpl', Option.getD_some]; exact List.getElem_mem _)
              have HQQ : Hid (zz.take (p + 1) = (soFar (nums xs) p i).getD k0 [] ++ [sg]) := by show _ = _; rw [hkq, ← hsg]; exact take_next hpl'
              have HQL : Hid (∀ u ∈ soFar (nums xs) p i, u.length ≤ (zz.take (p + 1)).length) := fun u hu => by
                have h1 := mem_soFar hu
                rw [List.length_take]; omega
              have HPL5 : Hid (wr.drew.ownsRow v1.heap.size 3 1 (.slice (some ⟨pb, 0, none⟩) n n) n (ps.map (Value.int .i64))) := hpl
              have HPLO := Lib.hid hplo
              have HZV : Hid (zb < v1.heap.size) := Nat.lt_of_lt_of_le hzb HB1.out.size
              have HZ5 : Hid (wr.drew.cell? ⟨zb, zo + p, none⟩ = some (.int .i64 sg)) := hzp
              have HBV5 : Hid (Below v1.heap.size v1 wr.drew) := below_drawn hbv ⟨1, rfl⟩
              have hii0 : (0 : Int) ≤ (i : Int) := by omega
              have hpp0 : (0 : Int) ≤ (p : Int) := by omega
              have hmx := HMX.out
              clear hmk hplo hpl hbv hk0 hps hkq hzb hzc hsg hpl' hmm
              go_wp2_with fail
              refine wp_region_held_drew (S := (fun W => W.cell? ⟨zb, zo + p, none⟩ = some (.int .i64 sg))) (by kernel_rfl) (by first | ((first | exact hz7 | exact hz6 | exact HZ5.out)) | ((try dsimp only); (first | exact hz7 | exact hz6 | exact HZ5.out))) (fun hHeld => ?_)
              refine wpAnyH_take (i := 0) (v := ?vlc1) rfl (by kernel_rfl) (by kernel_rfl) (by kernel_rfl) (fun _ _ _ h => h) (Or.inl ⟨by rfl, ?hlc1⟩) (by assumption) ?rlc1
              case hlc1 => intro w hSw; (try dsimp only at hSw); go_simp; try with_reducible rfl
              simp only [Act.put, List.getElem_toArray, List.getElem_cons_zero, List.setIfInBounds_toArray, List.set_cons_succ, List.set_cons_zero]
              refine wpAnyH_take (i := 1) (v := ?vlc4) rfl (by kernel_rfl) (by kernel_rfl) (by kernel_rfl) (fun _ _ _ h => h) (Or.inl ⟨by rfl, ?hlc4⟩) (by assumption) ?rlc4
              case hlc4 => intro w hSw; (try dsimp only at hSw); go_simp; try with_reducible rfl
              simp only [Act.put, List.getElem_toArray, List.getElem_cons_succ, List.getElem_cons_zero, List.setIfInBounds_toArray, List.set_cons_succ, List.set_cons_zero]
              refine wpAnyH_take (i := 2) (v := ?vlc7) rfl (by kernel_rfl) (by kernel_rfl) (by kernel_rfl) (fun _ _ _ h => h) (Or.inl ⟨by rfl, ?hlc7⟩) (by assumption) ?rlc7
              case hlc7 => intro w hSw; (try dsimp only at hSw); go_simp; try with_reducible rfl
              simp only [Act.put, List.getElem_toArray, List.getElem_cons_succ, List.getElem_cons_zero, List.setIfInBounds_toArray, List.set_cons_succ, List.set_cons_zero]
              refine wpAnyH_take (i := 3) (v := ?vlc10) rfl (by kernel_rfl) (by kernel_rfl) (by kernel_rfl) (fun _ _ _ h => h) (Or.inl ⟨by rfl, ?hlc10⟩) (by assumption) ?rlc10
              case hlc10 => intro w hSw; (try dsimp only at hSw); go_simp; try with_reducible rfl
              simp only [Act.put, List.getElem_toArray, List.getElem_cons_succ, List.getElem_cons_zero, List.setIfInBounds_toArray, List.set_cons_succ, List.set_cons_zero]
              refine wpAnyH_take (i := 4) (v := ?vlc13) rfl (by kernel_rfl) (by kernel_rfl) (by kernel_rfl) (fun _ _ _ h => h) (Or.inl ⟨by rfl, ?hlc13⟩) (by assumption) ?rlc13
              case hlc13 => intro w hSw; (try dsimp only at hSw); go_simp; try with_reducible rfl
              simp only [Act.put, List.getElem_toArray, List.getElem_cons_succ, List.getElem_cons_zero, List.setIfInBounds_toArray, List.set_cons_succ, List.set_cons_zero]
              refine wpAnyH_take (i := 6) (v := ?vlc16) rfl (by kernel_rfl) (by kernel_rfl) (by kernel_rfl) (fun _ _ _ h => h) (Or.inl ⟨by rfl, ?hlc16⟩) (by assumption) ?rlc16
              case hlc16 => intro w hSw; (try dsimp only at hSw); go_simp; try with_reducible rfl
              simp only [Act.put, List.getElem_toArray, List.getElem_cons_succ, List.getElem_cons_zero, List.setIfInBounds_toArray, List.set_cons_succ, List.set_cons_zero]
              refine wpAnyH_take (i := 7) (v := ?vlc19) rfl (by kernel_rfl) (by kernel_rfl) (by kernel_rfl) (fun _ _ _ h => h) (Or.inl ⟨by rfl, ?hlc19⟩) (by assumption) ?rlc19
              case hlc19 => intro w hSw; (try dsimp only at hSw); go_simp; try with_reducible rfl
              simp only [Act.put, List.getElem_toArray, List.getElem_cons_succ, List.getElem_cons_zero, List.setIfInBounds_toArray, List.set_cons_succ, List.set_cons_zero]
              refine wpAnyH_take (i := 8) (v := ?vlc22) rfl (by kernel_rfl) (by kernel_rfl) (by kernel_rfl) (fun _ _ _ h => h) (Or.inl ⟨by rfl, ?hlc22⟩) (by assumption) ?rlc22
              case hlc22 => intro w hSw; (try dsimp only at hSw); go_simp; try with_reducible rfl
              simp only [Act.put, List.getElem_toArray, List.getElem_cons_succ, List.getElem_cons_zero, List.setIfInBounds_toArray, List.set_cons_succ, List.set_cons_zero]
              refine wpAnyH_take (i := 9) (v := ?vlc25) rfl (by kernel_rfl) (by kernel_rfl) (by kernel_rfl) (fun _ _ _ h => h) (Or.inl ⟨by rfl, ?hlc25⟩) (by assumption) ?rlc25
              case hlc25 => intro w hSw; (try dsimp only at hSw); go_simp; try with_reducible rfl
              simp only [Act.put, List.getElem_toArray, List.getElem_cons_succ, List.getElem_cons_zero, List.setIfInBounds_toArray, List.set_cons_succ, List.set_cons_zero]
              refine wpAnyH_ready (rs := [5]) (by kernel_rfl) (by simp) ?_
              refine AllReadyH.cons rfl (fun K hK => ?_) AllReadyH.nil
              go_simp
              refine hK.out _ _ (by (try dsimp only); (first | exact hz7 | exact hz6 | exact HZ5.out)) (fun hHeld => ?_)
              clear hK K
              try simp only [Act.put, List.getElem_toArray, List.getElem_cons_succ, List.getElem_cons_zero, List.setIfInBounds_toArray, List.set_cons_succ, List.set_cons_zero]
              refine wpAnyH_take (i := 10) (v := ?vlc34) rfl (by kernel_rfl) (by kernel_rfl) (by kernel_rfl) (fun _ _ _ h => h) (Or.inl ⟨by rfl, ?hlc34⟩) (by assumption) ?rlc34
              case hlc34 => intro w hSw; (try dsimp only at hSw); go_simp; try with_reducible rfl
              simp only [Act.put, List.getElem_toArray, List.getElem_cons_succ, List.getElem_cons_zero, List.setIfInBounds_toArray, List.set_cons_succ, List.set_cons_zero]
              refine wpAnyH_ready (rs := [11]) (by kernel_rfl) (by simp) ?_
              refine AllReadyH.cons rfl (fun K hK => ?_) AllReadyH.nil
              go_simp
              refine (lead_is v1.heap.size mb mp k0 (soFar (nums xs) p i) sg (zz.take (p + 1)) wr.drew HMK5.out HBS5.out HLE.out HK0.out HSGW.out HQQ.out (soFar_nodup _ _ _) HQL.out).mono ?_
              rintro e w6 ⟨k, rfl, hmk6, hk6, hkq6, hb6, hki6⟩
              have hpl6 := hki6.owns HPL5.out
              have hc6 : w6.cell? ⟨pb, i, none⟩ = some (.int .i64 (ps.getD i 0)) := pl_cell hpl6 HPLO.out.1 HXL.out hlt
              have hf6 : w6.frozen? ⟨pb, i, none⟩ = false := hpl6.frozenAt _
              have hz6 : w6.cell? ⟨zb, zo + p, none⟩ = some (.int .i64 sg) := by rw [hb6.cell (p := ⟨zb, zo + p, none⟩) HZV.out]; exact HZ5.out
              have hz7 : (w6.setCell ⟨pb, i, none⟩ (.int .i64 (k : Int))).cell? ⟨zb, zo + p, none⟩ = some (.int .i64 sg) := (grown_set w6 ⟨pb, i, none⟩ _).cell hz6 (fun e => by have h1 := (hpl6.lt pb rfl).1; have h2 := HZV.out; have h3 : zb = pb := Option.some.inj e; omega)
              refine hK.out _ _ (by (try dsimp only); (first | exact hz7 | exact hz6 | exact HZ5.out)) (fun hHeld => ?_)
              clear hK K
              try simp only [Act.put, List.getElem_toArray, List.getElem_cons_succ, List.getElem_cons_zero, List.setIfInBounds_toArray, List.set_cons_succ, List.set_cons_zero]
              refine wpAnyH_take (i := 12) (v := ?vlc50) rfl (by kernel_rfl) (by kernel_rfl) (by kernel_rfl) (fun _ _ _ h => h) (Or.inl ⟨by rfl, ?hlc50⟩) (by assumption) ?rlc50
              case hlc50 => intro w hSw; (try dsimp only at hSw); go_simp; try with_reducible rfl
              simp only [Act.put, List.getElem_toArray, List.getElem_cons_succ, List.getElem_cons_zero, List.setIfInBounds_toArray, List.set_cons_succ, List.set_cons_zero]
              refine wpAnyH_ready (rs := [13]) (by kernel_rfl) (by simp) ?_
              refine AllReadyH.cons rfl (fun K hK => ?_) AllReadyH.nil
              go_simp
              refine hK.out _ _ (by (try dsimp only); (first | exact hz7 | exact hz6 | exact HZ5.out)) (fun hHeld => ?_)
              clear hK K
              try simp only [Act.put, List.getElem_toArray, List.getElem_cons_succ, List.getElem_cons_zero, List.setIfInBounds_toArray, List.set_cons_succ, List.set_cons_zero]
              refine wpAnyH_done (by kernel_rfl) ?_ _
              have HMK6 := Lib.hid hmk6
              have HK6 := Lib.hid hk6
              have HKQ6 := Lib.hid hkq6
              have HB6 := Lib.hid hb6
              have HPL6 := Lib.hid hpl6
              clear hmk6 hk6 hkq6 hb6 hki6 hpl6 hc6 hf6 hz6 hz7 hHeld hp5
              go_wp2
              go_roundw
              case rel => exact ⟨i + 1, by omega, by go_num, make_step HRISE.out (by rw [HXL.out]; exact hlt) HZW.out (by rw [HZL.out]; exact hpz) HMK6.out HK6.out HKQ6.out HPLO.out HPL6.out (HBV5.out.trans (HB6.out.mono (Nat.le_refl _)))⟩
              case measure => simp [intOf]; omega
            · have hpzi : ¬ (p : Int) < (zn : Int) := by omega
              go_wp2
              go_roundw
              case rel => exact ⟨i + 1, by omega, by go_num, HMI.out.pass (by rw [HXL.out]; exact hlt) HZW.out (by rw [HZL.out]; exact hpz) rfl⟩
              case measure => simp [intOf]; omega
          · obtain rfl : i = n := by omega
            go_wp2
            go_roundw
            case rel => exact ⟨p + 1, by omega, by go_num, HMI.out.turn HXL.out⟩
            case measure => simp [intOf]; omega
      · obtain rfl : p = 20 := by omega
        obtain ⟨ps, hpl, hfin⟩ := FinAt.start HMP.out
        have HPE := Lib.hid hpl
        have HFI := Lib.hid hfin
        clear hpl hfin HMP
        go_wp2
        go_loopw [58] (fun ix wr => ∃ j : Nat, j ≤ n ∧ ix = .int .i64 (j : Int) ∧ Hid (FinAt v1 wr v1.heap.size mb mp pb n (nums xs) ps j)) (fun ix _ => n - (intOf ix).toNat)
        case atStart => exact ⟨0, by omega, rfl, HFI.out⟩
        case round =>
          obtain ⟨j, hj, rfl, HFJ⟩ := hrel
          obtain ⟨M, sa, N, c, outs, D, hmk, hst, hpl, hbl⟩ := HFJ.out
          have hNB : N = (begs (nums xs)).length := by rw [← hmk.len, ← sts_length, hst, fins_length]
          have hN0 := begs_pos (nums xs)
          obtain ⟨sb, rfl⟩ := own_head hmk.row (by omega)
          have hmb0 : wr.cell? ⟨mb, 0, none⟩ = some (.slice (some ⟨sb, 0, none⟩) N c) := by rw [cell_of_obj hmk.box]; rfl
          by_cases hlt : j < n
          · have hjl : j < (nums xs).length := by rw [HXL.out]; exact hlt
            obtain ⟨k, hk, hps, hkq⟩ := plOk_end HPE.out HSHORT.out hjl
            have hpc : wr.cell? ⟨pb, j, none⟩ = some (.int .i64 (k : Int)) := by rw [pl_cell hpl HPE.out.1 HXL.out hlt, hps]
            have hkN : k < N := by omega
            have hsc : wr.cell? ⟨sb, k * 2, none⟩ = some (outs.getD k Sw.no).f := by rw [hmk.row.cellAt (k * 2) (by omega), (scells_get (by rw [hmk.len]; exact hkN)).1]
            have hsf : wr.frozen? ⟨sb, k * 2, none⟩ = false := hmk.row.frozenAt _
            have HEND : Hid (FinAt v1 (wr.setCell ⟨sb, k * 2, none⟩ (.bool true)) v1.heap.size mb mp pb n (nums xs) ps (j + 1)) := FinAt.step hmk hst hpl hbl hkN hjl (by omega) hkq
            have hkNi : (k : Int) < (N : Int) := by omega
            have hk0i : (0 : Int) ≤ (k : Int) := by omega
            have hlti : (j : Int) < (n : Int) := by omega
            clear hmk hst hpl hbl hk hps hkq hNB hN0 HFJ
            go_wp2
            go_roundw
            case rel => exact ⟨j + 1, by omega, by go_num, HEND.out⟩
            case measure => simp [intOf]; omega
          · obtain rfl : j = n := by omega
            have HMK := Lib.hid hmk
            have HBL := Lib.hid hbl
            have HSTM : Hid (sts outs = make (nums xs)) := by show _ = _; rw [hst, ← HXL.out]; exact fins_make _
            clear hmk hst hpl hbl hNB hN0 HFJ
            go_wp2
            go_ret2
            exact ⟨some ⟨sb, 0, none⟩, N, c, outs, by rw [← HGM.out]; rfl, HMK.out.states, by rw [HSTM.out, ← HGM.out], fun h => by simp at h, HB1.out.trans (HBL.out.mono HB1.out.size)⟩
  · have hne : (er != 0) = true := by simpa using her
    have hgg : g = ([], er) := by rw [← HG.out]; unfold made; rw [HP.out]; simp [her]
    subst hgg
    clear her
    go_wp2
    go_ret2
    exact ⟨none, 0, 0, [], rfl, Ss.nil, rfl, fun _ => rfl, HB1.out⟩

end Go.Proofs.Ytimjdlbhbiklgaa

/- What the program's Check, Make and Step of layer 10 answer. -/

#print axioms Go.Proofs.Ytimjdlbhbiklgaa.tmake_is
