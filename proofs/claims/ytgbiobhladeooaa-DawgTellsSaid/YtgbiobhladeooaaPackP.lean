import Derived.Test.YtgbiobhladeooaaTrieMk
import Derived.Test.YtgbiobhladeooaaPackA
import Derived.Test.YtgbiobhladeooaaDawgDef
import Derived.Test.YtgbiobhladeooaaDawgKinds
import Derived.Test.YtgbiobhladeooaaTrieLead
/- States that are being made in a row of the call's own, each with arcs in a row of its own; the document's Make of layer 11, beginning by beginning. -/
namespace Go.Proofs.Ytgbiobhladeooaa
open Go.RowKit Tri Daw

structure Sr (w : World) (B : Nat) (sa : Option Addr) (N c : Nat) (outs : List Sw) : Prop where
  row : w.ownsRow B 39 2 (.slice sa N c) N (scells outs)
  arcs : ∀ x ∈ outs, w.ownsRow B 43 2 x.s x.n (acells x.arcs)
  wfs : ∀ x ∈ outs, ∀ y ∈ x.arcs, (Lit.int .i64 y.1).wf = true ∧ (Lit.int .i64 y.2).wf = true
  apart : outs.Pairwise fun x y => x.s.ownBlock = none ∨ x.s.ownBlock ≠ y.s.ownBlock
set_option maxRecDepth 100000 in
theorem Sr.len {w : World} {B N c : Nat} {sa : Option Addr} {outs : List Sw} (h : Sr w B sa N c outs) : outs.length = N := by
  have := h.row.1
  rw [scells_length] at this; omega
set_option maxRecDepth 100000 in
theorem Sr.kept {w w' : World} {B N c : Nat} {sa : Option Addr} {outs : List Sw} {row : Option Nat} (h : Sr w B sa N c outs) (hg : w.grownBy w' row) (h3 : (Value.slice sa N c).ownBlock = none ∨ (Value.slice sa N c).ownBlock ≠ row) (h4 : ∀ x ∈ outs, x.s.ownBlock = none ∨ x.s.ownBlock ≠ row) : Sr w' B sa N c outs :=
  ⟨h.row.kept hg h3, fun x hx => (h.arcs x hx).kept hg (h4 x hx), h.wfs, h.apart⟩
set_option maxRecDepth 100000 in
theorem Sr.grow {w w' : World} {B N c : Nat} {sa : Option Addr} {outs : List Sw} (h : Sr w B sa N c outs) (hg : w.grownBy w' none) : Sr w' B sa N c outs := h.kept hg (or_none _) (fun _ _ => or_none _)
set_option maxRecDepth 100000 in
theorem Sr.below {w w' : World} {B N c : Nat} {sa : Option Addr} {outs : List Sw} (h : Sr w B sa N c outs) (hb : Below w.heap.size w w') : Sr w' B sa N c outs := h.grow ⟨hb.os, hb.tape, hb.output, hb.size, fun k hk _ => hb.block k hk⟩
set_option maxRecDepth 100000 in
theorem Sr.states {w : World} {B N c : Nat} {sa : Option Addr} {outs : List Sw} (h : Sr w B sa N c outs) : Ss w sa N c outs := by
  refine Ss.of_owns h.row (fun x hx => ?_) h.len
  have := h.arcs x hx
  refine Ars.of_owns this (h.wfs x hx) ?_
  have h1 := this.1
  rw [acells_length] at h1; omega
set_option maxRecDepth 100000 in
theorem Sr.arc {w w' : World} {B N c sb f c' : Nat} {a' : Option Addr} {outs : List Sw} {x : Sw} {y : Int × Int} (h : Sr w B (some ⟨sb, 0, none⟩) N c outs) (hf : f < N) (hx : outs.getD f Sw.no = x)
    (hown : w'.ownsRow B 43 2 (.slice a' (x.n + 1) c') (x.n + 1) (acells (x.arcs ++ [y]))) (hg : w.grownBy w' x.s.ownBlock) (hat : (Value.slice a' (x.n + 1) c').ownBlock = x.s.ownBlock ∨ ∃ g, (Value.slice a' (x.n + 1) c').ownBlock = some g ∧ w.heap.size ≤ g)
    (hy : (Lit.int .i64 y.1).wf = true ∧ (Lit.int .i64 y.2).wf = true) :
    Sr (w'.setCell ⟨sb, f * 2 + 1, none⟩ (.slice a' (x.n + 1) c')) B (some ⟨sb, 0, none⟩) N c (outs.set f ⟨x.fin, a', x.n + 1, c', x.arcs ++ [y]⟩) := by
  have hlen := h.len
  have hfl : f < outs.length := by omega
  have hxm : x ∈ outs := by rw [← hx]; exact mem_getD_sw hfl
  have hxo := h.arcs x hxm
  have hxe : outs[f] = x := by rw [← hx]; simp [hfl]
  have hrow : w'.ownsRow B 39 2 (.slice (some ⟨sb, 0, none⟩) N c) N (scells outs) := h.row.kept hg (own_apart2 h.row hxo ne_sa)
  obtain ⟨scur, hso⟩ := own_obj hrow (g := sb) rfl
  have hset := grown_set w' ⟨sb, f * 2 + 1, none⟩ (.slice a' (x.n + 1) c')
  have hother : ∀ i, (hi : i < outs.length) → i ≠ f → w'.ownsRow B 43 2 outs[i].s outs[i].n (acells outs[i].arcs) := fun i hi hne => by
    refine (h.arcs _ (List.getElem_mem hi)).kept hg ?_
    have := apart_at h.apart hi hfl hne
    rwa [hxe] at this
  refine ⟨?_, ?_, ?_, ?_⟩
  · have h1 := (hrow.stored (f * 2 + 1) (.slice a' (x.n + 1) c')).1
    rw [scells_set, set_same (l := scells outs) (i := f * 2) (v := Sw.f ⟨x.fin, a', x.n + 1, c', x.arcs ++ [y]⟩)]
    · exact h1
    · have := (scells_get hfl).1
      rw [hx] at this; exact this
  · intro z hz
    obtain ⟨i, hi, rfl⟩ := List.getElem_of_mem hz
    have hi' : i < outs.length := by simpa using hi
    rw [List.getElem_set]
    by_cases hif : f = i
    · rw [if_pos hif]
      exact hown.kept hset (own_apart hown hso (fun cur => cells_ne ne_sa))
    · rw [if_neg hif]
      have ho := hother i hi' (Ne.symm hif)
      exact ho.kept hset (own_apart ho hso (fun cur => cells_ne ne_sa))
  · intro z hz
    rcases List.mem_or_eq_of_mem_set hz with hz | rfl
    · exact h.wfs z hz
    · intro u hu
      rcases List.mem_append.1 hu with hu | hu
      · exact h.wfs x hxm u hu
      · rw [List.mem_singleton.1 hu]; exact hy
  · have hnew : ∀ i, (hi : i < outs.length) → i ≠ f → outs[i].s.ownBlock = none ∨ outs[i].s.ownBlock ≠ (Value.slice a' (x.n + 1) c').ownBlock := fun i hi hne => by
      rcases hat with e | ⟨g, e, hge⟩
      · rw [e]
        have := apart_at h.apart hi hfl hne
        rwa [hxe] at this
      · rw [e]
        cases ho : outs[i].s.ownBlock with
        | none => exact .inl rfl
        | some q =>
          refine .inr fun e' => ?_
          cases e'
          have := ((h.arcs _ (List.getElem_mem hi)).lt _ ho).2
          omega
    rw [List.pairwise_iff_getElem]
    intro i j hi hj hij
    have hi' : i < outs.length := by simpa using hi
    have hj' : j < outs.length := by simpa using hj
    rw [List.getElem_set, List.getElem_set]
    by_cases hif : f = i
    · rw [if_pos hif, if_neg (by omega)]
      rcases hnew j hj' (by omega) with e | e
      · rw [e]; exact or_none _
      · exact .inr (fun e' => e e'.symm)
    · rw [if_neg hif]
      by_cases hjf : f = j
      · rw [if_pos hjf]; exact hnew i hi' (Ne.symm hif)
      · rw [if_neg hjf]; exact List.pairwise_iff_getElem.1 h.apart i j hi' hj' hij
set_option maxRecDepth 100000 in
theorem Sr.final {w : World} {B N c sb k : Nat} {outs : List Sw} {x : Sw} (h : Sr w B (some ⟨sb, 0, none⟩) N c outs) (hk : k < N) (hx : outs.getD k Sw.no = x) (b : Bool) :
    Sr (w.setCell ⟨sb, k * 2, none⟩ (.bool b)) B (some ⟨sb, 0, none⟩) N c (outs.set k ⟨b, x.a, x.n, x.cap, x.arcs⟩) := by
  have hlen := h.len
  have hkl : k < outs.length := by omega
  have hxm : x ∈ outs := by rw [← hx]; exact mem_getD_sw hkl
  have hxe : outs[k] = x := by rw [← hx]; simp [hkl]
  obtain ⟨scur, hso⟩ := own_obj h.row (g := sb) rfl
  have hset := grown_set w ⟨sb, k * 2, none⟩ (.bool b)
  have hkeep : ∀ x ∈ outs, (w.setCell ⟨sb, k * 2, none⟩ (.bool b)).ownsRow B 43 2 x.s x.n (acells x.arcs) := fun x hx => (h.arcs x hx).kept hset (own_apart (h.arcs x hx) hso (fun cur => cells_ne ne_sa))
  refine ⟨?_, ?_, ?_, ?_⟩
  · have h1 := (h.row.stored (k * 2) (.bool b)).1
    rw [scells_set, set_same (v := (⟨b, x.a, x.n, x.cap, x.arcs⟩ : Sw).s) (i := k * 2 + 1)]
    · exact h1
    · have := (scells_get hkl).2
      rw [hx] at this
      rw [List.getElem?_set_ne (by omega)]
      exact this
  · intro z hz
    rcases List.mem_or_eq_of_mem_set hz with hz | rfl
    · exact hkeep z hz
    · exact hkeep x hxm
  · intro z hz
    rcases List.mem_or_eq_of_mem_set hz with hz | rfl
    · exact h.wfs z hz
    · exact h.wfs x hxm
  · rw [List.pairwise_iff_getElem]
    intro i j hi hj hij
    have hi' : i < outs.length := by simpa using hi
    have hj' : j < outs.length := by simpa using hj
    have h0 := List.pairwise_iff_getElem.1 h.apart i j hi' hj' hij
    rw [List.getElem_set, List.getElem_set]
    by_cases hki : k = i
    · subst hki
      rw [if_pos rfl, if_neg (by omega)]
      rw [hxe] at h0; exact h0
    · rw [if_neg hki]
      by_cases hkj : k = j
      · subst hkj
        rw [if_pos rfl]
        rw [hxe] at h0; exact h0
      · rw [if_neg hkj]; exact h0
set_option maxRecDepth 100000 in
theorem scells_none (N : Nat) : scells (List.replicate N Sw.no) = (List.replicate N [Value.bool false, .slice none 0 0]).flatten := by
  induction N with
  | zero => rfl
  | succ N ih => rw [List.replicate_succ, scells_cons, ih, List.replicate_succ, List.flatten_cons]; rfl
set_option maxRecDepth 100000 in
theorem made_states (N : Nat) : (madeCells (Value.agg #[.bool false, .slice none 0 0]).cells (N * 2)).toList = scells (List.replicate N Sw.no) := by
  apply List.ext_getElem?
  intro j
  have hsz : (madeCells (Value.agg #[.bool false, .slice none 0 0]).cells (N * 2)).toList.length = N * 2 := by simp [madeCells]
  by_cases hj : j < N * 2
  · have hd : j / 2 < N := by omega
    have hr : j % 2 < 2 := Nat.mod_lt _ (by omega)
    have e : (scells (List.replicate N Sw.no))[j]? = Sw.no.cells[j % 2]? := by
      have := scells_at (List.replicate N Sw.no) (j / 2) (j % 2) (by simpa using hd) hr
      rw [show j / 2 * 2 + j % 2 = j by omega] at this
      rw [this]; simp [hd]
    rw [e]
    have hc : (Value.agg #[Value.bool false, Value.slice none 0 0]).cells = #[Value.bool false, Value.slice none 0 0] := rfl
    rcases (by omega : j % 2 = 0 ∨ j % 2 = 1) with h0 | h0
    · simp [madeCells, hj, hc, h0, Sw.cells, Sw.f, Sw.s, Sw.no]
    · simp [madeCells, hj, hc, h0, Sw.cells, Sw.f, Sw.s, Sw.no]
  · rw [List.getElem?_eq_none (by rw [hsz]; omega), List.getElem?_eq_none (by rw [scells_length]; simp; omega)]
set_option maxRecDepth 100000 in
theorem Sr.start {w : World} {B g N : Nat} (h : w.ownsRow B 39 2 (.slice (some ⟨g, 0, none⟩) N N) N (scells (List.replicate N Sw.no))) : Sr w B (some ⟨g, 0, none⟩) N N (List.replicate N Sw.no) := by
  refine ⟨h, fun x hx => ?_, fun x hx => ?_, ?_⟩
  · rw [(List.mem_replicate.1 hx).2]; exact World.ownsRow_nil _ _ _ _
  · rw [(List.mem_replicate.1 hx).2]; intro y hy; cases hy
  · rw [List.pairwise_replicate]; exact .inr (.inl rfl)

/-! ### beginning by beginning -/
def prog (ws : List (List Int)) (i : Nat) : List St := (kinds ws).map fun k => if k.F ∈ (begs ws).take i then ⟨decide (k.F ∈ ws), (arcsOf (begs ws) k.F).map (toCls ws)⟩ else St.no
set_option maxRecDepth 100000 in
theorem prog_length (ws : List (List Int)) (i : Nat) : (prog ws i).length = (kinds ws).length := by simp [prog]
set_option maxRecDepth 100000 in
theorem prog_zero (ws : List (List Int)) : prog ws 0 = List.replicate (kinds ws).length St.no := by
  unfold prog
  rw [← List.map_const']
  exact List.map_congr_left fun k _ => by simp
set_option maxRecDepth 100000 in
theorem prog_all (ws : List (List Int)) : prog ws (begs ws).length = dmake ws := by
  unfold prog dmake
  refine List.map_congr_left fun k hk => ?_
  rw [List.take_length, if_pos ((kinds_facts ws).2.1 k hk).1]
set_option maxRecDepth 100000 in
theorem mem_take_next {B : List (List Int)} {i : Nat} {q x : List Int} (hi : i < B.length) (hq : B.getD i [] = q) : x ∈ B.take (i + 1) ↔ x ∈ B.take i ∨ x = q := by
  rw [List.take_succ_eq_append_getElem hi, List.mem_append, List.mem_singleton]
  have : B[i] = q := by rw [← hq]; simp [hi]
  rw [this]
set_option maxRecDepth 100000 in
theorem prog_pass {ws : List (List Int)} {i : Nat} {q : List Int} (hi : i < (begs ws).length) (hq : (begs ws).getD i [] = q) (h : ((kinds ws).getD (cls ws q) Kd.no).F ≠ q) : prog ws (i + 1) = prog ws i := by
  have hqm : q ∈ begs ws := by rw [← hq, List.getD_eq_getElem?_getD, List.getElem?_eq_getElem hi, Option.getD_some]; exact List.getElem_mem _
  unfold prog
  refine List.map_congr_left fun k hk => ?_
  have hne : k.F ≠ q := fun e => by
    obtain ⟨j, hj, rfl⟩ := List.getElem_of_mem hk
    have h1 := (fst_spec hj).2.1
    rw [getK hj, e] at h1
    apply h
    rw [h1, getK hj]; exact e
  have : k.F ∈ (begs ws).take (i + 1) ↔ k.F ∈ (begs ws).take i := by rw [mem_take_next hi hq]; simp [hne]
  simp only [this]
set_option maxRecDepth 100000 in
theorem prog_step {ws : List (List Int)} {i : Nat} {q : List Int} (hi : i < (begs ws).length) (hq : (begs ws).getD i [] = q) (h : ((kinds ws).getD (cls ws q) Kd.no).F = q) :
    (prog ws i).getD (cls ws q) St.no = St.no ∧ prog ws (i + 1) = (prog ws i).set (cls ws q) ⟨decide (q ∈ ws), (arcsOf (begs ws) q).map (toCls ws)⟩ := by
  have hqe : (begs ws)[i] = q := by rw [← hq]; simp [hi]
  have hqm : q ∈ begs ws := by rw [← hqe]; exact List.getElem_mem _
  have hc := (cls_spec hqm).1
  have hnot : q ∉ (begs ws).take i := fun hm => by
    obtain ⟨j, hj, e⟩ := List.getElem_of_mem hm
    have hji : j < i := by simp at hj; omega
    rw [List.getElem_take, ← hqe] at e
    have := nodup_at (begs_nodup ws) (by omega) hi e
    omega
  refine ⟨?_, ?_⟩
  · have e : (prog ws i).getD (cls ws q) St.no = if ((kinds ws).getD (cls ws q) Kd.no).F ∈ (begs ws).take i then ⟨decide (((kinds ws).getD (cls ws q) Kd.no).F ∈ ws), (arcsOf (begs ws) ((kinds ws).getD (cls ws q) Kd.no).F).map (toCls ws)⟩ else St.no := by
      simp [prog, hc]
    rw [e, h, if_neg hnot]
  · refine List.ext_getElem (by simp [prog]) fun j h1 h2 => ?_
    have hj : j < (kinds ws).length := by rw [prog_length] at h1; exact h1
    rw [List.getElem_set]
    simp only [prog, List.getElem_map]
    have e : (kinds ws)[j] = (kinds ws).getD j Kd.no := (getK hj).symm
    by_cases hcj : cls ws q = j
    · rw [if_pos hcj, e, ← hcj, h, if_pos ((mem_take_next hi hq).2 (.inr rfl))]
    · rw [if_neg hcj]
      have hne : ((kinds ws)[j]).F ≠ q := fun e' => by
        have h3 := (fst_spec hj).2.1
        rw [getK hj, e'] at h3
        exact hcj h3
      have : ((kinds ws)[j]).F ∈ (begs ws).take (i + 1) ↔ ((kinds ws)[j]).F ∈ (begs ws).take i := by rw [mem_take_next hi hq]; simp [hne]
      simp only [this]

end Go.Proofs.Ytgbiobhladeooaa

/- The document's Make of layer 11. Written by wip/gen/dawg_make.py. -/
namespace Go.Proofs.Ytgbiobhladeooaa
open Go.RowKit Tri Daw

set_option maxRecDepth 100000 in
theorem kinds_find {ws : List (List Int)} {q : List Int} (hq : q ∈ begs ws) : findV (kinds ws) (ends ws q) = (cls ws q : Int) := by unfold findV; rw [find_cls hq]

set_option maxHeartbeats 12800000 in
set_option maxRecDepth 100000 in
theorem rmake11_is (a : Option Addr) (n cap : Nat) (xs : List Wd) (g : List St × Int) (w : World) (hs : Ws w a n cap xs) (hnil : a = none → cap = 0) (hg : dmade (nums xs) = g) :
    Calls Try.prog 12 #[.slice a n cap] w fun e w' => MadeIs w w' e g := by
  have hnc := hs.2.1
  have hcm := hs.2.2.1
  unfold maxLen at hcm
  have HS := Lib.hid hs
  have HNIL := Lib.hid hnil
  have HG := Lib.hid hg
  have HXL : Hid ((nums xs).length = n) := by show _ = _; rw [nums_length, hs.1]
  have HMX : Hid (Try.prog.follows .mixedOrders = true) := by show _ = _; kernel_rfl
  obtain ⟨⟨ml, er⟩, hp⟩ : ∃ p, made (nums xs) = p := ⟨_, rfl⟩
  have HP := Lib.hid hp
  clear hs hg hnil hp
  go_enter Try.func12, Try.ntmps12
  go_wp2_with fail
  refine (rmake10_is a n cap xs _ w HS.out HNIL.out HP.out).mono ?_
  rintro e w1 ⟨ta, tn, tc, ty, rfl, hts, htm, -, hb1⟩
  have HB1 := Lib.hid hb1
  have HTY := Lib.hid hts
  have HTM := Lib.hid htm
  have HER : Hid (er = (Wl.write (nums xs)).2) := by have h := (made_parts (ws := nums xs)).1; rw [HP.out] at h; exact h
  clear hb1 hts htm
  simp only []
  by_cases her : er = 0
  · subst her
    have hwe := Wl.write_err (nums xs)
    rw [← HER.out] at hwe
    have hw3 : (nums xs).length ≤ 300 ∧ (∀ z ∈ nums xs, Wl.fit z = true) ∧ Rise (nums xs) := by
      rcases hwe with ⟨_, h1, h2, h3, _⟩ | ⟨h, _⟩
      · exact ⟨h1, h2, h3⟩
      · exact absurd rfl h
    have HR := Lib.hid hw3.2.2
    have hn300 : n ≤ 300 := by rw [← HXL.out]; exact hw3.1
    have HSH : Hid (Tri.Short (nums xs)) := fun z hz => (Wl.fit_parts (hw3.2.1 z hz)).2.1
    have HNE : Hid (∀ z ∈ nums xs, z ≠ []) := fun z hz => (Wl.fit_parts (hw3.2.1 z hz)).1
    have HGM : Hid ((dmake (nums xs), (0 : Int)) = g) := by
      show _ = _
      rw [← HG.out]; unfold dmade; rw [← HER.out]; simp
    have HTR : Hid (sts ty = make (nums xs)) := by
      show _ = _
      have h := (made_parts (ws := nums xs)).2 HER.out.symm
      rw [HP.out] at h
      rw [HTM.out]; exact h
    have HTL : Hid (tn = (begs (nums xs)).length) := by show _ = _; rw [← HTY.out.1, ← sts_length, HTR.out, make_length]
    clear hwe hw3
    go_wp2_with fail
    refine (rkinds_is a n cap xs w1 (HS.out.below HB1.out (Nat.le_refl _)) HNIL.out hn300 HR.out HNE.out HSH.out).mono ?_
    rintro e w2 ⟨ka, kn, kc, kx, rfl, hks, hkd, -, hb2⟩
    have HB2 : Hid (Below w.heap.size w w2) := HB1.out.trans (hb2.mono HB1.out.size)
    have HKS := Lib.hid hks
    have HKD := Lib.hid hkd
    have HTY2 : Hid (Ss w2 ta tn tc ty) := HTY.out.below hb2 (Nat.le_refl _)
    have HKN : Hid ((kinds (nums xs)).length = kn) := by show _ = _; rw [← hkd, kds_length, hks.1]
    clear hks hkd hb2
    go_wp2_with fail
    refine (rbegs_is a n cap xs w2 (HS.out.below HB2.out (Nat.le_refl _)) HNIL.out (by omega) HR.out).mono ?_
    rintro e w3 ⟨ba, nb, bc, bs, rfl, hbs, hbn, -, hb3⟩
    have HB3 : Hid (Below w.heap.size w w3) := HB2.out.trans (hb3.mono HB2.out.size)
    have HBS := Lib.hid hbs
    have HBN := Lib.hid hbn
    have HKS3 : Hid (Ks w3 ka kn kc kx) := HKS.out.below hb3 (Nat.le_refl _)
    have HTY3 : Hid (Ss w3 ta tn tc ty) := HTY2.out.below hb3 (Nat.le_refl _)
    have HS3 : Hid (Ws w3 a n cap xs) := HS.out.below HB3.out (Nat.le_refl _)
    have HLB : Hid ((begs (nums xs)).length = nb) := by show _ = _; rw [← hbn, nums_length, hbs.1]
    have hnb : nb ≤ 6001 := by have h := begs_le (nums xs); rw [HLB.out, HXL.out] at h; omega
    have hkn : kn ≤ 6001 := by have h := kinds_le (nums xs); rw [HLB.out, HKN.out] at h; omega
    have hkn0 : 0 < kn := by rw [← HKN.out]; exact kinds_pos _
    have hbcc := hbs.2.1
    have hbcm := hbs.2.2.1
    have hkcc := HKS.out.2.1
    have hkcm := HKS.out.2.2.1
    have htcc := HTY.out.2.1
    have htcm := HTY.out.2.2.1
    unfold maxLen at hbcm hkcm htcm
    clear hbs hbn hb3 HKS HTY2
    obtain ⟨is, his, hs0, hs1, hs2⟩ := info_parts info_state
    go_wp2_with (at_make
                 refine wpList_make_full _ (by rfl) _ _ 23 (by rfl) w3.heap.size 39 is _ 2 Try.underlying23 his hs0 hs1 .i64 .i64 (kn : Int) (kn : Int) kn (by rfl) (by rfl) rfl rfl (by rw [hs2]; omega) (by unfold maxLen; omega) (Nat.le_refl _) ?_
                 intro w4 hown4 hg4
                 rw [made_states] at hown4
                 have HM4 := Lib.hid (Sr.start hown4)
                 have HB4 : Hid (Below w3.heap.size w3 w4) := ⟨hg4.os, hg4.tape, hg4.output, hg4.size, fun k hk => hg4.block k hk (by simp)⟩
                 clear hown4 hg4)
    generalize hsb : w3.heap.size = B at *
    go_loopw [9] (fun ix wr => ∃ (i : Nat) (outs : List Sw), i ≤ nb ∧ ix = .int .i64 (i : Int) ∧ Hid (Sr wr B (some ⟨B, 0, none⟩) kn kn outs) ∧ Hid (sts outs = prog (nums xs) i) ∧ Hid (Below B w3 wr)) (fun ix _ => nb - (intOf ix).toNat)
    case atStart =>
      refine ⟨0, _, Nat.zero_le _, rfl, HM4.out, ?_, HB4.out⟩
      show _ = _
      rw [prog_zero, HKN.out]; unfold sts; rw [List.map_replicate]; rfl
    case round =>
      obtain ⟨i, outs, hi, rfl, HM, HST, HBW⟩ := hrel
      by_cases hlt : i < nb
      · have hbw3 : Below w3.heap.size w3 wr := by rw [hsb]; exact HBW.out
        obtain ⟨qb, qo, fa, fn, fc, fz, rfl, hqb, _, hqc, hqs, hqz⟩ := HBS.out.one i hlt
        have HQC : Hid (∀ W, Below B w3 W → W.cell? ⟨qb, qo + i, none⟩ = some (.slice fa fn fc)) := fun W hW => by rw [hW.cell (p := ⟨qb, qo + i, none⟩) (by rw [← hsb]; exact hqb)]; exact hqc
        have hqcw : wr.cell? ⟨qb, qo + i, none⟩ = some (.slice fa fn fc) := HQC.out wr HBW.out
        have HQS := Lib.hid hqs
        have HQZ : Hid ((begs (nums xs)).getD i [] = fz) := by show _ = _; rw [← HBN.out]; exact hqz
        have HQM : Hid (fz ∈ begs (nums xs)) := by show _ ∈ _; rw [← HQZ.out, List.getD_eq_getElem?_getD, List.getElem?_eq_getElem (by rw [HLB.out]; exact hlt), Option.getD_some]; exact List.getElem_mem _
        have hlti : (i : Int) < (nb : Int) := by omega
        clear hqb hqc hqs hqz
        go_wp2_with fail
        refine (rendings_own a fa n cap fn fc xs fz w3 wr HS3.out hbw3 (HQS.out.below hbw3 (Nat.le_refl _)) HNE.out (by omega)).mono ?_
        rintro e w5 ⟨ea, en, ec, ys, rfl, hro5, hgo5, hen5, hnn5, hnl5, hb5⟩
        have HB5 : Hid (Below B w3 w5) := HBW.out.trans (hb5.mono (by rw [← hsb]; exact HBW.out.size))
        have hb53 : Below w3.heap.size w3 w5 := by rw [hsb]; exact HB5.out
        have HM5 : Hid (Sr w5 B (some ⟨B, 0, none⟩) kn kn outs) := HM.out.below hb5
        have hws5 : Ws w5 ea en ec ys := Ws.of_owns hro5 (fun y hy => (hgo5 y hy).below hb53 (Nat.le_refl _)) (by have h := hro5.1; unfold vals at h; rw [List.length_map] at h; omega)
        have HWS5 := Lib.hid hws5
        have HEN := Lib.hid hen5
        clear hro5 hgo5 hen5 hnl5 hb5 hws5 hqcw
        go_wp2_with fail
        refine (rfind11_is ka ea kn kc en ec kx ys w5 (HKS3.out.below hb53 (Nat.le_refl _)) HWS5.out).mono ?_
        rw [HKD.out, HEN.out, kinds_find HQM.out]
        rintro e w6 ⟨rfl, hq6⟩
        have HM6 : Hid (Sr w6 B (some ⟨B, 0, none⟩) kn kn outs) := by obtain ⟨q, rfl⟩ := hq6; exact HM5.out.below (below_drewN (Below.refl _ _) _)
        have HB6 : Hid (Below B w3 w6) := below_drawn HB5.out hq6
        clear hq6 HWS5 HM5 hb53
        obtain ⟨k, hk⟩ : ∃ k, cls (nums xs) fz = k := ⟨_, rfl⟩
        rw [hk]
        have HK := Lib.hid hk
        have hkN : k < kn := by rw [← HKN.out, ← hk]; exact (cls_spec HQM.out).1
        obtain ⟨kb, ko, xa, xn, xc, xes, XL, ga, gn, gc, gz, rfl, hkb, _, _, hkc2, _, hkf, _, hkz⟩ := HKS3.out.one k hkN
        have hkcw : w6.cell? ⟨kb, ko + k * 3 + 2, none⟩ = some (.slice ga gn gc) := by rw [HB6.out.cell (p := ⟨kb, ko + k * 3 + 2, none⟩) (by rw [← hsb]; exact hkb)]; exact hkc2
        have HFZ : Hid (((kinds (nums xs)).getD (cls (nums xs) fz) Kd.no).F = gz) := by show _ = _; rw [HK.out, ← HKD.out, kds_at, hkz]; rfl
        have HGF : Hid (Sl .i64 w6 ga gn gc gz) := hkf.below HB6.out (by rw [hsb]; exact Nat.le_refl _)
        have HQF : Hid (Sl .i64 w6 fa fn fc fz) := HQS.out.below HB6.out (by rw [hsb]; exact Nat.le_refl _)
        have hqcw : w6.cell? ⟨qb, qo + i, none⟩ = some (.slice fa fn fc) := HQC.out w6 HB6.out
        have hkNi : (k : Int) < (kn : Int) := by omega
        have hk0 : (0 : Int) ≤ (k : Int) := by omega
        have hi0 : (0 : Int) ≤ (i : Int) := by omega
        obtain ⟨sm, hsm⟩ : ∃ q, decide (gz = fz) = q := ⟨_, rfl⟩
        have HSM := Lib.hid hsm
        clear hk hkb hkc2 hkf hkz hsm
        cases sm
        · have HPP : Hid (prog (nums xs) (i + 1) = prog (nums xs) i) := prog_pass (by rw [HLB.out]; exact hlt) HQZ.out (by rw [HFZ.out]; exact of_decide_eq_false HSM.out)
          go_wp2
          go_quiet ((go_at_call 30; exact Calls.quiet_of (same_is _ _ _ _ _ _ gz fz false _ (HGF.out.drewN _) (HQF.out.drewN _) HSM.out)))
          go_wp2
          go_roundw
          case rel => exact ⟨i + 1, outs, by omega, by go_num, HM6.out.below (below_drewN (Below.refl _ _) _), (by show _ = _; rw [HPP.out]; exact HST.out), below_drewN HB6.out _⟩
          case measure => simp [intOf]; omega
        · have hgf : gz = fz := of_decide_eq_true HSM.out
          obtain ⟨hp0, hps⟩ := prog_step (ws := nums xs) (by rw [HLB.out]; exact hlt) HQZ.out (by rw [HFZ.out]; exact hgf)
          rw [HK.out] at hp0 hps
          have HPS := Lib.hid hps
          obtain ⟨tb, tg, tf, sa, sn, sc, arcs, rfl, htb, ht1, ht2, har, htz⟩ := HTY3.out.one i (by rw [HTL.out, HLB.out]; exact hlt)
          have hst : (⟨tf, arcs⟩ : St) = ⟨decide (fz ∈ nums xs), arcsOf (begs (nums xs)) fz⟩ := by
            have h1 := sts_at ty i
            have hil : i < (begs (nums xs)).length := by rw [HLB.out]; exact hlt
            rw [HTR.out, htz] at h1
            have h2 : (make (nums xs)).getD i St.no = (make (nums xs))[i]'(by rw [make_length]; exact hil) := by simp [make_length, hil]
            rw [h2, make_at (by rw [make_length]; exact hil)] at h1
            have h3 : (begs (nums xs))[i] = fz := by rw [← HQZ.out]; simp [hil]
            rw [h3] at h1
            exact h1.symm
          obtain rfl : tf = decide (fz ∈ nums xs) := congrArg St.final hst
          obtain rfl : arcs = arcsOf (begs (nums xs)) fz := congrArg St.arcs hst
          have HT1 : Hid (∀ W, Below B w3 W → W.cell? ⟨tb, tg + i * 2, none⟩ = some (.bool (decide (fz ∈ nums xs))) ∧ W.cell? ⟨tb, tg + i * 2 + 1, none⟩ = some (.slice sa sn sc)) := fun W hW => by
            refine ⟨?_, ?_⟩
            · rw [hW.cell (p := ⟨tb, tg + i * 2, none⟩) (by rw [← hsb]; exact htb)]; exact ht1
            · rw [hW.cell (p := ⟨tb, tg + i * 2 + 1, none⟩) (by rw [← hsb]; exact htb)]; exact ht2
          have HAR := Lib.hid har
          have hsn : sn ≤ 6001 := by rw [← har.1]; exact Nat.le_trans (arcsOf_le _ _) (by rw [HLB.out]; exact hnb)
          have hscc := har.2.1
          have hscm := har.2.2.1
          unfold maxLen at hscm
          have htc1 : w6.cell? ⟨tb, tg + i * 2, none⟩ = some (.bool (decide (fz ∈ nums xs))) := (HT1.out w6 HB6.out).1
          have hoc1 : w6.cell? ⟨B, k * 2, none⟩ = some (outs.getD k Sw.no).f := by rw [HM6.out.row.cellAt (k * 2) (by omega), (scells_get (by rw [HM6.out.len]; exact hkN)).1]
          have hof1 : w6.frozen? ⟨B, k * 2, none⟩ = false := HM6.out.row.frozenAt _
          have HTI : Hid ((i : Int) < (tn : Int)) := by have h1 := HTL.out; have h2 := HLB.out; show (i : Int) < (tn : Int); omega
          have htni := HTI.out
          obtain ⟨fin, hfin⟩ : ∃ f, decide (fz ∈ nums xs) = f := ⟨_, rfl⟩
          rw [hfin] at htc1 HT1
          have HFIN := Lib.hid hfin
          have HM7 : Hid (∀ q, Sr ((w6.drewN q).setCell ⟨B, k * 2, none⟩ (.bool fin)) B (some ⟨B, 0, none⟩) kn kn (outs.set k ⟨fin, (outs.getD k Sw.no).a, (outs.getD k Sw.no).n, (outs.getD k Sw.no).cap, (outs.getD k Sw.no).arcs⟩)) := fun q => Sr.final (w := w6.drewN q) (HM6.out.below (below_drewN (Below.refl _ _) _)) hkN rfl fin
          have HST7 : Hid (sts (outs.set k ⟨fin, (outs.getD k Sw.no).a, (outs.getD k Sw.no).n, (outs.getD k Sw.no).cap, (outs.getD k Sw.no).arcs⟩) = (prog (nums xs) i).set k ⟨fin, ((arcsOf (begs (nums xs)) fz).take 0).map (toCls (nums xs))⟩) := by
            show _ = _
            rw [sts_set, HST.out]
            have h1 := sts_at outs k
            rw [HST.out, hp0] at h1
            have h2 : (outs.getD k Sw.no).arcs = [] := (congrArg St.arcs h1).symm
            show (prog (nums xs) i).set k ⟨fin, (outs.getD k Sw.no).arcs⟩ = _
            rw [h2]; rfl
          have HB7 : Hid (∀ q, Below B w3 ((w6.drewN q).setCell ⟨B, k * 2, none⟩ (.bool fin))) := fun q => Below.setCell (p := ⟨B, k * 2, none⟩) (below_drewN HB6.out _) (Nat.le_refl _) _
          clear hgf hp0 hps htb ht1 ht2 har htz hst hfin
          go_wp2
          go_quiet ((go_at_call 30; exact Calls.quiet_of (same_is _ _ _ _ _ _ gz fz true _ (HGF.out.drewN _) (HQF.out.drewN _) HSM.out)))
          go_wp2
          generalize wr = wo at *
          go_loopw [11] (fun ix wr => ∃ (m : Nat) (outs : List Sw), m ≤ sn ∧ ix = .int .i64 (m : Int) ∧ Hid (Sr wr B (some ⟨B, 0, none⟩) kn kn outs) ∧ Hid (sts outs = (prog (nums xs) i).set k ⟨fin, ((arcsOf (begs (nums xs)) fz).take m).map (toCls (nums xs))⟩) ∧ Hid (Below B w3 wr)) (fun ix _ => sn - (intOf ix).toNat)
          case atStart => exact ⟨0, _, Nat.zero_le _, rfl, HM7.out _, HST7.out, HB7.out _⟩
          case round =>
            obtain ⟨m, outs, hm, rfl, HMI, HSI, HBI⟩ := hrel
            have htcr : wr.cell? ⟨tb, tg + i * 2 + 1, none⟩ = some (.slice sa sn sc) := (HT1.out wr HBI.out).2
            by_cases hlm : m < sn
            · obtain ⟨b3, o3, sg, tj, rfl, hb3, hy1, hy2, hws, hwt, hz3⟩ := HAR.out.one m hlm
              have hy1r : wr.cell? ⟨b3, o3 + m * 2, none⟩ = some (.int .i64 sg) := by rw [HBI.out.cell (p := ⟨b3, o3 + m * 2, none⟩) (by rw [← hsb]; exact hb3)]; exact hy1
              have hy2r : wr.cell? ⟨b3, o3 + m * 2 + 1, none⟩ = some (.int .i64 tj) := by rw [HBI.out.cell (p := ⟨b3, o3 + m * 2 + 1, none⟩) (by rw [← hsb]; exact hb3)]; exact hy2
              have ham : (sg, tj) ∈ arcsOf (begs (nums xs)) fz := by rw [← hz3, List.getD_eq_getElem?_getD, List.getElem?_eq_getElem (by rw [HAR.out.1]; exact hlm), Option.getD_some]; exact List.getElem_mem _
              obtain ⟨j, hj, hjz, hjt⟩ := mem_arcs.1 ham
              have hjt' : tj = (j : Int) := hjt
              subst hjt'
              have hjn : j < nb := by rw [← HLB.out]; exact hj
              obtain ⟨b4, o4, fa2, fn2, fc2, fz2, e4, hb4, _, hqc2, hqs2, hqz2⟩ := HBS.out.one j hjn
              simp only [Option.some.injEq, Addr.mk.injEq, and_true] at e4
              obtain ⟨rfl, rfl⟩ := e4
              have hfz2 : fz2 = fz ++ [sg] := by
                rw [← hqz2, HBN.out, List.getD_eq_getElem?_getD, List.getElem?_eq_getElem hj, Option.getD_some]; exact hjz
              subst hfz2
              have HQM2 : Hid (fz ++ [sg] ∈ begs (nums xs)) := by show _ ∈ _; rw [← hjz]; exact List.getElem_mem _
              have HQS2 := Lib.hid hqs2
              have HSW := Lib.hid hws
              have hq2r : ∀ o, (wr.alloc o).cell? ⟨qb, qo + j, none⟩ = some (.slice fa2 fn2 fc2) := fun o => by rw [(HBI.out.alloc (by rw [← hsb]; exact HBI.out.size) o).cell (p := ⟨qb, qo + j, none⟩) (by rw [← hsb]; exact hb4)]; exact hqc2
              have hlmi : (m : Int) < (sn : Int) := by omega
              have hj0 : (0 : Int) ≤ (j : Int) := by omega
              have hjni : (j : Int) < (nb : Int) := by omega
              obtain ⟨x, hx⟩ : ∃ x, outs.getD k Sw.no = x := ⟨_, rfl⟩
              obtain ⟨xf, xa, xn, xc, xarcs⟩ := x
              have HXX := Lib.hid hx
              have hkl : k < outs.length := by rw [HMI.out.len]; exact hkN
              have HXM : Hid ((⟨xf, xa, xn, xc, xarcs⟩ : Sw) ∈ outs) := by show _ ∈ _; rw [← hx]; exact mem_getD_sw hkl
              obtain ⟨cl, hcl⟩ : ∃ c, cls (nums xs) (fz ++ [sg]) = c := ⟨_, rfl⟩
              have HCL := Lib.hid hcl
              have hcn : cl < kn := by rw [← HKN.out, ← hcl]; exact (cls_spec HQM2.out).1
              have HCW : Hid ((Lit.int .i64 (cl : Int)).wf = true) := by apply WalkArith.wf_i64; omega
              have hxst : xf = fin ∧ xarcs = ((arcsOf (begs (nums xs)) fz).take m).map (toCls (nums xs)) := by
                have h1 := sts_at outs k
                have hpl : k < (prog (nums xs) i).length := by rw [prog_length, HKN.out]; exact hkN
                rw [HSI.out, hx, List.getD_eq_getElem?_getD, List.getElem?_set_self hpl, Option.getD_some] at h1
                exact ⟨(congrArg St.final h1).symm, (congrArg St.arcs h1).symm⟩
              have HSE : Hid ((sts outs).set k ⟨xf, xarcs ++ [(sg, (cl : Int))]⟩ = (prog (nums xs) i).set k ⟨fin, ((arcsOf (begs (nums xs)) fz).take (m + 1)).map (toCls (nums xs))⟩) := by
                show _ = _
                have ht : (arcsOf (begs (nums xs)) fz).take (m + 1) = (arcsOf (begs (nums xs)) fz).take m ++ [(sg, (j : Int))] := arcs_step (by rw [HAR.out.1]; exact hlm) hz3
                have hc : toCls (nums xs) (sg, (j : Int)) = (sg, (cl : Int)) := by
                  unfold toCls
                  rw [Int.toNat_natCast, List.getD_eq_getElem?_getD, List.getElem?_eq_getElem hj, Option.getD_some, hjz, hcl]
                rw [HSI.out, List.set_set, ht, List.map_append, List.map_cons, List.map_nil, hc, hxst.1, hxst.2]
              have hxn : xn ≤ 6001 := by
                have h1 := (HMI.out.arcs _ HXM.out).1
                rw [acells_length] at h1
                have h2 : xarcs.length * 2 = xn * 2 := h1
                have h3 : xarcs.length = ((arcsOf (begs (nums xs)) fz).take m).length := by rw [hxst.2, List.length_map]
                rw [List.length_take] at h3
                omega
              have HNB0 : Hid (some wr.heap.size ≠ (Value.slice xa xn xc).ownBlock) := fun e => by
                have := ((HMI.out.arcs _ HXM.out).lt _ e.symm).2
                omega
              have HNS0 : Hid (some wr.heap.size ≠ some B) := fun e => by
                have h1 := (HMI.out.row.lt B rfl).2
                have h2 : wr.heap.size = B := Option.some.inj e
                omega
              have HBZ : Hid (B ≤ wr.heap.size) := by show B ≤ _; rw [← hsb]; exact HBI.out.size
              clear hb3 hy1 hy2 hws hwt hz3 ham hj hjz hjt hqc2 hqs2 hqz2 hb4 hx hkl hcl hxst
              go_wp2_with fail
              generalize hw7 : wr.alloc _ = w7
              have HO7 : Hid (w7.heap[wr.heap.size]? = some (.cells #[.int .i64 sg, .int .i64 (j : Int)] 43 (0, 0))) := by rw [← hw7]; exact heap_alloc_new wr _
              have HB7' : Hid (Below B w3 w7) := by rw [← hw7]; exact HBI.out.alloc HBZ.out _
              have HM7' : Hid (Sr w7 B (some ⟨B, 0, none⟩) kn kn outs) := by rw [← hw7]; exact HMI.out.grow (World.grownBy_alloc wr _ none)
              have hb73 : Below w3.heap.size w3 w7 := by rw [hsb]; exact HB7'.out
              obtain ⟨bx, hbx⟩ : ∃ b, wr.heap.size = b := ⟨_, rfl⟩
              rw [hbx] at HO7 HNB0 HNS0
              simp only [hbx]
              clear hw7 hy1r hy2r hq2r htcr
              refine (rendings_own a fa2 n cap fn2 fc2 xs (fz ++ [sg]) w3 w7 HS3.out hb73 (HQS2.out.below hb73 (Nat.le_refl _)) HNE.out (by omega)).mono ?_
              rintro e w5 ⟨ea2, en2, ec2, ys2, rfl, hro5, hgo5, hen5, hnn5, hnl5, hb5⟩
              have HB5' : Hid (Below B w3 w5) := HB7'.out.trans (hb5.mono (by rw [← hsb]; exact hb73.size))
              have hb53 : Below w3.heap.size w3 w5 := by rw [hsb]; exact HB5'.out
              have HM5 : Hid (Sr w5 B (some ⟨B, 0, none⟩) kn kn outs) := HM7'.out.below hb5
              have HO5 : Hid (w5.heap[bx]? = some (.cells #[.int .i64 sg, .int .i64 (j : Int)] 43 (0, 0))) := (hb5.block _ (Array.getElem?_eq_some_iff.1 HO7.out).1).trans HO7.out
              have hws5 : Ws w5 ea2 en2 ec2 ys2 := Ws.of_owns hro5 (fun y hy => (hgo5 y hy).below hb53 (Nat.le_refl _)) (by have h := hro5.1; unfold vals at h; rw [List.length_map] at h; omega)
              have HWS5 := Lib.hid hws5
              have HEN5 := Lib.hid hen5
              clear hro5 hgo5 hen5 hnl5 hb5 hws5 hb73
              go_wp2_with fail
              refine (rfind11_is _ ea2 kn kc en2 ec2 kx ys2 w5 (HKS3.out.below hb53 (Nat.le_refl _)) HWS5.out).mono ?_
              rw [HKD.out, HEN5.out, kinds_find HQM2.out, HCL.out]
              rintro e w9 ⟨rfl, hq9⟩
              have HM9 : Hid (Sr w9.drew B (some ⟨B, 0, none⟩) kn kn outs) := by obtain ⟨q, rfl⟩ := hq9; exact HM5.out.below (below_drawn (below_drewN (Below.refl _ _) q) ⟨1, rfl⟩)
              have HB9 : Hid (Below B w3 w9.drew) := below_drawn (below_drawn HB5'.out hq9) ⟨1, rfl⟩
              have HO9 : Hid (w9.drew.heap[bx]? = some (.cells #[.int .i64 sg, .int .i64 (j : Int)] 43 (0, 0))) := by obtain ⟨q, rfl⟩ := hq9; exact HO5.out
              have HW9 : Hid (w9.drew.cell? ⟨bx, 0, none⟩ = some (.int .i64 sg)) := by show _ = _; rw [cell_of_obj HO9.out]; rfl
              have HBS9 : Hid (B ≤ w9.drew.heap.size) := by show B ≤ _; rw [← hsb]; exact HB9.out.size
              have hx9 : w9.drew.cell? ⟨B, k * 2 + 1, none⟩ = some (.slice xa xn xc) := by rw [HM9.out.row.cellAt (k * 2 + 1) (by omega), (scells_get (by rw [HM9.out.len]; exact hkN)).2, HXX.out]; rfl
              have HNB := HNB0
              have HNS := HNS0
              have hmx := HMX.out
              clear hq9 HWS5 HM5 hb53 HO5
              go_wp2_with fail
              refine wp_region_held_drew (S := (fun W => W.cell? ⟨bx, 0, none⟩ = some (.int .i64 sg))) (by kernel_rfl) (by first | ((first | exact hw10 | exact hwB1 | exact HW9.out | exact hset10)) | ((try dsimp only); (first | exact hw10 | exact hwB1 | exact HW9.out | exact hset10))) (fun hHeld => ?_)
              refine wpAnyH_take (i := 0) (v := ?vma1) rfl (by kernel_rfl) (by kernel_rfl) (by kernel_rfl) (fun _ _ _ h => h) (Or.inl ⟨by rfl, ?hma1⟩) (by assumption) ?rma1
              case hma1 => intro w hSw; (try dsimp only at hSw); go_simp; try with_reducible rfl
              simp only [Act.put, List.getElem_toArray, List.getElem_cons_zero, List.setIfInBounds_toArray, List.set_cons_succ, List.set_cons_zero]
              refine wpAnyH_take (i := 1) (v := ?vma4) rfl (by kernel_rfl) (by kernel_rfl) (by kernel_rfl) (fun _ _ _ h => h) (Or.inl ⟨by rfl, ?hma4⟩) (by assumption) ?rma4
              case hma4 => intro w hSw; (try dsimp only at hSw); go_simp; try with_reducible rfl
              simp only [Act.put, List.getElem_toArray, List.getElem_cons_succ, List.getElem_cons_zero, List.setIfInBounds_toArray, List.set_cons_succ, List.set_cons_zero]
              refine wpAnyH_take (i := 2) (v := ?vma7) rfl (by kernel_rfl) (by kernel_rfl) (by kernel_rfl) (fun _ _ _ h => h) (Or.inl ⟨by rfl, ?hma7⟩) (by assumption) ?rma7
              case hma7 => intro w hSw; (try dsimp only at hSw); go_simp; try with_reducible rfl
              simp only [Act.put, List.getElem_toArray, List.getElem_cons_succ, List.getElem_cons_zero, List.setIfInBounds_toArray, List.set_cons_succ, List.set_cons_zero]
              refine wpAnyH_take (i := 3) (v := ?vma10) rfl (by kernel_rfl) (by kernel_rfl) (by kernel_rfl) (fun _ _ _ h => h) (Or.inl ⟨by rfl, ?hma10⟩) (by assumption) ?rma10
              case hma10 => intro w hSw; (try dsimp only at hSw); go_simp; try with_reducible rfl
              simp only [Act.put, List.getElem_toArray, List.getElem_cons_succ, List.getElem_cons_zero, List.setIfInBounds_toArray, List.set_cons_succ, List.set_cons_zero]
              refine wpAnyH_take (i := 4) (v := ?vma13) rfl (by kernel_rfl) (by kernel_rfl) (by kernel_rfl) (fun _ _ _ h => h) (Or.inl ⟨by rfl, ?hma13⟩) (by assumption) ?rma13
              case hma13 => intro w hSw; (try dsimp only at hSw); go_simp; try with_reducible rfl
              simp only [Act.put, List.getElem_toArray, List.getElem_cons_succ, List.getElem_cons_zero, List.setIfInBounds_toArray, List.set_cons_succ, List.set_cons_zero]
              refine wpAnyH_take (i := 5) (v := ?vma16) rfl (by kernel_rfl) (by kernel_rfl) (by kernel_rfl) (fun _ _ _ h => h) (Or.inl ⟨by rfl, ?hma16⟩) (by assumption) ?rma16
              case hma16 => intro w hSw; (try dsimp only at hSw); go_simp; try with_reducible rfl
              simp only [Act.put, List.getElem_toArray, List.getElem_cons_succ, List.getElem_cons_zero, List.setIfInBounds_toArray, List.set_cons_succ, List.set_cons_zero]
              refine wpAnyH_take (i := 7) (v := ?vma19) rfl (by kernel_rfl) (by kernel_rfl) (by kernel_rfl) (fun _ _ _ h => h) (Or.inl ⟨by rfl, ?hma19⟩) (by assumption) ?rma19
              case hma19 => intro w hSw; (try dsimp only at hSw); go_simp; try with_reducible rfl
              simp only [Act.put, List.getElem_toArray, List.getElem_cons_succ, List.getElem_cons_zero, List.setIfInBounds_toArray, List.set_cons_succ, List.set_cons_zero]
              refine wpAnyH_take (i := 8) (v := ?vma22) rfl (by kernel_rfl) (by kernel_rfl) (by kernel_rfl) (fun _ _ _ h => h) (Or.inl ⟨by rfl, ?hma22⟩) (by assumption) ?rma22
              case hma22 => intro w hSw; (try dsimp only at hSw); go_simp; try with_reducible rfl
              simp only [Act.put, List.getElem_toArray, List.getElem_cons_succ, List.getElem_cons_zero, List.setIfInBounds_toArray, List.set_cons_succ, List.set_cons_zero]
              refine wpAnyH_take (i := 9) (v := ?vma25) rfl (by kernel_rfl) (by kernel_rfl) (by kernel_rfl) (fun _ _ _ h => h) (Or.inl ⟨by rfl, ?hma25⟩) (by assumption) ?rma25
              case hma25 => intro w hSw; (try dsimp only at hSw); go_simp; try with_reducible rfl
              simp only [Act.put, List.getElem_toArray, List.getElem_cons_succ, List.getElem_cons_zero, List.setIfInBounds_toArray, List.set_cons_succ, List.set_cons_zero]
              refine wpAnyH_take (i := 10) (v := ?vma28) rfl (by kernel_rfl) (by kernel_rfl) (by kernel_rfl) (fun _ _ _ h => h) (Or.inl ⟨by rfl, ?hma28⟩) (by assumption) ?rma28
              case hma28 => intro w hSw; (try dsimp only at hSw); go_simp; try with_reducible rfl
              simp only [Act.put, List.getElem_toArray, List.getElem_cons_succ, List.getElem_cons_zero, List.setIfInBounds_toArray, List.set_cons_succ, List.set_cons_zero]
              refine wpAnyH_ready (rs := [6, 11]) (by kernel_rfl) (by simp) ?_
              refine AllReadyH.cons rfl (fun K hK => ?_) (AllReadyH.cons rfl (fun K hK => ?_) AllReadyH.nil)
              · go_simp
                refine hK.out _ _ (by (try dsimp only); (first | exact hw10 | exact hwB1 | exact HW9.out | exact hset10)) (fun hHeld => ?_)
                clear hK K
                try simp only [Act.put, List.getElem_toArray, List.getElem_cons_succ, List.getElem_cons_zero, List.setIfInBounds_toArray, List.set_cons_succ, List.set_cons_zero]
                refine wpAnyH_ready (rs := [11]) (by kernel_rfl) (by simp) ?_
                refine AllReadyH.cons rfl (fun K hK => ?_) AllReadyH.nil
                refine step_build_arc (by rfl) (.tmp 100) sg (cl : Int) (by rfl) (by rfl) ?_
                intro gB wB hgB0 hgB1 hbB
                have hgB : w9.drew.grownBy wB none := ⟨hbB.os, hbB.tape, hbB.output, hbB.size, fun k hk _ => hbB.block k hk⟩
                have hwB1 : wB.cell? ⟨bx, 0, none⟩ = some (.int .i64 sg) := hgB.cell HW9.out (by simp)
                have hxB : wB.cell? ⟨B, k * 2 + 1, none⟩ = some (.slice xa xn xc) := hgB.cell hx9 (by simp)
                refine hK.out _ _ (by (try dsimp only); (first | exact hw10 | exact hwB1 | exact HW9.out | exact hset10)) (fun hHeld => ?_)
                clear hK K
                try simp only [Act.put, List.getElem_toArray, List.getElem_cons_succ, List.getElem_cons_zero, List.setIfInBounds_toArray, List.set_cons_succ, List.set_cons_zero]
                refine wpAnyH_ready (rs := [12]) (by kernel_rfl) (by simp) ?_
                refine AllReadyH.cons rfl (fun K hK => ?_) AllReadyH.nil
                refine step_append_arc_at (by rfl) (.tmp 96) (.tmp 101) (by rfl) B (.slice xa xn xc) xn xarcs (by rfl) (((HM9.out.grow hgB).arcs _ HXM.out)) gB (sg, (cl : Int)) (by rfl) hgB0 hgB1 (xn + 1) rfl (by omega) (Nat.le_trans HBS9.out hbB.size) ?_
                intro a10 c10 w10 hown10 hg10 hat10
                have hm10 := (HM9.out.grow hgB).arc (f := k) (y := (sg, (cl : Int))) hkN HXX.out hown10 hg10 (hat10.elim .inl (fun h => .inr ⟨_, h, Nat.le_refl _⟩)) ⟨HSW.out, HCW.out⟩
                have hb10 : Below B w3 w10 := (HB9.out.trans (hbB.mono HBS9.out)).grown hg10 (Nat.le_trans HBS9.out hbB.size) (fun q e => (((HM9.out.grow hgB).arcs _ HXM.out).lt q e).1)
                have hrow10 : w10.ownsRow B 39 2 (.slice (some ⟨B, 0, none⟩) kn kn) kn (scells outs) := (HM9.out.grow hgB).row.kept hg10 (own_apart2 (HM9.out.grow hgB).row ((HM9.out.grow hgB).arcs _ HXM.out) ne_sa)
                have hc10 : w10.cell? ⟨B, k * 2 + 1, none⟩ = some (.slice xa xn xc) := by rw [hrow10.cellAt (k * 2 + 1) (by omega), (scells_get (by rw [HM9.out.len]; exact hkN)).2, HXX.out]; rfl
                have hf10 : w10.frozen? ⟨B, k * 2 + 1, none⟩ = false := hrow10.frozenAt _
                have hne10 : some bx ≠ (Value.slice xa xn xc).ownBlock := HNB.out
                have hw10 : w10.cell? ⟨bx, 0, none⟩ = some (.int .i64 sg) := hg10.cell hwB1 hne10
                have hset10 : (w10.setCell ⟨B, k * 2 + 1, none⟩ (.slice a10 (xn + 1) c10)).cell? ⟨bx, 0, none⟩ = some (.int .i64 sg) := (grown_set w10 ⟨B, k * 2 + 1, none⟩ _).cell hw10 HNS.out
                refine hK.out _ _ (by (try dsimp only); (first | exact hw10 | exact hwB1 | exact HW9.out | exact hset10)) (fun hHeld => ?_)
                clear hK K
                try simp only [Act.put, List.getElem_toArray, List.getElem_cons_succ, List.getElem_cons_zero, List.setIfInBounds_toArray, List.set_cons_succ, List.set_cons_zero]
                refine wpAnyH_take (i := 13) (v := ?vma62) rfl (by kernel_rfl) (by kernel_rfl) (by kernel_rfl) (fun _ _ _ h => h) (Or.inl ⟨by rfl, ?hma62⟩) (by assumption) ?rma62
                case hma62 => intro w hSw; (try dsimp only at hSw); go_simp; try with_reducible rfl
                simp only [Act.put, List.getElem_toArray, List.getElem_cons_succ, List.getElem_cons_zero, List.setIfInBounds_toArray, List.set_cons_succ, List.set_cons_zero]
                refine wpAnyH_take (i := 14) (v := ?vma65) rfl (by kernel_rfl) (by kernel_rfl) (by kernel_rfl) (fun _ _ _ h => h) (Or.inl ⟨by rfl, ?hma65⟩) (by assumption) ?rma65
                case hma65 => intro w hSw; (try dsimp only at hSw); go_simp; try with_reducible rfl
                simp only [Act.put, List.getElem_toArray, List.getElem_cons_succ, List.getElem_cons_zero, List.setIfInBounds_toArray, List.set_cons_succ, List.set_cons_zero]
                refine wpAnyH_ready (rs := [15]) (by kernel_rfl) (by simp) ?_
                refine AllReadyH.cons rfl (fun K hK => ?_) AllReadyH.nil
                go_simp
                refine hK.out _ _ (by (try dsimp only); (first | exact hw10 | exact hwB1 | exact HW9.out | exact hset10)) (fun hHeld => ?_)
                clear hK K
                try simp only [Act.put, List.getElem_toArray, List.getElem_cons_succ, List.getElem_cons_zero, List.setIfInBounds_toArray, List.set_cons_succ, List.set_cons_zero]
                refine wpAnyH_done (by kernel_rfl) ?_ _
                have HM10 := Lib.hid hm10
                have HB10 := Lib.hid hb10
                have HSB10 := Lib.hid ((hrow10.lt B rfl).1)
                clear hm10 hb10 hrow10 hc10 hf10 hw10 hown10 hg10 hat10 hgB hwB1 hxB hgB0 hgB1 hbB hHeld hx9 hset10 hne10
                go_wp2
                go_roundw
                case rel => exact ⟨m + 1, _, by omega, by go_num, HM10.out, (by show _ = _; rw [sts_set]; exact HSE.out), Below.setCell (p := ⟨B, k * 2 + 1, none⟩) HB10.out HSB10.out _⟩
                case measure => simp [intOf]; omega
              · refine step_build_arc (by rfl) (.tmp 100) sg (cl : Int) (by rfl) (by rfl) ?_
                intro gB wB hgB0 hgB1 hbB
                have hgB : w9.drew.grownBy wB none := ⟨hbB.os, hbB.tape, hbB.output, hbB.size, fun k hk _ => hbB.block k hk⟩
                have hwB1 : wB.cell? ⟨bx, 0, none⟩ = some (.int .i64 sg) := hgB.cell HW9.out (by simp)
                have hxB : wB.cell? ⟨B, k * 2 + 1, none⟩ = some (.slice xa xn xc) := hgB.cell hx9 (by simp)
                refine hK.out _ _ (by (try dsimp only); (first | exact hw10 | exact hwB1 | exact HW9.out | exact hset10)) (fun hHeld => ?_)
                clear hK K
                try simp only [Act.put, List.getElem_toArray, List.getElem_cons_succ, List.getElem_cons_zero, List.setIfInBounds_toArray, List.set_cons_succ, List.set_cons_zero]
                refine wpAnyH_ready (rs := [6]) (by kernel_rfl) (by simp) ?_
                refine AllReadyH.cons rfl (fun K hK => ?_) AllReadyH.nil
                go_simp
                refine hK.out _ _ (by (try dsimp only); (first | exact hw10 | exact hwB1 | exact HW9.out | exact hset10)) (fun hHeld => ?_)
                clear hK K
                try simp only [Act.put, List.getElem_toArray, List.getElem_cons_succ, List.getElem_cons_zero, List.setIfInBounds_toArray, List.set_cons_succ, List.set_cons_zero]
                refine wpAnyH_ready (rs := [12]) (by kernel_rfl) (by simp) ?_
                refine AllReadyH.cons rfl (fun K hK => ?_) AllReadyH.nil
                refine step_append_arc_at (by rfl) (.tmp 96) (.tmp 101) (by rfl) B (.slice xa xn xc) xn xarcs (by rfl) (((HM9.out.grow hgB).arcs _ HXM.out)) gB (sg, (cl : Int)) (by rfl) hgB0 hgB1 (xn + 1) rfl (by omega) (Nat.le_trans HBS9.out hbB.size) ?_
                intro a10 c10 w10 hown10 hg10 hat10
                have hm10 := (HM9.out.grow hgB).arc (f := k) (y := (sg, (cl : Int))) hkN HXX.out hown10 hg10 (hat10.elim .inl (fun h => .inr ⟨_, h, Nat.le_refl _⟩)) ⟨HSW.out, HCW.out⟩
                have hb10 : Below B w3 w10 := (HB9.out.trans (hbB.mono HBS9.out)).grown hg10 (Nat.le_trans HBS9.out hbB.size) (fun q e => (((HM9.out.grow hgB).arcs _ HXM.out).lt q e).1)
                have hrow10 : w10.ownsRow B 39 2 (.slice (some ⟨B, 0, none⟩) kn kn) kn (scells outs) := (HM9.out.grow hgB).row.kept hg10 (own_apart2 (HM9.out.grow hgB).row ((HM9.out.grow hgB).arcs _ HXM.out) ne_sa)
                have hc10 : w10.cell? ⟨B, k * 2 + 1, none⟩ = some (.slice xa xn xc) := by rw [hrow10.cellAt (k * 2 + 1) (by omega), (scells_get (by rw [HM9.out.len]; exact hkN)).2, HXX.out]; rfl
                have hf10 : w10.frozen? ⟨B, k * 2 + 1, none⟩ = false := hrow10.frozenAt _
                have hne10 : some bx ≠ (Value.slice xa xn xc).ownBlock := HNB.out
                have hw10 : w10.cell? ⟨bx, 0, none⟩ = some (.int .i64 sg) := hg10.cell hwB1 hne10
                have hset10 : (w10.setCell ⟨B, k * 2 + 1, none⟩ (.slice a10 (xn + 1) c10)).cell? ⟨bx, 0, none⟩ = some (.int .i64 sg) := (grown_set w10 ⟨B, k * 2 + 1, none⟩ _).cell hw10 HNS.out
                refine hK.out _ _ (by (try dsimp only); (first | exact hw10 | exact hwB1 | exact HW9.out | exact hset10)) (fun hHeld => ?_)
                clear hK K
                try simp only [Act.put, List.getElem_toArray, List.getElem_cons_succ, List.getElem_cons_zero, List.setIfInBounds_toArray, List.set_cons_succ, List.set_cons_zero]
                refine wpAnyH_take (i := 13) (v := ?vma112) rfl (by kernel_rfl) (by kernel_rfl) (by kernel_rfl) (fun _ _ _ h => h) (Or.inl ⟨by rfl, ?hma112⟩) (by assumption) ?rma112
                case hma112 => intro w hSw; (try dsimp only at hSw); go_simp; try with_reducible rfl
                simp only [Act.put, List.getElem_toArray, List.getElem_cons_succ, List.getElem_cons_zero, List.setIfInBounds_toArray, List.set_cons_succ, List.set_cons_zero]
                refine wpAnyH_take (i := 14) (v := ?vma115) rfl (by kernel_rfl) (by kernel_rfl) (by kernel_rfl) (fun _ _ _ h => h) (Or.inl ⟨by rfl, ?hma115⟩) (by assumption) ?rma115
                case hma115 => intro w hSw; (try dsimp only at hSw); go_simp; try with_reducible rfl
                simp only [Act.put, List.getElem_toArray, List.getElem_cons_succ, List.getElem_cons_zero, List.setIfInBounds_toArray, List.set_cons_succ, List.set_cons_zero]
                refine wpAnyH_ready (rs := [15]) (by kernel_rfl) (by simp) ?_
                refine AllReadyH.cons rfl (fun K hK => ?_) AllReadyH.nil
                go_simp
                refine hK.out _ _ (by (try dsimp only); (first | exact hw10 | exact hwB1 | exact HW9.out | exact hset10)) (fun hHeld => ?_)
                clear hK K
                try simp only [Act.put, List.getElem_toArray, List.getElem_cons_succ, List.getElem_cons_zero, List.setIfInBounds_toArray, List.set_cons_succ, List.set_cons_zero]
                refine wpAnyH_done (by kernel_rfl) ?_ _
                have HM10 := Lib.hid hm10
                have HB10 := Lib.hid hb10
                have HSB10 := Lib.hid ((hrow10.lt B rfl).1)
                clear hm10 hb10 hrow10 hc10 hf10 hw10 hown10 hg10 hat10 hgB hwB1 hxB hgB0 hgB1 hbB hHeld hx9 hset10 hne10
                go_wp2
                go_roundw
                case rel => exact ⟨m + 1, _, by omega, by go_num, HM10.out, (by show _ = _; rw [sts_set]; exact HSE.out), Below.setCell (p := ⟨B, k * 2 + 1, none⟩) HB10.out HSB10.out _⟩
                case measure => simp [intOf]; omega
            · obtain rfl : sn = m := by omega
              have HNXT : Hid (sts outs = prog (nums xs) (i + 1)) := by
                show _ = _
                rw [HSI.out, HPS.out, HFIN.out, List.take_of_length_le (by rw [HAR.out.1]; exact Nat.le_refl _)]
              go_wp2
              go_roundw
              case rel => exact ⟨i + 1, outs, by omega, by go_num, HMI.out, HNXT.out, HBI.out⟩
              case measure => simp [intOf]; omega
      · obtain rfl : nb = i := by omega
        have HFIN : Hid (sts outs = dmake (nums xs)) := by show _ = _; rw [HST.out, ← HLB.out]; exact prog_all _
        go_wp2
        go_ret2
        exact ⟨some ⟨B, 0, none⟩, kn, kn, outs, by rw [← HGM.out]; rfl, HM.out.states, by rw [HFIN.out, ← HGM.out], fun h => by simp at h, HB3.out.trans (HBW.out.mono (by rw [← hsb]; exact HB3.out.size))⟩
  · have hne : (er != 0) = true := by simpa using her
    have hgg : g = ([], er) := by rw [← HG.out]; unfold dmade; rw [← HER.out]; simp [her]
    subst hgg
    clear her
    go_wp2
    go_ret2
    exact ⟨none, 0, 0, [], rfl, Ss.nil, rfl, fun _ => rfl, HB1.out⟩

end Go.Proofs.Ytgbiobhladeooaa
