/- The program's rises, Write, readWord, with of layer 9. -/
import Derived.Test.YtflikfnehpaohaaWordFit
import Derived.Test.YtflikfnehpaohaaWordInsert
import Derived.Test.YtflikfnehpaohaaOrderWalkE
import Derived.Test.YtflikfnehpaohaaLineIterD
import Derived.Test.YtflikfnehpaohaaUtfWalkK
import Derived.Test.YtflikfnehpaohaaGenCell
namespace Go.Proofs.Ytflikfnehpaohaa
open Go.RowKit

set_option maxRecDepth 100000 in
theorem rises_bad {l : List (List Int)} {i : Nat} (hi : i + 1 < l.length) (h : lessL (l.getD i []) (l.getD (i + 1) []) = false) : Wl.rises l = false := by
  cases hr : Wl.rises l with
  | false => rfl
  | true =>
    have := (Wl.rises_iff.1 hr).at (show i < i + 1 by omega) hi
    rw [h] at this; cases this
set_option maxRecDepth 100000 in
theorem rises_good : ∀ {l : List (List Int)}, (∀ i, i + 1 < l.length → lessL (l.getD i []) (l.getD (i + 1) []) = true) → Wl.rises l = true
  | [], _ => rfl
  | [_], _ => rfl
  | x :: y :: l, h => by
    have h0 := h 0 (by simp)
    have ih := rises_good (l := y :: l) (fun i hi => by
      have := h (i + 1) (by simp at hi ⊢; omega)
      simpa using this)
    unfold Wl.rises
    simp only [List.getD_cons_zero, List.getD_cons_succ] at h0
    rw [h0, ih]; rfl

set_option maxHeartbeats 3200000 in
set_option maxRecDepth 100000 in
theorem rises_is (a : Option Addr) (n cap : Nat) (xs : List Wd) (r : Bool) (w : World) (hs : Ws w a n cap xs) (hr : Wl.rises (nums xs) = r) :
    Calls Try.prog 34 #[.slice a n cap] w fun e w' => e = .returned (.bool r) ∧ ∃ q, w' = w.drewN q := by
  have hnc := hs.2.1
  have hcm := hs.2.2.1
  unfold maxLen at hcm
  have HS := Lib.hid hs
  have HR := Lib.hid hr
  have HL : Hid ((nums xs).length = n) := by show _ = _; rw [nums_length, hs.1]
  clear hs hr
  go_enter Try.func34, Try.ntmps34
  go_wp2
  go_loopw [3] (fun ix wr => ∃ p : Nat, (p + 1 ≤ n ∨ p = 0) ∧ ix = .int .i64 ((p : Int) + 1) ∧ Hid (∀ i, i + 1 < p + 1 → i + 1 < n → lessL ((nums xs).getD i []) ((nums xs).getD (i + 1) []) = true) ∧ Hid (∃ q, wr = w.drewN q)) (fun ix _ => n - (intOf ix).toNat)
  case atStart => exact ⟨0, .inr rfl, rfl, fun i hi => by omega, ⟨0, rfl⟩⟩
  case round =>
    obtain ⟨p, hp, rfl, HT, HW⟩ := hrel
    by_cases hlt : p + 1 < n
    · obtain ⟨b1, o1, a1, n1, c1, z1, rfl, hb1, hx1, hc1, hs1, hz1⟩ := (HS.out.drawn HW.out).one p (by omega)
      obtain ⟨b2, o2, a2, n2, c2, z2, hb2, _, hx2, hc2, hs2, hz2⟩ := (HS.out.drawn HW.out).one (p + 1) hlt
      simp only [Option.some.injEq, Addr.mk.injEq, and_true] at hb2
      obtain ⟨rfl, rfl⟩ := hb2
      have HS1 := Lib.hid hs1
      have HS2 := Lib.hid hs2
      have HZ1 := Lib.hid hz1
      have HZ2 := Lib.hid hz2
      obtain ⟨q, hq⟩ : ∃ q, lessL z1 z2 = q := ⟨_, rfl⟩
      have HQ := Lib.hid hq
      have hlti : (p : Int) + 1 < (n : Int) := by omega
      have hpw : IntKind.i64.wrap ((p : Int) + 1 - 1) = (p : Int) := by rw [IntKind.wrap_i64]; omega
      have hpn : (p : Int) < (n : Int) := by omega
      have hp0 : (0 : Int) ≤ (p : Int) := by omega
      have hp1 : (0 : Int) ≤ (p : Int) + 1 := by omega
      have htn : ((p : Int) + 1).toNat = p + 1 := by omega
      have hc2' : wr.cell? ⟨b1, o1 + (p + 1), none⟩ = some (.slice a2 n2 c2) := hc2
      clear hx1 hs1 hz1 hx2 hs2 hz2 hq hc2
      cases q
      · have HF : Hid (Wl.rises (nums xs) = false) := rises_bad (i := p) (by rw [HL.out]; exact hlt) (by rw [HZ1.out, HZ2.out]; exact HQ.out)
        obtain rfl : r = false := by rw [← HR.out]; exact HF.out
        go_wp2_with fail
        go_quiet ((go_at_call 22; exact Calls.quiet_of (less_is a1 a2 n1 n2 c1 c2 z1 z2 false _ (HS1.out.drewN _) (HS2.out.drewN _) HQ.out)))
        go_wp2
        go_ret
        obtain ⟨q, rfl⟩ := HW.out
        exact ⟨rfl, _, World.drewN_drewN _ _ _⟩
      · go_wp2_with fail
        go_quiet ((go_at_call 22; exact Calls.quiet_of (less_is a1 a2 n1 n2 c1 c2 z1 z2 true _ (HS1.out.drewN _) (HS2.out.drewN _) HQ.out)))
        go_wp2
        go_roundw
        case rel =>
          refine ⟨p + 1, .inl (by omega), by go_num, ?_, ?_⟩
          · intro i h1 h2
            rcases Nat.lt_or_ge (i + 1) (p + 1) with h | h
            · exact HT.out i h h2
            · obtain rfl : i = p := by omega
              rw [HZ1.out, HZ2.out]; exact HQ.out
          · obtain ⟨q, rfl⟩ := HW.out
            exact ⟨_, World.drewN_drewN _ _ _⟩
        case measure => simp [intOf]; omega
    · obtain rfl : r = true := by
        rw [← HR.out]
        exact rises_good fun i hi => HT.out i (by rw [HL.out] at hi; omega) (by rw [HL.out] at hi; exact hi)
      have hlti : ¬ (p : Int) + 1 < (n : Int) := by omega
      go_wp2
      go_ret
      exact ⟨rfl, HW.out⟩

/-- a row of words that the call owns, of which none lies in the row's own block -/
def Held (B : Nat) (w : World) (a : Option Addr) (n c : Nat) (xs : List Wd) : Prop :=
  w.ownsRow B 24 1 (.slice a n c) n (vals xs) ∧ (∀ x ∈ xs, x.Good w ∧ x.Far (Value.slice a n c).ownBlock) ∧ (a = none → c = 0)
set_option maxRecDepth 100000 in
theorem Held.length {B : Nat} {w : World} {a : Option Addr} {n c : Nat} {xs : List Wd} (h : Held B w a n c xs) : xs.length = n := by
  have := h.1.1; rw [vals_length] at this; omega
set_option maxRecDepth 100000 in
theorem Held.ws {B : Nat} {w : World} {a : Option Addr} {n c : Nat} {xs : List Wd} (h : Held B w a n c xs) : Ws w a n c xs := Ws.of_owns h.1 (fun x hx => (h.2.1 x hx).1) h.length
set_option maxRecDepth 100000 in
theorem Held.below {B : Nat} {w w' : World} {a : Option Addr} {n c : Nat} {xs : List Wd} (h : Held B w a n c xs) (hb : Below w.heap.size w w') : Held B w' a n c xs :=
  ⟨ownsRow_below h.1 hb (Nat.le_refl _), fun x hx => ⟨(h.2.1 x hx).1.below hb (Nat.le_refl _), (h.2.1 x hx).2⟩, h.2.2⟩
set_option maxRecDepth 100000 in
theorem Held.nil (B : Nat) (w : World) : Held B w none 0 0 [] := ⟨owns_nil_words _ _, by simp, fun _ => rfl⟩
set_option maxRecDepth 100000 in
theorem Wd.Good.far {w : World} {x : Wd} {k : Option Nat} (h : x.Good w) (hk : ∀ b, k = some b → w.heap.size ≤ b) : x.Far k := by
  cases k with
  | none =>
    obtain ⟨h1, h2, h3, h4, h5⟩ := h
    rcases h5 with h5 | ⟨b, off, ha, hc⟩
    · exact .inl h5
    · exact .inr ⟨b, off, ha, by simp⟩
  | some b => exact h.far_new (hk b rfl)
set_option maxRecDepth 100000 in
theorem ins_new {l : List (List Int)} {z : List Int} (h : decide (z ∈ l) = false) : ins l z = l.take (cnt l z) ++ z :: l.drop (cnt l z) := by
  unfold ins; rw [if_neg (by simpa using h)]
set_option maxRecDepth 100000 in
theorem ins_old {l : List (List Int)} {z : List Int} (h : decide (z ∈ l) = true) : ins l z = l := by
  unfold ins; rw [if_pos (by simpa using h)]

set_option maxHeartbeats 3200000 in
set_option maxRecDepth 100000 in
theorem with_is (B : Nat) (a : Option Addr) (n c : Nat) (xs : List Wd) (b : Option Addr) (m c2 : Nat) (z : List Int) (w : World) (h : Held B w a n c xs) (hn : n ≤ 700) (hr : Rise (nums xs)) (hz : Sl .i64 w b m c2 z)
    (hzf : (⟨b, m, c2, z⟩ : Wd).Far (Value.slice a n c).ownBlock) (hB : B ≤ w.heap.size) :
    Calls Try.prog 27 #[.slice a n c, .slice b m c2] w fun e w' => ∃ a' n' c' ys, e = .returned (.slice a' n' c') ∧ Held B w' a' n' c' ys ∧ nums ys = ins (nums xs) z ∧ w.grownBy w' (Value.slice a n c).ownBlock ∧ ∀ y ∈ ys, y ∈ xs ∨ y = ⟨b, m, c2, z⟩ := by
  have hlen := h.length
  have hws := h.ws
  have hcn : cnt (nums xs) z ≤ n := by rw [← hlen, ← nums_length]; exact cnt_le _ _
  obtain ⟨k, hk⟩ : ∃ k, cnt (nums xs) z = k := ⟨_, rfl⟩
  rw [hk] at hcn
  have hnc := hws.2.1
  have hcm := hws.2.2.1
  unfold maxLen at hcm
  have HK := Lib.hid hk
  have HR := Lib.hid hr
  have H := Lib.hid h
  have HZ := Lib.hid hz
  have HZF := Lib.hid hzf
  have HWS := Lib.hid hws
  have HL := Lib.hid hlen
  obtain ⟨q, hq⟩ : ∃ q, decide (z ∈ nums xs) = q := ⟨_, rfl⟩
  have HQ := Lib.hid hq
  clear hk hr h hz hzf hws hlen hq
  go_enter Try.func27, Try.ntmps27
  go_wp2_with fail
  refine (find_is a b n m c c2 xs z k q w HWS.out HZ.out HR.out HK.out HQ.out (by omega)).mono ?_
  rintro e w1 ⟨rfl, hb1⟩
  have HB1 := Lib.hid hb1
  clear hb1
  cases q
  · have HNE : Hid ((Value.slice a n c).ownBlock ≠ some w1.heap.size) := fun e => by have := (H.out.1.lt _ e).2; have := HB1.out.size; omega
    have HGR : ∀ ob, Hid (w.grownBy (w1.alloc ob) (Value.slice a n c).ownBlock) := fun ob => by
      have h1 := HB1.out
      have h2 := World.grownBy_alloc w1 ob (Value.slice a n c).ownBlock
      exact ⟨h2.os.trans h1.os, h2.tape.trans h1.tape, h2.output.trans h1.output, Nat.le_trans h1.size h2.size, fun t ht hne => (h2.block t (Nat.lt_of_lt_of_le ht h1.size) hne).trans (h1.block t ht)⟩
    go_wp2_with fail
    refine (insert_is B w1.heap.size a n c k xs ⟨b, m, c2, z⟩ _ ((ownsRow_below H.out.1 HB1.out (Nat.le_refl _)).alloc _) hcn (by omega) (by have := HB1.out.size; simp; omega) (heap_alloc_new _ _) HNE.out).mono ?_
    rintro e w2 ⟨g, c', rfl, hown, hgr, hlies⟩
    have HG2 : Hid (w.grownBy w2 (Value.slice a n c).ownBlock) := (HGR _).out.trans hgr
    have HOWN := Lib.hid hown
    have HLI := Lib.hid hlies
    clear hown hgr hlies
    go_wp2
    go_ret
    have hfar : ∀ x : Wd, x.Good w → x.Far (Value.slice a n c).ownBlock → x.Good w2 ∧ x.Far (some g) := fun x hx hf => by
      refine ⟨hx.grown HG2.out hf, ?_⟩
      rcases HLI.out with h | h
      · rw [← h]; exact hf
      · exact hx.far_new (by have := HB1.out.size; simp at h; omega)
    refine ⟨some ⟨g, 0, none⟩, n + 1, c', _, rfl, ⟨HOWN.out, fun x hx => ?_, fun h => by cases h⟩, ?_, HG2.out, fun y hy => ?_⟩
    · have hx' : x ∈ xs ∨ x = ⟨b, m, c2, z⟩ := by
        rcases List.mem_append.1 hx with hx | hx
        · exact .inl (List.mem_of_mem_take hx)
        · rcases List.mem_cons.1 hx with hx | hx
          · exact .inr hx
          · exact .inl (List.mem_of_mem_drop hx)
      rcases hx' with hx' | rfl
      · exact hfar x (H.out.2.1 x hx').1 (H.out.2.1 x hx').2
      · exact hfar _ HZ.out HZF.out
    · rw [ins_new HQ.out, HK.out]
      unfold nums
      rw [List.map_append, List.map_cons, List.map_take, List.map_drop]
    · rcases List.mem_append.1 hy with hy | hy
      · exact .inl (List.mem_of_mem_take hy)
      · rcases List.mem_cons.1 hy with hy | hy
        · exact .inr hy
        · exact .inl (List.mem_of_mem_drop hy)
  · go_wp2
    go_ret
    have h1 := HB1.out
    exact ⟨a, n, c, xs, rfl, H.out.below h1, (ins_old HQ.out).symm, ⟨h1.os, h1.tape, h1.output, h1.size, fun t ht _ => h1.block t ht⟩, fun y hy => .inl hy⟩

/-! ### readWord -/
set_option maxRecDepth 100000 in
theorem info_told : (Try.prog.info? 50).map (·.size) = some 2 := by kernel_rfl

set_option maxRecDepth 100000 in
set_option maxHeartbeats 1600000 in
theorem toldNo_is (er : Int) (w : World) : Calls Try.prog 51 #[.int .i64 er] w fun e w' => e = .returned (.agg #[.slice none 0 0, .int .i64 er]) ∧ Below w.heap.size w w' := by
  have HI : Hid ((Try.prog.info? 50).map (·.size) = some (#[Value.slice none 0 0, Value.int .i64 er]).size) := info_told
  go_enter Try.func51, Try.ntmps51
  go_wp2_with (refine wpList_store_g (by rfl) 50 (.tmp 2) (.tmp 4) (by rfl) w.heap.size #[Value.slice none 0 0, Value.int .i64 er] (by rfl) (by rfl) 50 #[Value.slice none 0 0, Value.int .i64 0] (heap_alloc_new _ _) HI.out rfl (by simp [Value.oneCell']) ?_; intro we hwe hge hsze; have HWE := Lib.hid hwe; have HGE := Lib.hid hge; clear hwe hge hsze)
  refine bodyPost_ret (results_cell_row rfl _ _ w.heap.size 50 #[Value.slice none 0 0, Value.int .i64 er] (0, 0) _ (by rfl) HWE.out Try.underlying50 (by rfl) HI.out) rfl ?_
  exact ⟨rfl, below_made (Below.refl _ w) HGE.out⟩

set_option maxRecDepth 100000 in
theorem word_many {zs : List Int} {p : List Int × Int} (h : Wl.word zs = p) (hl : (Line.fields zs).length ≠ 1) : p = ([], 71) := by
  rw [← h]; unfold Wl.word; rw [if_neg hl]
set_option maxRecDepth 100000 in
theorem word_one {zs f : List Int} {p : List Int × Int} (h : Wl.word zs = p) (hf : Line.fields zs = [f]) : Wl.ofField f = p := by
  rw [← h]; unfold Wl.word; rw [hf, if_pos (by rfl)]; rfl

/-- what readWord answers: the word lies in new memory -/
def ToldIs (w w' : World) (e : Ending) (p : List Int × Int) : Prop :=
  ∃ a c, e = .returned (.agg #[.slice a p.1.length c, .int .i64 p.2]) ∧ Sl .i64 w' a p.1.length c p.1 ∧ (∀ k, k < w.heap.size → (⟨a, p.1.length, c, p.1⟩ : Wd).Far (some k)) ∧ Below w.heap.size w w'

set_option maxRecDepth 100000 in
theorem read_new (a : Option Addr) (n cap : Nat) (zs : List Int) (w : World) (hs : Sl .u8 w a n cap zs) (hn : n ≤ 17592186044416) :
    Calls Try.prog 20 #[.slice a n cap] w fun e w' => ∃ (l : List Int) (er : Int) (a' : Option Addr) (c : Nat), e = .returned (.tuple #[.slice a' l.length c, .int .i64 er]) ∧ ((Wl.signs zs = some l ∧ er = 0) ∨ (Wl.signs zs = none ∧ l = [] ∧ er = 10)) ∧
      Sl .i64 w' a' l.length c l ∧ (∀ k, k < w.heap.size → (⟨a', l.length, c, l⟩ : Wd).Far (some k)) ∧ Below w.heap.size w w' :=
  (uread_any a n cap zs w hs hn).mono fun e w' h => by
    obtain ⟨hb, ⟨l, hl, a', c, he, ho⟩ | ⟨hl, he⟩⟩ := h
    · refine ⟨l, 0, a', c, he, .inl ⟨Wl.signs_of hl, rfl⟩, Sl.of_owns ho (good_wf hl.1) rfl, fun k hk => ?_, hb⟩
      rcases ho.2 with ⟨_, h0⟩ | ⟨g, cap', cur, hv, hg, _⟩
      · exact .inl h0
      · simp only [Value.slice.injEq] at hv
        exact .inr ⟨g, 0, hv.1, fun e => by simp only [Option.some.injEq] at e; omega⟩
    · exact ⟨[], 10, none, 0, he, .inr ⟨Wl.signs_of hl, rfl, rfl⟩, Sl.nil, fun k _ => .inl rfl, hb⟩

set_option maxHeartbeats 6400000 in
set_option maxRecDepth 100000 in
theorem readWord_is (a : Option Addr) (n cap : Nat) (zs : List Int) (p : List Int × Int) (w : World) (hs : Sl .u8 w a n cap zs) (hnil : a = none → cap = 0) (hn : n ≤ 1000000) (hp : Wl.word zs = p) :
    Calls Try.prog 26 #[.slice a n cap] w fun e w' => ToldIs w w' e p := by
  have hI : ∀ (a : Option Addr) (n c : Nat) (er : Int), (Try.prog.info? 50).map (·.size) = some (#[Value.slice a n c, Value.int .i64 er]).size := fun _ _ _ _ => info_told
  have HI := Lib.hid hI
  have HS := Lib.hid hs
  have HP := Lib.hid hp
  have HA : ∀ o W, Below (w.alloc o).heap.size (w.alloc o) W → Hid (W.heap[w.heap.size]? = some o ∧ Below w.heap.size w W ∧ w.heap.size < W.heap.size) := fun o W h => by
    have e1 : (w.alloc o).heap.size = w.heap.size + 1 := World.size_alloc w o
    exact ⟨(h.block _ (by omega)).trans (heap_alloc_new w o), ((Below.refl _ w).alloc (Nat.le_refl _) o).trans (h.mono (by omega)), by have := h.size; omega⟩
  clear hs hp hI
  go_enter Try.func26, Try.ntmps26
  go_wp2_with fail
  refine (fields_any a n cap zs _ (HS.out.alloc _) hnil hn).mono ?_
  rintro e w1 ⟨a1, m, c1, ys, rfl, hys, hbn, hnil1, hb1⟩
  obtain ⟨hz1, hb1', hlt1⟩ := (HA _ w1 hb1).out
  have HZ1 : Hid (w1.heap[w.heap.size]? = some (.cells #[Value.slice none 0 0, Value.int .i64 0] 50 (0, 0))) := hz1
  have HB1 := Lib.hid hb1'
  have HYS := Lib.hid hys
  have HBN := Lib.hid hbn
  have HM : Hid ((Line.fields zs).length = m) := by show _ = _; rw [← hbn, bnums_length, hys.1]
  have hmc := hys.2.1
  have hcm := hys.2.2.1
  unfold maxLen at hcm
  clear hz1 hb1' hys hbn hb1 hnil1 hlt1
  -- an error: the closure's answer is stored, and told
  have fin : ∀ (er : Int) (W V : World) (ob : Array Value), Hid (Below w1.heap.size w1 W) → p = ([], er) → V.heap[w.heap.size]? = some (.cells #[Value.slice none 0 0, Value.int .i64 er] 50 (0, 0)) → W.grownBy V (some w.heap.size) → Below w.heap.size w V := fun er W V _ h1 _ _ h3 =>
    (HB1.out.trans (h1.out.mono HB1.out.size)).grown h3 (Nat.le_trans HB1.out.size h1.out.size) (fun k hk => by cases hk; exact Nat.le_refl _)
  by_cases h1 : m = 1
  · subst h1
    obtain ⟨f, hf⟩ : ∃ f, Line.fields zs = [f] := List.length_eq_one_iff.1 HM.out
    have hw := word_one HP.out hf
    obtain ⟨b, off, fa, fn, fc, fz, rfl, hb, hgd, hc, hsl, hfz⟩ := HYS.out.one 0 (by omega)
    have hc0 : w1.cell? ⟨b, off, none⟩ = some (.slice fa fn fc) := hc
    obtain rfl : fz = f := by rw [← hfz, HBN.out, hf]; rfl
    have hfn : fn ≤ 17592186044416 := by
      have h1 := hsl.1
      have h2 : fz.length ≤ zs.length := by
        have := Wl.fields_le zs fz (by rw [hf]; simp)
        exact this
      have h3 := HS.out.1
      omega
    have HSL := Lib.hid hsl
    have HW := Lib.hid hw
    clear hc hsl hfz hgd hf hw
    go_wp2_with fail
    refine (read_new fa fn fc fz w1 HSL.out hfn).mono ?_
    rintro e w2 ⟨l, er, a2, c2, rfl, hor, hs2, hfar, hb2⟩
    have HB2 := Lib.hid hb2
    have HOR := Lib.hid hor
    have HS2 := Lib.hid hs2
    have HFAR := Lib.hid hfar
    have HZ2 : Hid (w2.heap[w.heap.size]? = some (.cells #[Value.slice none 0 0, Value.int .i64 0] 50 (0, 0))) := (hb2.block _ (Array.getElem?_eq_some_iff.1 HZ1.out).1).trans HZ1.out
    have hl2 := hs2.2.1
    have hm2 := hs2.2.2.1
    unfold maxLen at hm2
    clear hb2 hor hs2 hfar
    rcases HOR.out with ⟨hsg, rfl⟩ | ⟨hsg, rfl, rfl⟩
    · by_cases h20 : l.length ≤ 20
      · obtain rfl : p = (l, 0) := by rw [← HW.out, Wl.ofField_some hsg h20]
        have h20i : ¬ (20 : Int) < (l.length : Int) := by omega
        clear hsg
        go_wp2_with (refine wpList_store_g (by rfl) 50 (.tmp 2) (.tmp 32) (by rfl) w.heap.size #[Value.slice a2 l.length c2, Value.int .i64 0] (by rfl) (by rfl) 50 #[Value.slice none 0 0, Value.int .i64 0] HZ2.out (HI.out _ _ _ _) rfl (by simp [Value.oneCell']) ?_; intro we hwe hge hsze; have HWE := Lib.hid hwe; have HGE := Lib.hid hge; clear hwe hge hsze)
        refine bodyPost_ret (results_cell_row rfl _ _ w.heap.size 50 #[Value.slice a2 l.length c2, Value.int .i64 0] (0, 0) _ (by rfl) HWE.out Try.underlying50 (by rfl) (HI.out _ _ _ _)) rfl ?_
        refine ⟨a2, c2, rfl, Wd.Good.grown (x := ⟨a2, l.length, c2, l⟩) HS2.out HGE.out (HFAR.out _ ?_), fun k hk => HFAR.out k (by have := HB1.out.size; omega), (HB1.out.trans (HB2.out.mono HB1.out.size)).grown HGE.out (Nat.le_trans HB1.out.size HB2.out.size) (fun k hk => by cases hk; exact Nat.le_refl _)⟩
        exact (Array.getElem?_eq_some_iff.1 HZ1.out).1
      · obtain rfl : p = ([], 90) := by rw [← HW.out, Wl.ofField_long hsg h20]
        have h20i : (20 : Int) < (l.length : Int) := by omega
        clear hsg
        go_wp2_with (first
          | (go_at_call 51; refine (toldNo_is 90 _).mono ?_; rintro e w3 ⟨rfl, hb3⟩; have HB3 := Lib.hid hb3; have HZ3 : Hid (w3.heap[w.heap.size]? = some (.cells #[Value.slice none 0 0, Value.int .i64 0] 50 (0, 0))) := (hb3.block _ (Array.getElem?_eq_some_iff.1 HZ2.out).1).trans HZ2.out; clear hb3)
          | (refine wpList_store_g (by rfl) 50 (.tmp 2) (.tmp 30) (by rfl) w.heap.size #[Value.slice none 0 0, Value.int .i64 90] (by rfl) (by rfl) 50 #[Value.slice none 0 0, Value.int .i64 0] HZ3.out (HI.out _ _ _ _) rfl (by simp [Value.oneCell']) ?_; intro we hwe hge hsze; have HWE := Lib.hid hwe; have HGE := Lib.hid hge; clear hwe hge hsze))
        refine bodyPost_ret (results_cell_row rfl _ _ w.heap.size 50 #[Value.slice none 0 0, Value.int .i64 90] (0, 0) _ (by rfl) HWE.out Try.underlying50 (by rfl) (HI.out _ _ _ _)) rfl ?_
        exact ⟨none, 0, rfl, Sl.nil, fun k _ => .inl rfl, fin 90 w3 we #[] (HB2.out.trans (HB3.out.mono HB2.out.size)) rfl HWE.out HGE.out⟩
    · obtain rfl : p = ([], 10) := by rw [← HW.out, Wl.ofField_none hsg]
      clear hsg
      go_wp2_with (first
        | (go_at_call 51; refine (toldNo_is 10 _).mono ?_; rintro e w3 ⟨rfl, hb3⟩; have HB3 := Lib.hid hb3; have HZ3 : Hid (w3.heap[w.heap.size]? = some (.cells #[Value.slice none 0 0, Value.int .i64 0] 50 (0, 0))) := (hb3.block _ (Array.getElem?_eq_some_iff.1 HZ2.out).1).trans HZ2.out; clear hb3)
        | (refine wpList_store_g (by rfl) 50 (.tmp 2) (.tmp 25) (by rfl) w.heap.size #[Value.slice none 0 0, Value.int .i64 10] (by rfl) (by rfl) 50 #[Value.slice none 0 0, Value.int .i64 0] HZ3.out (HI.out _ _ _ _) rfl (by simp [Value.oneCell']) ?_; intro we hwe hge hsze; have HWE := Lib.hid hwe; have HGE := Lib.hid hge; clear hwe hge hsze))
      refine bodyPost_ret (results_cell_row rfl _ _ w.heap.size 50 #[Value.slice none 0 0, Value.int .i64 10] (0, 0) _ (by rfl) HWE.out Try.underlying50 (by rfl) (HI.out _ _ _ _)) rfl ?_
      exact ⟨none, 0, rfl, Sl.nil, fun k _ => .inl rfl, fin 10 w3 we #[] (HB2.out.trans (HB3.out.mono HB2.out.size)) rfl HWE.out HGE.out⟩
  · have hw := word_many HP.out (by rw [HM.out]; exact h1)
    subst hw
    have hmi : ((m : Int) != 1) = true := by simp; omega
    go_wp2_with (first
      | (go_at_call 51; refine (toldNo_is 71 _).mono ?_; rintro e w2 ⟨rfl, hb2⟩; have HB2 := Lib.hid hb2; have HZ2 : Hid (w2.heap[w.heap.size]? = some (.cells #[Value.slice none 0 0, Value.int .i64 0] 50 (0, 0))) := (hb2.block _ (Array.getElem?_eq_some_iff.1 HZ1.out).1).trans HZ1.out; clear hb2)
      | (refine wpList_store_g (by rfl) 50 (.tmp 2) (.tmp 13) (by rfl) w.heap.size #[Value.slice none 0 0, Value.int .i64 71] (by rfl) (by rfl) 50 #[Value.slice none 0 0, Value.int .i64 0] HZ2.out (HI.out _ _ _ _) rfl (by simp [Value.oneCell']) ?_; intro we hwe hge hsze; have HWE := Lib.hid hwe; have HGE := Lib.hid hge; clear hwe hge hsze))
    refine bodyPost_ret (results_cell_row rfl _ _ w.heap.size 50 #[Value.slice none 0 0, Value.int .i64 71] (0, 0) _ (by rfl) HWE.out Try.underlying50 (by rfl) (HI.out _ _ _ _)) rfl ?_
    exact ⟨none, 0, rfl, Sl.nil, fun k _ => .inl rfl, fin 71 w2 we #[] HB2 rfl HWE.out HGE.out⟩

end Go.Proofs.Ytflikfnehpaohaa
