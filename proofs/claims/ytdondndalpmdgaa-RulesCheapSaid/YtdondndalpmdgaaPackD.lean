import Derived.Test.YtdondndalpmdgaaPackC
import Derived.LoopN
import Derived.Lib.Strings
import Derived.Test.YtdondndalpmdgaaPackP
/- The document's own Take: one to four bytes are tried; it may make blocks, and turns nothing that was there. -/
namespace Go.Proofs.Ytdondndalpmdgaa
open Go.RowKit

set_option maxRecDepth 100000 in
theorem Sl.new {w : World} {t : TypeId} (zs : List Int) (hw : ∀ z ∈ zs, 0 ≤ z ∧ z ≤ 255) (hl : zs.length ≤ maxLen) : Sl .u8 (w.alloc (.cells (u8s zs).toArray t)) (some ⟨w.heap.size, 0, none⟩) zs.length zs.length zs := by
  refine ⟨rfl, Nat.le_refl _, hl, fun z hz => WalkArith.wf_u8 (hw z hz), .inr ⟨w.heap.size, 0, rfl, fun i hi => ?_⟩⟩
  rw [cell_of_row _ w.heap.size _ _ t (0, 0) (heap_alloc_new w _)]
  simp [u8s, hi]
set_option maxRecDepth 100000 in
theorem strOfNums_ne {a b : List Int} (ha : ∀ z ∈ a, 0 ≤ z ∧ z ≤ 255) (hb : ∀ z ∈ b, 0 ≤ z ∧ z ≤ 255) (h : strOfNums a = strOfNums b) : a = b := by
  have h' : a.map (fun n => UInt8.ofNat n.toNat) = b.map (fun n => UInt8.ofNat n.toNat) := by
    have := congrArg (fun s : ByteArray => s.data.toList) h
    simpa [strOfNums] using this
  clear h
  induction a generalizing b with
  | nil => cases b with
    | nil => rfl
    | cons y b => simp at h'
  | cons x a ih => cases b with
    | nil => simp at h'
    | cons y b =>
      simp only [List.map_cons, List.cons.injEq] at h'
      have hx := ha x (by simp)
      have hy := hb y (by simp)
      have e : x = y := by
        have := congrArg UInt8.toNat h'.1
        simp at this
        omega
      rw [e, ih (fun z hz => ha z (by simp [hz])) (fun z hz => hb z (by simp [hz])) h'.2]

set_option maxRecDepth 100000 in
theorem toList_inj {a b : ByteArray} (h : a.toList = b.toList) : a = b := by
  rw [Lib.toList_data, Lib.toList_data] at h
  rw [← Lib.mk_data a, ← Lib.mk_data b, h]
set_option maxRecDepth 100000 in
theorem no_more {c : Int} {rest : List Int} {j : Nat} (h : ∀ k, 1 ≤ k → k < j → ¬ Utf.fits c rest k) (hj : ¬ Utf.fits c rest j) : ∀ k, 1 ≤ k → k < j + 1 → ¬ Utf.fits c rest k := by
  intro k h1 h2
  rcases Nat.lt_or_ge k j with h3 | h3
  · exact h k h1 h3
  · obtain rfl : k = j := by omega
    exact hj

end Go.Proofs.Ytdondndalpmdgaa

/- utf.Read, and the document's own: the signs of bytes, in a row of their own, or ErrUtf. Asked: no more than 2^44 bytes. -/
namespace Go.Proofs.Ytdondndalpmdgaa
open Go.RowKit

set_option maxRecDepth 100000 in
theorem Try.info3 : (Try.prog.info? 3).map (fun i => (i.zero, i.size, i.bytes)) = some (some (.int .i64 0), 1, 8) := by kernel_rfl


/-- what Read answers -/
def ReadPost (B : Nat) (zs : List Int) (w : World) (e : Ending) (w' : World) : Prop :=
  Below B w w' ∧ ((∃ l, Utf.IsRead zs (some l) ∧ ∃ a cap, e = .returned (.tuple #[.slice a l.length cap, .int .i64 0]) ∧ w'.ownsRow B 3 1 (.slice a l.length cap) l.length (i64s l)) ∨
    (Utf.IsRead zs none ∧ e = .returned (.tuple #[.slice none 0 0, .int .i64 10])))

set_option maxRecDepth 100000 in
theorem take_below (b off n cap : Nat) (c : Int) (rest : List Int) (w : World) (hs : Sl .u8 w (some ⟨b, off, none⟩) n cap (c :: rest)) :
    Calls Try.prog 55 #[.slice (some ⟨b, off, none⟩) n cap] w fun e w' => e = .returned (takeV (Utf.takeL (c :: rest))) ∧ Below w.heap.size w w' :=
  (take_some b off n cap c rest w hs).mono fun e w' h => ⟨h.1, by obtain ⟨m, hm⟩ := h.2; rw [hm]; exact below_drewN (Below.refl _ _) m⟩

set_option maxRecDepth 100000 in
set_option maxHeartbeats 2000000 in
theorem uread_any (a : Option Addr) (n cap : Nat) (zs : List Int) (w : World) (hs : Sl .u8 w a n cap zs) (hn : n ≤ 17592186044416) :
    Calls Try.prog 31 #[.slice a n cap] w (ReadPost w.heap.size zs w) := by
  obtain ⟨i0, hi, hz0, hz1, hz2⟩ := info_parts Try.info3
  have hcm := hs.2.2.1
  unfold maxLen at hcm
  have HS := Lib.hid hs
  clear hs
  go_enter Try.func31, Try.ntmps31
  go_wp2
  go_loopw [0, 4] (fun bv lv wr => ∃ (a' g : Option Addr) (n' cap' c2 : Nat) (d rs : List Int), bv = .slice a' n' cap' ∧ lv = .slice g d.length c2 ∧ d.length + n' ≤ n ∧ cap' ≤ cap ∧
      Hid (Sl .u8 w a' n' cap' rs) ∧ Hid (Utf.allGood d = true) ∧ Hid (zs = Utf.put d ++ rs) ∧ wr.ownsRow w.heap.size 3 1 (.slice g d.length c2) d.length (i64s d) ∧ Below w.heap.size w wr) (fun bv _ _ => match bv with | .slice _ m _ => m | _ => 0)
  case atStart => exact ⟨a, none, n, cap, 0, [], zs, rfl, rfl, by simp, Nat.le_refl _, HS, rfl, rfl, World.ownsRow_nil _ _ _ _, Below.refl _ _⟩
  case round =>
    obtain ⟨a', g, n', cap', c2, d, rs, rfl, rfl, hdn, hcc, HR, HD, HZ, hown, hbel⟩ := hrel
    by_cases hz : n' = 0
    · subst hz
      have hrs : rs = [] := List.eq_nil_of_length_eq_zero HR.out.1
      have hfin : Utf.IsRead zs (some d) := Utf.read_end HD.out (by rw [HZ.out, hrs])
      have HF := Lib.hid hfin
      clear hfin hrs
      go_wp2
      go_ret2
      exact ⟨hbel, .inl ⟨d, HF.out, g, c2, rfl, hown⟩⟩
    · obtain ⟨b, off, rfl, hlt, _⟩ := HR.out.at (by omega)
      obtain ⟨x, rest, rfl⟩ : ∃ x rest, rs = x :: rest := by
        cases rs with
        | nil => exact absurd HR.out.1.symm (by simpa using hz)
        | cons x rest => exact ⟨x, rest, rfl⟩
      have hnn : 0 < n' := by omega
      have hcn : n' ≤ cap' := HR.out.2.1
      have hpos : ∀ z ∈ x :: rest, 0 ≤ z := fun z hz => (bounds_u8 (HR.out.2.2.2.1 z hz)).1
      have htk := Utf.takeL_is (x :: rest) hpos
      have hcall := take_below b off n' cap' x rest wr (HR.out.below hbel (Nat.le_refl _))
      have hsize := hbel.size
      clear hpos
      cases ht : Utf.takeL (x :: rest) with
      | none =>
        rw [ht] at htk hcall
        simp only [takeV] at hcall
        have HF : Hid (Utf.IsRead zs none) := Utf.read_stop HD.out HZ.out (by simp) htk
        have HC := Lib.hid hcall
        clear ht htk hcall
        go_wp2_with (go_at_call 55; refine (HC.out).mono ?_; rintro e w1 ⟨rfl, hb1⟩)
        go_ret2
        exact ⟨hbel.trans (hb1.mono hsize), .inr ⟨HF.out, rfl⟩⟩
      | some p =>
        obtain ⟨s, k⟩ := p
        rw [ht] at htk hcall
        simp only [takeV] at hcall
        have hstep := Utf.read_step HD.out HZ.out htk
        have hk0 : 0 < k := by obtain ⟨_, rfl, _⟩ := htk; exact Utf.size_pos s
        have hkn : k ≤ n' := by
          obtain ⟨_, rfl, r, e⟩ := htk
          have := congrArg List.length e
          rw [HR.out.1, List.length_append, Utf.enc_length] at this
          omega
        have HC := Lib.hid hcall
        have HST := Lib.hid hstep
        have hpiece : ¬ cap' = k → Sl .u8 w (some ⟨b, off + k, none⟩) (n' - k) (cap' - k) ((x :: rest).drop k) := fun _ => by
          have := HR.out.piece k (n' - k) (by omega)
          rwa [List.take_of_length_le (by rw [List.length_drop, HR.out.1]; omega)] at this
        have hend : cap' = k → Sl .u8 w (some ⟨b, off, none⟩) (n' - k) (cap' - k) ((x :: rest).drop k) := fun e => by
          have e0 : n' - k = 0 := by omega
          refine ⟨by rw [List.length_drop, HR.out.1], by omega, by unfold maxLen; omega, fun z hz => HR.out.2.2.2.1 z (List.mem_of_mem_drop hz), .inl e0⟩
        have HP := Lib.hid hpiece
        have HE := Lib.hid hend
        clear ht htk hcall hstep hpiece hend
        have hd8 : (d.length + 1) * 8 ≤ 140737488355328 := by omega
        have hd63 : d.length + 1 ≤ maxLen := by unfold maxLen; omega
        by_cases hcap : cap' = k
        · subst hcap
          go_wp2_with (first
            | (go_at_call 55; refine (HC.out).mono ?_; rintro e w1 ⟨rfl, hb1⟩; have hown1 := ownsRow_below hown hb1 (Nat.le_refl _); have hsz1 := hb1.size)
            | (at_builtin; refine wpList_append_lies _ (by rfl) (.tmp 20) (.tmp 22) 46 (by rfl) w.heap.size 3 i0 (.int .i64 0) 1 8 Try.underlying46 hi hz0 hz1 hz2 rfl (by decide) _ _ _ (by rfl) (hown1.alloc _) ⟨w1.heap.size, 0, none⟩ 1 1 [.int .i64 s] (by rfl) rfl (one_newp rfl) (by simp [Value.oneCell']) (by decide) hd63 hd8 (by simp; omega) _ rfl ?_; intro g3 c3 w3 hown3 hgrow3 hat3 hlt3))
          have hb3 : Below w.heap.size w w3 := (((hbel.trans (hb1.mono hsize)).alloc (by omega) _).grown hgrow3 (by simp; omega) (by intro m hm; exact (hown1.lt m hm).1))
          rw [i64s_snoc] at hown3
          have el : d.length + 1 = (d ++ [s]).length := by simp
          rw [el] at hown3
          clear hgrow3 hat3 hlt3 hown1 hown hb1
          go_roundw
          case rel => exact ⟨some ⟨b, off, none⟩, some ⟨g3, 0, none⟩, n' - cap', cap' - cap', c3, d ++ [s], (x :: rest).drop cap', by rw [show n' - cap' = 0 from by omega, show cap' - cap' = 0 from by omega], by rw [el], by simp; omega, by omega, HE.out (by simp), HST.out.1, HST.out.2, hown3, hb3⟩
          case measure => simp; omega
        · go_wp2_with (first
            | (go_at_call 55; refine (HC.out).mono ?_; rintro e w1 ⟨rfl, hb1⟩; have hown1 := ownsRow_below hown hb1 (Nat.le_refl _); have hsz1 := hb1.size)
            | (at_builtin; refine wpList_append_lies _ (by rfl) (.tmp 20) (.tmp 22) 46 (by rfl) w.heap.size 3 i0 (.int .i64 0) 1 8 Try.underlying46 hi hz0 hz1 hz2 rfl (by decide) _ _ _ (by rfl) (hown1.alloc _) ⟨w1.heap.size, 0, none⟩ 1 1 [.int .i64 s] (by rfl) rfl (one_newp rfl) (by simp [Value.oneCell']) (by decide) hd63 hd8 (by simp; omega) _ rfl ?_; intro g3 c3 w3 hown3 hgrow3 hat3 hlt3))
          have hb3 : Below w.heap.size w w3 := (((hbel.trans (hb1.mono hsize)).alloc (by omega) _).grown hgrow3 (by simp; omega) (by intro m hm; exact (hown1.lt m hm).1))
          rw [i64s_snoc] at hown3
          have el : d.length + 1 = (d ++ [s]).length := by simp
          rw [el] at hown3
          clear hgrow3 hat3 hlt3 hown1 hown hb1
          go_roundw
          case rel => exact ⟨some ⟨b, off + k, none⟩, some ⟨g3, 0, none⟩, n' - k, cap' - k, c3, d ++ [s], (x :: rest).drop k, rfl, by rw [el], by simp; omega, by omega, HP.out hcap, HST.out.1, HST.out.2, hown3, hb3⟩
          case measure => simp; omega

end Go.Proofs.Ytdondndalpmdgaa

/- Same: are two lists of numbers one? It reads alone. -/
namespace Go.Proofs.Ytdondndalpmdgaa
open Go.RowKit


end Go.Proofs.Ytdondndalpmdgaa

/- The contracts of package utf as the laws use them; and awake, the head of all laws: it answers true. -/
namespace Go.Proofs.Ytdondndalpmdgaa
open Go.RowKit

set_option maxRecDepth 100000 in
theorem good_wf {l : List Int} (h : Utf.allGood l = true) : ∀ z ∈ l, (Lit.int .i64 z).wf = true := by
  intro z hz
  have := (Utf.good_iff z).1 (by simpa using (List.all_eq_true.1 h) z hz)
  exact WalkArith.wf_i64 (by omega)
set_option maxRecDepth 100000 in
theorem put_wf {l : List Int} (h : Utf.allGood l = true) : ∀ z ∈ Utf.put l, (Lit.int .u8 z).wf = true := fun z hz => WalkArith.wf_u8 (Utf.put_bytes l h z hz)

set_option maxRecDepth 100000 in
theorem put_ok (a : Option Addr) (n cap : Nat) (zs : List Int) (w : World) (hs : Sl .i64 w a n cap zs) (hn : n ≤ 17592186044416) (hg : Utf.allGood zs = true) :
    Calls Try.prog 65 #[.slice a n cap] w fun e w' => ∃ g c, e = .returned (.tuple #[.slice (some ⟨g, 0, none⟩) (Utf.put zs).length c, .int .i64 0]) ∧
      Sl .u8 w' (some ⟨g, 0, none⟩) (Utf.put zs).length c (Utf.put zs) ∧ Below w.heap.size w w' :=
  (put_any a n cap zs w hs hn).mono fun e w' h => by
    obtain ⟨hb, ⟨_, g, c, he, ho⟩ | ⟨h0, _⟩⟩ := h
    · exact ⟨g, c, he, Sl.of_owns ho (put_wf hg) rfl, hb⟩
    · rw [hg] at h0; cases h0
set_option maxRecDepth 100000 in
theorem put_bad (a : Option Addr) (n cap : Nat) (zs : List Int) (w : World) (hs : Sl .i64 w a n cap zs) (hn : n ≤ 17592186044416) (hg : Utf.allGood zs = false) :
    Calls Try.prog 65 #[.slice a n cap] w fun e w' => e = .returned (.tuple #[.slice none 0 0, .int .i64 10]) ∧ Below w.heap.size w w' :=
  (put_any a n cap zs w hs hn).mono fun e w' h => by
    obtain ⟨hb, ⟨h0, _⟩ | ⟨_, he⟩⟩ := h
    · rw [hg] at h0; cases h0
    · exact ⟨he, hb⟩
set_option maxRecDepth 100000 in
theorem read_ok_of {B : Nat} {zs l : List Int} {w : World} (hl : Utf.IsRead zs (some l)) {e : Ending} {w' : World} (h : ReadPost B zs w e w') :
    ∃ g c, e = .returned (.tuple #[.slice g l.length c, .int .i64 0]) ∧ Sl .i64 w' g l.length c l ∧ Below B w w' := by
  obtain ⟨hb, ⟨l', hl', g, c, he, ho⟩ | ⟨h0, _⟩⟩ := h
  · have := hl'.one hl
    simp only [Option.some.injEq] at this
    subst this
    exact ⟨g, c, he, Sl.of_owns ho (good_wf hl.1) rfl, hb⟩
  · have := h0.one hl; cases this
set_option maxRecDepth 100000 in
theorem read_bad_of {B : Nat} {zs : List Int} {w : World} (hl : Utf.IsRead zs none) {e : Ending} {w' : World} (h : ReadPost B zs w e w') :
    e = .returned (.tuple #[.slice none 0 0, .int .i64 10]) ∧ Below B w w' := by
  obtain ⟨hb, ⟨l', hl', g, c, he, ho⟩ | ⟨_, he⟩⟩ := h
  · have := hl'.one hl; cases this
  · exact ⟨he, hb⟩
set_option maxRecDepth 100000 in
theorem read_ok (a : Option Addr) (n cap : Nat) (zs l : List Int) (w : World) (hs : Sl .u8 w a n cap zs) (hn : n ≤ 17592186044416) (hl : Utf.IsRead zs (some l)) :
    Calls Try.prog 31 #[.slice a n cap] w fun e w' => ∃ g c, e = .returned (.tuple #[.slice g l.length c, .int .i64 0]) ∧ Sl .i64 w' g l.length c l ∧ Below w.heap.size w w' :=
  (uread_any a n cap zs w hs hn).mono fun _ _ h => read_ok_of hl h
set_option maxRecDepth 100000 in
theorem read_bad (a : Option Addr) (n cap : Nat) (zs : List Int) (w : World) (hs : Sl .u8 w a n cap zs) (hn : n ≤ 17592186044416) (hl : Utf.IsRead zs none) :
    Calls Try.prog 31 #[.slice a n cap] w fun e w' => e = .returned (.tuple #[.slice none 0 0, .int .i64 10]) ∧ Below w.heap.size w w' :=
  (uread_any a n cap zs w hs hn).mono fun _ _ h => read_bad_of hl h
set_option maxRecDepth 100000 in
theorem read_or (zs : List Int) : Utf.IsRead zs none ∨ ∃ l, Utf.IsRead zs (some l) := by
  rcases Classical.em (∃ l, Utf.IsRead zs (some l)) with h | h
  · exact .inr h
  · exact .inl fun l hl e => h ⟨l, hl, e⟩
set_option maxRecDepth 100000 in
theorem take_any (a : Option Addr) (n cap : Nat) (zs : List Int) (w : World) (hs : Sl .u8 w a n cap zs) :
    Calls Try.prog 55 #[.slice a n cap] w fun e w' => e = .returned (takeV (Utf.takeL zs)) ∧ Below w.heap.size w w' := by
  cases zs with
  | nil =>
    obtain rfl : 0 = n := hs.1
    exact (take_nil a cap w).mono fun e w' h => ⟨h.1, by obtain ⟨m, hm⟩ := h.2; rw [hm]; exact below_drewN (Below.refl _ _) m⟩
  | cons c rest =>
    obtain ⟨b, off, rfl, _⟩ := hs.at (by have := hs.1; simp at this; omega)
    exact take_below b off n cap c rest w hs
set_option maxRecDepth 100000 in
theorem Sl.newi {w : World} {t : TypeId} (zs : List Int) (hw : ∀ z ∈ zs, (Lit.int .i64 z).wf = true) (hl : zs.length ≤ maxLen) : Sl .i64 (w.alloc (.cells (i64s zs).toArray t)) (some ⟨w.heap.size, 0, none⟩) zs.length zs.length zs := by
  refine ⟨rfl, Nat.le_refl _, hl, hw, .inr ⟨w.heap.size, 0, rfl, fun i hi => ?_⟩⟩
  rw [cell_of_row _ w.heap.size _ _ t (0, 0) (heap_alloc_new w _)]
  simp [i64s, hi]

set_option maxRecDepth 100000 in
theorem put_is (a : Option Addr) (n cap : Nat) (zs bs : List Int) (m : Nat) (w : World) (hs : Sl .i64 w a n cap zs) (hn : n ≤ 17592186044416) (hg : Utf.allGood zs = true) (hp : Utf.put zs = bs) (hm : bs.length = m) :
    Calls Try.prog 65 #[.slice a n cap] w fun e w' => ∃ g c, e = .returned (.tuple #[.slice (some ⟨g, 0, none⟩) m c, .int .i64 0]) ∧ Sl .u8 w' (some ⟨g, 0, none⟩) m c bs ∧ Below w.heap.size w w' := by
  subst hm; subst hp
  exact put_ok a n cap zs w hs hn hg
set_option maxRecDepth 100000 in
theorem read_is (a : Option Addr) (n cap : Nat) (zs l : List Int) (m : Nat) (w : World) (hs : Sl .u8 w a n cap zs) (hn : n ≤ 17592186044416) (hl : Utf.IsRead zs (some l)) (hm : l.length = m) :
    Calls Try.prog 31 #[.slice a n cap] w fun e w' => ∃ g c, e = .returned (.tuple #[.slice g m c, .int .i64 0]) ∧ Sl .i64 w' g m c l ∧ Below w.heap.size w w' := by
  subst hm
  exact read_ok a n cap zs l w hs hn hl
set_option maxRecDepth 100000 in
theorem take_is (a : Option Addr) (n cap : Nat) (zs : List Int) (s : Int) (k : Nat) (w : World) (hs : Sl .u8 w a n cap zs) (h : Utf.takeL zs = some (s, k)) :
    Calls Try.prog 55 #[.slice a n cap] w fun e w' => e = .returned (.tuple #[.int .i64 s, .int .i64 k, .int .i64 0]) ∧ Below w.heap.size w w' :=
  (take_any a n cap zs w hs).mono fun e w' hh => ⟨by rw [hh.1, h]; rfl, hh.2⟩
set_option maxRecDepth 100000 in
theorem take_not (a : Option Addr) (n cap : Nat) (zs : List Int) (w : World) (hs : Sl .u8 w a n cap zs) (h : Utf.takeL zs = none) :
    Calls Try.prog 55 #[.slice a n cap] w fun e w' => e = .returned (.tuple #[.int .i64 0, .int .i64 0, .int .i64 10]) ∧ Below w.heap.size w w' :=
  (take_any a n cap zs w hs).mono fun e w' hh => ⟨by rw [hh.1, h]; rfl, hh.2⟩
set_option maxRecDepth 100000 in
theorem good_is (n : Int) (r : Bool) (w : World) (h : Utf.good n = r) (h0 : -9223372036854775808 ≤ n) (h1 : n ≤ 9223372036854775807) :
    Calls Try.prog 79 #[.int .i64 n] w fun e w' => e = .returned (.bool r) ∧ w = w' := by
  subst h
  exact good_any n w h0 h1

set_option maxRecDepth 100000 in
theorem isRead_228 : Utf.IsRead [195, 164, 226, 130, 172, 65] (some [228, 8364, 65]) := ⟨by decide, by decide⟩
set_option maxRecDepth 100000 in
theorem isRead_192 : Utf.IsRead [192, 128] none :=
  Utf.read_stop (d := []) (rs := [192, 128]) (by decide) rfl (by decide) (by have := Utf.takeL_is [192, 128] (by decide); rwa [show Utf.takeL [192, 128] = none from by decide] at this)


end Go.Proofs.Ytdondndalpmdgaa

/- Put and Read told in one, whether there are signs or not: for laws that go on the same way. -/
namespace Go.Proofs.Ytdondndalpmdgaa
open Go.RowKit

set_option maxRecDepth 100000 in
theorem put_both (a : Option Addr) (n cap : Nat) (zs : List Int) (w : World) (hs : Sl .i64 w a n cap zs) (hn : n ≤ 17592186044416) :
    Calls Try.prog 65 #[.slice a n cap] w fun e w' => ∃ (a' : Option Addr) (m c : Nat) (er : Int), e = .returned (.tuple #[.slice a' m c, .int .i64 er]) ∧
      ((Utf.allGood zs = true ∧ er = 0 ∧ m = (Utf.put zs).length ∧ Sl .u8 w' a' m c (Utf.put zs)) ∨ (Utf.allGood zs = false ∧ er = 10 ∧ m = 0 ∧ c = 0 ∧ a' = none)) ∧ Below w.heap.size w w' := by
  cases hg : Utf.allGood zs with
  | true =>
    refine (put_ok a n cap zs w hs hn hg).mono ?_
    rintro e w' ⟨g, c, rfl, h, hb⟩
    exact ⟨some ⟨g, 0, none⟩, _, c, 0, rfl, .inl ⟨rfl, rfl, rfl, h⟩, hb⟩
  | false =>
    refine (put_bad a n cap zs w hs hn hg).mono ?_
    rintro e w' ⟨rfl, hb⟩
    exact ⟨none, 0, 0, 10, rfl, .inr ⟨rfl, rfl, rfl, rfl, rfl⟩, hb⟩

/-- what Put answers: its bytes, and its error -/
def PutIs (zs bs : List Int) (er : Int) : Prop := (Utf.allGood zs = true ∧ bs = Utf.put zs ∧ er = 0) ∨ (Utf.allGood zs = false ∧ bs = [] ∧ er = 10)
set_option maxRecDepth 100000 in
theorem putIs_ex (zs : List Int) : ∃ bs er, PutIs zs bs er := by
  cases h : Utf.allGood zs with
  | true => exact ⟨_, _, .inl ⟨h, rfl, rfl⟩⟩
  | false => exact ⟨_, _, .inr ⟨h, rfl, rfl⟩⟩
set_option maxRecDepth 100000 in
theorem PutIs.wf {zs bs : List Int} {er : Int} (h : PutIs zs bs er) : ∀ z ∈ bs, 0 ≤ z ∧ z ≤ 255 := by
  obtain ⟨h1, rfl, _⟩ | ⟨_, rfl, _⟩ := h
  · exact Utf.put_bytes zs h1
  · simp
set_option maxRecDepth 100000 in
theorem PutIs.le {zs bs : List Int} {er : Int} (h : PutIs zs bs er) : bs.length ≤ 4 * zs.length := by
  obtain ⟨_, rfl, _⟩ | ⟨_, rfl, _⟩ := h
  · exact Utf.put_length_le zs
  · simp
set_option maxRecDepth 100000 in
theorem put_gen (a : Option Addr) (n cap : Nat) (zs bs : List Int) (er : Int) (w : World) (h : PutIs zs bs er) (hs : Sl .i64 w a n cap zs) (hn : n ≤ 17592186044416) :
    Calls Try.prog 65 #[.slice a n cap] w fun e w' => ∃ (a' : Option Addr) (c : Nat), e = .returned (.tuple #[.slice a' bs.length c, .int .i64 er]) ∧ Sl .u8 w' a' bs.length c bs ∧ Below w.heap.size w w' := by
  obtain ⟨h1, rfl, rfl⟩ | ⟨h1, rfl, rfl⟩ := h
  · refine (put_ok a n cap zs w hs hn h1).mono ?_
    rintro e w' ⟨g, c, rfl, h, hb⟩
    exact ⟨_, c, rfl, h, hb⟩
  · refine (put_bad a n cap zs w hs hn h1).mono ?_
    rintro e w' ⟨rfl, hb⟩
    exact ⟨none, 0, rfl, ⟨rfl, Nat.le_refl _, by decide, by simp, .inl rfl⟩, hb⟩
/-- what Read answers: its signs, and its error -/
def ReadIs (zs l : List Int) (er : Int) : Prop := (Utf.IsRead zs (some l) ∧ er = 0) ∨ (Utf.IsRead zs none ∧ l = [] ∧ er = 10)
set_option maxRecDepth 100000 in
theorem readIs_ex (zs : List Int) : ∃ l er, ReadIs zs l er := by
  rcases read_or zs with h | ⟨l, h⟩
  · exact ⟨_, _, .inr ⟨h, rfl, rfl⟩⟩
  · exact ⟨_, _, .inl ⟨h, rfl⟩⟩
set_option maxRecDepth 100000 in
theorem read_gen (a : Option Addr) (n cap : Nat) (zs l : List Int) (er : Int) (w : World) (h : ReadIs zs l er) (hs : Sl .u8 w a n cap zs) (hn : n ≤ 17592186044416) :
    Calls Try.prog 31 #[.slice a n cap] w fun e w' => ∃ (a' : Option Addr) (c : Nat), e = .returned (.tuple #[.slice a' l.length c, .int .i64 er]) ∧ Sl .i64 w' a' l.length c l ∧ Below w.heap.size w w' := by
  obtain ⟨h1, rfl⟩ | ⟨h1, rfl, rfl⟩ := h
  · exact read_ok a n cap zs l w hs hn h1
  · refine (read_bad a n cap zs w hs hn h1).mono ?_
    rintro e w' ⟨rfl, hb⟩
    exact ⟨none, 0, rfl, ⟨rfl, Nat.le_refl _, by decide, by simp, .inl rfl⟩, hb⟩
/-- what Take answers: the sign, how many bytes, the error -/
def TakeIs (zs : List Int) (s : Int) (k : Nat) (er : Int) : Prop := (Utf.takeL zs = some (s, k) ∧ er = 0) ∨ (Utf.takeL zs = none ∧ s = 0 ∧ k = 0 ∧ er = 10)
set_option maxRecDepth 100000 in
theorem takeIs_ex (zs : List Int) : ∃ s k er, TakeIs zs s k er := by
  cases h : Utf.takeL zs with
  | none => exact ⟨_, _, _, .inr ⟨h, rfl, rfl, rfl⟩⟩
  | some p => exact ⟨p.1, p.2, _, .inl ⟨h, rfl⟩⟩
set_option maxRecDepth 100000 in
theorem TakeIs.v {zs : List Int} {s : Int} {k : Nat} {er : Int} (h : TakeIs zs s k er) : takeV (Utf.takeL zs) = .tuple #[.int .i64 s, .int .i64 k, .int .i64 er] := by
  obtain ⟨h1, rfl⟩ | ⟨h1, rfl, rfl, rfl⟩ := h
  · rw [h1]; rfl
  · rw [h1]; rfl
set_option maxRecDepth 100000 in
theorem take_gen (a : Option Addr) (n cap : Nat) (zs : List Int) (s : Int) (k : Nat) (er : Int) (w : World) (h : TakeIs zs s k er) (hs : Sl .u8 w a n cap zs) :
    Calls Try.prog 55 #[.slice a n cap] w fun e w' => e = .returned (.tuple #[.int .i64 s, .int .i64 k, .int .i64 er]) ∧ Below w.heap.size w w' :=
  (take_any a n cap zs w hs).mono fun e w' hh => ⟨by rw [hh.1, h.v], hh.2⟩
end Go.Proofs.Ytdondndalpmdgaa
