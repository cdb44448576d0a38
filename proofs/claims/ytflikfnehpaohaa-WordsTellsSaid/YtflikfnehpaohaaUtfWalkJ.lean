/- The contracts of package utf as the laws use them; and awake, the head of all laws: it answers true. -/
import Derived.Test.YtflikfnehpaohaaUtfWalkI
namespace Go.Proofs.Ytflikfnehpaohaa
open Go.RowKit

set_option maxRecDepth 100000 in
theorem good_wf {l : List Int} (h : Utf.allGood l = true) : ∀ z ∈ l, (Lit.int .i64 z).wf = true := by
  intro z hz
  have := (Utf.good_iff z).1 (by simpa using (List.all_eq_true.1 h) z hz)
  exact WalkArith.wf_i64 (by omega)
set_option maxRecDepth 100000 in
theorem put_wf {l : List Int} (h : Utf.allGood l = true) : ∀ z ∈ Utf.put l, (Lit.int .u8 z).wf = true := fun z hz => WalkArith.wf_u8 (Utf.put_bytes l h z hz)

set_option maxRecDepth 100000 in
theorem put_ok (a : Option Addr) (n cap : Nat) (zs : List Int) (w : World) (hs : Sl .i64 w a n cap zs) (hn : n ≤ 17592186044416) (hg : Utf.allGood zs = true) :
    Calls Try.prog 35 #[.slice a n cap] w fun e w' => ∃ g c, e = .returned (.tuple #[.slice (some ⟨g, 0, none⟩) (Utf.put zs).length c, .int .i64 0]) ∧
      Sl .u8 w' (some ⟨g, 0, none⟩) (Utf.put zs).length c (Utf.put zs) ∧ Below w.heap.size w w' :=
  (put_any a n cap zs w hs hn).mono fun e w' h => by
    obtain ⟨hb, ⟨_, g, c, he, ho⟩ | ⟨h0, _⟩⟩ := h
    · exact ⟨g, c, he, Sl.of_owns ho (put_wf hg) rfl, hb⟩
    · rw [hg] at h0; cases h0
set_option maxRecDepth 100000 in
theorem put_bad (a : Option Addr) (n cap : Nat) (zs : List Int) (w : World) (hs : Sl .i64 w a n cap zs) (hn : n ≤ 17592186044416) (hg : Utf.allGood zs = false) :
    Calls Try.prog 35 #[.slice a n cap] w fun e w' => e = .returned (.tuple #[.slice none 0 0, .int .i64 10]) ∧ Below w.heap.size w w' :=
  (put_any a n cap zs w hs hn).mono fun e w' h => by
    obtain ⟨hb, ⟨h0, _⟩ | ⟨_, he⟩⟩ := h
    · rw [hg] at h0; cases h0
    · exact ⟨he, hb⟩
set_option maxRecDepth 100000 in
theorem rput_ok (a : Option Addr) (n cap : Nat) (zs : List Int) (w : World) (hs : Sl .i64 w a n cap zs) (hn : n ≤ 17592186044416) (hg : Utf.allGood zs = true) :
    Calls Try.prog 37 #[.slice a n cap] w fun e w' => ∃ g c, e = .returned (.tuple #[.slice g (Utf.put zs).length c, .int .i64 0]) ∧
      Sl .u8 w' g (Utf.put zs).length c (Utf.put zs) ∧ Below w.heap.size w w' :=
  (rput_any a n cap zs w hs hn).mono fun e w' h => by
    obtain ⟨hb, ⟨_, g, c, he, ho⟩ | ⟨h0, _⟩⟩ := h
    · exact ⟨g, c, he, Sl.of_owns ho (put_wf hg) rfl, hb⟩
    · rw [hg] at h0; cases h0
set_option maxRecDepth 100000 in
theorem rput_bad (a : Option Addr) (n cap : Nat) (zs : List Int) (w : World) (hs : Sl .i64 w a n cap zs) (hn : n ≤ 17592186044416) (hg : Utf.allGood zs = false) :
    Calls Try.prog 37 #[.slice a n cap] w fun e w' => e = .returned (.tuple #[.slice none 0 0, .int .i64 10]) ∧ Below w.heap.size w w' :=
  (rput_any a n cap zs w hs hn).mono fun e w' h => by
    obtain ⟨hb, ⟨h0, _⟩ | ⟨_, he⟩⟩ := h
    · rw [hg] at h0; cases h0
    · exact ⟨he, hb⟩
set_option maxRecDepth 100000 in
theorem read_ok_of {B : Nat} {zs l : List Int} {w : World} (hl : Utf.IsRead zs (some l)) {e : Ending} {w' : World} (h : ReadPost B zs w e w') :
    ∃ g c, e = .returned (.tuple #[.slice g l.length c, .int .i64 0]) ∧ Sl .i64 w' g l.length c l ∧ Below B w w' := by
  obtain ⟨hb, ⟨l', hl', g, c, he, ho⟩ | ⟨h0, _⟩⟩ := h
  · have := hl'.one hl
    simp only [Option.some.injEq] at this
    subst this
    exact ⟨g, c, he, Sl.of_owns ho (good_wf hl.1) rfl, hb⟩
  · have := h0.one hl; cases this
set_option maxRecDepth 100000 in
theorem read_bad_of {B : Nat} {zs : List Int} {w : World} (hl : Utf.IsRead zs none) {e : Ending} {w' : World} (h : ReadPost B zs w e w') :
    e = .returned (.tuple #[.slice none 0 0, .int .i64 10]) ∧ Below B w w' := by
  obtain ⟨hb, ⟨l', hl', g, c, he, ho⟩ | ⟨_, he⟩⟩ := h
  · have := hl'.one hl; cases this
  · exact ⟨he, hb⟩
set_option maxRecDepth 100000 in
theorem read_ok (a : Option Addr) (n cap : Nat) (zs l : List Int) (w : World) (hs : Sl .u8 w a n cap zs) (hn : n ≤ 17592186044416) (hl : Utf.IsRead zs (some l)) :
    Calls Try.prog 20 #[.slice a n cap] w fun e w' => ∃ g c, e = .returned (.tuple #[.slice g l.length c, .int .i64 0]) ∧ Sl .i64 w' g l.length c l ∧ Below w.heap.size w w' :=
  (uread_any a n cap zs w hs hn).mono fun _ _ h => read_ok_of hl h
set_option maxRecDepth 100000 in
theorem read_bad (a : Option Addr) (n cap : Nat) (zs : List Int) (w : World) (hs : Sl .u8 w a n cap zs) (hn : n ≤ 17592186044416) (hl : Utf.IsRead zs none) :
    Calls Try.prog 20 #[.slice a n cap] w fun e w' => e = .returned (.tuple #[.slice none 0 0, .int .i64 10]) ∧ Below w.heap.size w w' :=
  (uread_any a n cap zs w hs hn).mono fun _ _ h => read_bad_of hl h
set_option maxRecDepth 100000 in
theorem rread_ok (a : Option Addr) (n cap : Nat) (zs l : List Int) (w : World) (hs : Sl .u8 w a n cap zs) (hn : n ≤ 17592186044416) (hl : Utf.IsRead zs (some l)) :
    Calls Try.prog 31 #[.slice a n cap] w fun e w' => ∃ g c, e = .returned (.tuple #[.slice g l.length c, .int .i64 0]) ∧ Sl .i64 w' g l.length c l ∧ Below w.heap.size w w' :=
  (ruread_any a n cap zs w hs hn).mono fun _ _ h => read_ok_of hl h
set_option maxRecDepth 100000 in
theorem rread_bad (a : Option Addr) (n cap : Nat) (zs : List Int) (w : World) (hs : Sl .u8 w a n cap zs) (hn : n ≤ 17592186044416) (hl : Utf.IsRead zs none) :
    Calls Try.prog 31 #[.slice a n cap] w fun e w' => e = .returned (.tuple #[.slice none 0 0, .int .i64 10]) ∧ Below w.heap.size w w' :=
  (ruread_any a n cap zs w hs hn).mono fun _ _ h => read_bad_of hl h
set_option maxRecDepth 100000 in
theorem read_or (zs : List Int) : Utf.IsRead zs none ∨ ∃ l, Utf.IsRead zs (some l) := by
  rcases Classical.em (∃ l, Utf.IsRead zs (some l)) with h | h
  · exact .inr h
  · exact .inl fun l hl e => h ⟨l, hl, e⟩
set_option maxRecDepth 100000 in
theorem take_any (a : Option Addr) (n cap : Nat) (zs : List Int) (w : World) (hs : Sl .u8 w a n cap zs) :
    Calls Try.prog 45 #[.slice a n cap] w fun e w' => e = .returned (takeV (Utf.takeL zs)) ∧ Below w.heap.size w w' := by
  cases zs with
  | nil =>
    obtain rfl : 0 = n := hs.1
    exact (take_nil a cap w).mono fun e w' h => ⟨h.1, by obtain ⟨m, hm⟩ := h.2; rw [hm]; exact below_drewN (Below.refl _ _) m⟩
  | cons c rest =>
    obtain ⟨b, off, rfl, _⟩ := hs.at (by have := hs.1; simp at this; omega)
    exact take_below b off n cap c rest w hs
set_option maxRecDepth 100000 in
theorem rtake_any (a : Option Addr) (n cap : Nat) (zs : List Int) (w : World) (hs : Sl .u8 w a n cap zs) :
    Calls Try.prog 54 #[.slice a n cap] w fun e w' => e = .returned (takeV (Utf.takeL zs)) ∧ Below w.heap.size w w' := by
  cases zs with
  | nil =>
    obtain rfl : 0 = n := hs.1
    exact rtake_nil a cap w
  | cons c rest =>
    obtain ⟨b, off, rfl, _⟩ := hs.at (by have := hs.1; simp at this; omega)
    exact rtake_some b off n cap c rest w hs
set_option maxRecDepth 100000 in
theorem Sl.newi {w : World} {t : TypeId} (zs : List Int) (hw : ∀ z ∈ zs, (Lit.int .i64 z).wf = true) (hl : zs.length ≤ maxLen) : Sl .i64 (w.alloc (.cells (i64s zs).toArray t)) (some ⟨w.heap.size, 0, none⟩) zs.length zs.length zs := by
  refine ⟨rfl, Nat.le_refl _, hl, hw, .inr ⟨w.heap.size, 0, rfl, fun i hi => ?_⟩⟩
  rw [cell_of_row _ w.heap.size _ _ t (0, 0) (heap_alloc_new w _)]
  simp [i64s, hi]

set_option maxRecDepth 100000 in
theorem put_is (a : Option Addr) (n cap : Nat) (zs bs : List Int) (m : Nat) (w : World) (hs : Sl .i64 w a n cap zs) (hn : n ≤ 17592186044416) (hg : Utf.allGood zs = true) (hp : Utf.put zs = bs) (hm : bs.length = m) :
    Calls Try.prog 35 #[.slice a n cap] w fun e w' => ∃ g c, e = .returned (.tuple #[.slice (some ⟨g, 0, none⟩) m c, .int .i64 0]) ∧ Sl .u8 w' (some ⟨g, 0, none⟩) m c bs ∧ Below w.heap.size w w' := by
  subst hm; subst hp
  exact put_ok a n cap zs w hs hn hg
set_option maxRecDepth 100000 in
theorem read_is (a : Option Addr) (n cap : Nat) (zs l : List Int) (m : Nat) (w : World) (hs : Sl .u8 w a n cap zs) (hn : n ≤ 17592186044416) (hl : Utf.IsRead zs (some l)) (hm : l.length = m) :
    Calls Try.prog 20 #[.slice a n cap] w fun e w' => ∃ g c, e = .returned (.tuple #[.slice g m c, .int .i64 0]) ∧ Sl .i64 w' g m c l ∧ Below w.heap.size w w' := by
  subst hm
  exact read_ok a n cap zs l w hs hn hl
set_option maxRecDepth 100000 in
theorem take_is (a : Option Addr) (n cap : Nat) (zs : List Int) (s : Int) (k : Nat) (w : World) (hs : Sl .u8 w a n cap zs) (h : Utf.takeL zs = some (s, k)) :
    Calls Try.prog 45 #[.slice a n cap] w fun e w' => e = .returned (.tuple #[.int .i64 s, .int .i64 k, .int .i64 0]) ∧ Below w.heap.size w w' :=
  (take_any a n cap zs w hs).mono fun e w' hh => ⟨by rw [hh.1, h]; rfl, hh.2⟩
set_option maxRecDepth 100000 in
theorem take_not (a : Option Addr) (n cap : Nat) (zs : List Int) (w : World) (hs : Sl .u8 w a n cap zs) (h : Utf.takeL zs = none) :
    Calls Try.prog 45 #[.slice a n cap] w fun e w' => e = .returned (.tuple #[.int .i64 0, .int .i64 0, .int .i64 10]) ∧ Below w.heap.size w w' :=
  (take_any a n cap zs w hs).mono fun e w' hh => ⟨by rw [hh.1, h]; rfl, hh.2⟩
set_option maxRecDepth 100000 in
theorem good_is (n : Int) (r : Bool) (w : World) (h : Utf.good n = r) (h0 : -9223372036854775808 ≤ n) (h1 : n ≤ 9223372036854775807) :
    Calls Try.prog 55 #[.int .i64 n] w fun e w' => e = .returned (.bool r) ∧ w = w' := by
  subst h
  exact good_any n w h0 h1

set_option maxRecDepth 100000 in
theorem isRead_228 : Utf.IsRead [195, 164, 226, 130, 172, 65] (some [228, 8364, 65]) := ⟨by decide, by decide⟩
set_option maxRecDepth 100000 in
theorem isRead_192 : Utf.IsRead [192, 128] none :=
  Utf.read_stop (d := []) (rs := [192, 128]) (by decide) rfl (by decide) (by have := Utf.takeL_is [192, 128] (by decide); rwa [show Utf.takeL [192, 128] = none from by decide] at this)


end Go.Proofs.Ytflikfnehpaohaa
