/- The contracts of package utf as the laws use them; and awake, the head of all laws: it answers true. -/
import Derived.Test.YtkamlhkieblnoaaUtfWalkI
namespace Go.Proofs.Ytkamlhkieblnoaa
open Go.RowKit

theorem good_wf {l : List Int} (h : Utf.allGood l = true) : ∀ z ∈ l, (Lit.int .i64 z).wf = true := by
  intro z hz
  have := (Utf.good_iff z).1 (by simpa using (List.all_eq_true.1 h) z hz)
  exact WalkArith.wf_i64 (by omega)
theorem put_wf {l : List Int} (h : Utf.allGood l = true) : ∀ z ∈ Utf.put l, (Lit.int .u8 z).wf = true := fun z hz => WalkArith.wf_u8 (Utf.put_bytes l h z hz)

theorem put_ok (a : Option Addr) (n cap : Nat) (zs : List Int) (w : World) (hs : Sl .i64 w a n cap zs) (hn : n ≤ 17592186044416) (hg : Utf.allGood zs = true) :
    Calls Try.prog 11 #[.slice a n cap] w fun e w' => ∃ g c, e = .returned (.tuple #[.slice (some ⟨g, 0, none⟩) (Utf.put zs).length c, .int .i64 0]) ∧
      Sl .u8 w' (some ⟨g, 0, none⟩) (Utf.put zs).length c (Utf.put zs) ∧ Below w.heap.size w w' :=
  (put_any a n cap zs w hs hn).mono fun e w' h => by
    obtain ⟨hb, ⟨_, g, c, he, ho⟩ | ⟨h0, _⟩⟩ := h
    · exact ⟨g, c, he, Sl.of_owns ho (put_wf hg) rfl, hb⟩
    · rw [hg] at h0; cases h0
theorem put_bad (a : Option Addr) (n cap : Nat) (zs : List Int) (w : World) (hs : Sl .i64 w a n cap zs) (hn : n ≤ 17592186044416) (hg : Utf.allGood zs = false) :
    Calls Try.prog 11 #[.slice a n cap] w fun e w' => e = .returned (.tuple #[.slice none 0 0, .int .i64 10]) ∧ Below w.heap.size w w' :=
  (put_any a n cap zs w hs hn).mono fun e w' h => by
    obtain ⟨hb, ⟨h0, _⟩ | ⟨_, he⟩⟩ := h
    · rw [hg] at h0; cases h0
    · exact ⟨he, hb⟩
theorem rput_ok (a : Option Addr) (n cap : Nat) (zs : List Int) (w : World) (hs : Sl .i64 w a n cap zs) (hn : n ≤ 17592186044416) (hg : Utf.allGood zs = true) :
    Calls Try.prog 12 #[.slice a n cap] w fun e w' => ∃ g c, e = .returned (.tuple #[.slice g (Utf.put zs).length c, .int .i64 0]) ∧
      Sl .u8 w' g (Utf.put zs).length c (Utf.put zs) ∧ Below w.heap.size w w' :=
  (rput_any a n cap zs w hs hn).mono fun e w' h => by
    obtain ⟨hb, ⟨_, g, c, he, ho⟩ | ⟨h0, _⟩⟩ := h
    · exact ⟨g, c, he, Sl.of_owns ho (put_wf hg) rfl, hb⟩
    · rw [hg] at h0; cases h0
theorem rput_bad (a : Option Addr) (n cap : Nat) (zs : List Int) (w : World) (hs : Sl .i64 w a n cap zs) (hn : n ≤ 17592186044416) (hg : Utf.allGood zs = false) :
    Calls Try.prog 12 #[.slice a n cap] w fun e w' => e = .returned (.tuple #[.slice none 0 0, .int .i64 10]) ∧ Below w.heap.size w w' :=
  (rput_any a n cap zs w hs hn).mono fun e w' h => by
    obtain ⟨hb, ⟨h0, _⟩ | ⟨_, he⟩⟩ := h
    · rw [hg] at h0; cases h0
    · exact ⟨he, hb⟩
theorem read_ok_of {B : Nat} {zs l : List Int} {w : World} (hl : Utf.IsRead zs (some l)) {e : Ending} {w' : World} (h : ReadPost B zs w e w') :
    ∃ g c, e = .returned (.tuple #[.slice g l.length c, .int .i64 0]) ∧ Sl .i64 w' g l.length c l ∧ Below B w w' := by
  obtain ⟨hb, ⟨l', hl', g, c, he, ho⟩ | ⟨h0, _⟩⟩ := h
  · have := hl'.one hl
    simp only [Option.some.injEq] at this
    subst this
    exact ⟨g, c, he, Sl.of_owns ho (good_wf hl.1) rfl, hb⟩
  · have := h0.one hl; cases this
theorem read_bad_of {B : Nat} {zs : List Int} {w : World} (hl : Utf.IsRead zs none) {e : Ending} {w' : World} (h : ReadPost B zs w e w') :
    e = .returned (.tuple #[.slice none 0 0, .int .i64 10]) ∧ Below B w w' := by
  obtain ⟨hb, ⟨l', hl', g, c, he, ho⟩ | ⟨_, he⟩⟩ := h
  · have := hl'.one hl; cases this
  · exact ⟨he, hb⟩
theorem read_ok (a : Option Addr) (n cap : Nat) (zs l : List Int) (w : World) (hs : Sl .u8 w a n cap zs) (hn : n ≤ 17592186044416) (hl : Utf.IsRead zs (some l)) :
    Calls Try.prog 15 #[.slice a n cap] w fun e w' => ∃ g c, e = .returned (.tuple #[.slice g l.length c, .int .i64 0]) ∧ Sl .i64 w' g l.length c l ∧ Below w.heap.size w w' :=
  (read_any a n cap zs w hs hn).mono fun _ _ h => read_ok_of hl h
theorem read_bad (a : Option Addr) (n cap : Nat) (zs : List Int) (w : World) (hs : Sl .u8 w a n cap zs) (hn : n ≤ 17592186044416) (hl : Utf.IsRead zs none) :
    Calls Try.prog 15 #[.slice a n cap] w fun e w' => e = .returned (.tuple #[.slice none 0 0, .int .i64 10]) ∧ Below w.heap.size w w' :=
  (read_any a n cap zs w hs hn).mono fun _ _ h => read_bad_of hl h
theorem rread_ok (a : Option Addr) (n cap : Nat) (zs l : List Int) (w : World) (hs : Sl .u8 w a n cap zs) (hn : n ≤ 17592186044416) (hl : Utf.IsRead zs (some l)) :
    Calls Try.prog 16 #[.slice a n cap] w fun e w' => ∃ g c, e = .returned (.tuple #[.slice g l.length c, .int .i64 0]) ∧ Sl .i64 w' g l.length c l ∧ Below w.heap.size w w' :=
  (rread_any a n cap zs w hs hn).mono fun _ _ h => read_ok_of hl h
theorem rread_bad (a : Option Addr) (n cap : Nat) (zs : List Int) (w : World) (hs : Sl .u8 w a n cap zs) (hn : n ≤ 17592186044416) (hl : Utf.IsRead zs none) :
    Calls Try.prog 16 #[.slice a n cap] w fun e w' => e = .returned (.tuple #[.slice none 0 0, .int .i64 10]) ∧ Below w.heap.size w w' :=
  (rread_any a n cap zs w hs hn).mono fun _ _ h => read_bad_of hl h
theorem read_or (zs : List Int) : Utf.IsRead zs none ∨ ∃ l, Utf.IsRead zs (some l) := by
  rcases Classical.em (∃ l, Utf.IsRead zs (some l)) with h | h
  · exact .inr h
  · exact .inl fun l hl e => h ⟨l, hl, e⟩
theorem take_any (a : Option Addr) (n cap : Nat) (zs : List Int) (w : World) (hs : Sl .u8 w a n cap zs) :
    Calls Try.prog 13 #[.slice a n cap] w fun e w' => e = .returned (takeV (Utf.takeL zs)) ∧ Below w.heap.size w w' := by
  cases zs with
  | nil =>
    obtain rfl : 0 = n := hs.1
    exact (take_nil a cap w).mono fun e w' h => ⟨h.1, by obtain ⟨m, hm⟩ := h.2; rw [hm]; exact below_drewN (Below.refl _ _) m⟩
  | cons c rest =>
    obtain ⟨b, off, rfl, _⟩ := hs.at (by have := hs.1; simp at this; omega)
    exact take_below b off n cap c rest w hs
theorem rtake_any (a : Option Addr) (n cap : Nat) (zs : List Int) (w : World) (hs : Sl .u8 w a n cap zs) :
    Calls Try.prog 14 #[.slice a n cap] w fun e w' => e = .returned (takeV (Utf.takeL zs)) ∧ Below w.heap.size w w' := by
  cases zs with
  | nil =>
    obtain rfl : 0 = n := hs.1
    exact rtake_nil a cap w
  | cons c rest =>
    obtain ⟨b, off, rfl, _⟩ := hs.at (by have := hs.1; simp at this; omega)
    exact rtake_some b off n cap c rest w hs
theorem Sl.newi {w : World} {t : TypeId} (zs : List Int) (hw : ∀ z ∈ zs, (Lit.int .i64 z).wf = true) (hl : zs.length ≤ maxLen) : Sl .i64 (w.alloc (.cells (i64s zs).toArray t)) (some ⟨w.heap.size, 0, none⟩) zs.length zs.length zs := by
  refine ⟨rfl, Nat.le_refl _, hl, hw, .inr ⟨w.heap.size, 0, rfl, fun i hi => ?_⟩⟩
  rw [cell_of_row _ w.heap.size _ _ t (0, 0) (heap_alloc_new w _)]
  simp [i64s, hi]

theorem put_is (a : Option Addr) (n cap : Nat) (zs bs : List Int) (m : Nat) (w : World) (hs : Sl .i64 w a n cap zs) (hn : n ≤ 17592186044416) (hg : Utf.allGood zs = true) (hp : Utf.put zs = bs) (hm : bs.length = m) :
    Calls Try.prog 11 #[.slice a n cap] w fun e w' => ∃ g c, e = .returned (.tuple #[.slice (some ⟨g, 0, none⟩) m c, .int .i64 0]) ∧ Sl .u8 w' (some ⟨g, 0, none⟩) m c bs ∧ Below w.heap.size w w' := by
  subst hm; subst hp
  exact put_ok a n cap zs w hs hn hg
theorem read_is (a : Option Addr) (n cap : Nat) (zs l : List Int) (m : Nat) (w : World) (hs : Sl .u8 w a n cap zs) (hn : n ≤ 17592186044416) (hl : Utf.IsRead zs (some l)) (hm : l.length = m) :
    Calls Try.prog 15 #[.slice a n cap] w fun e w' => ∃ g c, e = .returned (.tuple #[.slice g m c, .int .i64 0]) ∧ Sl .i64 w' g m c l ∧ Below w.heap.size w w' := by
  subst hm
  exact read_ok a n cap zs l w hs hn hl
theorem take_is (a : Option Addr) (n cap : Nat) (zs : List Int) (s : Int) (k : Nat) (w : World) (hs : Sl .u8 w a n cap zs) (h : Utf.takeL zs = some (s, k)) :
    Calls Try.prog 13 #[.slice a n cap] w fun e w' => e = .returned (.tuple #[.int .i64 s, .int .i64 k, .int .i64 0]) ∧ Below w.heap.size w w' :=
  (take_any a n cap zs w hs).mono fun e w' hh => ⟨by rw [hh.1, h]; rfl, hh.2⟩
theorem take_not (a : Option Addr) (n cap : Nat) (zs : List Int) (w : World) (hs : Sl .u8 w a n cap zs) (h : Utf.takeL zs = none) :
    Calls Try.prog 13 #[.slice a n cap] w fun e w' => e = .returned (.tuple #[.int .i64 0, .int .i64 0, .int .i64 10]) ∧ Below w.heap.size w w' :=
  (take_any a n cap zs w hs).mono fun e w' hh => ⟨by rw [hh.1, h]; rfl, hh.2⟩
theorem same_is (a b : Option Addr) (n m cap cap2 : Nat) (xs ys : List Int) (r : Bool) (w : World) (ha : Sl .i64 w a n cap xs) (hb : Sl .i64 w b m cap2 ys) (h : decide (xs = ys) = r) :
    Calls Try.prog 17 #[.slice a n cap, .slice b m cap2] w fun e w' => e = .returned (.bool r) ∧ ∃ q, w' = w.drewN q := by
  subst h
  exact same_any a b n m cap cap2 xs ys w ha hb
theorem good_is (n : Int) (r : Bool) (w : World) (h : Utf.good n = r) (h0 : -9223372036854775808 ≤ n) (h1 : n ≤ 9223372036854775807) :
    Calls Try.prog 18 #[.int .i64 n] w fun e w' => e = .returned (.bool r) ∧ w = w' := by
  subst h
  exact good_any n w h0 h1

theorem isRead_228 : Utf.IsRead [195, 164, 226, 130, 172, 65] (some [228, 8364, 65]) := ⟨by decide, by decide⟩
theorem isRead_192 : Utf.IsRead [192, 128] none :=
  Utf.read_stop (d := []) (rs := [192, 128]) (by decide) rfl (by decide) (by have := Utf.takeL_is [192, 128] (by decide); rwa [show Utf.takeL [192, 128] = none from by decide] at this)

theorem below_over {w w1 w2 : World} {o : Obj} (h : Below w.heap.size w w1) (hb : Below (w1.alloc o).heap.size (w1.alloc o) w2) : Below w.heap.size w w2 :=
  (h.alloc h.size o).trans (hb.mono (by have := h.size; simp; omega))
theorem Sl.over {k : IntKind} {w1 w2 : World} {o : Obj} {a : Option Addr} {n cap : Nat} {zs : List Int} (h : Sl k w1 a n cap zs) (hb : Below (w1.alloc o).heap.size (w1.alloc o) w2) : Sl k w2 a n cap zs :=
  (h.alloc o).below hb (Nat.le_refl _)

set_option maxHeartbeats 1000000 in
theorem awake_any (w : World) : Calls Try.prog 10 #[] w fun e w' => e = .returned (.bool true) ∧ Below w.heap.size w w' := by
  go_enter Try.func10, Try.ntmps10
  go_wp2_with fail
  refine (put_is _ _ _ [228, 8364, 65] [195, 164, 226, 130, 172, 65] 6 _ (Sl.newi [228, 8364, 65] (by decide) (by decide)) (by decide) (by decide) (by decide) rfl).mono ?_
  rintro e w1 ⟨g1, c1, rfl, hs1, hb1⟩
  have B1 : Below w.heap.size w w1 := ((Below.refl _ w).alloc (Nat.le_refl _) _).trans (hb1.mono (by simp))
  have z1 := B1.size
  have HB1 := Lib.hid hb1
  clear hb1
  go_wp2_with fail
  refine (read_is _ _ _ _ [228, 8364, 65] 3 _ hs1 (by decide) isRead_228 rfl).mono ?_
  rintro e w2 ⟨g2, c2, rfl, hs2, hb2⟩
  have B2 : Below w.heap.size w w2 := B1.trans (hb2.mono z1)
  have S1 := hs1.below hb2 (Nat.le_refl _)
  clear hs1 hb2 B1 z1 HB1
  go_wp2_with fail
  refine (take_is _ _ _ [226, 130, 172, 9] 8364 3 _ (Sl.new [226, 130, 172, 9] (by decide) (by decide)) (by decide)).mono ?_
  rintro e w3 ⟨rfl, hb3⟩
  have S2 := S1.over hb3
  have T2 := hs2.over hb3
  have B3 := below_over B2 hb3
  clear S1 hs2 B2 hb3
  go_wp2_with fail
  refine (put_bad _ _ _ [55296] _ (Sl.newi [55296] (by decide) (by decide)) (by decide) (by decide)).mono ?_
  rintro e w4 ⟨rfl, hb4⟩
  have S3 := S2.over hb4
  have T3 := T2.over hb4
  have B4 := below_over B3 hb4
  clear S2 T2 B3 hb4
  go_wp2_with fail
  refine (read_bad _ _ _ [192, 128] _ (Sl.new [192, 128] (by decide) (by decide)) (by decide) isRead_192).mono ?_
  rintro e w5 ⟨rfl, hb5⟩
  have S4 := S3.over hb5
  have T4 := T3.over hb5
  have B5 := below_over B4 hb5
  clear S3 T3 B4 hb5
  go_wp2_with fail
  refine (take_not _ _ _ [] _ ⟨rfl, Nat.le_refl _, by decide, by simp, .inl rfl⟩ rfl).mono ?_
  rintro e w6 ⟨rfl, hb6⟩
  have S5 := S4.below hb6 (Nat.le_refl _)
  have T5 := T4.below hb6 (Nat.le_refl _)
  have B6 := B5.trans (hb6.mono B5.size)
  clear S4 T4 B5 hb6
  obtain ⟨s, hs⟩ : ∃ s, s = strOfNums [195, 164, 226, 130, 172, 65] := ⟨_, rfl⟩
  have hconv := S5.str
  rw [← hs] at hconv
  have hbe : (s.toList == [195, 164, 226, 130, 172, 65]) = true := by rw [hs, Lib.toList_data, strOfNums_data]; decide
  clear hs
  go_wp2_with fail
  refine (same_is _ _ _ _ _ _ [228, 8364, 65] [228, 8364, 65] true _ (T5.alloc _) (Sl.newi [228, 8364, 65] (by decide) (by decide)) (by decide)).mono ?_
  rintro e w7 ⟨rfl, q, rfl⟩
  clear hconv hbe S5 T5
  go_wp2_with fail
  refine (good_is 1114111 true _ (by decide) (by decide) (by decide)).mono ?_
  rintro e w7 ⟨rfl, rfl⟩
  go_wp2_with fail
  refine (good_is (-1) false _ (by decide) (by decide) (by decide)).mono ?_
  rintro e w7 ⟨rfl, rfl⟩
  go_wp2
  go_ret
  exact ⟨rfl, below_drewN (B6.alloc B6.size _) q⟩

end Go.Proofs.Ytkamlhkieblnoaa
