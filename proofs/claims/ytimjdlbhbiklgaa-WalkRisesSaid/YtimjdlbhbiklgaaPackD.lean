import Derived.Test.YtimjdlbhbiklgaaPackC
import Derived.LoopN
import Derived.Lib.Strings
import Derived.Test.YtimjdlbhbiklgaaPackN
/- The document's own Take: one to four bytes are tried; it may make blocks, and turns nothing that was there. -/
namespace Go.Proofs.Ytimjdlbhbiklgaa
open Go.RowKit

set_option maxRecDepth 100000 in
theorem Sl.new {w : World} {t : TypeId} (zs : List Int) (hw : ∀ z ∈ zs, 0 ≤ z ∧ z ≤ 255) (hl : zs.length ≤ maxLen) : Sl .u8 (w.alloc (.cells (u8s zs).toArray t)) (some ⟨w.heap.size, 0, none⟩) zs.length zs.length zs := by
  refine ⟨rfl, Nat.le_refl _, hl, fun z hz => WalkArith.wf_u8 (hw z hz), .inr ⟨w.heap.size, 0, rfl, fun i hi => ?_⟩⟩
  rw [cell_of_row _ w.heap.size _ _ t (0, 0) (heap_alloc_new w _)]
  simp [u8s, hi]
set_option maxRecDepth 100000 in
theorem strOfNums_ne {a b : List Int} (ha : ∀ z ∈ a, 0 ≤ z ∧ z ≤ 255) (hb : ∀ z ∈ b, 0 ≤ z ∧ z ≤ 255) (h : strOfNums a = strOfNums b) : a = b := by
  have h' : a.map (fun n => UInt8.ofNat n.toNat) = b.map (fun n => UInt8.ofNat n.toNat) := by
    have := congrArg (fun s : ByteArray => s.data.toList) h
    simpa [strOfNums] using this
  clear h
  induction a generalizing b with
  | nil => cases b with
    | nil => rfl
    | cons y b => simp at h'
  | cons x a ih => cases b with
    | nil => simp at h'
    | cons y b =>
      simp only [List.map_cons, List.cons.injEq] at h'
      have hx := ha x (by simp)
      have hy := hb y (by simp)
      have e : x = y := by
        have := congrArg UInt8.toNat h'.1
        simp at this
        omega
      rw [e, ih (fun z hz => ha z (by simp [hz])) (fun z hz => hb z (by simp [hz])) h'.2]

set_option maxRecDepth 100000 in
theorem toList_inj {a b : ByteArray} (h : a.toList = b.toList) : a = b := by
  rw [Lib.toList_data, Lib.toList_data] at h
  rw [← Lib.mk_data a, ← Lib.mk_data b, h]
set_option maxRecDepth 100000 in
theorem no_more {c : Int} {rest : List Int} {j : Nat} (h : ∀ k, 1 ≤ k → k < j → ¬ Utf.fits c rest k) (hj : ¬ Utf.fits c rest j) : ∀ k, 1 ≤ k → k < j + 1 → ¬ Utf.fits c rest k := by
  intro k h1 h2
  rcases Nat.lt_or_ge k j with h3 | h3
  · exact h k h1 h3
  · obtain rfl : k = j := by omega
    exact hj

end Go.Proofs.Ytimjdlbhbiklgaa

/- utf.Read, and the document's own: the signs of bytes, in a row of their own, or ErrUtf. Asked: no more than 2^44 bytes. -/
namespace Go.Proofs.Ytimjdlbhbiklgaa
open Go.RowKit

set_option maxRecDepth 100000 in
theorem Try.info3 : (Try.prog.info? 3).map (fun i => (i.zero, i.size, i.bytes)) = some (some (.int .i64 0), 1, 8) := by kernel_rfl


/-- what Read answers -/
def ReadPost (B : Nat) (zs : List Int) (w : World) (e : Ending) (w' : World) : Prop :=
  Below B w w' ∧ ((∃ l, Utf.IsRead zs (some l) ∧ ∃ a cap, e = .returned (.tuple #[.slice a l.length cap, .int .i64 0]) ∧ w'.ownsRow B 3 1 (.slice a l.length cap) l.length (i64s l)) ∨
    (Utf.IsRead zs none ∧ e = .returned (.tuple #[.slice none 0 0, .int .i64 10])))

end Go.Proofs.Ytimjdlbhbiklgaa

/- Same: are two lists of numbers one? It reads alone. -/
namespace Go.Proofs.Ytimjdlbhbiklgaa
open Go.RowKit


end Go.Proofs.Ytimjdlbhbiklgaa

/- The contracts of package utf as the laws use them; and awake, the head of all laws: it answers true. -/
namespace Go.Proofs.Ytimjdlbhbiklgaa
open Go.RowKit

set_option maxRecDepth 100000 in
theorem good_wf {l : List Int} (h : Utf.allGood l = true) : ∀ z ∈ l, (Lit.int .i64 z).wf = true := by
  intro z hz
  have := (Utf.good_iff z).1 (by simpa using (List.all_eq_true.1 h) z hz)
  exact WalkArith.wf_i64 (by omega)
set_option maxRecDepth 100000 in
theorem put_wf {l : List Int} (h : Utf.allGood l = true) : ∀ z ∈ Utf.put l, (Lit.int .u8 z).wf = true := fun z hz => WalkArith.wf_u8 (Utf.put_bytes l h z hz)

set_option maxRecDepth 100000 in
theorem put_ok (a : Option Addr) (n cap : Nat) (zs : List Int) (w : World) (hs : Sl .i64 w a n cap zs) (hn : n ≤ 17592186044416) (hg : Utf.allGood zs = true) :
    Calls Try.prog 65 #[.slice a n cap] w fun e w' => ∃ g c, e = .returned (.tuple #[.slice (some ⟨g, 0, none⟩) (Utf.put zs).length c, .int .i64 0]) ∧
      Sl .u8 w' (some ⟨g, 0, none⟩) (Utf.put zs).length c (Utf.put zs) ∧ Below w.heap.size w w' :=
  (put_any a n cap zs w hs hn).mono fun e w' h => by
    obtain ⟨hb, ⟨_, g, c, he, ho⟩ | ⟨h0, _⟩⟩ := h
    · exact ⟨g, c, he, Sl.of_owns ho (put_wf hg) rfl, hb⟩
    · rw [hg] at h0; cases h0
set_option maxRecDepth 100000 in
theorem put_bad (a : Option Addr) (n cap : Nat) (zs : List Int) (w : World) (hs : Sl .i64 w a n cap zs) (hn : n ≤ 17592186044416) (hg : Utf.allGood zs = false) :
    Calls Try.prog 65 #[.slice a n cap] w fun e w' => e = .returned (.tuple #[.slice none 0 0, .int .i64 10]) ∧ Below w.heap.size w w' :=
  (put_any a n cap zs w hs hn).mono fun e w' h => by
    obtain ⟨hb, ⟨h0, _⟩ | ⟨_, he⟩⟩ := h
    · rw [hg] at h0; cases h0
    · exact ⟨he, hb⟩
set_option maxRecDepth 100000 in
theorem read_ok_of {B : Nat} {zs l : List Int} {w : World} (hl : Utf.IsRead zs (some l)) {e : Ending} {w' : World} (h : ReadPost B zs w e w') :
    ∃ g c, e = .returned (.tuple #[.slice g l.length c, .int .i64 0]) ∧ Sl .i64 w' g l.length c l ∧ Below B w w' := by
  obtain ⟨hb, ⟨l', hl', g, c, he, ho⟩ | ⟨h0, _⟩⟩ := h
  · have := hl'.one hl
    simp only [Option.some.injEq] at this
    subst this
    exact ⟨g, c, he, Sl.of_owns ho (good_wf hl.1) rfl, hb⟩
  · have := h0.one hl; cases this
set_option maxRecDepth 100000 in
theorem read_bad_of {B : Nat} {zs : List Int} {w : World} (hl : Utf.IsRead zs none) {e : Ending} {w' : World} (h : ReadPost B zs w e w') :
    e = .returned (.tuple #[.slice none 0 0, .int .i64 10]) ∧ Below B w w' := by
  obtain ⟨hb, ⟨l', hl', g, c, he, ho⟩ | ⟨_, he⟩⟩ := h
  · have := hl'.one hl; cases this
  · exact ⟨he, hb⟩
set_option maxRecDepth 100000 in
theorem read_or (zs : List Int) : Utf.IsRead zs none ∨ ∃ l, Utf.IsRead zs (some l) := by
  rcases Classical.em (∃ l, Utf.IsRead zs (some l)) with h | h
  · exact .inr h
  · exact .inl fun l hl e => h ⟨l, hl, e⟩
set_option maxRecDepth 100000 in
theorem Sl.newi {w : World} {t : TypeId} (zs : List Int) (hw : ∀ z ∈ zs, (Lit.int .i64 z).wf = true) (hl : zs.length ≤ maxLen) : Sl .i64 (w.alloc (.cells (i64s zs).toArray t)) (some ⟨w.heap.size, 0, none⟩) zs.length zs.length zs := by
  refine ⟨rfl, Nat.le_refl _, hl, hw, .inr ⟨w.heap.size, 0, rfl, fun i hi => ?_⟩⟩
  rw [cell_of_row _ w.heap.size _ _ t (0, 0) (heap_alloc_new w _)]
  simp [i64s, hi]

set_option maxRecDepth 100000 in
theorem put_is (a : Option Addr) (n cap : Nat) (zs bs : List Int) (m : Nat) (w : World) (hs : Sl .i64 w a n cap zs) (hn : n ≤ 17592186044416) (hg : Utf.allGood zs = true) (hp : Utf.put zs = bs) (hm : bs.length = m) :
    Calls Try.prog 65 #[.slice a n cap] w fun e w' => ∃ g c, e = .returned (.tuple #[.slice (some ⟨g, 0, none⟩) m c, .int .i64 0]) ∧ Sl .u8 w' (some ⟨g, 0, none⟩) m c bs ∧ Below w.heap.size w w' := by
  subst hm; subst hp
  exact put_ok a n cap zs w hs hn hg
set_option maxRecDepth 100000 in
theorem good_is (n : Int) (r : Bool) (w : World) (h : Utf.good n = r) (h0 : -9223372036854775808 ≤ n) (h1 : n ≤ 9223372036854775807) :
    Calls Try.prog 52 #[.int .i64 n] w fun e w' => e = .returned (.bool r) ∧ w = w' := by
  subst h
  exact good_any n w h0 h1

set_option maxRecDepth 100000 in
theorem isRead_228 : Utf.IsRead [195, 164, 226, 130, 172, 65] (some [228, 8364, 65]) := ⟨by decide, by decide⟩
set_option maxRecDepth 100000 in
theorem isRead_192 : Utf.IsRead [192, 128] none :=
  Utf.read_stop (d := []) (rs := [192, 128]) (by decide) rfl (by decide) (by have := Utf.takeL_is [192, 128] (by decide); rwa [show Utf.takeL [192, 128] = none from by decide] at this)


end Go.Proofs.Ytimjdlbhbiklgaa

/- Put and Read told in one, whether there are signs or not: for laws that go on the same way. -/
namespace Go.Proofs.Ytimjdlbhbiklgaa
open Go.RowKit

set_option maxRecDepth 100000 in
theorem put_both (a : Option Addr) (n cap : Nat) (zs : List Int) (w : World) (hs : Sl .i64 w a n cap zs) (hn : n ≤ 17592186044416) :
    Calls Try.prog 65 #[.slice a n cap] w fun e w' => ∃ (a' : Option Addr) (m c : Nat) (er : Int), e = .returned (.tuple #[.slice a' m c, .int .i64 er]) ∧
      ((Utf.allGood zs = true ∧ er = 0 ∧ m = (Utf.put zs).length ∧ Sl .u8 w' a' m c (Utf.put zs)) ∨ (Utf.allGood zs = false ∧ er = 10 ∧ m = 0 ∧ c = 0 ∧ a' = none)) ∧ Below w.heap.size w w' := by
  cases hg : Utf.allGood zs with
  | true =>
    refine (put_ok a n cap zs w hs hn hg).mono ?_
    rintro e w' ⟨g, c, rfl, h, hb⟩
    exact ⟨some ⟨g, 0, none⟩, _, c, 0, rfl, .inl ⟨rfl, rfl, rfl, h⟩, hb⟩
  | false =>
    refine (put_bad a n cap zs w hs hn hg).mono ?_
    rintro e w' ⟨rfl, hb⟩
    exact ⟨none, 0, 0, 10, rfl, .inr ⟨rfl, rfl, rfl, rfl, rfl⟩, hb⟩

/-- what Put answers: its bytes, and its error -/
def PutIs (zs bs : List Int) (er : Int) : Prop := (Utf.allGood zs = true ∧ bs = Utf.put zs ∧ er = 0) ∨ (Utf.allGood zs = false ∧ bs = [] ∧ er = 10)
set_option maxRecDepth 100000 in
theorem putIs_ex (zs : List Int) : ∃ bs er, PutIs zs bs er := by
  cases h : Utf.allGood zs with
  | true => exact ⟨_, _, .inl ⟨h, rfl, rfl⟩⟩
  | false => exact ⟨_, _, .inr ⟨h, rfl, rfl⟩⟩
set_option maxRecDepth 100000 in
theorem PutIs.wf {zs bs : List Int} {er : Int} (h : PutIs zs bs er) : ∀ z ∈ bs, 0 ≤ z ∧ z ≤ 255 := by
  obtain ⟨h1, rfl, _⟩ | ⟨_, rfl, _⟩ := h
  · exact Utf.put_bytes zs h1
  · simp
set_option maxRecDepth 100000 in
theorem PutIs.le {zs bs : List Int} {er : Int} (h : PutIs zs bs er) : bs.length ≤ 4 * zs.length := by
  obtain ⟨_, rfl, _⟩ | ⟨_, rfl, _⟩ := h
  · exact Utf.put_length_le zs
  · simp
set_option maxRecDepth 100000 in
theorem put_gen (a : Option Addr) (n cap : Nat) (zs bs : List Int) (er : Int) (w : World) (h : PutIs zs bs er) (hs : Sl .i64 w a n cap zs) (hn : n ≤ 17592186044416) :
    Calls Try.prog 65 #[.slice a n cap] w fun e w' => ∃ (a' : Option Addr) (c : Nat), e = .returned (.tuple #[.slice a' bs.length c, .int .i64 er]) ∧ Sl .u8 w' a' bs.length c bs ∧ Below w.heap.size w w' := by
  obtain ⟨h1, rfl, rfl⟩ | ⟨h1, rfl, rfl⟩ := h
  · refine (put_ok a n cap zs w hs hn h1).mono ?_
    rintro e w' ⟨g, c, rfl, h, hb⟩
    exact ⟨_, c, rfl, h, hb⟩
  · refine (put_bad a n cap zs w hs hn h1).mono ?_
    rintro e w' ⟨rfl, hb⟩
    exact ⟨none, 0, rfl, ⟨rfl, Nat.le_refl _, by decide, by simp, .inl rfl⟩, hb⟩
/-- what Read answers: its signs, and its error -/
def ReadIs (zs l : List Int) (er : Int) : Prop := (Utf.IsRead zs (some l) ∧ er = 0) ∨ (Utf.IsRead zs none ∧ l = [] ∧ er = 10)
set_option maxRecDepth 100000 in
theorem readIs_ex (zs : List Int) : ∃ l er, ReadIs zs l er := by
  rcases read_or zs with h | ⟨l, h⟩
  · exact ⟨_, _, .inr ⟨h, rfl, rfl⟩⟩
  · exact ⟨_, _, .inl ⟨h, rfl⟩⟩
/-- what Take answers: the sign, how many bytes, the error -/
def TakeIs (zs : List Int) (s : Int) (k : Nat) (er : Int) : Prop := (Utf.takeL zs = some (s, k) ∧ er = 0) ∨ (Utf.takeL zs = none ∧ s = 0 ∧ k = 0 ∧ er = 10)
set_option maxRecDepth 100000 in
theorem takeIs_ex (zs : List Int) : ∃ s k er, TakeIs zs s k er := by
  cases h : Utf.takeL zs with
  | none => exact ⟨_, _, _, .inr ⟨h, rfl, rfl, rfl⟩⟩
  | some p => exact ⟨p.1, p.2, _, .inl ⟨h, rfl⟩⟩
set_option maxRecDepth 100000 in
theorem TakeIs.v {zs : List Int} {s : Int} {k : Nat} {er : Int} (h : TakeIs zs s k er) : takeV (Utf.takeL zs) = .tuple #[.int .i64 s, .int .i64 k, .int .i64 er] := by
  obtain ⟨h1, rfl⟩ | ⟨h1, rfl, rfl, rfl⟩ := h
  · rw [h1]; rfl
  · rw [h1]; rfl
end Go.Proofs.Ytimjdlbhbiklgaa
