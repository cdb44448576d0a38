/- Put and Read told in one, whether there are signs or not: for laws that go on the same way. -/
import Derived.Test.YtflikfnehpaohaaUtfWalkJ
namespace Go.Proofs.Ytflikfnehpaohaa
open Go.RowKit

set_option maxRecDepth 100000 in
theorem put_both (a : Option Addr) (n cap : Nat) (zs : List Int) (w : World) (hs : Sl .i64 w a n cap zs) (hn : n ≤ 17592186044416) :
    Calls Try.prog 35 #[.slice a n cap] w fun e w' => ∃ (a' : Option Addr) (m c : Nat) (er : Int), e = .returned (.tuple #[.slice a' m c, .int .i64 er]) ∧
      ((Utf.allGood zs = true ∧ er = 0 ∧ m = (Utf.put zs).length ∧ Sl .u8 w' a' m c (Utf.put zs)) ∨ (Utf.allGood zs = false ∧ er = 10 ∧ m = 0 ∧ c = 0 ∧ a' = none)) ∧ Below w.heap.size w w' := by
  cases hg : Utf.allGood zs with
  | true =>
    refine (put_ok a n cap zs w hs hn hg).mono ?_
    rintro e w' ⟨g, c, rfl, h, hb⟩
    exact ⟨some ⟨g, 0, none⟩, _, c, 0, rfl, .inl ⟨rfl, rfl, rfl, h⟩, hb⟩
  | false =>
    refine (put_bad a n cap zs w hs hn hg).mono ?_
    rintro e w' ⟨rfl, hb⟩
    exact ⟨none, 0, 0, 10, rfl, .inr ⟨rfl, rfl, rfl, rfl, rfl⟩, hb⟩

/-- what Put answers: its bytes, and its error -/
def PutIs (zs bs : List Int) (er : Int) : Prop := (Utf.allGood zs = true ∧ bs = Utf.put zs ∧ er = 0) ∨ (Utf.allGood zs = false ∧ bs = [] ∧ er = 10)
set_option maxRecDepth 100000 in
theorem putIs_ex (zs : List Int) : ∃ bs er, PutIs zs bs er := by
  cases h : Utf.allGood zs with
  | true => exact ⟨_, _, .inl ⟨h, rfl, rfl⟩⟩
  | false => exact ⟨_, _, .inr ⟨h, rfl, rfl⟩⟩
set_option maxRecDepth 100000 in
theorem PutIs.wf {zs bs : List Int} {er : Int} (h : PutIs zs bs er) : ∀ z ∈ bs, 0 ≤ z ∧ z ≤ 255 := by
  obtain ⟨h1, rfl, _⟩ | ⟨_, rfl, _⟩ := h
  · exact Utf.put_bytes zs h1
  · simp
set_option maxRecDepth 100000 in
theorem PutIs.le {zs bs : List Int} {er : Int} (h : PutIs zs bs er) : bs.length ≤ 4 * zs.length := by
  obtain ⟨_, rfl, _⟩ | ⟨_, rfl, _⟩ := h
  · exact Utf.put_length_le zs
  · simp
set_option maxRecDepth 100000 in
theorem put_gen (a : Option Addr) (n cap : Nat) (zs bs : List Int) (er : Int) (w : World) (h : PutIs zs bs er) (hs : Sl .i64 w a n cap zs) (hn : n ≤ 17592186044416) :
    Calls Try.prog 35 #[.slice a n cap] w fun e w' => ∃ (a' : Option Addr) (c : Nat), e = .returned (.tuple #[.slice a' bs.length c, .int .i64 er]) ∧ Sl .u8 w' a' bs.length c bs ∧ Below w.heap.size w w' := by
  obtain ⟨h1, rfl, rfl⟩ | ⟨h1, rfl, rfl⟩ := h
  · refine (put_ok a n cap zs w hs hn h1).mono ?_
    rintro e w' ⟨g, c, rfl, h, hb⟩
    exact ⟨_, c, rfl, h, hb⟩
  · refine (put_bad a n cap zs w hs hn h1).mono ?_
    rintro e w' ⟨rfl, hb⟩
    exact ⟨none, 0, rfl, ⟨rfl, Nat.le_refl _, by decide, by simp, .inl rfl⟩, hb⟩
set_option maxRecDepth 100000 in
theorem rput_gen (a : Option Addr) (n cap : Nat) (zs bs : List Int) (er : Int) (w : World) (h : PutIs zs bs er) (hs : Sl .i64 w a n cap zs) (hn : n ≤ 17592186044416) :
    Calls Try.prog 37 #[.slice a n cap] w fun e w' => ∃ (a' : Option Addr) (c : Nat), e = .returned (.tuple #[.slice a' bs.length c, .int .i64 er]) ∧ Sl .u8 w' a' bs.length c bs ∧ Below w.heap.size w w' := by
  obtain ⟨h1, rfl, rfl⟩ | ⟨h1, rfl, rfl⟩ := h
  · refine (rput_ok a n cap zs w hs hn h1).mono ?_
    rintro e w' ⟨g, c, rfl, h, hb⟩
    exact ⟨_, c, rfl, h, hb⟩
  · refine (rput_bad a n cap zs w hs hn h1).mono ?_
    rintro e w' ⟨rfl, hb⟩
    exact ⟨none, 0, rfl, ⟨rfl, Nat.le_refl _, by decide, by simp, .inl rfl⟩, hb⟩

/-- what Read answers: its signs, and its error -/
def ReadIs (zs l : List Int) (er : Int) : Prop := (Utf.IsRead zs (some l) ∧ er = 0) ∨ (Utf.IsRead zs none ∧ l = [] ∧ er = 10)
set_option maxRecDepth 100000 in
theorem readIs_ex (zs : List Int) : ∃ l er, ReadIs zs l er := by
  rcases read_or zs with h | ⟨l, h⟩
  · exact ⟨_, _, .inr ⟨h, rfl, rfl⟩⟩
  · exact ⟨_, _, .inl ⟨h, rfl⟩⟩
set_option maxRecDepth 100000 in
theorem read_gen (a : Option Addr) (n cap : Nat) (zs l : List Int) (er : Int) (w : World) (h : ReadIs zs l er) (hs : Sl .u8 w a n cap zs) (hn : n ≤ 17592186044416) :
    Calls Try.prog 20 #[.slice a n cap] w fun e w' => ∃ (a' : Option Addr) (c : Nat), e = .returned (.tuple #[.slice a' l.length c, .int .i64 er]) ∧ Sl .i64 w' a' l.length c l ∧ Below w.heap.size w w' := by
  obtain ⟨h1, rfl⟩ | ⟨h1, rfl, rfl⟩ := h
  · exact read_ok a n cap zs l w hs hn h1
  · refine (read_bad a n cap zs w hs hn h1).mono ?_
    rintro e w' ⟨rfl, hb⟩
    exact ⟨none, 0, rfl, ⟨rfl, Nat.le_refl _, by decide, by simp, .inl rfl⟩, hb⟩
set_option maxRecDepth 100000 in
theorem rread_gen (a : Option Addr) (n cap : Nat) (zs l : List Int) (er : Int) (w : World) (h : ReadIs zs l er) (hs : Sl .u8 w a n cap zs) (hn : n ≤ 17592186044416) :
    Calls Try.prog 31 #[.slice a n cap] w fun e w' => ∃ (a' : Option Addr) (c : Nat), e = .returned (.tuple #[.slice a' l.length c, .int .i64 er]) ∧ Sl .i64 w' a' l.length c l ∧ Below w.heap.size w w' := by
  obtain ⟨h1, rfl⟩ | ⟨h1, rfl, rfl⟩ := h
  · exact rread_ok a n cap zs l w hs hn h1
  · refine (rread_bad a n cap zs w hs hn h1).mono ?_
    rintro e w' ⟨rfl, hb⟩
    exact ⟨none, 0, rfl, ⟨rfl, Nat.le_refl _, by decide, by simp, .inl rfl⟩, hb⟩

/-- what Take answers: the sign, how many bytes, the error -/
def TakeIs (zs : List Int) (s : Int) (k : Nat) (er : Int) : Prop := (Utf.takeL zs = some (s, k) ∧ er = 0) ∨ (Utf.takeL zs = none ∧ s = 0 ∧ k = 0 ∧ er = 10)
set_option maxRecDepth 100000 in
theorem takeIs_ex (zs : List Int) : ∃ s k er, TakeIs zs s k er := by
  cases h : Utf.takeL zs with
  | none => exact ⟨_, _, _, .inr ⟨h, rfl, rfl, rfl⟩⟩
  | some p => exact ⟨p.1, p.2, _, .inl ⟨h, rfl⟩⟩
set_option maxRecDepth 100000 in
theorem TakeIs.v {zs : List Int} {s : Int} {k : Nat} {er : Int} (h : TakeIs zs s k er) : takeV (Utf.takeL zs) = .tuple #[.int .i64 s, .int .i64 k, .int .i64 er] := by
  obtain ⟨h1, rfl⟩ | ⟨h1, rfl, rfl, rfl⟩ := h
  · rw [h1]; rfl
  · rw [h1]; rfl
set_option maxRecDepth 100000 in
theorem take_gen (a : Option Addr) (n cap : Nat) (zs : List Int) (s : Int) (k : Nat) (er : Int) (w : World) (h : TakeIs zs s k er) (hs : Sl .u8 w a n cap zs) :
    Calls Try.prog 45 #[.slice a n cap] w fun e w' => e = .returned (.tuple #[.int .i64 s, .int .i64 k, .int .i64 er]) ∧ Below w.heap.size w w' :=
  (take_any a n cap zs w hs).mono fun e w' hh => ⟨by rw [hh.1, h.v], hh.2⟩
set_option maxRecDepth 100000 in
theorem rtake_gen (a : Option Addr) (n cap : Nat) (zs : List Int) (s : Int) (k : Nat) (er : Int) (w : World) (h : TakeIs zs s k er) (hs : Sl .u8 w a n cap zs) :
    Calls Try.prog 54 #[.slice a n cap] w fun e w' => e = .returned (.tuple #[.int .i64 s, .int .i64 k, .int .i64 er]) ∧ Below w.heap.size w w' :=
  (rtake_any a n cap zs w hs).mono fun e w' hh => ⟨by rw [hh.1, h.v], hh.2⟩

end Go.Proofs.Ytflikfnehpaohaa
