/- Layer 15's laws: what all of them want. -/
import Derived.Test.YtbfjihbkkcggmaaImgAwake
import Derived.Test.YtbfjihbkkcggmaaPackR
import Derived.Test.YtbfjihbkkcggmaaPackP
import Derived.Test.YtbfjihbkkcggmaaPackD
import Derived.Test.YtbfjihbkkcggmaaPackC
namespace Go.Proofs.Ytbfjihbkkcggmaa
open Go.RowKit

set_option maxRecDepth 100000 in
theorem info_im6' : (Try.prog.info? 28).map (·.size) = some 6 := by kernel_rfl
set_option maxRecDepth 100000 in
theorem grown_below15 {w w' : World} (h : w.drew.grownBy w' none) : Below w.heap.size w w' := ⟨h.os, h.tape, h.output, h.size, fun k hk => h.block k hk (by simp)⟩
set_option maxRecDepth 100000 in
theorem below_grew15 {w w' : World} (h : Below w.heap.size w w') : w.grownBy w' none := ⟨h.os, h.tape, h.output, h.size, fun k hk _ => h.block k hk⟩
namespace Img
/-- what Write answers, as a pair -/
def wr (x : Im) : List Int × Int := if Tri.check x.sts = true then if File.check x.c = true then (Crc.lock (body x), 0) else ([], 60) else ([], 100)
/-- what Read answers, as a pair -/
noncomputable def rd (b : List Int) : Im × Int := match read b with
  | .inl x => (x, 0)
  | .inr c => (⟨[], ⟨[0, 0, 0, 0], []⟩⟩, c)
set_option maxRecDepth 100000 in
theorem wr_code (x : Im) : ((wr x).2 = 0 ∧ Ok x ∧ (wr x).1 = Crc.lock (body x)) ∨ ((wr x).2 = 60 ∧ (wr x).1 = [] ∧ Tri.check x.sts = true ∧ File.check x.c = false) ∨ ((wr x).2 = 100 ∧ (wr x).1 = [] ∧ Tri.check x.sts = false) := by
  cases h1 : Tri.check x.sts with
  | false => exact .inr (.inr (by rw [wr, h1]; exact ⟨rfl, rfl, rfl⟩))
  | true =>
    cases h2 : File.check x.c with
    | false => exact .inr (.inl (by rw [wr, h1, h2]; exact ⟨rfl, rfl, rfl, rfl⟩))
    | true => exact .inl (by rw [wr, h1, h2]; exact ⟨rfl, ⟨h1, h2⟩, rfl⟩)
set_option maxRecDepth 100000 in
theorem rd_code (b : List Int) : ((rd b).2 = 0 ∧ IsOf b (rd b).1) ∨ ((rd b).2 = 140 ∧ (rd b).1.sts = []) ∨ ((rd b).2 = 150 ∧ (rd b).1.sts = []) := by
  by_cases h : ∃ x, IsOf b x
  · obtain ⟨x, hx⟩ := h
    have e : rd b = (x, 0) := by rw [rd, read_of hx]
    rw [e]
    exact .inl ⟨rfl, hx⟩
  · by_cases ho : Crc.opn b = none
    · have e : rd b = (⟨[], ⟨[0, 0, 0, 0], []⟩⟩, 140) := by rw [rd, read_crc ho]
      rw [e]
      exact .inr (.inl ⟨rfl, rfl⟩)
    · have e : rd b = (⟨[], ⟨[0, 0, 0, 0], []⟩⟩, 150) := by rw [rd, read_form ho (fun x hx => h ⟨x, hx⟩)]
      rw [e]
      exact .inr (.inr ⟨rfl, rfl⟩)
set_option maxRecDepth 100000 in
theorem wr_of {b : List Int} {x : Im} (h : IsOf b x) : wr x = (b, 0) := by
  rw [wr, h.2.1.1, h.2.1.2, h.2.2]
  rfl
set_option maxRecDepth 100000 in
theorem rd_wr {x : Im} (hp : Plain x.c) (h : Ok x) : rd (Crc.lock (body x)) = (x, 0) := by rw [rd, read_of (⟨hp, h, rfl⟩ : IsOf _ x)]
set_option maxRecDepth 100000 in
theorem stsNums_few : ∀ (l : List Tri.St) (i : Int), (∀ s ∈ l, s.arcs.length ≤ 100) → (stsNums i l).length ≤ 201 * l.length
  | [], _, _ => by simp [stsNums]
  | s :: l, i, h => by
    have ih := stsNums_few l (i + 1) (fun x hx => h x (by simp [hx]))
    have h1 := h s (by simp)
    rw [stsNums, List.length_append, stNums, List.length_cons, arcNums_len, List.length_cons]
    omega
set_option maxRecDepth 100000 in
theorem few_len {x : Im} (hp : Plain x.c) (h : Ok x) (hs : ∀ s ∈ x.sts, s.arcs.length ≤ 100) (hn : x.sts.length ≤ 500) : (body x).length ≤ 1050000 := by
  obtain ⟨h1, h2, h3⟩ := check_sts h.1
  obtain ⟨g1, g2, g3, _⟩ := File.check_parts h.2
  have hs0 := stsNums_len h3 x.sts 0 h1 (arcs_few h.1)
  rw [Int.natCast_zero] at hs0
  have hs1 := stsNums_few x.sts 0 hs
  have hr := rulesNums_len x.c.rules (fun r hr => ⟨g3 r hr, hp.2.2 r hr⟩)
  have hl : (flat (nums x)).length ≤ 10 * (nums x).length := by
    apply flat_le
    intro n hn
    rw [nums, costNums] at hn
    simp only [List.mem_append, List.mem_cons, List.mem_map] at hn
    rcases hn with (rfl | hn) | ⟨z, hz, rfl⟩ | rfl | hn
    · omega
    · exact hs0.2 n hn
    · have := hp.2.1 z hz; omega
    · omega
    · exact hr.2 n hn
  have hn2 : (nums x).length ≤ 105000 := by
    rw [nums, costNums, List.length_append, List.length_cons, List.length_append, List.length_map, List.length_cons, hp.1]
    have := hr.1
    omega
  rw [body]
  omega
set_option maxRecDepth 100000 in
/-- an image's bytes, as long as the laws let them be -/
theorem wr_len {x : Im} (hp : Plain x.c) (hs : ∀ s ∈ x.sts, s.arcs.length ≤ 100) (hn : x.sts.length ≤ 500) : (wr x).1.length ≤ 1100000 := by
  rcases wr_code x with ⟨_, h, e⟩ | ⟨_, e, _⟩ | ⟨_, e, _⟩
  · rw [e, Crc.lock_length]
    have := few_len hp h hs hn
    omega
  · rw [e]; exact Nat.zero_le _
  · rw [e]; exact Nat.zero_le _
end Img
set_option maxRecDepth 100000 in
theorem WriteIs.any {w' : World} {e : Ending} {x : Img.Im} (h : WriteIs w' e x) : ∃ a n c, e = .returned (.tuple #[.slice a n c, .int .i64 (Img.wr x).2]) ∧ Sl .u8 w' a n c (Img.wr x).1 := by
  rcases h with ⟨h, he⟩ | ⟨h1, h, he⟩ | ⟨h1, h, a, n, c, he, hs⟩
  · have e0 : Img.wr x = ([], 100) := by rw [Img.wr, h]; rfl
    rw [e0]
    exact ⟨none, 0, 0, he, Sl.nil⟩
  · have e0 : Img.wr x = ([], 60) := by rw [Img.wr, h1, h]; rfl
    rw [e0]
    exact ⟨none, 0, 0, he, Sl.nil⟩
  · have e0 : Img.wr x = (Crc.lock (Img.body x), 0) := by rw [Img.wr, h1, h]; rfl
    rw [e0]
    exact ⟨a, n, c, he, hs⟩
set_option maxRecDepth 100000 in
theorem ImgIs.any {w' : World} {e : Ending} {b : List Int} (h : ImgIs w' e (Img.read b)) : ∃ x : Iw, x.im = (Img.rd b).1 ∧ x.Good w' ∧ e = .returned (.tuple #[x.v, .int .i64 (Img.rd b).2]) := by
  rcases h with ⟨x, hr, hg, he⟩ | ⟨c, hr, he⟩
  · have e0 : Img.rd b = (x.im, 0) := by rw [Img.rd, hr]
    rw [e0]
    exact ⟨x, rfl, hg, he⟩
  · have e0 : Img.rd b = (⟨[], ⟨[0, 0, 0, 0], []⟩⟩, c) := by rw [Img.rd, hr]
    rw [e0]
    exact ⟨⟨Option.none, 0, 0, [], ⟨0, 0, 0, 0, Option.none, 0, 0, []⟩⟩, rfl, ⟨Ss.nil, zeroCw⟩, he⟩

set_option maxRecDepth 100000 in
theorem short_arcs {w : World} {xs : List Sw} (h : ShortS xs) (hg : ∀ x ∈ xs, x.Good w) : ∀ s ∈ sts xs, s.arcs.length ≤ 100 := by
  intro s hs
  obtain ⟨x, hx, rfl⟩ := List.mem_map.1 hs
  have h1 := h x hx
  have h2 : x.arcs.length = x.n := (hg x hx).1
  show x.arcs.length ≤ 100
  omega
set_option maxRecDepth 100000 in
theorem six_cells {w : World} {g : Nat} {a0 a1 a2 a3 a4 a5 : Value} {t : TypeId} {fr : Nat × Nat} (h : w.heap[g]? = some (.cells #[a0, a1, a2, a3, a4, a5] t fr)) :
    w.cell? ⟨g, 0, none⟩ = some a0 ∧ w.cell? ⟨g, 1, none⟩ = some a1 ∧ w.cell? ⟨g, 2, none⟩ = some a2 ∧ w.cell? ⟨g, 3, none⟩ = some a3 ∧ w.cell? ⟨g, 4, none⟩ = some a4 ∧ w.cell? ⟨g, 5, none⟩ = some a5 := by
  simp [World.cell?, h]
set_option maxHeartbeats 3200000 in
set_option maxRecDepth 100000 in
theorem few15_is (x : Iw) (w : World) (hx : x.Good w) : Calls Try.prog 8 #[x.v] w fun e w' =>
    (e = .returned (.bool false) ∨ (e = .returned (.bool true) ∧ ShortS x.xs ∧ x.n ≤ 500 ∧ ShortR x.c.xs ∧ x.c.n ≤ 300)) ∧ Below w.heap.size w w' := by
  obtain ⟨sa, sn, sc, xs, cm, cl, co, ct, ra, rn, rcap, rs⟩ := x
  have HX := Lib.hid hx
  clear hx
  simp only [Iw.v]
  go_enter Try.func8, Try.ntmps8
  go_wp2_with fail
  refine (rfew10_is sa sn sc xs 500 (by omega) _ (HX.out.1.alloc _)).mono ?_
  rintro e v2 ⟨he, hv2⟩
  subst hv2
  rcases he with rfl | ⟨rfl, hS, hn500⟩
  · go_wp2
    go_ret
    exact ⟨.inl rfl, (Below.refl _ w).alloc (Nat.le_refl _) _⟩
  have HS := Lib.hid hS
  have HN := Lib.hid hn500
  clear hS hn500
  go_wp2_with fail
  refine (rfew_any ra rn rcap rs 300 (by omega) _ (HX.out.2.1.alloc _)).mono ?_
  rintro e v3 ⟨he, hv3⟩
  subst hv3
  rcases he with rfl | ⟨rfl, hR, hn300⟩
  · go_wp2
    go_ret
    exact ⟨.inl rfl, (Below.refl _ w).alloc (Nat.le_refl _) _⟩
  have HR := Lib.hid hR
  have HN' := Lib.hid hn300
  clear hR hn300
  go_wp2
  go_ret
  exact ⟨.inr ⟨rfl, HS.out, HN.out, HR.out, HN'.out⟩, (Below.refl _ w).alloc (Nat.le_refl _) _⟩

end Go.Proofs.Ytbfjihbkkcggmaa
