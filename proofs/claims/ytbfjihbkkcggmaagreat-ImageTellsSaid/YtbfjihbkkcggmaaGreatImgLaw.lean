/- Used by the law. -/
import Derived.Test.YtbfjihbkkcggmaaGreatImgAwake
import Derived.Test.YtbfjihbkkcggmaaGreatPackR
import Derived.Test.YtbfjihbkkcggmaaGreatPackP
import Derived.Test.YtbfjihbkkcggmaaGreatPackD
import Derived.Test.YtbfjihbkkcggmaaGreatPackC
namespace Go.Proofs.YtbfjihbkkcggmaaGreat
open Go.RowKit

set_option maxRecDepth 100000 in
theorem info_im6' : (Tryz.prog.info? 28).map (·.size) = some 6 := by kernel_rfl
namespace Img
def wr (x : Im) : List Int × Int := if Tri.check x.sts = true then if File.check x.c = true then (Crc.lock (body x), 0) else ([], 60) else ([], 100)
noncomputable def rd (b : List Int) : Im × Int := match read b with
  | .inl x => (x, 0)
  | .inr c => (⟨[], ⟨[0, 0, 0, 0], []⟩⟩, c)
end Img
theorem WriteIs.any {w' : World} {e : Ending} {x : Img.Im} (h : WriteIs w' e x) : ∃ a n c, e = .returned (.tuple #[.slice a n c, .int .i64 (Img.wr x).2]) ∧ Sl .u8 w' a n c (Img.wr x).1 := by
  rcases h with ⟨h, he⟩ | ⟨h1, h, he⟩ | ⟨h1, h, a, n, c, he, hs⟩
  · have e0 : Img.wr x = ([], 100) := by rw [Img.wr, h]; rfl
    rw [e0]
    exact ⟨none, 0, 0, he, Sl.nil⟩
  · have e0 : Img.wr x = ([], 60) := by rw [Img.wr, h1, h]; rfl
    rw [e0]
    exact ⟨none, 0, 0, he, Sl.nil⟩
  · have e0 : Img.wr x = (Crc.lock (Img.body x), 0) := by rw [Img.wr, h1, h]; rfl
    rw [e0]
    exact ⟨a, n, c, he, hs⟩
theorem ImgIs.any {w' : World} {e : Ending} {b : List Int} (h : ImgIs w' e (Img.read b)) : ∃ x : Iw, x.im = (Img.rd b).1 ∧ x.Good w' ∧ e = .returned (.tuple #[x.v, .int .i64 (Img.rd b).2]) := by
  rcases h with ⟨x, hr, hg, he⟩ | ⟨c, hr, he⟩
  · have e0 : Img.rd b = (x.im, 0) := by rw [Img.rd, hr]
    rw [e0]
    exact ⟨x, rfl, hg, he⟩
  · have e0 : Img.rd b = (⟨[], ⟨[0, 0, 0, 0], []⟩⟩, c) := by rw [Img.rd, hr]
    rw [e0]
    exact ⟨⟨Option.none, 0, 0, [], ⟨0, 0, 0, 0, Option.none, 0, 0, []⟩⟩, rfl, ⟨Ss.nil, zeroCw⟩, he⟩

set_option maxHeartbeats 3200000 in
set_option maxRecDepth 100000 in
theorem few15_is (x : Iw) (w : World) (hx : x.Good w) : Calls Tryz.prog 5 #[x.v] w fun e w' =>
    (e = .returned (.bool false) ∨ (e = .returned (.bool true) ∧ ShortS x.xs ∧ x.n ≤ 500 ∧ ShortR x.c.xs ∧ x.c.n ≤ 300)) ∧ Below w.heap.size w w' := by
  obtain ⟨sa, sn, sc, xs, cm, cl, co, ct, ra, rn, rcap, rs⟩ := x
  have HX := Lib.hid hx
  clear hx
  simp only [Iw.v]
  go_enter Tryz.func5, Tryz.ntmps5
  go_wp2_with fail
  refine (rfew10_is sa sn sc xs 500 (by omega) _ (HX.out.1.alloc _)).mono ?_
  rintro e v2 ⟨he, hv2⟩
  subst hv2
  rcases he with rfl | ⟨rfl, hS, hn500⟩
  · go_wp2
    go_ret
    exact ⟨.inl rfl, (Below.refl _ w).alloc (Nat.le_refl _) _⟩
  have HS := Lib.hid hS
  have HN := Lib.hid hn500
  clear hS hn500
  go_wp2_with fail
  refine (rfew_any ra rn rcap rs 300 (by omega) _ (HX.out.2.1.alloc _)).mono ?_
  rintro e v3 ⟨he, hv3⟩
  subst hv3
  rcases he with rfl | ⟨rfl, hR, hn300⟩
  · go_wp2
    go_ret
    exact ⟨.inl rfl, (Below.refl _ w).alloc (Nat.le_refl _) _⟩
  have HR := Lib.hid hR
  have HN' := Lib.hid hn300
  clear hR hn300
  go_wp2
  go_ret
  exact ⟨.inr ⟨rfl, HS.out, HN.out, HR.out, HN'.out⟩, (Below.refl _ w).alloc (Nat.le_refl _) _⟩

end Go.Proofs.YtbfjihbkkcggmaaGreat
