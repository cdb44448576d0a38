import Derived.Test.YtpcebfefbnpbpaaPackF
import Derived.Test.YtpcebfefbnpbpaaPackE
import Derived.Test.YtpcebfefbnpbpaaChecked
import Derived.Test.YtpcebfefbnpbpaaPackA
import Derived.WalkKit
import Derived.WalkLawsBesides
import Derived.Below
import Derived.ProofKit
import Derived.Outline
import Derived.BigQuiet
import Derived.BigGuardPart
import Derived.Deep.QuietTactic
import Derived.Test.YtpcebfefbnpbpaaPackB
import Derived.Deep.RegionLaw
import Derived.Laws.BitsAllLaws
import Derived.Deep.AppendLies
import Derived.Deep.DeepMust
import Derived.Deep.DeepFit
import Derived.Maps.RangeWalk
import Derived.Lib.Hide
import Derived.OpenShut
import Derived.Test.YtpcebfefbnpbpaaPackD
import Derived.Laws.BytesArg
import Derived.LoopN
import Derived.Lib.Strings
import Derived.Deep.RegionWith
import Derived.Test.YtpcebfefbnpbpaaSpecRefF
import Derived.WalkArith
import Derived.Laws.AppendOwn
import Derived.ArgAppend
import Derived.Lib.SlBytesConst
import Derived.Test.YtpcebfefbnpbpaaPackG
set_option linter.all false
set_option maxRecDepth 100000
set_option maxHeartbeats 12800000
namespace Go.Proofs.Ytpcebfefbnpbpaa
section
open Go.RowKit

end
section
open Go.RowKit

theorem Try.info5 : (Try.prog.info? 5).map (fun i => (i.zero, i.size, i.bytes)) = some (some (.int .u8 0), 1, 1) := by kernel_rfl
theorem one_new {w : World} {B : Nat} {v : Value} {t : TypeId} (hB : B = w.heap.size) : ∀ j u, [v][j]? = some u → (w.alloc (.cells #[v] t)).drew.cell? ((⟨B, 0, none⟩ : Addr).add j) = some u := by
  subst hB
  intro j u hj
  match j, hj with
  | 0, hj => simp at hj; subst hj; simp [Addr.add]

theorem i32_wrap (n : Int) (h0 : 0 ≤ n) (h1 : n < 2147483648) : IntKind.i32.wrap n = n := by
  simp [IntKind.wrap, IntKind.bits, IntKind.signed]
  split <;> omega
theorem i32_and63 (x : Int) (h0 : 0 ≤ x) (h1 : x < 2147483648) : bits .and .i32 x 63 = x % 64 := by
  obtain ⟨n, rfl⟩ := Int.eq_ofNat_of_zero_le h0
  show IntKind.i32.wrap ((BitVec.ofInt 32 (n : Int) &&& BitVec.ofInt 32 63).toNat : Int) = _
  have h2 : (BitVec.ofInt 32 63).toNat = 63 := by decide
  rw [BitVec.toNat_and, ofInt_u32 n (by omega), h2, nat_mask6, i32_wrap _ (by omega) (by omega)]
  omega
theorem div_small (s : Int) (k : Nat) (h0 : 0 ≤ s) (h1 : s ≤ 1114111) : 0 ≤ s / 2 ^ k ∧ s / 2 ^ k ≤ 1114111 := by
  have hp : (0 : Int) < 2 ^ k := Int.pow_pos (by decide)
  exact ⟨Int.ediv_nonneg h0 (by omega), Int.le_trans (Int.ediv_le_self _ h0) h1⟩

end
section
open Go.RowKit

/-- what Put answers -/
def PutPost (B : Nat) (zs : List Int) (w : World) (e : Ending) (w' : World) : Prop :=
  Below B w w' ∧ ((Utf.allGood zs = true ∧ ∃ g cap, e = .returned (.tuple #[.slice (some ⟨g, 0, none⟩) (Utf.put zs).length cap, .int .i64 0]) ∧
    w'.ownsRow B 5 1 (.slice (some ⟨g, 0, none⟩) (Utf.put zs).length cap) (Utf.put zs).length (u8s (Utf.put zs))) ∨
    (Utf.allGood zs = false ∧ e = .returned (.tuple #[.slice none 0 0, .int .i64 10])))

theorem allGood_take_succ (zs : List Int) (k : Nat) (hk : k < zs.length) : Utf.allGood (zs.take (k + 1)) = (Utf.allGood (zs.take k) && Utf.good (zs.getD k 0)) := by
  rw [List.take_succ_eq_append_getElem hk, Utf.allGood_append]; simp [Utf.allGood, hk]
theorem put_take_succ (zs : List Int) (k : Nat) (hk : k < zs.length) : Utf.put (zs.take (k + 1)) = Utf.put (zs.take k) ++ Utf.enc (zs.getD k 0) := by
  rw [List.take_succ_eq_append_getElem hk, Utf.put_snoc]; simp [hk]
theorem allGood_bad (zs : List Int) (k : Nat) (hk : k < zs.length) (h : Utf.good (zs.getD k 0) = false) : Utf.allGood zs = false := by
  unfold Utf.allGood
  rw [Bool.eq_false_iff]
  intro ha
  have := List.all_eq_true.1 ha (zs[k]) (List.getElem_mem _)
  simp [hk] at h
  rw [h] at this
  cases this

end
section
open Go.RowKit

/-- what the document's Put answers: the row may be nil if there are no signs -/
def RPutPost (B : Nat) (zs : List Int) (w : World) (e : Ending) (w' : World) : Prop :=
  Below B w w' ∧ ((Utf.allGood zs = true ∧ ∃ a cap, e = .returned (.tuple #[.slice a (Utf.put zs).length cap, .int .i64 0]) ∧
    w'.ownsRow B 5 1 (.slice a (Utf.put zs).length cap) (Utf.put zs).length (u8s (Utf.put zs))) ∨
    (Utf.allGood zs = false ∧ e = .returned (.tuple #[.slice none 0 0, .int .i64 10])))

theorem u8s_app (xs ys : List Int) : u8s xs ++ u8s ys = u8s (xs ++ ys) := by simp [u8s]
theorem news_row {w : World} {B : Nat} {l : List Int} {t : TypeId} (hB : B = w.heap.size) : ∀ j u, (u8s l)[j]? = some u → (w.alloc (.cells (u8s l).toArray t)).cell? ((⟨B, 0, none⟩ : Addr).add j) = some u := by
  subst hB
  intro j u hj
  have h := heap_alloc_new w (.cells (u8s l).toArray t)
  exact World.news_of_block h j u (by simpa using hj)
theorem one_cells (l : List Int) : ∀ u ∈ u8s l, u.oneCell' = true := ints_oneCell .u8 l

end
section
open Go.RowKit

def takeV : Option (Int × Nat) → Value
  | some (n, k) => .tuple #[.int .i64 n, .int .i64 k, .int .i64 0]
  | none => .tuple #[.int .i64 0, .int .i64 0, .int .i64 10]

theorem u8_andNot63 (x : Int) (h0 : 0 ≤ x) (h1 : x < 256) : bits .andNot .u8 x 63 = x - x % 64 := by
  rw [u8_andNot x 63 h0 h1 (by decide) (by decide)]
  obtain ⟨n, rfl⟩ := Int.eq_ofNat_of_zero_le h0
  have : n < 256 := by omega
  have h : ∀ m : Fin 256, (m.1 &&& 192) = m.1 - m.1 % 64 := by decide +kernel
  have := h ⟨n, this⟩
  simp only at this
  show (((n : Int).toNat &&& 192 : Nat) : Int) = _
  rw [show ((n : Int)).toNat = n from rfl, this]
  omega
theorem u8_and63 (x : Int) (h0 : 0 ≤ x) (h1 : x < 256) : bits .and .u8 x 63 = x % 64 := by
  rw [u8_and x 63 h0 h1 (by decide) (by decide)]
  obtain ⟨n, rfl⟩ := Int.eq_ofNat_of_zero_le h0
  show (((n : Int).toNat &&& 63 : Nat) : Int) = _
  rw [nat_mask6]; omega
theorem i32_or64 (x y : Int) (h0 : 0 ≤ x) (h1 : x < 32768) (h2 : 0 ≤ y) (h3 : y < 64) : bits .or .i32 (x * 64) y = x * 64 + y := by
  obtain ⟨n, rfl⟩ := Int.eq_ofNat_of_zero_le h0
  obtain ⟨m, rfl⟩ := Int.eq_ofNat_of_zero_le h2
  show IntKind.i32.wrap ((BitVec.ofInt 32 ((n : Int) * 64) ||| BitVec.ofInt 32 (m : Int)).toNat : Int) = _
  rw [show ((n : Int) * 64) = ((n * 64 : Nat) : Int) from by omega, BitVec.toNat_or, ofInt_u32 _ (by omega), ofInt_u32 m (by omega), nat_join 6 _ _ (by omega) (by omega), i32_wrap _ (by omega) (by omega)]
  omega

end
section
open Go.RowKit

end
section
open Go.RowKit

theorem Sl.new {w : World} {t : TypeId} (zs : List Int) (hw : ∀ z ∈ zs, 0 ≤ z ∧ z ≤ 255) (hl : zs.length ≤ maxLen) : Sl .u8 (w.alloc (.cells (u8s zs).toArray t)) (some ⟨w.heap.size, 0, none⟩) zs.length zs.length zs := by
  refine ⟨rfl, Nat.le_refl _, hl, fun z hz => WalkArith.wf_u8 (hw z hz), .inr ⟨w.heap.size, 0, rfl, fun i hi => ?_⟩⟩
  rw [cell_of_row _ w.heap.size _ _ t (0, 0) (heap_alloc_new w _)]
  simp [u8s, hi]
theorem strOfNums_ne {a b : List Int} (ha : ∀ z ∈ a, 0 ≤ z ∧ z ≤ 255) (hb : ∀ z ∈ b, 0 ≤ z ∧ z ≤ 255) (h : strOfNums a = strOfNums b) : a = b := by
  have h' : a.map (fun n => UInt8.ofNat n.toNat) = b.map (fun n => UInt8.ofNat n.toNat) := by
    have := congrArg (fun s : ByteArray => s.data.toList) h
    simpa [strOfNums] using this
  clear h
  induction a generalizing b with
  | nil => cases b with
    | nil => rfl
    | cons y b => simp at h'
  | cons x a ih => cases b with
    | nil => simp at h'
    | cons y b =>
      simp only [List.map_cons, List.cons.injEq] at h'
      have hx := ha x (by simp)
      have hy := hb y (by simp)
      have e : x = y := by
        have := congrArg UInt8.toNat h'.1
        simp at this
        omega
      rw [e, ih (fun z hz => ha z (by simp [hz])) (fun z hz => hb z (by simp [hz])) h'.2]

theorem toList_inj {a b : ByteArray} (h : a.toList = b.toList) : a = b := by
  rw [Lib.toList_data, Lib.toList_data] at h
  rw [← Lib.mk_data a, ← Lib.mk_data b, h]
theorem no_more {c : Int} {rest : List Int} {j : Nat} (h : ∀ k, 1 ≤ k → k < j → ¬ Utf.fits c rest k) (hj : ¬ Utf.fits c rest j) : ∀ k, 1 ≤ k → k < j + 1 → ¬ Utf.fits c rest k := by
  intro k h1 h2
  rcases Nat.lt_or_ge k j with h3 | h3
  · exact h k h1 h3
  · obtain rfl : k = j := by omega
    exact hj

end
section
open Go.RowKit

theorem Try.info3 : (Try.prog.info? 3).map (fun i => (i.zero, i.size, i.bytes)) = some (some (.int .i64 0), 1, 8) := by kernel_rfl


/-- what Read answers -/
def ReadPost (B : Nat) (zs : List Int) (w : World) (e : Ending) (w' : World) : Prop :=
  Below B w w' ∧ ((∃ l, Utf.IsRead zs (some l) ∧ ∃ a cap, e = .returned (.tuple #[.slice a l.length cap, .int .i64 0]) ∧ w'.ownsRow B 3 1 (.slice a l.length cap) l.length (i64s l)) ∨
    (Utf.IsRead zs none ∧ e = .returned (.tuple #[.slice none 0 0, .int .i64 10])))

end
section
open Go.RowKit


end
section
open Go.RowKit

theorem good_wf {l : List Int} (h : Utf.allGood l = true) : ∀ z ∈ l, (Lit.int .i64 z).wf = true := by
  intro z hz
  have := (Utf.good_iff z).1 (by simpa using (List.all_eq_true.1 h) z hz)
  exact WalkArith.wf_i64 (by omega)
theorem put_wf {l : List Int} (h : Utf.allGood l = true) : ∀ z ∈ Utf.put l, (Lit.int .u8 z).wf = true := fun z hz => WalkArith.wf_u8 (Utf.put_bytes l h z hz)

theorem read_ok_of {B : Nat} {zs l : List Int} {w : World} (hl : Utf.IsRead zs (some l)) {e : Ending} {w' : World} (h : ReadPost B zs w e w') :
    ∃ g c, e = .returned (.tuple #[.slice g l.length c, .int .i64 0]) ∧ Sl .i64 w' g l.length c l ∧ Below B w w' := by
  obtain ⟨hb, ⟨l', hl', g, c, he, ho⟩ | ⟨h0, _⟩⟩ := h
  · have := hl'.one hl
    simp only [Option.some.injEq] at this
    subst this
    exact ⟨g, c, he, Sl.of_owns ho (good_wf hl.1) rfl, hb⟩
  · have := h0.one hl; cases this
theorem read_bad_of {B : Nat} {zs : List Int} {w : World} (hl : Utf.IsRead zs none) {e : Ending} {w' : World} (h : ReadPost B zs w e w') :
    e = .returned (.tuple #[.slice none 0 0, .int .i64 10]) ∧ Below B w w' := by
  obtain ⟨hb, ⟨l', hl', g, c, he, ho⟩ | ⟨_, he⟩⟩ := h
  · have := hl'.one hl; cases this
  · exact ⟨he, hb⟩
theorem read_or (zs : List Int) : Utf.IsRead zs none ∨ ∃ l, Utf.IsRead zs (some l) := by
  rcases Classical.em (∃ l, Utf.IsRead zs (some l)) with h | h
  · exact .inr h
  · exact .inl fun l hl e => h ⟨l, hl, e⟩
theorem Sl.newi {w : World} {t : TypeId} (zs : List Int) (hw : ∀ z ∈ zs, (Lit.int .i64 z).wf = true) (hl : zs.length ≤ maxLen) : Sl .i64 (w.alloc (.cells (i64s zs).toArray t)) (some ⟨w.heap.size, 0, none⟩) zs.length zs.length zs := by
  refine ⟨rfl, Nat.le_refl _, hl, hw, .inr ⟨w.heap.size, 0, rfl, fun i hi => ?_⟩⟩
  rw [cell_of_row _ w.heap.size _ _ t (0, 0) (heap_alloc_new w _)]
  simp [i64s, hi]

theorem good_is (n : Int) (r : Bool) (w : World) (h : Utf.good n = r) (h0 : -9223372036854775808 ≤ n) (h1 : n ≤ 9223372036854775807) :
    Calls Try.prog 65 #[.int .i64 n] w fun e w' => e = .returned (.bool r) ∧ w = w' := by
  subst h
  exact good_any n w h0 h1

theorem isRead_228 : Utf.IsRead [195, 164, 226, 130, 172, 65] (some [228, 8364, 65]) := ⟨by decide, by decide⟩
theorem isRead_192 : Utf.IsRead [192, 128] none :=
  Utf.read_stop (d := []) (rs := [192, 128]) (by decide) rfl (by decide) (by have := Utf.takeL_is [192, 128] (by decide); rwa [show Utf.takeL [192, 128] = none from by decide] at this)


end
section
open Go.RowKit

/-- what Put answers: its bytes, and its error -/
def PutIs (zs bs : List Int) (er : Int) : Prop := (Utf.allGood zs = true ∧ bs = Utf.put zs ∧ er = 0) ∨ (Utf.allGood zs = false ∧ bs = [] ∧ er = 10)
theorem putIs_ex (zs : List Int) : ∃ bs er, PutIs zs bs er := by
  cases h : Utf.allGood zs with
  | true => exact ⟨_, _, .inl ⟨h, rfl, rfl⟩⟩
  | false => exact ⟨_, _, .inr ⟨h, rfl, rfl⟩⟩
theorem PutIs.wf {zs bs : List Int} {er : Int} (h : PutIs zs bs er) : ∀ z ∈ bs, 0 ≤ z ∧ z ≤ 255 := by
  obtain ⟨h1, rfl, _⟩ | ⟨_, rfl, _⟩ := h
  · exact Utf.put_bytes zs h1
  · simp
theorem PutIs.le {zs bs : List Int} {er : Int} (h : PutIs zs bs er) : bs.length ≤ 4 * zs.length := by
  obtain ⟨_, rfl, _⟩ | ⟨_, rfl, _⟩ := h
  · exact Utf.put_length_le zs
  · simp
/-- what Read answers: its signs, and its error -/
def ReadIs (zs l : List Int) (er : Int) : Prop := (Utf.IsRead zs (some l) ∧ er = 0) ∨ (Utf.IsRead zs none ∧ l = [] ∧ er = 10)
theorem readIs_ex (zs : List Int) : ∃ l er, ReadIs zs l er := by
  rcases read_or zs with h | ⟨l, h⟩
  · exact ⟨_, _, .inr ⟨h, rfl, rfl⟩⟩
  · exact ⟨_, _, .inl ⟨h, rfl⟩⟩
/-- what Take answers: the sign, how many bytes, the error -/
def TakeIs (zs : List Int) (s : Int) (k : Nat) (er : Int) : Prop := (Utf.takeL zs = some (s, k) ∧ er = 0) ∨ (Utf.takeL zs = none ∧ s = 0 ∧ k = 0 ∧ er = 10)
theorem takeIs_ex (zs : List Int) : ∃ s k er, TakeIs zs s k er := by
  cases h : Utf.takeL zs with
  | none => exact ⟨_, _, _, .inr ⟨h, rfl, rfl, rfl⟩⟩
  | some p => exact ⟨p.1, p.2, _, .inl ⟨h, rfl⟩⟩
theorem TakeIs.v {zs : List Int} {s : Int} {k : Nat} {er : Int} (h : TakeIs zs s k er) : takeV (Utf.takeL zs) = .tuple #[.int .i64 s, .int .i64 k, .int .i64 er] := by
  obtain ⟨h1, rfl⟩ | ⟨h1, rfl, rfl, rfl⟩ := h
  · rw [h1]; rfl
  · rw [h1]; rfl
end
section
open Go.RowKit

/-- what a call answers that makes bytes: these, in memory of its own, and nothing that was there is turned -/
def BytesIs (w w' : World) (e : Ending) (l : List Int) : Prop :=
  ∃ a' n c', e = .returned (.slice a' n c') ∧ n = l.length ∧ w'.ownsRow w.heap.size 5 1 (.slice a' n c') n (u8s l) ∧ (a' = none → c' = 0) ∧ Below w.heap.size w w'

theorem wrap_u64 (x : Int) : IntKind.u64.wrap x = x % 18446744073709551616 := by
  simp [IntKind.wrap, IntKind.signed, IntKind.bits]

theorem read_wf {zs : List Int} : (Num.read zs).getD 0 < 18446744073709551616 := by
  cases h : Num.read zs with
  | none => simp
  | some c => have := (Num.read_some h).2; simp; omega

/-- what a call answers that reads a cost: it, or the error -/
def Told (e : Ending) (r : Option Nat) : Prop :=
  (∃ c, r = some c ∧ e = .returned (.tuple #[.int .u64 (c : Int), .int .i64 0])) ∨ (r = none ∧ e = .returned (.tuple #[.int .u64 0, .int .i64 50]))

theorem val_take {zs : List Int} {i : Nat} (h : i < zs.length) : Num.val (zs.take (i + 1)) = Num.val (zs.take i) * 10 + (zs.getD i 0 - 48).toNat := by
  rw [List.take_succ_eq_append_getElem h, Num.val_snoc]
  simp [h]
theorem digits_take {zs : List Int} {i : Nat} (h : i < zs.length) (h1 : ∀ d ∈ zs.take i, 48 ≤ d ∧ d ≤ 57) (h2 : 48 ≤ zs.getD i 0 ∧ zs.getD i 0 ≤ 57) : ∀ d ∈ zs.take (i + 1), 48 ≤ d ∧ d ≤ 57 := by
  intro d hd
  rw [List.take_succ_eq_append_getElem h] at hd
  rcases List.mem_append.1 hd with hd | hd
  · exact h1 d hd
  · rw [List.mem_singleton.1 hd]; simpa [h] using h2
theorem getD_mem {zs : List Int} {i : Nat} (h : i < zs.length) : zs.getD i 0 ∈ zs := by
  rw [List.getD_eq_getElem?_getD, List.getElem?_eq_getElem h]; exact List.getElem_mem _

end
section
open Go.RowKit

/-- bytes that a call answers -/
def FieldIs (w w' : World) (e : Ending) (f : List Int) : Prop :=
  ∃ a' n' c', e = .returned (.slice a' n' c') ∧ n' = f.length ∧ Sl .u8 w' a' n' c' f ∧ Below w.heap.size w w'

theorem field_len {l f : List Int} (hl : l.length ≤ 1000) (hf : Spec.field l = f) : f.length ≤ 4000 := by
  unfold Spec.field at hf
  split at hf
  · subst hf; simp
  · subst hf; have := Utf.put_length_le l; omega
theorem field_pos {l f : List Int} (hf : Spec.field l = f) : 0 < f.length := by
  unfold Spec.field at hf
  split at hf
  · subst hf; simp
  · rename_i h; subst hf; have := Utf.put_length_ge l; have := List.length_pos_iff.2 h; omega

end
section
open Go.RowKit

theorem all_ruls {xs : List Rw} {j : Nat} {r : Rul} (h : j < xs.length) (hr : (xs.getD j Rw.no).r = r) : (ruls xs).take (j + 1) = (ruls xs).take j ++ [r] := by
  have hl : j < (ruls xs).length := by rw [ruls_length]; exact h
  rw [List.take_succ_eq_append_getElem hl]
  congr 2
  have := ruls_at xs j
  rw [hr] at this
  rw [← this, List.getD_eq_getElem?_getD, List.getElem?_eq_getElem hl, Option.getD_some]

end
end Go.Proofs.Ytpcebfefbnpbpaa
