/- Bytes of which bits that stand in a row are turned: nothing of the program. (Cut out of layer 14's law CrcBack.) -/
import Derived.Test.YtbfjihbkkcggmaaPackC
import Derived.Test.YtbfjihbkkcggmaaPackD
namespace Go.Proofs.Ytbfjihbkkcggmaa
open Go.RowKit

/-- bytes of which the first i bits from f on are turned, as B says -/
def Flip (L : List Int) (f B i : Nat) (zs : List Int) : Prop := Crc.Bytes zs ∧ zs.length = L.length ∧ Crc.num zs = Crc.num L ^^^ (B % 2 ^ i * 2 ^ f)
set_option maxRecDepth 100000 in
theorem flip_none {L : List Int} (h : Crc.Bytes L) (f B : Nat) : Flip L f B 0 L := ⟨h, rfl, by simp [Nat.mod_one]⟩
set_option maxRecDepth 100000 in
theorem xor_mul (a b f : Nat) : (a ^^^ b) * 2 ^ f = (a * 2 ^ f) ^^^ (b * 2 ^ f) := by
  rw [Nat.mul_comm _ (2 ^ f), Nat.mul_comm a, Nat.mul_comm b]
  apply Nat.eq_of_testBit_eq
  intro i
  simp only [Nat.testBit_xor, Nat.testBit_two_pow_mul]
  cases decide (f ≤ i) <;> simp
set_option maxRecDepth 100000 in
theorem add_top {x i : Nat} (h : x < 2 ^ i) : x + 2 ^ i = x ^^^ 2 ^ i := by
  apply Nat.eq_of_testBit_eq
  intro j
  rw [Nat.testBit_xor, Nat.add_comm, show 2 ^ i + x = 2 ^ i * 1 + x from by omega, Nat.testBit_two_pow_mul_add _ h]
  by_cases hj : j < i
  · rw [if_pos hj, Nat.testBit_two_pow_of_ne (by omega)]; simp
  · rw [if_neg hj, Nat.testBit_lt_two_pow (Nat.lt_of_lt_of_le h (Nat.pow_le_pow_right (by decide) (by omega)))]
    by_cases he : j = i
    · subst he; simp
    · rw [Nat.testBit_two_pow_of_ne (by omega), Nat.testBit_lt_two_pow (show 1 < 2 ^ (j - i) from Nat.one_lt_two_pow (by omega))]; rfl
set_option maxRecDepth 100000 in
theorem mod_next_set {B i : Nat} (h : B / 2 ^ i % 2 = 1) : B % 2 ^ (i + 1) = B % 2 ^ i + 2 ^ i := by
  rw [Nat.pow_succ, Nat.mod_mul, h, Nat.mul_one]
set_option maxRecDepth 100000 in
theorem mod_next_same {B i : Nat} (h : ¬ B / 2 ^ i % 2 = 1) : B % 2 ^ (i + 1) = B % 2 ^ i := by
  rw [Nat.pow_succ, Nat.mod_mul, show B / 2 ^ i % 2 = 0 from by omega, Nat.mul_zero, Nat.add_zero]
set_option maxRecDepth 100000 in
theorem flip_same {L zs : List Int} {f B i : Nat} (h : Flip L f B i zs) (hb : ¬ B / 2 ^ i % 2 = 1) : Flip L f B (i + 1) zs := by
  obtain ⟨h1, h2, h3⟩ := h
  exact ⟨h1, h2, by rw [mod_next_same hb]; exact h3⟩
set_option maxRecDepth 100000 in
theorem flip_next {L zs : List Int} {f B i j r : Nat} (h : Flip L f B i zs) (hb : B / 2 ^ i % 2 = 1) (hj : j = (f + i) / 8) (hr : r = (f + i) % 8) (hl : j < zs.length) {z q : Nat} (hz : (z : Int) = zs.getD j 0) (hq : q = z ^^^ 2 ^ r) : Flip L f B (i + 1) (zs.set j (q : Int)) := by
  obtain ⟨h1, h2, h3⟩ := h
  have hr8 : 2 ^ r < 256 := Nat.pow_lt_pow_right (a := 2) (by decide) (show r < 8 by omega)
  have hzb : z < 256 := by
    have := h1 (zs.getD j 0) (by rw [show zs.getD j 0 = zs[j] from by simp [hl]]; exact List.getElem_mem hl)
    omega
  have hqb : q < 256 := by rw [hq]; exact Nat.xor_lt_two_pow (n := 8) hzb hr8
  have hf := Crc.num_flip zs j (2 ^ r) h1 hl hr8
  rw [← hz, Int.toNat_natCast, ← hq] at hf
  refine ⟨?_, by simpa using h2, ?_⟩
  · intro u hu
    rcases List.mem_or_eq_of_mem_set hu with hu | hu
    · exact h1 u hu
    · subst hu; omega
  · rw [hf, h3, mod_next_set hb, add_top (Nat.mod_lt _ (Nat.two_pow_pos i)), xor_mul, ← Nat.pow_add, ← Nat.pow_add, Nat.xor_assoc, show r + 8 * j = i + f from by omega]
set_option maxRecDepth 100000 in
theorem flip_end {L zs : List Int} {f B : Nat} (hB : B < 4294967296) (h : Flip L f B 32 zs) : Crc.num zs = Crc.num L ^^^ (B * 2 ^ f) := by
  have h3 := h.2.2
  rwa [Nat.mod_eq_of_lt (show B < 2 ^ 32 from hB)] at h3
set_option maxRecDepth 100000 in
theorem flip_opn {b zs : List Int} {f B n : Nat} (hb : Crc.Bytes b) (hB : B < 4294967296) (hn : (Crc.lock b).length = n) (h4 : 4 ≤ n) (hf : f ≤ 8 * n) (h : Flip (Crc.lock b) f B 32 zs) : (Crc.opn zs).isSome = decide (B = 0) :=
  Crc.flip_seen (Crc.lock_bytes hb) h.1 h.2.1 (by rw [hn]; exact h4) (Crc.raw_lock hb) hB (by rw [hn]; exact hf) (flip_end hB h)
set_option maxRecDepth 100000 in
theorem owns_some {w : World} {B : Nat} {T : TypeId} {a : Option Addr} {n c : Nat} {l : List Value} (h : w.ownsRow B T 1 (.slice a n c) n l) (hn : 0 < n) : ∃ g, a = some ⟨g, 0, none⟩ ∧ B ≤ g := by
  rcases h.2 with ⟨_, h0⟩ | ⟨g, cap, cur, hv, hg, _⟩
  · omega
  · cases hv; exact ⟨g, rfl, hg⟩

end Go.Proofs.Ytbfjihbkkcggmaa
