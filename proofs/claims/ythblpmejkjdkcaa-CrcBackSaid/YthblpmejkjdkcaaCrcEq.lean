/- Two arrays of four bytes, held against each other. -/
import Derived.Test.YthblpmejkjdkcaaGenStr
import Derived.Laws.StructEq
namespace Go.Proofs.Ythblpmejkjdkcaa
open Go.RowKit

set_option maxRecDepth 100000 in
theorem info_four : (Try.prog.info? 35).map (·.size) = some 4 := by kernel_rfl

set_option maxHeartbeats 1000000 in
set_option maxRecDepth 100000 in
theorem equal4 (w : World) (a b c d a' b' c' d' : Int) :
    (Op.equalIn 10000 35 (.agg #[.int .u8 a, .int .u8 b, .int .u8 c, .int .u8 d]) (.agg #[.int .u8 a', .int .u8 b', .int .u8 c', .int .u8 d'])).run Try.prog w = .ok (a == a' && (b == b' && (c == c' && d == d'))) w := by
  obtain ⟨i0, hi, hz0, hz1, hz2⟩ := info_parts info_u8
  have e := fun (w : World) (x y : Int) => run_equalIn_int w 9998 5 .u8 .u8 x y Try.underlying5
  have hp : ∀ (w : World) (xs : Array Value) (o : Nat) (v : Value), xs[o]? = some v → (part 5 xs o).run Try.prog w = .ok v w := fun w xs o v hx => by
    simp [part, isAgg, run_underlying Try.underlying5, hx]
  have e2 : ∀ (w : World) (x y : Int), (Op.equalIn 9999 5 (.int .u8 x) (.int .u8 y)).run Try.prog w = .ok (x == y) w := e
  clear e
  show (Op.equalIn (9999 + 1) _ _ _).run _ _ = _
  unfold Op.equalIn
  simp only [Sem.run_bind, run_underlying Try.underlying35, Result.andThen_ok]
  simp [Sem.run_bind, sizeOf, typeInfo, hi, hz1, List.range', hp, e2]
  cases ha : a == a' <;> cases hb : b == b' <;> cases hc : c == c' <;> cases hd : d == d' <;> simp_all
end Go.Proofs.Ythblpmejkjdkcaa
