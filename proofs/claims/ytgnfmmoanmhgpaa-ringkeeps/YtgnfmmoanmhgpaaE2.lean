/- Entries and pieces compared. -/
import Derived.Test.YtgnfmmoanmhgpaaC1
import Derived.Laws.StructEq
namespace Go.Proofs.Ytgnfmmoanmhgpaa
open Go.RowKit Go.Lib
set_option linter.unusedVariables false

theorem fields28 : Try.prog.underlying 28 = some (.struct (Try.prog.fieldsOf 28)) := by kernel_rfl
theorem fields30 : Try.prog.underlying 30 = some (.struct (Try.prog.fieldsOf 30)) := by kernel_rfl
theorem fields33 : Try.prog.underlying 33 = some (.struct (Try.prog.fieldsOf 33)) := by kernel_rfl
theorem held28 : Try.prog.stoodInHeld 28 = false := by kernel_rfl
theorem held30 : Try.prog.stoodInHeld 30 = false := by kernel_rfl
theorem held33 : Try.prog.stoodInHeld 33 = false := by kernel_rfl

theorem eq28 (d : Nat) (a b : Int) (w : World) : (Op.equalIn (d + 2) 28 (.agg #[.int .i64 a, .int .i64 b]) (.agg #[.int .i64 a, .int .i64 b])).run Try.prog w = .ok true w := by
  rw [run_equalIn_struct w (d + 1) 28 _ _ fields28 held28]
  simp [Program.fieldsOf, Try.underlying28, Op.eqFields, go_sem, Try.underlying2]
theorem eq30 (d : Nat) (x : Pc) (w : World) : (Op.equalIn (d + 3) 30 (pcV x) (pcV x)).run Try.prog w = .ok true w := by
  rw [run_equalIn_struct w (d + 2) 30 _ _ fields30 held30]
  simp [Program.fieldsOf, Try.underlying30, Op.eqFields, go_sem, Try.underlying3, Try.underlying4, eq28]
theorem eq33 (d : Nat) (x : En) (w : World) : (Op.equalIn (d + 4) 33 (enV x) (enV x)).run Try.prog w = .ok true w := by
  rw [run_equalIn_struct w (d + 3) 33 _ _ fields33 held33]
  simp [Program.fieldsOf, Try.underlying33, Op.eqFields, go_sem, Try.underlying3, Try.underlying2, eq30]
/-- As the walk asks. -/
theorem eqP (x : Pc) (w : World) : (Op.equalIn 10000 30 (pcV x) (pcV x)).run Try.prog w = .ok true w := eq30 9997 x w
theorem eqE (x : En) (w : World) : (Op.equalIn 10000 33 (enV x) (enV x)).run Try.prog w = .ok true w := eq33 9996 x w
theorem eqPx (e c i fn fd tn td : Int) (s : Bool) (w : World) : (Op.equalIn 10000 30 (.agg #[.int .i64 e, .int .i64 c, .int .i64 i, .int .i64 fn, .int .i64 fd, .int .i64 tn, .int .i64 td, .bool s]) (.agg #[.int .i64 e, .int .i64 c, .int .i64 i, .int .i64 fn, .int .i64 fd, .int .i64 tn, .int .i64 td, .bool s])).run Try.prog w = .ok true w := eqP ⟨e, c, i, fn, fd, tn, td, s⟩ w
theorem eqEx (q k e c i fn fd tn td : Int) (s : Bool) (w : World) : (Op.equalIn 10000 33 (.agg #[.int .i64 q, .int .i64 k, .int .i64 e, .int .i64 c, .int .i64 i, .int .i64 fn, .int .i64 fd, .int .i64 tn, .int .i64 td, .bool s]) (.agg #[.int .i64 q, .int .i64 k, .int .i64 e, .int .i64 c, .int .i64 i, .int .i64 fn, .int .i64 fd, .int .i64 tn, .int .i64 td, .bool s])).run Try.prog w = .ok true w := eqE ⟨q, k, ⟨e, c, i, fn, fd, tn, td, s⟩⟩ w
end Go.Proofs.Ytgnfmmoanmhgpaa
