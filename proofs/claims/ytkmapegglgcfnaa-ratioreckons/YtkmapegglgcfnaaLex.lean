/- That the last statement of RatioReckons may be walked in the order of its text: asked of the kernel in four pieces. -/
import Derived.Test.YtkmapegglgcfnaaProg
import Derived.Deep.Quiet
namespace Go.Proofs.Ytkmapegglgcfnaa
set_option linter.unusedVariables false

/-- The question of Region.lexFrom, for n operations only. -/
def lexUpto (md : Region.Mode) (ops : Array Oper) : Nat → Nat → Array Bool → Bool
  | 0, _, _ => true
  | n + 1, k, listed => (Region.ready md ops listed).contains k && Region.free md ops listed k && lexUpto md ops n (k + 1) (listed.setIfInBounds k true)
/-- The marks behind n operations. -/
def lexMarks : Nat → Nat → Array Bool → Array Bool
  | 0, _, l => l
  | n + 1, k, l => lexMarks n (k + 1) (l.setIfInBounds k true)

theorem lex_split {md : Region.Mode} {ops : Array Oper} (fuel : Nat) : ∀ (n k : Nat) (l : Array Bool), lexUpto md ops n k l = true → Region.lexFrom md ops fuel (k + n) (lexMarks n k l) = true → Region.lexFrom md ops (fuel + n) k l = true
  | 0, _, _, _, h => h
  | n + 1, k, l, hu, h => by
    have e : k + (n + 1) = k + 1 + n := by omega
    rw [e] at h
    simp only [lexUpto, Bool.and_eq_true] at hu
    obtain ⟨⟨h1, h2⟩, h3⟩ := hu
    have := lex_split fuel n (k + 1) (l.setIfInBounds k true) h3 h
    show Region.lexFrom md ops (fuel + n + 1) k l = true
    simp only [Region.lexFrom, Bool.and_eq_true]
    exact ⟨⟨h1, h2⟩, this⟩

/-- A region's operations, by its number. -/
def opsOf (n : Nat) : Code → Option (Array Oper)
  | .region id ops _ => if id = n then some ops else none
  | .seq a b => match opsOf n a with
    | some c => some c
    | none => opsOf n b
  | .block _ c => opsOf n c
  | .scope c => opsOf n c
  | .loop c => opsOf n c
  | .cond _ a b => match opsOf n a with
    | some c => some c
    | none => opsOf n b
  | _ => none
noncomputable def ops19 : Array Oper := ((Try.f10.body.bind (opsOf 19)).getD #[])

theorem lex_a : lexUpto .any ops19 24 0 (Array.replicate ops19.size false) = true := by kernel_rfl
theorem lex_b : lexUpto .any ops19 24 24 (lexMarks 24 0 (Array.replicate 93 false)) = true := by kernel_rfl
theorem lex_c : lexUpto .any ops19 24 48 (lexMarks 48 0 (Array.replicate 93 false)) = true := by kernel_rfl
theorem lex_d : Region.lexFrom .any ops19 21 72 (lexMarks 72 0 (Array.replicate 93 false)) = true := by kernel_rfl
theorem no_sel : Region.noSelect ops19 = true := by kernel_rfl
theorem size19 : ops19.size = 93 := by kernel_rfl
theorem lex19 : Region.lexB .any ops19 = true := by
  unfold Region.lexB
  rw [no_sel, size19, Bool.true_and]
  have ha := lex_a
  rw [size19] at ha
  refine lex_split (md := .any) (ops := ops19) 69 24 0 _ ha ?_
  refine lex_split (md := .any) (ops := ops19) 45 24 24 _ lex_b ?_
  refine lex_split (md := .any) (ops := ops19) 21 24 48 _ lex_c ?_
  exact lex_d
end Go.Proofs.Ytkmapegglgcfnaa
