/- A region that draws its order, whose operations only read and whose callees may lay new blocks: one walk, in the order of the text, in the class of all worlds that have grown out of the one at hand. -/
import Derived.Test.YtkmapegglgcfnaaR13
namespace Go.Proofs.Ytkmapegglgcfnaa
open Go.RowKit
set_option linter.unusedVariables false

/-- A world that has grown out of w. -/
structure GW (w : World) where
  W : World
  gr : Grown w W

theorem wp_region_gw {P : Program} {id : Nat} {Q : Exit → Act → World → Prop} {a : Act} {w : World} {l : List Oper} (hm : P.follows .mixedOrders = true) (hB : Region.lexB .any l.toArray = true)
    (h : wpQuiet P l.toArray (fun w' => ∃ p : GW w, w' = p.W) (fun a' => ∀ w', (∃ p : GW w, w' = p.W) → Q .normal a' w') l a) : (Code.region id l.toArray true).wp P Q a w :=
  wp_region_quiet (C := fun w' => ∃ p : GW w, w' = p.W) hm hB ⟨⟨w.drew, (Grown.refl w).drew⟩, rfl⟩ (by simpa using h)

theorem gw_cell {w : World} {b o : Nat} {v : Value} (h : w.cell? ⟨b, o, none⟩ = some v) (p : GW w) : p.W.cell? ⟨b, o, none⟩ = some v := gcell p.gr h

theorem gw_of {P : Program} {f : FuncId} {args : Array Value} {w : World} {p : GW w} {v : Value} (h : Calls P f args p.W fun e w' => e = .returned v ∧ Grown p.W w') :
    Calls P f args p.W fun e w' => e = .returned v ∧ ∃ q : GW w, w' = q.W :=
  h.mono fun _ w' ⟨he, hg⟩ => ⟨he, ⟨w', grown_trans p.gr hg⟩, rfl⟩
theorem gw_self {w : World} (p : GW w) : ∃ q : GW w, p.W = q.W := ⟨p, rfl⟩
end Go.Proofs.Ytkmapegglgcfnaa
