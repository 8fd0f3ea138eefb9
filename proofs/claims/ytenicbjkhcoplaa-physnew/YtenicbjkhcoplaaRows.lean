/-
  No cell of these rows narrows 'for every input' (looked for: loops, veiled, ifaces, maps, wideKeys, modest, calm, conditions, laid).
  DERIVED. THE GIVEN ROWS OF THIS SEAT. 4 by the template 'for every input the law returns true; each argument reads behind the call as it read before'; 0 by the template 'total and deterministic' (their statements: YtenicbjkhcoplaaTotals.lean).
  GIVEN WITH THE SEED: the statements are not yours to turn. If you find one false, say at which input.
  Laid BY PROGRAM, IN A SANDBOX (cutbox-rows.mjs): the forced cells as the released guide's own fill.sh prints them over the translation c13af09623d0091e… (all of the seat's roots in one cut). By AI agents, Wed Nov 11 2026. No macro, syntax, notation, axiom, sorry.
-/
import Derived.Test.YtenicbjkhcoplaaChecked
import GoSem.Claim
import GoSem.ClaimJoined
import GoSem.ClaimMapViews
import Derived.JoinedTies
import Derived.KernelRfl
namespace Go.Proofs.Ytenicbjkhcoplaa
/- THE CELL 'sum', in the pinned program and in every row, IS THE sha256 OF THE DUMP (.gsa) THAT YtenicbjkhcoplaaProg.lean LOADS. Nothing in Lean hashes anything: it is a label: what it is worth is what the hold of that sum in a sandbox is worth. -/
noncomputable def Try.pinned : Pinned := { name := "ytenicbjkhcoplaa", sum := "c13af09623d0091e0e3a2206a5bc5eba2e382517b207e390ca372ee6eba7edb5", checked := Try.checked }
namespace Rows
def none {H : Type} : Left H := { results := [], args := [] }

/-- 'paviorlaw03.PhysNew': WHATEVER THE INPUT: true; the input reads as it did. -/
def physNewSpec : ChangeSpec := { name := "physNew", fn := fun _ => fun
  | [d] => { results := [.lit (.bool true)], args := [d] }
  | _ => none }
def physNewRow : OpenClaim := { program := "ytenicbjkhcoplaa", sum := "c13af09623d0091e0e3a2206a5bc5eba2e382517b207e390ca372ee6eba7edb5", func := "pavior/paviorlaw03.PhysNew", spec := "physNew", apart := false }
def PhysNewSaid : Prop := physNewRow.holds Try.pinned (OpenSpec.ofChange physNewSpec)

/-- ITS FALSE NEIGHBOUR: 'it returns false'. Refute it at one input. -/
def physNewWrong : ChangeSpec := { name := "physNew", fn := fun _ => fun
  | [d] => { results := [.lit (.bool false)], args := [d] }
  | _ => none }
def PhysNewWrongFalsely : Prop := physNewRow.holds Try.pinned (OpenSpec.ofChange physNewWrong)

/-- 'paviorlaw03.PhysPlays': WHATEVER THE INPUT: true; the input reads as it did. -/
def physPlaysSpec : ChangeSpec := { name := "physPlays", fn := fun _ => fun
  | [d1, d2] => { results := [.lit (.bool true)], args := [d1, d2] }
  | _ => none }
def physPlaysRow : OpenClaim := { program := "ytenicbjkhcoplaa", sum := "c13af09623d0091e0e3a2206a5bc5eba2e382517b207e390ca372ee6eba7edb5", func := "pavior/paviorlaw03.PhysPlays", spec := "physPlays", apart := false }
def PhysPlaysSaid : Prop := physPlaysRow.holds Try.pinned (OpenSpec.ofChange physPlaysSpec)

/-- ITS FALSE NEIGHBOUR: 'it returns false'. Refute it at one input. -/
def physPlaysWrong : ChangeSpec := { name := "physPlays", fn := fun _ => fun
  | [d1, d2] => { results := [.lit (.bool false)], args := [d1, d2] }
  | _ => none }
def PhysPlaysWrongFalsely : Prop := physPlaysRow.holds Try.pinned (OpenSpec.ofChange physPlaysWrong)

/-- 'paviorlaw03.PhysCopies': WHATEVER THE INPUT: true; the input reads as it did. -/
def physCopiesSpec : ChangeSpec := { name := "physCopies", fn := fun _ => fun
  | [d1, d2, d3, d4, d5] => { results := [.lit (.bool true)], args := [d1, d2, d3, d4, d5] }
  | _ => none }
def physCopiesRow : OpenClaim := { program := "ytenicbjkhcoplaa", sum := "c13af09623d0091e0e3a2206a5bc5eba2e382517b207e390ca372ee6eba7edb5", func := "pavior/paviorlaw03.PhysCopies", spec := "physCopies", apart := false }
def PhysCopiesSaid : Prop := physCopiesRow.holds Try.pinned (OpenSpec.ofChange physCopiesSpec)

/-- ITS FALSE NEIGHBOUR: 'it returns false'. Refute it at one input. -/
def physCopiesWrong : ChangeSpec := { name := "physCopies", fn := fun _ => fun
  | [d1, d2, d3, d4, d5] => { results := [.lit (.bool false)], args := [d1, d2, d3, d4, d5] }
  | _ => none }
def PhysCopiesWrongFalsely : Prop := physCopiesRow.holds Try.pinned (OpenSpec.ofChange physCopiesWrong)

/-- 'paviorlaw03.PhysApart': WHATEVER THE INPUT: true; the input reads as it did. -/
def physApartSpec : ChangeSpec := { name := "physApart", fn := fun _ => fun
  | [d1, d2] => { results := [.lit (.bool true)], args := [d1, d2] }
  | _ => none }
def physApartRow : OpenClaim := { program := "ytenicbjkhcoplaa", sum := "c13af09623d0091e0e3a2206a5bc5eba2e382517b207e390ca372ee6eba7edb5", func := "pavior/paviorlaw03.PhysApart", spec := "physApart", apart := false }
def PhysApartSaid : Prop := physApartRow.holds Try.pinned (OpenSpec.ofChange physApartSpec)

/-- ITS FALSE NEIGHBOUR: 'it returns false'. Refute it at one input. -/
def physApartWrong : ChangeSpec := { name := "physApart", fn := fun _ => fun
  | [d1, d2] => { results := [.lit (.bool false)], args := [d1, d2] }
  | _ => none }
def PhysApartWrongFalsely : Prop := physApartRow.holds Try.pinned (OpenSpec.ofChange physApartWrong)

/- THE SECOND FORM. 'bulk': how many values and letters a reading holds, each counted each time it is reached (what is shared counts as often as it is met; a slice's spare places count too). A statement '..UptoSaid' is the law's where the arguments, and the package variables that the reading takes, are together of bulk at most 1048576: NARROWER than '..Said'. Prove '..Said' where nothing that the law and all that it calls make is longer than what came in: it says more and counts as full. Else prove '..UptoSaid'. A law counts once. -/
mutual
def uptoBulk {H : Type} : DataW H → Nat
  | .lit (.string bytes) => bytes.length + 1
  | .lit _ => 1
  | .nil => 1
  | .ptr d => uptoBulk d + 1
  | .slice elems spare => uptoBulkAll elems + uptoBulkAll spare + 1
  | .agg parts => uptoBulkAll parts + 1
  | .iface _ d => uptoBulk d + 1
  | .map entries => uptoBulkEntries entries + 1
  | .held _ => 1
def uptoBulkAll {H : Type} : List (DataW H) → Nat
  | [] => 0
  | d :: r => uptoBulk d + uptoBulkAll r
def uptoBulkEntries {H : Type} : List (Lit × DataW H) → Nat
  | [] => 0
  | x :: r => uptoBulkEntry x + uptoBulkEntries r
def uptoBulkEntry {H : Type} : Lit × DataW H → Nat
  | (.string bytes, d) => bytes.length + uptoBulk d + 1
  | (_, d) => uptoBulk d + 1
 end
def uptoSmall : (H : Type) → List (DataW H) → Bool := fun _ ds => decide (uptoBulkAll ds ≤ 1048576)
def OpenSpec.upto (s : _root_.Go.ChangeSpec) : _root_.Go.OpenSpec := { _root_.Go.OpenSpec.ofChange s with cond := some uptoSmall }

/-- 'paviorlaw03.PhysNew', WHERE WHAT IT READS IS OF BULK AT MOST 1048576: true; the input reads as it did. -/
def physNewUptoRow : OpenClaim := { program := "ytenicbjkhcoplaa", sum := "c13af09623d0091e0e3a2206a5bc5eba2e382517b207e390ca372ee6eba7edb5", func := "pavior/paviorlaw03.PhysNew", spec := "physNew", apart := false, narrowed := true }
def PhysNewUptoSaid : Prop := physNewUptoRow.holds Try.pinned (OpenSpec.upto physNewSpec)

/-- 'paviorlaw03.PhysPlays', WHERE WHAT IT READS IS OF BULK AT MOST 1048576: true; the input reads as it did. -/
def physPlaysUptoRow : OpenClaim := { program := "ytenicbjkhcoplaa", sum := "c13af09623d0091e0e3a2206a5bc5eba2e382517b207e390ca372ee6eba7edb5", func := "pavior/paviorlaw03.PhysPlays", spec := "physPlays", apart := false, narrowed := true }
def PhysPlaysUptoSaid : Prop := physPlaysUptoRow.holds Try.pinned (OpenSpec.upto physPlaysSpec)

/-- 'paviorlaw03.PhysCopies', WHERE WHAT IT READS IS OF BULK AT MOST 1048576: true; the input reads as it did. -/
def physCopiesUptoRow : OpenClaim := { program := "ytenicbjkhcoplaa", sum := "c13af09623d0091e0e3a2206a5bc5eba2e382517b207e390ca372ee6eba7edb5", func := "pavior/paviorlaw03.PhysCopies", spec := "physCopies", apart := false, narrowed := true }
def PhysCopiesUptoSaid : Prop := physCopiesUptoRow.holds Try.pinned (OpenSpec.upto physCopiesSpec)

/-- 'paviorlaw03.PhysApart', WHERE WHAT IT READS IS OF BULK AT MOST 1048576: true; the input reads as it did. -/
def physApartUptoRow : OpenClaim := { program := "ytenicbjkhcoplaa", sum := "c13af09623d0091e0e3a2206a5bc5eba2e382517b207e390ca372ee6eba7edb5", func := "pavior/paviorlaw03.PhysApart", spec := "physApart", apart := false, narrowed := true }
def PhysApartUptoSaid : Prop := physApartUptoRow.holds Try.pinned (OpenSpec.upto physApartSpec)

end Rows
end Go.Proofs.Ytenicbjkhcoplaa
