/-
  No cell of these rows narrows 'for every input' (looked for: loops, veiled, ifaces, maps, wideKeys, modest, calm, conditions, laid).
  DERIVED. THE GIVEN ROWS OF THIS SEAT. 6 by the template 'for every input the law returns true; each argument reads behind the call as it read before'; 0 by the template 'total and deterministic' (their statements: YteoblaopbhdneaaTotals.lean).
  GIVEN WITH THE SEED: the statements are not yours to turn. If you find one false, say at which input.
  Laid BY PROGRAM, IN A SANDBOX (cutbox-rows.mjs): the forced cells as the released guide's own fill.sh prints them over the translation 075771e36a940fe4… (all of the seat's roots in one cut). By AI agents, Wed Nov 11 2026. No macro, syntax, notation, axiom, sorry.
-/
import Derived.Test.YteoblaopbhdneaaChecked
import GoSem.Claim
import GoSem.ClaimJoined
import GoSem.ClaimMapViews
import Derived.JoinedTies
import Derived.KernelRfl
namespace Go.Proofs.Yteoblaopbhdneaa
/- THE CELL 'sum', in the pinned program and in every row, IS THE sha256 OF THE DUMP (.gsa) THAT YteoblaopbhdneaaProg.lean LOADS. Nothing in Lean hashes anything: it is a label: what it is worth is what the hold of that sum in a sandbox is worth. -/
noncomputable def Try.pinned : Pinned := { name := "yteoblaopbhdneaa", sum := "075771e36a940fe43ef315f9f67c17f9b907dd1a26749b23620a4e4b4ad3eb29", checked := Try.checked }
namespace Rows
def none {H : Type} : Left H := { results := [], args := [] }

/-- 'paviorlaw04.WalkPlaces': WHATEVER THE INPUT: true; the input reads as it did. -/
def walkPlacesSpec : ChangeSpec := { name := "walkPlaces", fn := fun _ => fun
  | [d1, d2] => { results := [.lit (.bool true)], args := [d1, d2] }
  | _ => none }
def walkPlacesRow : OpenClaim := { program := "yteoblaopbhdneaa", sum := "075771e36a940fe43ef315f9f67c17f9b907dd1a26749b23620a4e4b4ad3eb29", func := "pavior/paviorlaw04.WalkPlaces", spec := "walkPlaces", apart := false }
def WalkPlacesSaid : Prop := walkPlacesRow.holds Try.pinned (OpenSpec.ofChange walkPlacesSpec)

/-- ITS FALSE NEIGHBOUR: 'it returns false'. Refute it at one input. -/
def walkPlacesWrong : ChangeSpec := { name := "walkPlaces", fn := fun _ => fun
  | [d1, d2] => { results := [.lit (.bool false)], args := [d1, d2] }
  | _ => none }
def WalkPlacesWrongFalsely : Prop := walkPlacesRow.holds Try.pinned (OpenSpec.ofChange walkPlacesWrong)

/-- 'paviorlaw04.WalkFinds': WHATEVER THE INPUT: true; the input reads as it did. -/
def walkFindsSpec : ChangeSpec := { name := "walkFinds", fn := fun _ => fun
  | [d1, d2, d3, d4] => { results := [.lit (.bool true)], args := [d1, d2, d3, d4] }
  | _ => none }
def walkFindsRow : OpenClaim := { program := "yteoblaopbhdneaa", sum := "075771e36a940fe43ef315f9f67c17f9b907dd1a26749b23620a4e4b4ad3eb29", func := "pavior/paviorlaw04.WalkFinds", spec := "walkFinds", recurses := true, apart := false }
def WalkFindsSaid : Prop := walkFindsRow.holds Try.pinned (OpenSpec.ofChange walkFindsSpec)

/-- ITS FALSE NEIGHBOUR: 'it returns false'. Refute it at one input. -/
def walkFindsWrong : ChangeSpec := { name := "walkFinds", fn := fun _ => fun
  | [d1, d2, d3, d4] => { results := [.lit (.bool false)], args := [d1, d2, d3, d4] }
  | _ => none }
def WalkFindsWrongFalsely : Prop := walkFindsRow.holds Try.pinned (OpenSpec.ofChange walkFindsWrong)

/-- 'paviorlaw04.WalkWhole': WHATEVER THE INPUT: true; the input reads as it did. -/
def walkWholeSpec : ChangeSpec := { name := "walkWhole", fn := fun _ => fun
  | [d1, d2, d3] => { results := [.lit (.bool true)], args := [d1, d2, d3] }
  | _ => none }
def walkWholeRow : OpenClaim := { program := "yteoblaopbhdneaa", sum := "075771e36a940fe43ef315f9f67c17f9b907dd1a26749b23620a4e4b4ad3eb29", func := "pavior/paviorlaw04.WalkWhole", spec := "walkWhole", recurses := true, apart := false }
def WalkWholeSaid : Prop := walkWholeRow.holds Try.pinned (OpenSpec.ofChange walkWholeSpec)

/-- ITS FALSE NEIGHBOUR: 'it returns false'. Refute it at one input. -/
def walkWholeWrong : ChangeSpec := { name := "walkWhole", fn := fun _ => fun
  | [d1, d2, d3] => { results := [.lit (.bool false)], args := [d1, d2, d3] }
  | _ => none }
def WalkWholeWrongFalsely : Prop := walkWholeRow.holds Try.pinned (OpenSpec.ofChange walkWholeWrong)

/-- 'paviorlaw04.WalkHangs': WHATEVER THE INPUT: true; the input reads as it did. -/
def walkHangsSpec : ChangeSpec := { name := "walkHangs", fn := fun _ => fun
  | [d1, d2, d3, d4, d5, d6] => { results := [.lit (.bool true)], args := [d1, d2, d3, d4, d5, d6] }
  | _ => none }
def walkHangsRow : OpenClaim := { program := "yteoblaopbhdneaa", sum := "075771e36a940fe43ef315f9f67c17f9b907dd1a26749b23620a4e4b4ad3eb29", func := "pavior/paviorlaw04.WalkHangs", spec := "walkHangs", apart := false }
def WalkHangsSaid : Prop := walkHangsRow.holds Try.pinned (OpenSpec.ofChange walkHangsSpec)

/-- ITS FALSE NEIGHBOUR: 'it returns false'. Refute it at one input. -/
def walkHangsWrong : ChangeSpec := { name := "walkHangs", fn := fun _ => fun
  | [d1, d2, d3, d4, d5, d6] => { results := [.lit (.bool false)], args := [d1, d2, d3, d4, d5, d6] }
  | _ => none }
def WalkHangsWrongFalsely : Prop := walkHangsRow.holds Try.pinned (OpenSpec.ofChange walkHangsWrong)

/-- 'paviorlaw04.WalkStays': WHATEVER THE INPUT: true; the input reads as it did. -/
def walkStaysSpec : ChangeSpec := { name := "walkStays", fn := fun _ => fun
  | [d1, d2, d3, d4] => { results := [.lit (.bool true)], args := [d1, d2, d3, d4] }
  | _ => none }
def walkStaysRow : OpenClaim := { program := "yteoblaopbhdneaa", sum := "075771e36a940fe43ef315f9f67c17f9b907dd1a26749b23620a4e4b4ad3eb29", func := "pavior/paviorlaw04.WalkStays", spec := "walkStays", apart := false }
def WalkStaysSaid : Prop := walkStaysRow.holds Try.pinned (OpenSpec.ofChange walkStaysSpec)

/-- ITS FALSE NEIGHBOUR: 'it returns false'. Refute it at one input. -/
def walkStaysWrong : ChangeSpec := { name := "walkStays", fn := fun _ => fun
  | [d1, d2, d3, d4] => { results := [.lit (.bool false)], args := [d1, d2, d3, d4] }
  | _ => none }
def WalkStaysWrongFalsely : Prop := walkStaysRow.holds Try.pinned (OpenSpec.ofChange walkStaysWrong)

/-- 'paviorlaw04.WalkLeads': WHATEVER THE INPUT: true; the input reads as it did. -/
def walkLeadsSpec : ChangeSpec := { name := "walkLeads", fn := fun _ => fun
  | [d1, d2, d3] => { results := [.lit (.bool true)], args := [d1, d2, d3] }
  | _ => none }
def walkLeadsRow : OpenClaim := { program := "yteoblaopbhdneaa", sum := "075771e36a940fe43ef315f9f67c17f9b907dd1a26749b23620a4e4b4ad3eb29", func := "pavior/paviorlaw04.WalkLeads", spec := "walkLeads", apart := false }
def WalkLeadsSaid : Prop := walkLeadsRow.holds Try.pinned (OpenSpec.ofChange walkLeadsSpec)

/-- ITS FALSE NEIGHBOUR: 'it returns false'. Refute it at one input. -/
def walkLeadsWrong : ChangeSpec := { name := "walkLeads", fn := fun _ => fun
  | [d1, d2, d3] => { results := [.lit (.bool false)], args := [d1, d2, d3] }
  | _ => none }
def WalkLeadsWrongFalsely : Prop := walkLeadsRow.holds Try.pinned (OpenSpec.ofChange walkLeadsWrong)

/- THE SECOND FORM. 'bulk': how many values and letters a reading holds, each counted each time it is reached (what is shared counts as often as it is met; a slice's spare places count too). A statement '..UptoSaid' is the law's where the arguments, and the package variables that the reading takes, are together of bulk at most 1048576: NARROWER than '..Said'. Prove '..Said' where nothing that the law and all that it calls make is longer than what came in: it says more and counts as full. Else prove '..UptoSaid'. A law counts once. -/
mutual
def uptoBulk {H : Type} : DataW H → Nat
  | .lit (.string bytes) => bytes.length + 1
  | .lit _ => 1
  | .nil => 1
  | .ptr d => uptoBulk d + 1
  | .slice elems spare => uptoBulkAll elems + uptoBulkAll spare + 1
  | .agg parts => uptoBulkAll parts + 1
  | .iface _ d => uptoBulk d + 1
  | .map entries => uptoBulkEntries entries + 1
  | .held _ => 1
def uptoBulkAll {H : Type} : List (DataW H) → Nat
  | [] => 0
  | d :: r => uptoBulk d + uptoBulkAll r
def uptoBulkEntries {H : Type} : List (Lit × DataW H) → Nat
  | [] => 0
  | x :: r => uptoBulkEntry x + uptoBulkEntries r
def uptoBulkEntry {H : Type} : Lit × DataW H → Nat
  | (.string bytes, d) => bytes.length + uptoBulk d + 1
  | (_, d) => uptoBulk d + 1
 end
def uptoSmall : (H : Type) → List (DataW H) → Bool := fun _ ds => decide (uptoBulkAll ds ≤ 1048576)
def OpenSpec.upto (s : _root_.Go.ChangeSpec) : _root_.Go.OpenSpec := { _root_.Go.OpenSpec.ofChange s with cond := some uptoSmall }

/-- 'paviorlaw04.WalkPlaces', WHERE WHAT IT READS IS OF BULK AT MOST 1048576: true; the input reads as it did. -/
def walkPlacesUptoRow : OpenClaim := { program := "yteoblaopbhdneaa", sum := "075771e36a940fe43ef315f9f67c17f9b907dd1a26749b23620a4e4b4ad3eb29", func := "pavior/paviorlaw04.WalkPlaces", spec := "walkPlaces", apart := false, narrowed := true }
def WalkPlacesUptoSaid : Prop := walkPlacesUptoRow.holds Try.pinned (OpenSpec.upto walkPlacesSpec)

/-- 'paviorlaw04.WalkFinds', WHERE WHAT IT READS IS OF BULK AT MOST 1048576: true; the input reads as it did. -/
def walkFindsUptoRow : OpenClaim := { program := "yteoblaopbhdneaa", sum := "075771e36a940fe43ef315f9f67c17f9b907dd1a26749b23620a4e4b4ad3eb29", func := "pavior/paviorlaw04.WalkFinds", spec := "walkFinds", recurses := true, apart := false, narrowed := true }
def WalkFindsUptoSaid : Prop := walkFindsUptoRow.holds Try.pinned (OpenSpec.upto walkFindsSpec)

/-- 'paviorlaw04.WalkWhole', WHERE WHAT IT READS IS OF BULK AT MOST 1048576: true; the input reads as it did. -/
def walkWholeUptoRow : OpenClaim := { program := "yteoblaopbhdneaa", sum := "075771e36a940fe43ef315f9f67c17f9b907dd1a26749b23620a4e4b4ad3eb29", func := "pavior/paviorlaw04.WalkWhole", spec := "walkWhole", recurses := true, apart := false, narrowed := true }
def WalkWholeUptoSaid : Prop := walkWholeUptoRow.holds Try.pinned (OpenSpec.upto walkWholeSpec)

/-- 'paviorlaw04.WalkHangs', WHERE WHAT IT READS IS OF BULK AT MOST 1048576: true; the input reads as it did. -/
def walkHangsUptoRow : OpenClaim := { program := "yteoblaopbhdneaa", sum := "075771e36a940fe43ef315f9f67c17f9b907dd1a26749b23620a4e4b4ad3eb29", func := "pavior/paviorlaw04.WalkHangs", spec := "walkHangs", apart := false, narrowed := true }
def WalkHangsUptoSaid : Prop := walkHangsUptoRow.holds Try.pinned (OpenSpec.upto walkHangsSpec)

/-- 'paviorlaw04.WalkStays', WHERE WHAT IT READS IS OF BULK AT MOST 1048576: true; the input reads as it did. -/
def walkStaysUptoRow : OpenClaim := { program := "yteoblaopbhdneaa", sum := "075771e36a940fe43ef315f9f67c17f9b907dd1a26749b23620a4e4b4ad3eb29", func := "pavior/paviorlaw04.WalkStays", spec := "walkStays", apart := false, narrowed := true }
def WalkStaysUptoSaid : Prop := walkStaysUptoRow.holds Try.pinned (OpenSpec.upto walkStaysSpec)

/-- 'paviorlaw04.WalkLeads', WHERE WHAT IT READS IS OF BULK AT MOST 1048576: true; the input reads as it did. -/
def walkLeadsUptoRow : OpenClaim := { program := "yteoblaopbhdneaa", sum := "075771e36a940fe43ef315f9f67c17f9b907dd1a26749b23620a4e4b4ad3eb29", func := "pavior/paviorlaw04.WalkLeads", spec := "walkLeads", apart := false, narrowed := true }
def WalkLeadsUptoSaid : Prop := walkLeadsUptoRow.holds Try.pinned (OpenSpec.upto walkLeadsSpec)

end Rows
end Go.Proofs.Yteoblaopbhdneaa
