/-
  No cell of these rows narrows 'for every input' (looked for: loops, veiled, ifaces, maps, wideKeys, modest, calm, conditions, laid).
  DERIVED. THE GIVEN ROWS OF THIS SEAT. 7 by the template 'for every input the law returns true; each argument reads behind the call as it read before'; 0 by the template 'total and deterministic' (their statements: YtpkagigjcnjlpaaTotals.lean).
  GIVEN WITH THE SEED: the statements are not yours to turn. If you find one false, say at which input.
  Laid BY PROGRAM, IN A SANDBOX (cutbox-rows.mjs): the forced cells as the released guide's own fill.sh prints them over the translation 8a821a18bb38b2bb… (all of the seat's roots in one cut). By AI agents, Wed Nov 11 2026. No macro, syntax, notation, axiom, sorry.
-/
import Derived.Test.YtpkagigjcnjlpaaChecked
import GoSem.Claim
import GoSem.ClaimJoined
import GoSem.ClaimMapViews
import Derived.JoinedTies
import Derived.KernelRfl
namespace Go.Proofs.Ytpkagigjcnjlpaa
/- THE CELL 'sum', in the pinned program and in every row, IS THE sha256 OF THE DUMP (.gsa) THAT YtpkagigjcnjlpaaProg.lean LOADS. Nothing in Lean hashes anything: it is a label: what it is worth is what the hold of that sum in a sandbox is worth. -/
noncomputable def Try.pinned : Pinned := { name := "ytpkagigjcnjlpaa", sum := "8a821a18bb38b2bbdc700c14ae654e5edd608beb9af98d2d84e1df76c19bed9e", checked := Try.checked }
namespace Rows
def none {H : Type} : Left H := { results := [], args := [] }

/-- 'paviorlaw05.TlbOf': WHATEVER THE INPUT: true; the input reads as it did. -/
def tlbOfSpec : ChangeSpec := { name := "tlbOf", fn := fun _ => fun
  | [d1, d2] => { results := [.lit (.bool true)], args := [d1, d2] }
  | _ => none }
def tlbOfRow : OpenClaim := { program := "ytpkagigjcnjlpaa", sum := "8a821a18bb38b2bbdc700c14ae654e5edd608beb9af98d2d84e1df76c19bed9e", func := "pavior/paviorlaw05.TlbOf", spec := "tlbOf", apart := false }
def TlbOfSaid : Prop := tlbOfRow.holds Try.pinned (OpenSpec.ofChange tlbOfSpec)

/-- ITS FALSE NEIGHBOUR: 'it returns false'. Refute it at one input. -/
def tlbOfWrong : ChangeSpec := { name := "tlbOf", fn := fun _ => fun
  | [d1, d2] => { results := [.lit (.bool false)], args := [d1, d2] }
  | _ => none }
def TlbOfWrongFalsely : Prop := tlbOfRow.holds Try.pinned (OpenSpec.ofChange tlbOfWrong)

/-- 'paviorlaw05.TlbClashes': WHATEVER THE INPUT: true; the input reads as it did. -/
def tlbClashesSpec : ChangeSpec := { name := "tlbClashes", fn := fun _ => fun
  | [d1, d2] => { results := [.lit (.bool true)], args := [d1, d2] }
  | _ => none }
def tlbClashesRow : OpenClaim := { program := "ytpkagigjcnjlpaa", sum := "8a821a18bb38b2bbdc700c14ae654e5edd608beb9af98d2d84e1df76c19bed9e", func := "pavior/paviorlaw05.TlbClashes", spec := "tlbClashes", apart := false }
def TlbClashesSaid : Prop := tlbClashesRow.holds Try.pinned (OpenSpec.ofChange tlbClashesSpec)

/-- ITS FALSE NEIGHBOUR: 'it returns false'. Refute it at one input. -/
def tlbClashesWrong : ChangeSpec := { name := "tlbClashes", fn := fun _ => fun
  | [d1, d2] => { results := [.lit (.bool false)], args := [d1, d2] }
  | _ => none }
def TlbClashesWrongFalsely : Prop := tlbClashesRow.holds Try.pinned (OpenSpec.ofChange tlbClashesWrong)

/-- 'paviorlaw05.TlbPlays': WHATEVER THE INPUT: true; the input reads as it did. -/
def tlbPlaysSpec : ChangeSpec := { name := "tlbPlays", fn := fun _ => fun
  | [d] => { results := [.lit (.bool true)], args := [d] }
  | _ => none }
def tlbPlaysRow : OpenClaim := { program := "ytpkagigjcnjlpaa", sum := "8a821a18bb38b2bbdc700c14ae654e5edd608beb9af98d2d84e1df76c19bed9e", func := "pavior/paviorlaw05.TlbPlays", spec := "tlbPlays", unfollowed := true, recurses := true, apart := false }
def TlbPlaysSaid : Prop := tlbPlaysRow.holds Try.pinned (OpenSpec.ofChange tlbPlaysSpec)

/-- ITS FALSE NEIGHBOUR: 'it returns false'. Refute it at one input. -/
def tlbPlaysWrong : ChangeSpec := { name := "tlbPlays", fn := fun _ => fun
  | [d] => { results := [.lit (.bool false)], args := [d] }
  | _ => none }
def TlbPlaysWrongFalsely : Prop := tlbPlaysRow.holds Try.pinned (OpenSpec.ofChange tlbPlaysWrong)

/-- 'paviorlaw05.TlbFull': WHATEVER THE INPUT: true; the input reads as it did. -/
def tlbFullSpec : ChangeSpec := { name := "tlbFull", fn := fun _ => fun
  | [d1, d2] => { results := [.lit (.bool true)], args := [d1, d2] }
  | _ => none }
def tlbFullRow : OpenClaim := { program := "ytpkagigjcnjlpaa", sum := "8a821a18bb38b2bbdc700c14ae654e5edd608beb9af98d2d84e1df76c19bed9e", func := "pavior/paviorlaw05.TlbFull", spec := "tlbFull", apart := false }
def TlbFullSaid : Prop := tlbFullRow.holds Try.pinned (OpenSpec.ofChange tlbFullSpec)

/-- ITS FALSE NEIGHBOUR: 'it returns false'. Refute it at one input. -/
def tlbFullWrong : ChangeSpec := { name := "tlbFull", fn := fun _ => fun
  | [d1, d2] => { results := [.lit (.bool false)], args := [d1, d2] }
  | _ => none }
def TlbFullWrongFalsely : Prop := tlbFullRow.holds Try.pinned (OpenSpec.ofChange tlbFullWrong)

/-- 'paviorlaw05.TlbOne': WHATEVER THE INPUT: true; the input reads as it did. -/
def tlbOneSpec : ChangeSpec := { name := "tlbOne", fn := fun _ => fun
  | [d1, d2, d3] => { results := [.lit (.bool true)], args := [d1, d2, d3] }
  | _ => none }
def tlbOneRow : OpenClaim := { program := "ytpkagigjcnjlpaa", sum := "8a821a18bb38b2bbdc700c14ae654e5edd608beb9af98d2d84e1df76c19bed9e", func := "pavior/paviorlaw05.TlbOne", spec := "tlbOne", unfollowed := true, recurses := true, apart := false }
def TlbOneSaid : Prop := tlbOneRow.holds Try.pinned (OpenSpec.ofChange tlbOneSpec)

/-- ITS FALSE NEIGHBOUR: 'it returns false'. Refute it at one input. -/
def tlbOneWrong : ChangeSpec := { name := "tlbOne", fn := fun _ => fun
  | [d1, d2, d3] => { results := [.lit (.bool false)], args := [d1, d2, d3] }
  | _ => none }
def TlbOneWrongFalsely : Prop := tlbOneRow.holds Try.pinned (OpenSpec.ofChange tlbOneWrong)

/-- 'paviorlaw05.TlbStays': WHATEVER THE INPUT: true; the input reads as it did. -/
def tlbStaysSpec : ChangeSpec := { name := "tlbStays", fn := fun _ => fun
  | [d] => { results := [.lit (.bool true)], args := [d] }
  | _ => none }
def tlbStaysRow : OpenClaim := { program := "ytpkagigjcnjlpaa", sum := "8a821a18bb38b2bbdc700c14ae654e5edd608beb9af98d2d84e1df76c19bed9e", func := "pavior/paviorlaw05.TlbStays", spec := "tlbStays", unfollowed := true, recurses := true, apart := false }
def TlbStaysSaid : Prop := tlbStaysRow.holds Try.pinned (OpenSpec.ofChange tlbStaysSpec)

/-- ITS FALSE NEIGHBOUR: 'it returns false'. Refute it at one input. -/
def tlbStaysWrong : ChangeSpec := { name := "tlbStays", fn := fun _ => fun
  | [d] => { results := [.lit (.bool false)], args := [d] }
  | _ => none }
def TlbStaysWrongFalsely : Prop := tlbStaysRow.holds Try.pinned (OpenSpec.ofChange tlbStaysWrong)

/-- 'paviorlaw05.TlbDrops': WHATEVER THE INPUT: true; the input reads as it did. -/
def tlbDropsSpec : ChangeSpec := { name := "tlbDrops", fn := fun _ => fun
  | [d1, d2, d3, d4] => { results := [.lit (.bool true)], args := [d1, d2, d3, d4] }
  | _ => none }
def tlbDropsRow : OpenClaim := { program := "ytpkagigjcnjlpaa", sum := "8a821a18bb38b2bbdc700c14ae654e5edd608beb9af98d2d84e1df76c19bed9e", func := "pavior/paviorlaw05.TlbDrops", spec := "tlbDrops", unfollowed := true, recurses := true, apart := false }
def TlbDropsSaid : Prop := tlbDropsRow.holds Try.pinned (OpenSpec.ofChange tlbDropsSpec)

/-- ITS FALSE NEIGHBOUR: 'it returns false'. Refute it at one input. -/
def tlbDropsWrong : ChangeSpec := { name := "tlbDrops", fn := fun _ => fun
  | [d1, d2, d3, d4] => { results := [.lit (.bool false)], args := [d1, d2, d3, d4] }
  | _ => none }
def TlbDropsWrongFalsely : Prop := tlbDropsRow.holds Try.pinned (OpenSpec.ofChange tlbDropsWrong)

/- THE SECOND FORM. 'bulk': how many values and letters a reading holds, each counted each time it is reached (what is shared counts as often as it is met; a slice's spare places count too). A statement '..UptoSaid' is the law's where the arguments, and the package variables that the reading takes, are together of bulk at most 1048576: NARROWER than '..Said'. Prove '..Said' where nothing that the law and all that it calls make is longer than what came in: it says more and counts as full. Else prove '..UptoSaid'. A law counts once. -/
mutual
def uptoBulk {H : Type} : DataW H → Nat
  | .lit (.string bytes) => bytes.length + 1
  | .lit _ => 1
  | .nil => 1
  | .ptr d => uptoBulk d + 1
  | .slice elems spare => uptoBulkAll elems + uptoBulkAll spare + 1
  | .agg parts => uptoBulkAll parts + 1
  | .iface _ d => uptoBulk d + 1
  | .map entries => uptoBulkEntries entries + 1
  | .held _ => 1
def uptoBulkAll {H : Type} : List (DataW H) → Nat
  | [] => 0
  | d :: r => uptoBulk d + uptoBulkAll r
def uptoBulkEntries {H : Type} : List (Lit × DataW H) → Nat
  | [] => 0
  | x :: r => uptoBulkEntry x + uptoBulkEntries r
def uptoBulkEntry {H : Type} : Lit × DataW H → Nat
  | (.string bytes, d) => bytes.length + uptoBulk d + 1
  | (_, d) => uptoBulk d + 1
 end
def uptoSmall : (H : Type) → List (DataW H) → Bool := fun _ ds => decide (uptoBulkAll ds ≤ 1048576)
def OpenSpec.upto (s : _root_.Go.ChangeSpec) : _root_.Go.OpenSpec := { _root_.Go.OpenSpec.ofChange s with cond := some uptoSmall }

/-- 'paviorlaw05.TlbOf', WHERE WHAT IT READS IS OF BULK AT MOST 1048576: true; the input reads as it did. -/
def tlbOfUptoRow : OpenClaim := { program := "ytpkagigjcnjlpaa", sum := "8a821a18bb38b2bbdc700c14ae654e5edd608beb9af98d2d84e1df76c19bed9e", func := "pavior/paviorlaw05.TlbOf", spec := "tlbOf", apart := false, narrowed := true }
def TlbOfUptoSaid : Prop := tlbOfUptoRow.holds Try.pinned (OpenSpec.upto tlbOfSpec)

/-- 'paviorlaw05.TlbClashes', WHERE WHAT IT READS IS OF BULK AT MOST 1048576: true; the input reads as it did. -/
def tlbClashesUptoRow : OpenClaim := { program := "ytpkagigjcnjlpaa", sum := "8a821a18bb38b2bbdc700c14ae654e5edd608beb9af98d2d84e1df76c19bed9e", func := "pavior/paviorlaw05.TlbClashes", spec := "tlbClashes", apart := false, narrowed := true }
def TlbClashesUptoSaid : Prop := tlbClashesUptoRow.holds Try.pinned (OpenSpec.upto tlbClashesSpec)

/-- 'paviorlaw05.TlbPlays', WHERE WHAT IT READS IS OF BULK AT MOST 1048576: true; the input reads as it did. -/
def tlbPlaysUptoRow : OpenClaim := { program := "ytpkagigjcnjlpaa", sum := "8a821a18bb38b2bbdc700c14ae654e5edd608beb9af98d2d84e1df76c19bed9e", func := "pavior/paviorlaw05.TlbPlays", spec := "tlbPlays", unfollowed := true, recurses := true, apart := false, narrowed := true }
def TlbPlaysUptoSaid : Prop := tlbPlaysUptoRow.holds Try.pinned (OpenSpec.upto tlbPlaysSpec)

/-- 'paviorlaw05.TlbFull', WHERE WHAT IT READS IS OF BULK AT MOST 1048576: true; the input reads as it did. -/
def tlbFullUptoRow : OpenClaim := { program := "ytpkagigjcnjlpaa", sum := "8a821a18bb38b2bbdc700c14ae654e5edd608beb9af98d2d84e1df76c19bed9e", func := "pavior/paviorlaw05.TlbFull", spec := "tlbFull", apart := false, narrowed := true }
def TlbFullUptoSaid : Prop := tlbFullUptoRow.holds Try.pinned (OpenSpec.upto tlbFullSpec)

/-- 'paviorlaw05.TlbOne', WHERE WHAT IT READS IS OF BULK AT MOST 1048576: true; the input reads as it did. -/
def tlbOneUptoRow : OpenClaim := { program := "ytpkagigjcnjlpaa", sum := "8a821a18bb38b2bbdc700c14ae654e5edd608beb9af98d2d84e1df76c19bed9e", func := "pavior/paviorlaw05.TlbOne", spec := "tlbOne", unfollowed := true, recurses := true, apart := false, narrowed := true }
def TlbOneUptoSaid : Prop := tlbOneUptoRow.holds Try.pinned (OpenSpec.upto tlbOneSpec)

/-- 'paviorlaw05.TlbStays', WHERE WHAT IT READS IS OF BULK AT MOST 1048576: true; the input reads as it did. -/
def tlbStaysUptoRow : OpenClaim := { program := "ytpkagigjcnjlpaa", sum := "8a821a18bb38b2bbdc700c14ae654e5edd608beb9af98d2d84e1df76c19bed9e", func := "pavior/paviorlaw05.TlbStays", spec := "tlbStays", unfollowed := true, recurses := true, apart := false, narrowed := true }
def TlbStaysUptoSaid : Prop := tlbStaysUptoRow.holds Try.pinned (OpenSpec.upto tlbStaysSpec)

/-- 'paviorlaw05.TlbDrops', WHERE WHAT IT READS IS OF BULK AT MOST 1048576: true; the input reads as it did. -/
def tlbDropsUptoRow : OpenClaim := { program := "ytpkagigjcnjlpaa", sum := "8a821a18bb38b2bbdc700c14ae654e5edd608beb9af98d2d84e1df76c19bed9e", func := "pavior/paviorlaw05.TlbDrops", spec := "tlbDrops", unfollowed := true, recurses := true, apart := false, narrowed := true }
def TlbDropsUptoSaid : Prop := tlbDropsUptoRow.holds Try.pinned (OpenSpec.upto tlbDropsSpec)

end Rows
end Go.Proofs.Ytpkagigjcnjlpaa
