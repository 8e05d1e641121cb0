/-
  No cell of these rows narrows 'for every input' (looked for: loops, veiled, ifaces, maps, wideKeys, modest, calm, conditions, laid).
  DERIVED. THE GIVEN ROWS OF THIS SEAT. 5 by the template 'for every input the law returns true; each argument reads behind the call as it read before'; 0 by the template 'total and deterministic' (their statements: YtpnkmnmchdabkaaTotals.lean).
  GIVEN WITH THE SEED: the statements are not yours to turn. If you find one false, say at which input.
  Laid BY PROGRAM, IN A SANDBOX (cutbox-rows.mjs): the forced cells as the released guide's own fill.sh prints them over the translation 62a6962d62f5ecc7… (all of the seat's roots in one cut). By AI agents, Wed Nov 11 2026. No macro, syntax, notation, axiom, sorry.
-/
import Derived.Test.YtpnkmnmchdabkaaChecked
import GoSem.Claim
import GoSem.ClaimJoined
import GoSem.ClaimMapViews
import Derived.JoinedTies
import Derived.KernelRfl
namespace Go.Proofs.Ytpnkmnmchdabkaa
/- THE CELL 'sum', in the pinned program and in every row, IS THE sha256 OF THE DUMP (.gsa) THAT YtpnkmnmchdabkaaProg.lean LOADS. Nothing in Lean hashes anything: it is a label: what it is worth is what the hold of that sum in a sandbox is worth. -/
noncomputable def Try.pinned : Pinned := { name := "ytpnkmnmchdabkaa", sum := "62a6962d62f5ecc7fda33a4e3ae871a65a4d27938503542daedbe2f57268d5fd", checked := Try.checked }
namespace Rows
def none {H : Type} : Left H := { results := [], args := [] }

/-- 'shardflowkeep.Parted': WHATEVER THE INPUT: true; the input reads as it did. -/
def partedSpec : ChangeSpec := { name := "parted", fn := fun _ => fun
  | [d1, d2] => { results := [.lit (.bool true)], args := [d1, d2] }
  | _ => none }
def partedRow : OpenClaim := { program := "ytpnkmnmchdabkaa", sum := "62a6962d62f5ecc7fda33a4e3ae871a65a4d27938503542daedbe2f57268d5fd", func := "shardflow/shardflowkeep.Parted", spec := "parted", apart := false }
def PartedSaid : Prop := partedRow.holds Try.pinned (OpenSpec.ofChange partedSpec)

/-- ITS FALSE NEIGHBOUR: 'it returns false'. Refute it at one input. -/
def partedWrong : ChangeSpec := { name := "parted", fn := fun _ => fun
  | [d1, d2] => { results := [.lit (.bool false)], args := [d1, d2] }
  | _ => none }
def PartedWrongFalsely : Prop := partedRow.holds Try.pinned (OpenSpec.ofChange partedWrong)

/-- 'shardflowkeep.Owners': WHATEVER THE INPUT: true; the input reads as it did. -/
def ownersSpec : ChangeSpec := { name := "owners", fn := fun _ => fun
  | [d1, d2] => { results := [.lit (.bool true)], args := [d1, d2] }
  | _ => none }
def ownersRow : OpenClaim := { program := "ytpnkmnmchdabkaa", sum := "62a6962d62f5ecc7fda33a4e3ae871a65a4d27938503542daedbe2f57268d5fd", func := "shardflow/shardflowkeep.Owners", spec := "owners", recurses := true, apart := false }
def OwnersSaid : Prop := ownersRow.holds Try.pinned (OpenSpec.ofChange ownersSpec)

/-- ITS FALSE NEIGHBOUR: 'it returns false'. Refute it at one input. -/
def ownersWrong : ChangeSpec := { name := "owners", fn := fun _ => fun
  | [d1, d2] => { results := [.lit (.bool false)], args := [d1, d2] }
  | _ => none }
def OwnersWrongFalsely : Prop := ownersRow.holds Try.pinned (OpenSpec.ofChange ownersWrong)

/-- 'shardflowkeep.Batch': WHATEVER THE INPUT: true; the input reads as it did. -/
def batchSpec : ChangeSpec := { name := "batch", fn := fun _ => fun
  | [d1, d2] => { results := [.lit (.bool true)], args := [d1, d2] }
  | _ => none }
def batchRow : OpenClaim := { program := "ytpnkmnmchdabkaa", sum := "62a6962d62f5ecc7fda33a4e3ae871a65a4d27938503542daedbe2f57268d5fd", func := "shardflow/shardflowkeep.Batch", spec := "batch", recurses := true, apart := false }
def BatchSaid : Prop := batchRow.holds Try.pinned (OpenSpec.ofChange batchSpec)

/-- ITS FALSE NEIGHBOUR: 'it returns false'. Refute it at one input. -/
def batchWrong : ChangeSpec := { name := "batch", fn := fun _ => fun
  | [d1, d2] => { results := [.lit (.bool false)], args := [d1, d2] }
  | _ => none }
def BatchWrongFalsely : Prop := batchRow.holds Try.pinned (OpenSpec.ofChange batchWrong)

/-- 'shardflowkeep.Lineage': WHATEVER THE INPUT: true; the input reads as it did. -/
def lineageSpec : ChangeSpec := { name := "lineage", fn := fun _ => fun
  | [d1, d2] => { results := [.lit (.bool true)], args := [d1, d2] }
  | _ => none }
def lineageRow : OpenClaim := { program := "ytpnkmnmchdabkaa", sum := "62a6962d62f5ecc7fda33a4e3ae871a65a4d27938503542daedbe2f57268d5fd", func := "shardflow/shardflowkeep.Lineage", spec := "lineage", recurses := true, apart := false }
def LineageSaid : Prop := lineageRow.holds Try.pinned (OpenSpec.ofChange lineageSpec)

/-- ITS FALSE NEIGHBOUR: 'it returns false'. Refute it at one input. -/
def lineageWrong : ChangeSpec := { name := "lineage", fn := fun _ => fun
  | [d1, d2] => { results := [.lit (.bool false)], args := [d1, d2] }
  | _ => none }
def LineageWrongFalsely : Prop := lineageRow.holds Try.pinned (OpenSpec.ofChange lineageWrong)

/-- 'shardflowkeep.Ends': WHATEVER THE INPUT: true; the input reads as it did. -/
def endsSpec : ChangeSpec := { name := "ends", fn := fun _ => fun
  | [d1, d2, d3] => { results := [.lit (.bool true)], args := [d1, d2, d3] }
  | _ => none }
def endsRow : OpenClaim := { program := "ytpnkmnmchdabkaa", sum := "62a6962d62f5ecc7fda33a4e3ae871a65a4d27938503542daedbe2f57268d5fd", func := "shardflow/shardflowkeep.Ends", spec := "ends", recurses := true, apart := false }
def EndsSaid : Prop := endsRow.holds Try.pinned (OpenSpec.ofChange endsSpec)

/-- ITS FALSE NEIGHBOUR: 'it returns false'. Refute it at one input. -/
def endsWrong : ChangeSpec := { name := "ends", fn := fun _ => fun
  | [d1, d2, d3] => { results := [.lit (.bool false)], args := [d1, d2, d3] }
  | _ => none }
def EndsWrongFalsely : Prop := endsRow.holds Try.pinned (OpenSpec.ofChange endsWrong)

/- THE SECOND FORM. 'bulk': how many values and letters a reading holds, each counted each time it is reached (what is shared counts as often as it is met; a slice's spare places count too). A statement '..UptoSaid' is the law's where the arguments, and the package variables that the reading takes, are together of bulk at most 1048576: NARROWER than '..Said'. Prove '..Said' where nothing that the law and all that it calls make is longer than what came in: it says more and counts as full. Else prove '..UptoSaid'. A law counts once. -/
mutual
def uptoBulk {H : Type} : DataW H → Nat
  | .lit (.string bytes) => bytes.length + 1
  | .lit _ => 1
  | .nil => 1
  | .ptr d => uptoBulk d + 1
  | .slice elems spare => uptoBulkAll elems + uptoBulkAll spare + 1
  | .agg parts => uptoBulkAll parts + 1
  | .iface _ d => uptoBulk d + 1
  | .map entries => uptoBulkEntries entries + 1
  | .held _ => 1
def uptoBulkAll {H : Type} : List (DataW H) → Nat
  | [] => 0
  | d :: r => uptoBulk d + uptoBulkAll r
def uptoBulkEntries {H : Type} : List (Lit × DataW H) → Nat
  | [] => 0
  | x :: r => uptoBulkEntry x + uptoBulkEntries r
def uptoBulkEntry {H : Type} : Lit × DataW H → Nat
  | (.string bytes, d) => bytes.length + uptoBulk d + 1
  | (_, d) => uptoBulk d + 1
 end
def uptoSmall : (H : Type) → List (DataW H) → Bool := fun _ ds => decide (uptoBulkAll ds ≤ 1048576)
def OpenSpec.upto (s : _root_.Go.ChangeSpec) : _root_.Go.OpenSpec := { _root_.Go.OpenSpec.ofChange s with cond := some uptoSmall }

/-- 'shardflowkeep.Parted', WHERE WHAT IT READS IS OF BULK AT MOST 1048576: true; the input reads as it did. -/
def partedUptoRow : OpenClaim := { program := "ytpnkmnmchdabkaa", sum := "62a6962d62f5ecc7fda33a4e3ae871a65a4d27938503542daedbe2f57268d5fd", func := "shardflow/shardflowkeep.Parted", spec := "parted", apart := false, narrowed := true }
def PartedUptoSaid : Prop := partedUptoRow.holds Try.pinned (OpenSpec.upto partedSpec)

/-- 'shardflowkeep.Owners', WHERE WHAT IT READS IS OF BULK AT MOST 1048576: true; the input reads as it did. -/
def ownersUptoRow : OpenClaim := { program := "ytpnkmnmchdabkaa", sum := "62a6962d62f5ecc7fda33a4e3ae871a65a4d27938503542daedbe2f57268d5fd", func := "shardflow/shardflowkeep.Owners", spec := "owners", recurses := true, apart := false, narrowed := true }
def OwnersUptoSaid : Prop := ownersUptoRow.holds Try.pinned (OpenSpec.upto ownersSpec)

/-- 'shardflowkeep.Batch', WHERE WHAT IT READS IS OF BULK AT MOST 1048576: true; the input reads as it did. -/
def batchUptoRow : OpenClaim := { program := "ytpnkmnmchdabkaa", sum := "62a6962d62f5ecc7fda33a4e3ae871a65a4d27938503542daedbe2f57268d5fd", func := "shardflow/shardflowkeep.Batch", spec := "batch", recurses := true, apart := false, narrowed := true }
def BatchUptoSaid : Prop := batchUptoRow.holds Try.pinned (OpenSpec.upto batchSpec)

/-- 'shardflowkeep.Lineage', WHERE WHAT IT READS IS OF BULK AT MOST 1048576: true; the input reads as it did. -/
def lineageUptoRow : OpenClaim := { program := "ytpnkmnmchdabkaa", sum := "62a6962d62f5ecc7fda33a4e3ae871a65a4d27938503542daedbe2f57268d5fd", func := "shardflow/shardflowkeep.Lineage", spec := "lineage", recurses := true, apart := false, narrowed := true }
def LineageUptoSaid : Prop := lineageUptoRow.holds Try.pinned (OpenSpec.upto lineageSpec)

/-- 'shardflowkeep.Ends', WHERE WHAT IT READS IS OF BULK AT MOST 1048576: true; the input reads as it did. -/
def endsUptoRow : OpenClaim := { program := "ytpnkmnmchdabkaa", sum := "62a6962d62f5ecc7fda33a4e3ae871a65a4d27938503542daedbe2f57268d5fd", func := "shardflow/shardflowkeep.Ends", spec := "ends", recurses := true, apart := false, narrowed := true }
def EndsUptoSaid : Prop := endsUptoRow.holds Try.pinned (OpenSpec.upto endsSpec)

end Rows
end Go.Proofs.Ytpnkmnmchdabkaa
