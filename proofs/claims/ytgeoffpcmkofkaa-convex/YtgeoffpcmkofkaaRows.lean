/-
  No cell of these rows narrows 'for every input' (looked for: loops, veiled, ifaces, maps, wideKeys, modest, calm, conditions, laid).
  DERIVED. THE GIVEN ROWS OF THIS SEAT. 8 by the template 'for every input the law returns true; each argument reads behind the call as it read before'; 0 by the template 'total and deterministic' (their statements: YtgeoffpcmkofkaaTotals.lean).
  GIVEN WITH THE SEED: the statements are not yours to turn. If you find one false, say at which input.
  Laid BY PROGRAM, IN A SANDBOX (cutbox-rows.mjs): the forced cells as the released guide's own fill.sh prints them over the translation 541fca7f11267827… (all of the seat's roots in one cut). By AI agents, Wed Nov 11 2026. No macro, syntax, notation, axiom, sorry.
-/
import Derived.Test.YtgeoffpcmkofkaaChecked
import GoSem.Claim
import GoSem.ClaimJoined
import GoSem.ClaimMapViews
import Derived.JoinedTies
import Derived.KernelRfl
namespace Go.Proofs.Ytgeoffpcmkofkaa
/- THE CELL 'sum', in the pinned program and in every row, IS THE sha256 OF THE DUMP (.gsa) THAT YtgeoffpcmkofkaaProg.lean LOADS. Nothing in Lean hashes anything: it is a label: what it is worth is what the hold of that sum in a sandbox is worth. -/
noncomputable def Try.pinned : Pinned := { name := "ytgeoffpcmkofkaa", sum := "541fca7f112678276b42e94a6aae9fc6c73c495dd48a7872b231302ae40b5dbf", checked := Try.checked }
namespace Rows
def none {H : Type} : Left H := { results := [], args := [] }

/-- 'plumblaw.Sides': WHATEVER THE INPUT: true; the input reads as it did. -/
def sidesSpec : ChangeSpec := { name := "sides", fn := fun _ => fun
  | [d1, d2, d3] => { results := [.lit (.bool true)], args := [d1, d2, d3] }
  | _ => none }
def sidesRow : OpenClaim := { program := "ytgeoffpcmkofkaa", sum := "541fca7f112678276b42e94a6aae9fc6c73c495dd48a7872b231302ae40b5dbf", func := "plumb/plumblaw.Sides", spec := "sides", inPlace := ["math.Float64bits", "math.Float64frombits", "math.FMA"], plainKeys := false, apart := false }
def SidesSaid : Prop := sidesRow.holds Try.pinned (OpenSpec.ofChange sidesSpec)

/-- ITS FALSE NEIGHBOUR: 'it returns false'. Refute it at one input. -/
def sidesWrong : ChangeSpec := { name := "sides", fn := fun _ => fun
  | [d1, d2, d3] => { results := [.lit (.bool false)], args := [d1, d2, d3] }
  | _ => none }
def SidesWrongFalsely : Prop := sidesRow.holds Try.pinned (OpenSpec.ofChange sidesWrong)

/-- 'plumblaw.Circles': WHATEVER THE INPUT: true; the input reads as it did. -/
def circlesSpec : ChangeSpec := { name := "circles", fn := fun _ => fun
  | [d1, d2, d3, d4] => { results := [.lit (.bool true)], args := [d1, d2, d3, d4] }
  | _ => none }
def circlesRow : OpenClaim := { program := "ytgeoffpcmkofkaa", sum := "541fca7f112678276b42e94a6aae9fc6c73c495dd48a7872b231302ae40b5dbf", func := "plumb/plumblaw.Circles", spec := "circles", inPlace := ["math.Float64bits", "math.Float64frombits", "math.FMA"], plainKeys := false, apart := false }
def CirclesSaid : Prop := circlesRow.holds Try.pinned (OpenSpec.ofChange circlesSpec)

/-- ITS FALSE NEIGHBOUR: 'it returns false'. Refute it at one input. -/
def circlesWrong : ChangeSpec := { name := "circles", fn := fun _ => fun
  | [d1, d2, d3, d4] => { results := [.lit (.bool false)], args := [d1, d2, d3, d4] }
  | _ => none }
def CirclesWrongFalsely : Prop := circlesRow.holds Try.pinned (OpenSpec.ofChange circlesWrong)

/-- 'plumbkeep.Turned': WHATEVER THE INPUT: true; the input reads as it did. -/
def turnedSpec : ChangeSpec := { name := "turned", fn := fun _ => fun
  | [d1, d2, d3, d4, d5] => { results := [.lit (.bool true)], args := [d1, d2, d3, d4, d5] }
  | _ => none }
def turnedRow : OpenClaim := { program := "ytgeoffpcmkofkaa", sum := "541fca7f112678276b42e94a6aae9fc6c73c495dd48a7872b231302ae40b5dbf", func := "plumb/plumbkeep.Turned", spec := "turned", inPlace := ["math.Float64bits", "math.Float64frombits", "math.FMA"], plainKeys := false, apart := false }
def TurnedSaid : Prop := turnedRow.holds Try.pinned (OpenSpec.ofChange turnedSpec)

/-- ITS FALSE NEIGHBOUR: 'it returns false'. Refute it at one input. -/
def turnedWrong : ChangeSpec := { name := "turned", fn := fun _ => fun
  | [d1, d2, d3, d4, d5] => { results := [.lit (.bool false)], args := [d1, d2, d3, d4, d5] }
  | _ => none }
def TurnedWrongFalsely : Prop := turnedRow.holds Try.pinned (OpenSpec.ofChange turnedWrong)

/-- 'plumblaw.Meets': WHATEVER THE INPUT: true; the input reads as it did. -/
def meetsSpec : ChangeSpec := { name := "meets", fn := fun _ => fun
  | [d1, d2, d3, d4] => { results := [.lit (.bool true)], args := [d1, d2, d3, d4] }
  | _ => none }
def meetsRow : OpenClaim := { program := "ytgeoffpcmkofkaa", sum := "541fca7f112678276b42e94a6aae9fc6c73c495dd48a7872b231302ae40b5dbf", func := "plumb/plumblaw.Meets", spec := "meets", inPlace := ["math.Float64bits", "math.Float64frombits", "math.FMA"], plainKeys := false, apart := false }
def MeetsSaid : Prop := meetsRow.holds Try.pinned (OpenSpec.ofChange meetsSpec)

/-- ITS FALSE NEIGHBOUR: 'it returns false'. Refute it at one input. -/
def meetsWrong : ChangeSpec := { name := "meets", fn := fun _ => fun
  | [d1, d2, d3, d4] => { results := [.lit (.bool false)], args := [d1, d2, d3, d4] }
  | _ => none }
def MeetsWrongFalsely : Prop := meetsRow.holds Try.pinned (OpenSpec.ofChange meetsWrong)

/-- 'plumblaw.Insides': WHATEVER THE INPUT: true; the input reads as it did. -/
def insidesSpec : ChangeSpec := { name := "insides", fn := fun _ => fun
  | [d1, d2] => { results := [.lit (.bool true)], args := [d1, d2] }
  | _ => none }
def insidesRow : OpenClaim := { program := "ytgeoffpcmkofkaa", sum := "541fca7f112678276b42e94a6aae9fc6c73c495dd48a7872b231302ae40b5dbf", func := "plumb/plumblaw.Insides", spec := "insides", inPlace := ["math.Float64bits", "math.Float64frombits", "math.FMA"], plainKeys := false, apart := false }
def InsidesSaid : Prop := insidesRow.holds Try.pinned (OpenSpec.ofChange insidesSpec)

/-- ITS FALSE NEIGHBOUR: 'it returns false'. Refute it at one input. -/
def insidesWrong : ChangeSpec := { name := "insides", fn := fun _ => fun
  | [d1, d2] => { results := [.lit (.bool false)], args := [d1, d2] }
  | _ => none }
def InsidesWrongFalsely : Prop := insidesRow.holds Try.pinned (OpenSpec.ofChange insidesWrong)

/-- 'plumbkeep.Crossed': WHATEVER THE INPUT: true; the input reads as it did. -/
def crossedSpec : ChangeSpec := { name := "crossed", fn := fun _ => fun
  | [d1, d2, d3, d4] => { results := [.lit (.bool true)], args := [d1, d2, d3, d4] }
  | _ => none }
def crossedRow : OpenClaim := { program := "ytgeoffpcmkofkaa", sum := "541fca7f112678276b42e94a6aae9fc6c73c495dd48a7872b231302ae40b5dbf", func := "plumb/plumbkeep.Crossed", spec := "crossed", inPlace := ["math.Float64bits", "math.Float64frombits", "math.FMA"], plainKeys := false, apart := false }
def CrossedSaid : Prop := crossedRow.holds Try.pinned (OpenSpec.ofChange crossedSpec)

/-- ITS FALSE NEIGHBOUR: 'it returns false'. Refute it at one input. -/
def crossedWrong : ChangeSpec := { name := "crossed", fn := fun _ => fun
  | [d1, d2, d3, d4] => { results := [.lit (.bool false)], args := [d1, d2, d3, d4] }
  | _ => none }
def CrossedWrongFalsely : Prop := crossedRow.holds Try.pinned (OpenSpec.ofChange crossedWrong)

/-- 'plumblaw.Hulls': WHATEVER THE INPUT: true; the input reads as it did. -/
def hullsSpec : ChangeSpec := { name := "hulls", fn := fun _ => fun
  | [d] => { results := [.lit (.bool true)], args := [d] }
  | _ => none }
def hullsRow : OpenClaim := { program := "ytgeoffpcmkofkaa", sum := "541fca7f112678276b42e94a6aae9fc6c73c495dd48a7872b231302ae40b5dbf", func := "plumb/plumblaw.Hulls", spec := "hulls", inPlace := ["math.Float64bits", "math.Float64frombits", "math.FMA"], unfollowed := true, recurses := true, plainKeys := false, leaving := true, apart := false }
def HullsSaid : Prop := hullsRow.holds Try.pinned (OpenSpec.ofChange hullsSpec)

/-- ITS FALSE NEIGHBOUR: 'it returns false'. Refute it at one input. -/
def hullsWrong : ChangeSpec := { name := "hulls", fn := fun _ => fun
  | [d] => { results := [.lit (.bool false)], args := [d] }
  | _ => none }
def HullsWrongFalsely : Prop := hullsRow.holds Try.pinned (OpenSpec.ofChange hullsWrong)

/-- 'plumbkeep.Convex': WHATEVER THE INPUT: true; the input reads as it did. -/
def convexSpec : ChangeSpec := { name := "convex", fn := fun _ => fun
  | [d1, d2] => { results := [.lit (.bool true)], args := [d1, d2] }
  | _ => none }
def convexRow : OpenClaim := { program := "ytgeoffpcmkofkaa", sum := "541fca7f112678276b42e94a6aae9fc6c73c495dd48a7872b231302ae40b5dbf", func := "plumb/plumbkeep.Convex", spec := "convex", inPlace := ["math.Float64bits", "math.Float64frombits", "math.FMA"], unfollowed := true, recurses := true, plainKeys := false, leaving := true, apart := false }
def ConvexSaid : Prop := convexRow.holds Try.pinned (OpenSpec.ofChange convexSpec)

/-- ITS FALSE NEIGHBOUR: 'it returns false'. Refute it at one input. -/
def convexWrong : ChangeSpec := { name := "convex", fn := fun _ => fun
  | [d1, d2] => { results := [.lit (.bool false)], args := [d1, d2] }
  | _ => none }
def ConvexWrongFalsely : Prop := convexRow.holds Try.pinned (OpenSpec.ofChange convexWrong)

/- THE SECOND FORM. 'bulk': how many values and letters a reading holds, each counted each time it is reached (what is shared counts as often as it is met; a slice's spare places count too). A statement '..UptoSaid' is the law's where the arguments, and the package variables that the reading takes, are together of bulk at most 1048576: NARROWER than '..Said'. Prove '..Said' where nothing that the law and all that it calls make is longer than what came in: it says more and counts as full. Else prove '..UptoSaid'. A law counts once. -/
mutual
def uptoBulk {H : Type} : DataW H → Nat
  | .lit (.string bytes) => bytes.length + 1
  | .lit _ => 1
  | .nil => 1
  | .ptr d => uptoBulk d + 1
  | .slice elems spare => uptoBulkAll elems + uptoBulkAll spare + 1
  | .agg parts => uptoBulkAll parts + 1
  | .iface _ d => uptoBulk d + 1
  | .map entries => uptoBulkEntries entries + 1
  | .held _ => 1
def uptoBulkAll {H : Type} : List (DataW H) → Nat
  | [] => 0
  | d :: r => uptoBulk d + uptoBulkAll r
def uptoBulkEntries {H : Type} : List (Lit × DataW H) → Nat
  | [] => 0
  | x :: r => uptoBulkEntry x + uptoBulkEntries r
def uptoBulkEntry {H : Type} : Lit × DataW H → Nat
  | (.string bytes, d) => bytes.length + uptoBulk d + 1
  | (_, d) => uptoBulk d + 1
 end
def uptoSmall : (H : Type) → List (DataW H) → Bool := fun _ ds => decide (uptoBulkAll ds ≤ 1048576)
def OpenSpec.upto (s : _root_.Go.ChangeSpec) : _root_.Go.OpenSpec := { _root_.Go.OpenSpec.ofChange s with cond := some uptoSmall }

/-- 'plumblaw.Sides', WHERE WHAT IT READS IS OF BULK AT MOST 1048576: true; the input reads as it did. -/
def sidesUptoRow : OpenClaim := { program := "ytgeoffpcmkofkaa", sum := "541fca7f112678276b42e94a6aae9fc6c73c495dd48a7872b231302ae40b5dbf", func := "plumb/plumblaw.Sides", spec := "sides", inPlace := ["math.Float64bits", "math.Float64frombits", "math.FMA"], plainKeys := false, apart := false, narrowed := true }
def SidesUptoSaid : Prop := sidesUptoRow.holds Try.pinned (OpenSpec.upto sidesSpec)

/-- 'plumblaw.Circles', WHERE WHAT IT READS IS OF BULK AT MOST 1048576: true; the input reads as it did. -/
def circlesUptoRow : OpenClaim := { program := "ytgeoffpcmkofkaa", sum := "541fca7f112678276b42e94a6aae9fc6c73c495dd48a7872b231302ae40b5dbf", func := "plumb/plumblaw.Circles", spec := "circles", inPlace := ["math.Float64bits", "math.Float64frombits", "math.FMA"], plainKeys := false, apart := false, narrowed := true }
def CirclesUptoSaid : Prop := circlesUptoRow.holds Try.pinned (OpenSpec.upto circlesSpec)

/-- 'plumbkeep.Turned', WHERE WHAT IT READS IS OF BULK AT MOST 1048576: true; the input reads as it did. -/
def turnedUptoRow : OpenClaim := { program := "ytgeoffpcmkofkaa", sum := "541fca7f112678276b42e94a6aae9fc6c73c495dd48a7872b231302ae40b5dbf", func := "plumb/plumbkeep.Turned", spec := "turned", inPlace := ["math.Float64bits", "math.Float64frombits", "math.FMA"], plainKeys := false, apart := false, narrowed := true }
def TurnedUptoSaid : Prop := turnedUptoRow.holds Try.pinned (OpenSpec.upto turnedSpec)

/-- 'plumblaw.Meets', WHERE WHAT IT READS IS OF BULK AT MOST 1048576: true; the input reads as it did. -/
def meetsUptoRow : OpenClaim := { program := "ytgeoffpcmkofkaa", sum := "541fca7f112678276b42e94a6aae9fc6c73c495dd48a7872b231302ae40b5dbf", func := "plumb/plumblaw.Meets", spec := "meets", inPlace := ["math.Float64bits", "math.Float64frombits", "math.FMA"], plainKeys := false, apart := false, narrowed := true }
def MeetsUptoSaid : Prop := meetsUptoRow.holds Try.pinned (OpenSpec.upto meetsSpec)

/-- 'plumblaw.Insides', WHERE WHAT IT READS IS OF BULK AT MOST 1048576: true; the input reads as it did. -/
def insidesUptoRow : OpenClaim := { program := "ytgeoffpcmkofkaa", sum := "541fca7f112678276b42e94a6aae9fc6c73c495dd48a7872b231302ae40b5dbf", func := "plumb/plumblaw.Insides", spec := "insides", inPlace := ["math.Float64bits", "math.Float64frombits", "math.FMA"], plainKeys := false, apart := false, narrowed := true }
def InsidesUptoSaid : Prop := insidesUptoRow.holds Try.pinned (OpenSpec.upto insidesSpec)

/-- 'plumbkeep.Crossed', WHERE WHAT IT READS IS OF BULK AT MOST 1048576: true; the input reads as it did. -/
def crossedUptoRow : OpenClaim := { program := "ytgeoffpcmkofkaa", sum := "541fca7f112678276b42e94a6aae9fc6c73c495dd48a7872b231302ae40b5dbf", func := "plumb/plumbkeep.Crossed", spec := "crossed", inPlace := ["math.Float64bits", "math.Float64frombits", "math.FMA"], plainKeys := false, apart := false, narrowed := true }
def CrossedUptoSaid : Prop := crossedUptoRow.holds Try.pinned (OpenSpec.upto crossedSpec)

/-- 'plumblaw.Hulls', WHERE WHAT IT READS IS OF BULK AT MOST 1048576: true; the input reads as it did. -/
def hullsUptoRow : OpenClaim := { program := "ytgeoffpcmkofkaa", sum := "541fca7f112678276b42e94a6aae9fc6c73c495dd48a7872b231302ae40b5dbf", func := "plumb/plumblaw.Hulls", spec := "hulls", inPlace := ["math.Float64bits", "math.Float64frombits", "math.FMA"], unfollowed := true, recurses := true, plainKeys := false, leaving := true, apart := false, narrowed := true }
def HullsUptoSaid : Prop := hullsUptoRow.holds Try.pinned (OpenSpec.upto hullsSpec)

/-- 'plumbkeep.Convex', WHERE WHAT IT READS IS OF BULK AT MOST 1048576: true; the input reads as it did. -/
def convexUptoRow : OpenClaim := { program := "ytgeoffpcmkofkaa", sum := "541fca7f112678276b42e94a6aae9fc6c73c495dd48a7872b231302ae40b5dbf", func := "plumb/plumbkeep.Convex", spec := "convex", inPlace := ["math.Float64bits", "math.Float64frombits", "math.FMA"], unfollowed := true, recurses := true, plainKeys := false, leaving := true, apart := false, narrowed := true }
def ConvexUptoSaid : Prop := convexUptoRow.holds Try.pinned (OpenSpec.upto convexSpec)

end Rows
end Go.Proofs.Ytgeoffpcmkofkaa
