/-
  NARROWER THAN 'FOR EVERY INPUT', by the rows' own cells (each row's printed sentence says how): BatchPlays: laid · BatchAll: laid · BatchStore: laid · BatchFull: laid · BatchOver: laid.
  DERIVED. THE GIVEN ROWS OF THIS SEAT. 5 by the template 'for every input the law returns true; each argument reads behind the call as it read before'; 0 by the template 'total and deterministic' (their statements: YtokficfpgppaeaaDoorTotals.lean).
  GIVEN WITH THE SEED: the statements are not yours to turn. If you find one false, say at which input.
  Laid BY PROGRAM, IN A SANDBOX (cutbox-rows.mjs): the forced cells as the released guide's own fill.sh prints them over the translation b28f3277d5889ddd… (all of the seat's roots in one cut). By AI agents, Wed Nov 11 2026. No macro, syntax, notation, axiom, sorry.
-/
import Derived.Test.YtokficfpgppaeaaDoorChecked
import GoSem.Claim
import GoSem.ClaimJoined
import GoSem.ClaimMapViews
import Derived.JoinedTies
import Derived.KernelRfl
namespace Go.Proofs.YtokficfpgppaeaaDoor
/- THE CELL 'sum', in the pinned program and in every row, IS THE sha256 OF THE DUMP (.gsa) THAT YtokficfpgppaeaaDoorProg.lean LOADS. Nothing in Lean hashes anything: it is a label: what it is worth is what the hold of that sum in a sandbox is worth. -/
noncomputable def Tryd.pinned : Pinned := { name := "ytokficfpgppaeaadoor", sum := "b28f3277d5889dddffadf6d895e170e169cc01c1808cb854c1afedfc12bb375a", checked := Tryd.checked }
namespace Rows
def none {H : Type} : Left H := { results := [], args := [] }

/- WHAT THE LISTED PACKAGE-LEVEL VARIABLES READ AS WHEN THE CALL BEGINS. Each datum BY PROGRAM (the guide's laid-datum.mjs) off the statement by which the dump's own 'gosem.cut.vars' lays the variable. In a bare row this is a premise. The card (YtokficfpgppaeaaDoorCards.lean) ties it to the program's text. -/
def laid_onionskin_sha_roundWords {H : Type} : DataW H := .agg [.lit (.int .u32 1116352408), .lit (.int .u32 1899447441), .lit (.int .u32 3049323471), .lit (.int .u32 3921009573), .lit (.int .u32 961987163), .lit (.int .u32 1508970993), .lit (.int .u32 2453635748), .lit (.int .u32 2870763221), .lit (.int .u32 3624381080), .lit (.int .u32 310598401), .lit (.int .u32 607225278), .lit (.int .u32 1426881987), .lit (.int .u32 1925078388), .lit (.int .u32 2162078206), .lit (.int .u32 2614888103), .lit (.int .u32 3248222580), .lit (.int .u32 3835390401), .lit (.int .u32 4022224774), .lit (.int .u32 264347078), .lit (.int .u32 604807628), .lit (.int .u32 770255983), .lit (.int .u32 1249150122), .lit (.int .u32 1555081692), .lit (.int .u32 1996064986), .lit (.int .u32 2554220882), .lit (.int .u32 2821834349), .lit (.int .u32 2952996808), .lit (.int .u32 3210313671), .lit (.int .u32 3336571891), .lit (.int .u32 3584528711), .lit (.int .u32 113926993), .lit (.int .u32 338241895), .lit (.int .u32 666307205), .lit (.int .u32 773529912), .lit (.int .u32 1294757372), .lit (.int .u32 1396182291), .lit (.int .u32 1695183700), .lit (.int .u32 1986661051), .lit (.int .u32 2177026350), .lit (.int .u32 2456956037), .lit (.int .u32 2730485921), .lit (.int .u32 2820302411), .lit (.int .u32 3259730800), .lit (.int .u32 3345764771), .lit (.int .u32 3516065817), .lit (.int .u32 3600352804), .lit (.int .u32 4094571909), .lit (.int .u32 275423344), .lit (.int .u32 430227734), .lit (.int .u32 506948616), .lit (.int .u32 659060556), .lit (.int .u32 883997877), .lit (.int .u32 958139571), .lit (.int .u32 1322822218), .lit (.int .u32 1537002063), .lit (.int .u32 1747873779), .lit (.int .u32 1955562222), .lit (.int .u32 2024104815), .lit (.int .u32 2227730452), .lit (.int .u32 2361852424), .lit (.int .u32 2428436474), .lit (.int .u32 2756734187), .lit (.int .u32 3204031479), .lit (.int .u32 3329325298)]

/-- 'onionskinlaw04.BatchPlays': WHATEVER THE INPUT: true; the input reads as it did. -/
def batchPlaysSpec : ChangeSpec := { name := "batchPlays", fn := fun _ => fun
  | [d1, d2] => { results := [.lit (.bool true)], args := [d1, d2] }
  | _ => none }
def batchPlaysRow : OpenClaim := { program := "ytokficfpgppaeaadoor", sum := "b28f3277d5889dddffadf6d895e170e169cc01c1808cb854c1afedfc12bb375a", func := "onionskin/onionskinlaw04.BatchPlays", spec := "batchPlays", inPlace := ["internal/reflectlite.ValueOf", "internal/reflectlite.Swapper", "(internal/reflectlite.Value).Len"], unfollowed := true, recurses := true, named := ["onionskin/sha.roundWords"], plainKeys := false, apart := false, laid := [("onionskin/sha.roundWords", laid_onionskin_sha_roundWords)] }
def BatchPlaysSaid : Prop := batchPlaysRow.holds Tryd.pinned (OpenSpec.ofChange batchPlaysSpec)

/-- ITS FALSE NEIGHBOUR: 'it returns false'. Refute it at one input. -/
def batchPlaysWrong : ChangeSpec := { name := "batchPlays", fn := fun _ => fun
  | [d1, d2] => { results := [.lit (.bool false)], args := [d1, d2] }
  | _ => none }
def BatchPlaysWrongFalsely : Prop := batchPlaysRow.holds Tryd.pinned (OpenSpec.ofChange batchPlaysWrong)

/-- 'onionskinlaw04.BatchAll': WHATEVER THE INPUT: true; the input reads as it did. -/
def batchAllSpec : ChangeSpec := { name := "batchAll", fn := fun _ => fun
  | [d1, d2, d3, d4] => { results := [.lit (.bool true)], args := [d1, d2, d3, d4] }
  | _ => none }
def batchAllRow : OpenClaim := { program := "ytokficfpgppaeaadoor", sum := "b28f3277d5889dddffadf6d895e170e169cc01c1808cb854c1afedfc12bb375a", func := "onionskin/onionskinlaw04.BatchAll", spec := "batchAll", inPlace := ["internal/reflectlite.ValueOf", "internal/reflectlite.Swapper", "(internal/reflectlite.Value).Len"], unfollowed := true, recurses := true, named := ["onionskin/sha.roundWords"], plainKeys := false, apart := false, laid := [("onionskin/sha.roundWords", laid_onionskin_sha_roundWords)] }
def BatchAllSaid : Prop := batchAllRow.holds Tryd.pinned (OpenSpec.ofChange batchAllSpec)

/-- ITS FALSE NEIGHBOUR: 'it returns false'. Refute it at one input. -/
def batchAllWrong : ChangeSpec := { name := "batchAll", fn := fun _ => fun
  | [d1, d2, d3, d4] => { results := [.lit (.bool false)], args := [d1, d2, d3, d4] }
  | _ => none }
def BatchAllWrongFalsely : Prop := batchAllRow.holds Tryd.pinned (OpenSpec.ofChange batchAllWrong)

/-- 'onionskinlaw04.BatchStore': WHATEVER THE INPUT: true; the input reads as it did. -/
def batchStoreSpec : ChangeSpec := { name := "batchStore", fn := fun _ => fun
  | [d] => { results := [.lit (.bool true)], args := [d] }
  | _ => none }
def batchStoreRow : OpenClaim := { program := "ytokficfpgppaeaadoor", sum := "b28f3277d5889dddffadf6d895e170e169cc01c1808cb854c1afedfc12bb375a", func := "onionskin/onionskinlaw04.BatchStore", spec := "batchStore", inPlace := ["internal/reflectlite.ValueOf", "internal/reflectlite.Swapper", "(internal/reflectlite.Value).Len"], unfollowed := true, recurses := true, named := ["onionskin/sha.roundWords"], plainKeys := false, apart := false, laid := [("onionskin/sha.roundWords", laid_onionskin_sha_roundWords)] }
def BatchStoreSaid : Prop := batchStoreRow.holds Tryd.pinned (OpenSpec.ofChange batchStoreSpec)

/-- ITS FALSE NEIGHBOUR: 'it returns false'. Refute it at one input. -/
def batchStoreWrong : ChangeSpec := { name := "batchStore", fn := fun _ => fun
  | [d] => { results := [.lit (.bool false)], args := [d] }
  | _ => none }
def BatchStoreWrongFalsely : Prop := batchStoreRow.holds Tryd.pinned (OpenSpec.ofChange batchStoreWrong)

/-- 'onionskinlaw04.BatchFull': WHATEVER THE INPUT: true; the input reads as it did. -/
def batchFullSpec : ChangeSpec := { name := "batchFull", fn := fun _ => fun
  | [d1, d2, d3] => { results := [.lit (.bool true)], args := [d1, d2, d3] }
  | _ => none }
def batchFullRow : OpenClaim := { program := "ytokficfpgppaeaadoor", sum := "b28f3277d5889dddffadf6d895e170e169cc01c1808cb854c1afedfc12bb375a", func := "onionskin/onionskinlaw04.BatchFull", spec := "batchFull", inPlace := ["internal/reflectlite.ValueOf", "internal/reflectlite.Swapper", "(internal/reflectlite.Value).Len"], unfollowed := true, recurses := true, named := ["onionskin/sha.roundWords"], plainKeys := false, apart := false, laid := [("onionskin/sha.roundWords", laid_onionskin_sha_roundWords)] }
def BatchFullSaid : Prop := batchFullRow.holds Tryd.pinned (OpenSpec.ofChange batchFullSpec)

/-- ITS FALSE NEIGHBOUR: 'it returns false'. Refute it at one input. -/
def batchFullWrong : ChangeSpec := { name := "batchFull", fn := fun _ => fun
  | [d1, d2, d3] => { results := [.lit (.bool false)], args := [d1, d2, d3] }
  | _ => none }
def BatchFullWrongFalsely : Prop := batchFullRow.holds Tryd.pinned (OpenSpec.ofChange batchFullWrong)

/-- 'onionskinlaw04.BatchOver': WHATEVER THE INPUT: true; the input reads as it did. -/
def batchOverSpec : ChangeSpec := { name := "batchOver", fn := fun _ => fun
  | [d1, d2, d3] => { results := [.lit (.bool true)], args := [d1, d2, d3] }
  | _ => none }
def batchOverRow : OpenClaim := { program := "ytokficfpgppaeaadoor", sum := "b28f3277d5889dddffadf6d895e170e169cc01c1808cb854c1afedfc12bb375a", func := "onionskin/onionskinlaw04.BatchOver", spec := "batchOver", inPlace := ["internal/reflectlite.ValueOf", "internal/reflectlite.Swapper", "(internal/reflectlite.Value).Len"], unfollowed := true, recurses := true, named := ["onionskin/sha.roundWords"], plainKeys := false, apart := false, laid := [("onionskin/sha.roundWords", laid_onionskin_sha_roundWords)] }
def BatchOverSaid : Prop := batchOverRow.holds Tryd.pinned (OpenSpec.ofChange batchOverSpec)

/-- ITS FALSE NEIGHBOUR: 'it returns false'. Refute it at one input. -/
def batchOverWrong : ChangeSpec := { name := "batchOver", fn := fun _ => fun
  | [d1, d2, d3] => { results := [.lit (.bool false)], args := [d1, d2, d3] }
  | _ => none }
def BatchOverWrongFalsely : Prop := batchOverRow.holds Tryd.pinned (OpenSpec.ofChange batchOverWrong)

/- THE SECOND FORM. 'bulk': how many values and letters a reading holds, each counted each time it is reached (what is shared counts as often as it is met; a slice's spare places count too). A statement '..UptoSaid' is the law's where the arguments, and the package variables that the reading takes, are together of bulk at most 1048576: NARROWER than '..Said'. Prove '..Said' where nothing that the law and all that it calls make is longer than what came in: it says more and counts as full. Else prove '..UptoSaid'. A law counts once. -/
mutual
def uptoBulk {H : Type} : DataW H → Nat
  | .lit (.string bytes) => bytes.length + 1
  | .lit _ => 1
  | .nil => 1
  | .ptr d => uptoBulk d + 1
  | .slice elems spare => uptoBulkAll elems + uptoBulkAll spare + 1
  | .agg parts => uptoBulkAll parts + 1
  | .iface _ d => uptoBulk d + 1
  | .map entries => uptoBulkEntries entries + 1
  | .held _ => 1
def uptoBulkAll {H : Type} : List (DataW H) → Nat
  | [] => 0
  | d :: r => uptoBulk d + uptoBulkAll r
def uptoBulkEntries {H : Type} : List (Lit × DataW H) → Nat
  | [] => 0
  | x :: r => uptoBulkEntry x + uptoBulkEntries r
def uptoBulkEntry {H : Type} : Lit × DataW H → Nat
  | (.string bytes, d) => bytes.length + uptoBulk d + 1
  | (_, d) => uptoBulk d + 1
 end
def uptoSmall : (H : Type) → List (DataW H) → Bool := fun _ ds => decide (uptoBulkAll ds ≤ 1048576)
def OpenSpec.upto (s : _root_.Go.ChangeSpec) : _root_.Go.OpenSpec := { _root_.Go.OpenSpec.ofChange s with cond := some uptoSmall }

/-- 'onionskinlaw04.BatchPlays', WHERE WHAT IT READS IS OF BULK AT MOST 1048576: true; the input reads as it did. -/
def batchPlaysUptoRow : OpenClaim := { program := "ytokficfpgppaeaadoor", sum := "b28f3277d5889dddffadf6d895e170e169cc01c1808cb854c1afedfc12bb375a", func := "onionskin/onionskinlaw04.BatchPlays", spec := "batchPlays", inPlace := ["internal/reflectlite.ValueOf", "internal/reflectlite.Swapper", "(internal/reflectlite.Value).Len"], unfollowed := true, recurses := true, named := ["onionskin/sha.roundWords"], plainKeys := false, apart := false, laid := [("onionskin/sha.roundWords", laid_onionskin_sha_roundWords)], narrowed := true }
def BatchPlaysUptoSaid : Prop := batchPlaysUptoRow.holds Tryd.pinned (OpenSpec.upto batchPlaysSpec)

/-- 'onionskinlaw04.BatchAll', WHERE WHAT IT READS IS OF BULK AT MOST 1048576: true; the input reads as it did. -/
def batchAllUptoRow : OpenClaim := { program := "ytokficfpgppaeaadoor", sum := "b28f3277d5889dddffadf6d895e170e169cc01c1808cb854c1afedfc12bb375a", func := "onionskin/onionskinlaw04.BatchAll", spec := "batchAll", inPlace := ["internal/reflectlite.ValueOf", "internal/reflectlite.Swapper", "(internal/reflectlite.Value).Len"], unfollowed := true, recurses := true, named := ["onionskin/sha.roundWords"], plainKeys := false, apart := false, laid := [("onionskin/sha.roundWords", laid_onionskin_sha_roundWords)], narrowed := true }
def BatchAllUptoSaid : Prop := batchAllUptoRow.holds Tryd.pinned (OpenSpec.upto batchAllSpec)

/-- 'onionskinlaw04.BatchStore', WHERE WHAT IT READS IS OF BULK AT MOST 1048576: true; the input reads as it did. -/
def batchStoreUptoRow : OpenClaim := { program := "ytokficfpgppaeaadoor", sum := "b28f3277d5889dddffadf6d895e170e169cc01c1808cb854c1afedfc12bb375a", func := "onionskin/onionskinlaw04.BatchStore", spec := "batchStore", inPlace := ["internal/reflectlite.ValueOf", "internal/reflectlite.Swapper", "(internal/reflectlite.Value).Len"], unfollowed := true, recurses := true, named := ["onionskin/sha.roundWords"], plainKeys := false, apart := false, laid := [("onionskin/sha.roundWords", laid_onionskin_sha_roundWords)], narrowed := true }
def BatchStoreUptoSaid : Prop := batchStoreUptoRow.holds Tryd.pinned (OpenSpec.upto batchStoreSpec)

/-- 'onionskinlaw04.BatchFull', WHERE WHAT IT READS IS OF BULK AT MOST 1048576: true; the input reads as it did. -/
def batchFullUptoRow : OpenClaim := { program := "ytokficfpgppaeaadoor", sum := "b28f3277d5889dddffadf6d895e170e169cc01c1808cb854c1afedfc12bb375a", func := "onionskin/onionskinlaw04.BatchFull", spec := "batchFull", inPlace := ["internal/reflectlite.ValueOf", "internal/reflectlite.Swapper", "(internal/reflectlite.Value).Len"], unfollowed := true, recurses := true, named := ["onionskin/sha.roundWords"], plainKeys := false, apart := false, laid := [("onionskin/sha.roundWords", laid_onionskin_sha_roundWords)], narrowed := true }
def BatchFullUptoSaid : Prop := batchFullUptoRow.holds Tryd.pinned (OpenSpec.upto batchFullSpec)

/-- 'onionskinlaw04.BatchOver', WHERE WHAT IT READS IS OF BULK AT MOST 1048576: true; the input reads as it did. -/
def batchOverUptoRow : OpenClaim := { program := "ytokficfpgppaeaadoor", sum := "b28f3277d5889dddffadf6d895e170e169cc01c1808cb854c1afedfc12bb375a", func := "onionskin/onionskinlaw04.BatchOver", spec := "batchOver", inPlace := ["internal/reflectlite.ValueOf", "internal/reflectlite.Swapper", "(internal/reflectlite.Value).Len"], unfollowed := true, recurses := true, named := ["onionskin/sha.roundWords"], plainKeys := false, apart := false, laid := [("onionskin/sha.roundWords", laid_onionskin_sha_roundWords)], narrowed := true }
def BatchOverUptoSaid : Prop := batchOverUptoRow.holds Tryd.pinned (OpenSpec.upto batchOverSpec)

end Rows
end Go.Proofs.YtokficfpgppaeaaDoor
