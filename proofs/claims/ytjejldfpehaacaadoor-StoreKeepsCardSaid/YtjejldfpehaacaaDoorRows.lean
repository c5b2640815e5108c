/-
  NARROWER THAN 'FOR EVERY INPUT', by the rows' own cells (each row's printed sentence says how): StorePlays: laid · StoreKeeps: laid · StoreRoom: laid · StoreCopy: laid · StoreOrder: laid · StoreTwice: laid.
  DERIVED. THE GIVEN ROWS OF THIS SEAT. 6 by the template 'for every input the law returns true; each argument reads behind the call as it read before'; 0 by the template 'total and deterministic' (their statements: YtjejldfpehaacaaDoorTotals.lean).
  GIVEN WITH THE SEED: the statements are not yours to turn. If you find one false, say at which input.
  Laid BY PROGRAM, IN A SANDBOX (cutbox-rows.mjs): the forced cells as the released guide's own fill.sh prints them over the translation 9d2782e20e4f3911… (all of the seat's roots in one cut). By AI agents, Wed Nov 11 2026. No macro, syntax, notation, axiom, sorry.
-/
import Derived.Test.YtjejldfpehaacaaDoorChecked
import GoSem.Claim
import GoSem.ClaimJoined
import GoSem.ClaimMapViews
import Derived.JoinedTies
import Derived.KernelRfl
namespace Go.Proofs.YtjejldfpehaacaaDoor
/- THE CELL 'sum', in the pinned program and in every row, IS THE sha256 OF THE DUMP (.gsa) THAT YtjejldfpehaacaaDoorProg.lean LOADS. Nothing in Lean hashes anything: it is a label: what it is worth is what the hold of that sum in a sandbox is worth. -/
noncomputable def Tryd.pinned : Pinned := { name := "ytjejldfpehaacaadoor", sum := "9d2782e20e4f3911a65426ac527e2069909b4f2f54dbd5123f57f11bc30fa92c", checked := Tryd.checked }
namespace Rows
def none {H : Type} : Left H := { results := [], args := [] }

/- WHAT THE LISTED PACKAGE-LEVEL VARIABLES READ AS WHEN THE CALL BEGINS. Each datum BY PROGRAM (the guide's laid-datum.mjs) off the statement by which the dump's own 'gosem.cut.vars' lays the variable. In a bare row this is a premise. The card (YtjejldfpehaacaaDoorCards.lean) ties it to the program's text. -/
def laid_onionskin_sha_roundWords {H : Type} : DataW H := .agg [.lit (.int .u32 1116352408), .lit (.int .u32 1899447441), .lit (.int .u32 3049323471), .lit (.int .u32 3921009573), .lit (.int .u32 961987163), .lit (.int .u32 1508970993), .lit (.int .u32 2453635748), .lit (.int .u32 2870763221), .lit (.int .u32 3624381080), .lit (.int .u32 310598401), .lit (.int .u32 607225278), .lit (.int .u32 1426881987), .lit (.int .u32 1925078388), .lit (.int .u32 2162078206), .lit (.int .u32 2614888103), .lit (.int .u32 3248222580), .lit (.int .u32 3835390401), .lit (.int .u32 4022224774), .lit (.int .u32 264347078), .lit (.int .u32 604807628), .lit (.int .u32 770255983), .lit (.int .u32 1249150122), .lit (.int .u32 1555081692), .lit (.int .u32 1996064986), .lit (.int .u32 2554220882), .lit (.int .u32 2821834349), .lit (.int .u32 2952996808), .lit (.int .u32 3210313671), .lit (.int .u32 3336571891), .lit (.int .u32 3584528711), .lit (.int .u32 113926993), .lit (.int .u32 338241895), .lit (.int .u32 666307205), .lit (.int .u32 773529912), .lit (.int .u32 1294757372), .lit (.int .u32 1396182291), .lit (.int .u32 1695183700), .lit (.int .u32 1986661051), .lit (.int .u32 2177026350), .lit (.int .u32 2456956037), .lit (.int .u32 2730485921), .lit (.int .u32 2820302411), .lit (.int .u32 3259730800), .lit (.int .u32 3345764771), .lit (.int .u32 3516065817), .lit (.int .u32 3600352804), .lit (.int .u32 4094571909), .lit (.int .u32 275423344), .lit (.int .u32 430227734), .lit (.int .u32 506948616), .lit (.int .u32 659060556), .lit (.int .u32 883997877), .lit (.int .u32 958139571), .lit (.int .u32 1322822218), .lit (.int .u32 1537002063), .lit (.int .u32 1747873779), .lit (.int .u32 1955562222), .lit (.int .u32 2024104815), .lit (.int .u32 2227730452), .lit (.int .u32 2361852424), .lit (.int .u32 2428436474), .lit (.int .u32 2756734187), .lit (.int .u32 3204031479), .lit (.int .u32 3329325298)]

/-- 'onionskinlaw03.StorePlays': WHATEVER THE INPUT: true; the input reads as it did. -/
def storePlaysSpec : ChangeSpec := { name := "storePlays", fn := fun _ => fun
  | [d1, d2] => { results := [.lit (.bool true)], args := [d1, d2] }
  | _ => none }
def storePlaysRow : OpenClaim := { program := "ytjejldfpehaacaadoor", sum := "9d2782e20e4f3911a65426ac527e2069909b4f2f54dbd5123f57f11bc30fa92c", func := "onionskin/onionskinlaw03.StorePlays", spec := "storePlays", inPlace := ["internal/reflectlite.ValueOf", "internal/reflectlite.Swapper", "(internal/reflectlite.Value).Len"], unfollowed := true, recurses := true, named := ["onionskin/sha.roundWords"], plainKeys := false, apart := false, laid := [("onionskin/sha.roundWords", laid_onionskin_sha_roundWords)] }
def StorePlaysSaid : Prop := storePlaysRow.holds Tryd.pinned (OpenSpec.ofChange storePlaysSpec)

/-- ITS FALSE NEIGHBOUR: 'it returns false'. Refute it at one input. -/
def storePlaysWrong : ChangeSpec := { name := "storePlays", fn := fun _ => fun
  | [d1, d2] => { results := [.lit (.bool false)], args := [d1, d2] }
  | _ => none }
def StorePlaysWrongFalsely : Prop := storePlaysRow.holds Tryd.pinned (OpenSpec.ofChange storePlaysWrong)

/-- 'onionskinlaw03.StoreKeeps': WHATEVER THE INPUT: true; the input reads as it did. -/
def storeKeepsSpec : ChangeSpec := { name := "storeKeeps", fn := fun _ => fun
  | [d1, d2] => { results := [.lit (.bool true)], args := [d1, d2] }
  | _ => none }
def storeKeepsRow : OpenClaim := { program := "ytjejldfpehaacaadoor", sum := "9d2782e20e4f3911a65426ac527e2069909b4f2f54dbd5123f57f11bc30fa92c", func := "onionskin/onionskinlaw03.StoreKeeps", spec := "storeKeeps", inPlace := ["internal/reflectlite.ValueOf", "internal/reflectlite.Swapper", "(internal/reflectlite.Value).Len"], unfollowed := true, recurses := true, named := ["onionskin/sha.roundWords"], plainKeys := false, apart := false, laid := [("onionskin/sha.roundWords", laid_onionskin_sha_roundWords)] }
def StoreKeepsSaid : Prop := storeKeepsRow.holds Tryd.pinned (OpenSpec.ofChange storeKeepsSpec)

/-- ITS FALSE NEIGHBOUR: 'it returns false'. Refute it at one input. -/
def storeKeepsWrong : ChangeSpec := { name := "storeKeeps", fn := fun _ => fun
  | [d1, d2] => { results := [.lit (.bool false)], args := [d1, d2] }
  | _ => none }
def StoreKeepsWrongFalsely : Prop := storeKeepsRow.holds Tryd.pinned (OpenSpec.ofChange storeKeepsWrong)

/-- 'onionskinlaw03.StoreRoom': WHATEVER THE INPUT: true; the input reads as it did. -/
def storeRoomSpec : ChangeSpec := { name := "storeRoom", fn := fun _ => fun
  | [d1, d2] => { results := [.lit (.bool true)], args := [d1, d2] }
  | _ => none }
def storeRoomRow : OpenClaim := { program := "ytjejldfpehaacaadoor", sum := "9d2782e20e4f3911a65426ac527e2069909b4f2f54dbd5123f57f11bc30fa92c", func := "onionskin/onionskinlaw03.StoreRoom", spec := "storeRoom", inPlace := ["internal/reflectlite.ValueOf", "internal/reflectlite.Swapper", "(internal/reflectlite.Value).Len"], unfollowed := true, recurses := true, named := ["onionskin/sha.roundWords"], plainKeys := false, apart := false, laid := [("onionskin/sha.roundWords", laid_onionskin_sha_roundWords)] }
def StoreRoomSaid : Prop := storeRoomRow.holds Tryd.pinned (OpenSpec.ofChange storeRoomSpec)

/-- ITS FALSE NEIGHBOUR: 'it returns false'. Refute it at one input. -/
def storeRoomWrong : ChangeSpec := { name := "storeRoom", fn := fun _ => fun
  | [d1, d2] => { results := [.lit (.bool false)], args := [d1, d2] }
  | _ => none }
def StoreRoomWrongFalsely : Prop := storeRoomRow.holds Tryd.pinned (OpenSpec.ofChange storeRoomWrong)

/-- 'onionskinlaw03.StoreCopy': WHATEVER THE INPUT: true; the input reads as it did. -/
def storeCopySpec : ChangeSpec := { name := "storeCopy", fn := fun _ => fun
  | [d1, d2, d3] => { results := [.lit (.bool true)], args := [d1, d2, d3] }
  | _ => none }
def storeCopyRow : OpenClaim := { program := "ytjejldfpehaacaadoor", sum := "9d2782e20e4f3911a65426ac527e2069909b4f2f54dbd5123f57f11bc30fa92c", func := "onionskin/onionskinlaw03.StoreCopy", spec := "storeCopy", inPlace := ["internal/reflectlite.ValueOf", "internal/reflectlite.Swapper", "(internal/reflectlite.Value).Len"], unfollowed := true, recurses := true, named := ["onionskin/sha.roundWords"], plainKeys := false, apart := false, laid := [("onionskin/sha.roundWords", laid_onionskin_sha_roundWords)] }
def StoreCopySaid : Prop := storeCopyRow.holds Tryd.pinned (OpenSpec.ofChange storeCopySpec)

/-- ITS FALSE NEIGHBOUR: 'it returns false'. Refute it at one input. -/
def storeCopyWrong : ChangeSpec := { name := "storeCopy", fn := fun _ => fun
  | [d1, d2, d3] => { results := [.lit (.bool false)], args := [d1, d2, d3] }
  | _ => none }
def StoreCopyWrongFalsely : Prop := storeCopyRow.holds Tryd.pinned (OpenSpec.ofChange storeCopyWrong)

/-- 'onionskinlaw03.StoreOrder': WHATEVER THE INPUT: true; the input reads as it did. -/
def storeOrderSpec : ChangeSpec := { name := "storeOrder", fn := fun _ => fun
  | [d] => { results := [.lit (.bool true)], args := [d] }
  | _ => none }
def storeOrderRow : OpenClaim := { program := "ytjejldfpehaacaadoor", sum := "9d2782e20e4f3911a65426ac527e2069909b4f2f54dbd5123f57f11bc30fa92c", func := "onionskin/onionskinlaw03.StoreOrder", spec := "storeOrder", inPlace := ["internal/reflectlite.ValueOf", "internal/reflectlite.Swapper", "(internal/reflectlite.Value).Len"], unfollowed := true, recurses := true, named := ["onionskin/sha.roundWords"], plainKeys := false, apart := false, laid := [("onionskin/sha.roundWords", laid_onionskin_sha_roundWords)] }
def StoreOrderSaid : Prop := storeOrderRow.holds Tryd.pinned (OpenSpec.ofChange storeOrderSpec)

/-- ITS FALSE NEIGHBOUR: 'it returns false'. Refute it at one input. -/
def storeOrderWrong : ChangeSpec := { name := "storeOrder", fn := fun _ => fun
  | [d] => { results := [.lit (.bool false)], args := [d] }
  | _ => none }
def StoreOrderWrongFalsely : Prop := storeOrderRow.holds Tryd.pinned (OpenSpec.ofChange storeOrderWrong)

/-- 'onionskinlaw03.StoreTwice': WHATEVER THE INPUT: true; the input reads as it did. -/
def storeTwiceSpec : ChangeSpec := { name := "storeTwice", fn := fun _ => fun
  | [d1, d2] => { results := [.lit (.bool true)], args := [d1, d2] }
  | _ => none }
def storeTwiceRow : OpenClaim := { program := "ytjejldfpehaacaadoor", sum := "9d2782e20e4f3911a65426ac527e2069909b4f2f54dbd5123f57f11bc30fa92c", func := "onionskin/onionskinlaw03.StoreTwice", spec := "storeTwice", inPlace := ["internal/reflectlite.ValueOf", "internal/reflectlite.Swapper", "(internal/reflectlite.Value).Len"], unfollowed := true, recurses := true, named := ["onionskin/sha.roundWords"], plainKeys := false, apart := false, laid := [("onionskin/sha.roundWords", laid_onionskin_sha_roundWords)] }
def StoreTwiceSaid : Prop := storeTwiceRow.holds Tryd.pinned (OpenSpec.ofChange storeTwiceSpec)

/-- ITS FALSE NEIGHBOUR: 'it returns false'. Refute it at one input. -/
def storeTwiceWrong : ChangeSpec := { name := "storeTwice", fn := fun _ => fun
  | [d1, d2] => { results := [.lit (.bool false)], args := [d1, d2] }
  | _ => none }
def StoreTwiceWrongFalsely : Prop := storeTwiceRow.holds Tryd.pinned (OpenSpec.ofChange storeTwiceWrong)

/- THE SECOND FORM. 'bulk': how many values and letters a reading holds, each counted each time it is reached (what is shared counts as often as it is met; a slice's spare places count too). A statement '..UptoSaid' is the law's where the arguments, and the package variables that the reading takes, are together of bulk at most 1048576: NARROWER than '..Said'. Prove '..Said' where nothing that the law and all that it calls make is longer than what came in: it says more and counts as full. Else prove '..UptoSaid'. A law counts once. -/
mutual
def uptoBulk {H : Type} : DataW H → Nat
  | .lit (.string bytes) => bytes.length + 1
  | .lit _ => 1
  | .nil => 1
  | .ptr d => uptoBulk d + 1
  | .slice elems spare => uptoBulkAll elems + uptoBulkAll spare + 1
  | .agg parts => uptoBulkAll parts + 1
  | .iface _ d => uptoBulk d + 1
  | .map entries => uptoBulkEntries entries + 1
  | .held _ => 1
def uptoBulkAll {H : Type} : List (DataW H) → Nat
  | [] => 0
  | d :: r => uptoBulk d + uptoBulkAll r
def uptoBulkEntries {H : Type} : List (Lit × DataW H) → Nat
  | [] => 0
  | x :: r => uptoBulkEntry x + uptoBulkEntries r
def uptoBulkEntry {H : Type} : Lit × DataW H → Nat
  | (.string bytes, d) => bytes.length + uptoBulk d + 1
  | (_, d) => uptoBulk d + 1
 end
def uptoSmall : (H : Type) → List (DataW H) → Bool := fun _ ds => decide (uptoBulkAll ds ≤ 1048576)
def OpenSpec.upto (s : _root_.Go.ChangeSpec) : _root_.Go.OpenSpec := { _root_.Go.OpenSpec.ofChange s with cond := some uptoSmall }

/-- 'onionskinlaw03.StorePlays', WHERE WHAT IT READS IS OF BULK AT MOST 1048576: true; the input reads as it did. -/
def storePlaysUptoRow : OpenClaim := { program := "ytjejldfpehaacaadoor", sum := "9d2782e20e4f3911a65426ac527e2069909b4f2f54dbd5123f57f11bc30fa92c", func := "onionskin/onionskinlaw03.StorePlays", spec := "storePlays", inPlace := ["internal/reflectlite.ValueOf", "internal/reflectlite.Swapper", "(internal/reflectlite.Value).Len"], unfollowed := true, recurses := true, named := ["onionskin/sha.roundWords"], plainKeys := false, apart := false, laid := [("onionskin/sha.roundWords", laid_onionskin_sha_roundWords)], narrowed := true }
def StorePlaysUptoSaid : Prop := storePlaysUptoRow.holds Tryd.pinned (OpenSpec.upto storePlaysSpec)

/-- 'onionskinlaw03.StoreKeeps', WHERE WHAT IT READS IS OF BULK AT MOST 1048576: true; the input reads as it did. -/
def storeKeepsUptoRow : OpenClaim := { program := "ytjejldfpehaacaadoor", sum := "9d2782e20e4f3911a65426ac527e2069909b4f2f54dbd5123f57f11bc30fa92c", func := "onionskin/onionskinlaw03.StoreKeeps", spec := "storeKeeps", inPlace := ["internal/reflectlite.ValueOf", "internal/reflectlite.Swapper", "(internal/reflectlite.Value).Len"], unfollowed := true, recurses := true, named := ["onionskin/sha.roundWords"], plainKeys := false, apart := false, laid := [("onionskin/sha.roundWords", laid_onionskin_sha_roundWords)], narrowed := true }
def StoreKeepsUptoSaid : Prop := storeKeepsUptoRow.holds Tryd.pinned (OpenSpec.upto storeKeepsSpec)

/-- 'onionskinlaw03.StoreRoom', WHERE WHAT IT READS IS OF BULK AT MOST 1048576: true; the input reads as it did. -/
def storeRoomUptoRow : OpenClaim := { program := "ytjejldfpehaacaadoor", sum := "9d2782e20e4f3911a65426ac527e2069909b4f2f54dbd5123f57f11bc30fa92c", func := "onionskin/onionskinlaw03.StoreRoom", spec := "storeRoom", inPlace := ["internal/reflectlite.ValueOf", "internal/reflectlite.Swapper", "(internal/reflectlite.Value).Len"], unfollowed := true, recurses := true, named := ["onionskin/sha.roundWords"], plainKeys := false, apart := false, laid := [("onionskin/sha.roundWords", laid_onionskin_sha_roundWords)], narrowed := true }
def StoreRoomUptoSaid : Prop := storeRoomUptoRow.holds Tryd.pinned (OpenSpec.upto storeRoomSpec)

/-- 'onionskinlaw03.StoreCopy', WHERE WHAT IT READS IS OF BULK AT MOST 1048576: true; the input reads as it did. -/
def storeCopyUptoRow : OpenClaim := { program := "ytjejldfpehaacaadoor", sum := "9d2782e20e4f3911a65426ac527e2069909b4f2f54dbd5123f57f11bc30fa92c", func := "onionskin/onionskinlaw03.StoreCopy", spec := "storeCopy", inPlace := ["internal/reflectlite.ValueOf", "internal/reflectlite.Swapper", "(internal/reflectlite.Value).Len"], unfollowed := true, recurses := true, named := ["onionskin/sha.roundWords"], plainKeys := false, apart := false, laid := [("onionskin/sha.roundWords", laid_onionskin_sha_roundWords)], narrowed := true }
def StoreCopyUptoSaid : Prop := storeCopyUptoRow.holds Tryd.pinned (OpenSpec.upto storeCopySpec)

/-- 'onionskinlaw03.StoreOrder', WHERE WHAT IT READS IS OF BULK AT MOST 1048576: true; the input reads as it did. -/
def storeOrderUptoRow : OpenClaim := { program := "ytjejldfpehaacaadoor", sum := "9d2782e20e4f3911a65426ac527e2069909b4f2f54dbd5123f57f11bc30fa92c", func := "onionskin/onionskinlaw03.StoreOrder", spec := "storeOrder", inPlace := ["internal/reflectlite.ValueOf", "internal/reflectlite.Swapper", "(internal/reflectlite.Value).Len"], unfollowed := true, recurses := true, named := ["onionskin/sha.roundWords"], plainKeys := false, apart := false, laid := [("onionskin/sha.roundWords", laid_onionskin_sha_roundWords)], narrowed := true }
def StoreOrderUptoSaid : Prop := storeOrderUptoRow.holds Tryd.pinned (OpenSpec.upto storeOrderSpec)

/-- 'onionskinlaw03.StoreTwice', WHERE WHAT IT READS IS OF BULK AT MOST 1048576: true; the input reads as it did. -/
def storeTwiceUptoRow : OpenClaim := { program := "ytjejldfpehaacaadoor", sum := "9d2782e20e4f3911a65426ac527e2069909b4f2f54dbd5123f57f11bc30fa92c", func := "onionskin/onionskinlaw03.StoreTwice", spec := "storeTwice", inPlace := ["internal/reflectlite.ValueOf", "internal/reflectlite.Swapper", "(internal/reflectlite.Value).Len"], unfollowed := true, recurses := true, named := ["onionskin/sha.roundWords"], plainKeys := false, apart := false, laid := [("onionskin/sha.roundWords", laid_onionskin_sha_roundWords)], narrowed := true }
def StoreTwiceUptoSaid : Prop := storeTwiceUptoRow.holds Tryd.pinned (OpenSpec.upto storeTwiceSpec)

end Rows
end Go.Proofs.YtjejldfpehaacaaDoor
