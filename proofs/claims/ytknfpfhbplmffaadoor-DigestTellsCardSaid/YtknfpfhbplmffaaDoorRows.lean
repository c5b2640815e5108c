/-
  NARROWER THAN 'FOR EVERY INPUT', by the rows' own cells (each row's printed sentence says how): ShaSums: laid · ShaPieces: laid · ShaLong: laid · ShaTwo: laid · DigestTells: laid · DigestBack: laid · DigestOrder: laid · DigestLetters: laid · DigestOf: laid.
  DERIVED. THE GIVEN ROWS OF THIS SEAT. 9 by the template 'for every input the law returns true; each argument reads behind the call as it read before'; 0 by the template 'total and deterministic' (their statements: YtknfpfhbplmffaaDoorTotals.lean).
  GIVEN WITH THE SEED: the statements are not yours to turn. If you find one false, say at which input.
  Laid BY PROGRAM, IN A SANDBOX (cutbox-rows.mjs): the forced cells as the released guide's own fill.sh prints them over the translation ebdddc1508a814ba… (all of the seat's roots in one cut). By AI agents, Wed Nov 11 2026. No macro, syntax, notation, axiom, sorry.
-/
import Derived.Test.YtknfpfhbplmffaaDoorChecked
import GoSem.Claim
import GoSem.ClaimJoined
import GoSem.ClaimMapViews
import Derived.JoinedTies
import Derived.KernelRfl
namespace Go.Proofs.YtknfpfhbplmffaaDoor
/- THE CELL 'sum', in the pinned program and in every row, IS THE sha256 OF THE DUMP (.gsa) THAT YtknfpfhbplmffaaDoorProg.lean LOADS. Nothing in Lean hashes anything: it is a label: what it is worth is what the hold of that sum in a sandbox is worth. -/
noncomputable def Tryd.pinned : Pinned := { name := "ytknfpfhbplmffaadoor", sum := "ebdddc1508a814baa0ec14e65571110d094d82c92eec5477146c9cfe6f578f8f", checked := Tryd.checked }
namespace Rows
def none {H : Type} : Left H := { results := [], args := [] }

/- WHAT THE LISTED PACKAGE-LEVEL VARIABLES READ AS WHEN THE CALL BEGINS. Each datum BY PROGRAM (the guide's laid-datum.mjs) off the statement by which the dump's own 'gosem.cut.vars' lays the variable. In a bare row this is a premise. The card (YtknfpfhbplmffaaDoorCards.lean) ties it to the program's text. -/
def laid_onionskin_sha_roundWords {H : Type} : DataW H := .agg [.lit (.int .u32 1116352408), .lit (.int .u32 1899447441), .lit (.int .u32 3049323471), .lit (.int .u32 3921009573), .lit (.int .u32 961987163), .lit (.int .u32 1508970993), .lit (.int .u32 2453635748), .lit (.int .u32 2870763221), .lit (.int .u32 3624381080), .lit (.int .u32 310598401), .lit (.int .u32 607225278), .lit (.int .u32 1426881987), .lit (.int .u32 1925078388), .lit (.int .u32 2162078206), .lit (.int .u32 2614888103), .lit (.int .u32 3248222580), .lit (.int .u32 3835390401), .lit (.int .u32 4022224774), .lit (.int .u32 264347078), .lit (.int .u32 604807628), .lit (.int .u32 770255983), .lit (.int .u32 1249150122), .lit (.int .u32 1555081692), .lit (.int .u32 1996064986), .lit (.int .u32 2554220882), .lit (.int .u32 2821834349), .lit (.int .u32 2952996808), .lit (.int .u32 3210313671), .lit (.int .u32 3336571891), .lit (.int .u32 3584528711), .lit (.int .u32 113926993), .lit (.int .u32 338241895), .lit (.int .u32 666307205), .lit (.int .u32 773529912), .lit (.int .u32 1294757372), .lit (.int .u32 1396182291), .lit (.int .u32 1695183700), .lit (.int .u32 1986661051), .lit (.int .u32 2177026350), .lit (.int .u32 2456956037), .lit (.int .u32 2730485921), .lit (.int .u32 2820302411), .lit (.int .u32 3259730800), .lit (.int .u32 3345764771), .lit (.int .u32 3516065817), .lit (.int .u32 3600352804), .lit (.int .u32 4094571909), .lit (.int .u32 275423344), .lit (.int .u32 430227734), .lit (.int .u32 506948616), .lit (.int .u32 659060556), .lit (.int .u32 883997877), .lit (.int .u32 958139571), .lit (.int .u32 1322822218), .lit (.int .u32 1537002063), .lit (.int .u32 1747873779), .lit (.int .u32 1955562222), .lit (.int .u32 2024104815), .lit (.int .u32 2227730452), .lit (.int .u32 2361852424), .lit (.int .u32 2428436474), .lit (.int .u32 2756734187), .lit (.int .u32 3204031479), .lit (.int .u32 3329325298)]

/-- 'onionskinlaw01.ShaSums': WHATEVER THE INPUT: true; the input reads as it did. -/
def shaSumsSpec : ChangeSpec := { name := "shaSums", fn := fun _ => fun
  | [d] => { results := [.lit (.bool true)], args := [d] }
  | _ => none }
def shaSumsRow : OpenClaim := { program := "ytknfpfhbplmffaadoor", sum := "ebdddc1508a814baa0ec14e65571110d094d82c92eec5477146c9cfe6f578f8f", func := "onionskin/onionskinlaw01.ShaSums", spec := "shaSums", named := ["onionskin/sha.roundWords"], apart := false, laid := [("onionskin/sha.roundWords", laid_onionskin_sha_roundWords)] }
def ShaSumsSaid : Prop := shaSumsRow.holds Tryd.pinned (OpenSpec.ofChange shaSumsSpec)

/-- ITS FALSE NEIGHBOUR: 'it returns false'. Refute it at one input. -/
def shaSumsWrong : ChangeSpec := { name := "shaSums", fn := fun _ => fun
  | [d] => { results := [.lit (.bool false)], args := [d] }
  | _ => none }
def ShaSumsWrongFalsely : Prop := shaSumsRow.holds Tryd.pinned (OpenSpec.ofChange shaSumsWrong)

/-- 'onionskinlaw01.ShaPieces': WHATEVER THE INPUT: true; the input reads as it did. -/
def shaPiecesSpec : ChangeSpec := { name := "shaPieces", fn := fun _ => fun
  | [d] => { results := [.lit (.bool true)], args := [d] }
  | _ => none }
def shaPiecesRow : OpenClaim := { program := "ytknfpfhbplmffaadoor", sum := "ebdddc1508a814baa0ec14e65571110d094d82c92eec5477146c9cfe6f578f8f", func := "onionskin/onionskinlaw01.ShaPieces", spec := "shaPieces", named := ["onionskin/sha.roundWords"], apart := false, laid := [("onionskin/sha.roundWords", laid_onionskin_sha_roundWords)] }
def ShaPiecesSaid : Prop := shaPiecesRow.holds Tryd.pinned (OpenSpec.ofChange shaPiecesSpec)

/-- ITS FALSE NEIGHBOUR: 'it returns false'. Refute it at one input. -/
def shaPiecesWrong : ChangeSpec := { name := "shaPieces", fn := fun _ => fun
  | [d] => { results := [.lit (.bool false)], args := [d] }
  | _ => none }
def ShaPiecesWrongFalsely : Prop := shaPiecesRow.holds Tryd.pinned (OpenSpec.ofChange shaPiecesWrong)

/-- 'onionskinlaw01.ShaLong': WHATEVER THE INPUT: true; the input reads as it did. -/
def shaLongSpec : ChangeSpec := { name := "shaLong", fn := fun _ => fun
  | [d1, d2] => { results := [.lit (.bool true)], args := [d1, d2] }
  | _ => none }
def shaLongRow : OpenClaim := { program := "ytknfpfhbplmffaadoor", sum := "ebdddc1508a814baa0ec14e65571110d094d82c92eec5477146c9cfe6f578f8f", func := "onionskin/onionskinlaw01.ShaLong", spec := "shaLong", named := ["onionskin/sha.roundWords"], apart := false, laid := [("onionskin/sha.roundWords", laid_onionskin_sha_roundWords)] }
def ShaLongSaid : Prop := shaLongRow.holds Tryd.pinned (OpenSpec.ofChange shaLongSpec)

/-- ITS FALSE NEIGHBOUR: 'it returns false'. Refute it at one input. -/
def shaLongWrong : ChangeSpec := { name := "shaLong", fn := fun _ => fun
  | [d1, d2] => { results := [.lit (.bool false)], args := [d1, d2] }
  | _ => none }
def ShaLongWrongFalsely : Prop := shaLongRow.holds Tryd.pinned (OpenSpec.ofChange shaLongWrong)

/-- 'onionskinlaw01.ShaTwo': WHATEVER THE INPUT: true; the input reads as it did. -/
def shaTwoSpec : ChangeSpec := { name := "shaTwo", fn := fun _ => fun
  | [d1, d2] => { results := [.lit (.bool true)], args := [d1, d2] }
  | _ => none }
def shaTwoRow : OpenClaim := { program := "ytknfpfhbplmffaadoor", sum := "ebdddc1508a814baa0ec14e65571110d094d82c92eec5477146c9cfe6f578f8f", func := "onionskin/onionskinlaw01.ShaTwo", spec := "shaTwo", named := ["onionskin/sha.roundWords"], apart := false, laid := [("onionskin/sha.roundWords", laid_onionskin_sha_roundWords)] }
def ShaTwoSaid : Prop := shaTwoRow.holds Tryd.pinned (OpenSpec.ofChange shaTwoSpec)

/-- ITS FALSE NEIGHBOUR: 'it returns false'. Refute it at one input. -/
def shaTwoWrong : ChangeSpec := { name := "shaTwo", fn := fun _ => fun
  | [d1, d2] => { results := [.lit (.bool false)], args := [d1, d2] }
  | _ => none }
def ShaTwoWrongFalsely : Prop := shaTwoRow.holds Tryd.pinned (OpenSpec.ofChange shaTwoWrong)

/-- 'onionskinlaw02.DigestTells': WHATEVER THE INPUT: true; the input reads as it did. -/
def digestTellsSpec : ChangeSpec := { name := "digestTells", fn := fun _ => fun
  | [d1, d2, d3] => { results := [.lit (.bool true)], args := [d1, d2, d3] }
  | _ => none }
def digestTellsRow : OpenClaim := { program := "ytknfpfhbplmffaadoor", sum := "ebdddc1508a814baa0ec14e65571110d094d82c92eec5477146c9cfe6f578f8f", func := "onionskin/onionskinlaw02.DigestTells", spec := "digestTells", inPlace := ["internal/bytealg.IndexByteString"], named := ["onionskin/sha.roundWords"], apart := false, laid := [("onionskin/sha.roundWords", laid_onionskin_sha_roundWords)] }
def DigestTellsSaid : Prop := digestTellsRow.holds Tryd.pinned (OpenSpec.ofChange digestTellsSpec)

/-- ITS FALSE NEIGHBOUR: 'it returns false'. Refute it at one input. -/
def digestTellsWrong : ChangeSpec := { name := "digestTells", fn := fun _ => fun
  | [d1, d2, d3] => { results := [.lit (.bool false)], args := [d1, d2, d3] }
  | _ => none }
def DigestTellsWrongFalsely : Prop := digestTellsRow.holds Tryd.pinned (OpenSpec.ofChange digestTellsWrong)

/-- 'onionskinlaw02.DigestBack': WHATEVER THE INPUT: true; the input reads as it did. -/
def digestBackSpec : ChangeSpec := { name := "digestBack", fn := fun _ => fun
  | [d1, d2] => { results := [.lit (.bool true)], args := [d1, d2] }
  | _ => none }
def digestBackRow : OpenClaim := { program := "ytknfpfhbplmffaadoor", sum := "ebdddc1508a814baa0ec14e65571110d094d82c92eec5477146c9cfe6f578f8f", func := "onionskin/onionskinlaw02.DigestBack", spec := "digestBack", inPlace := ["internal/bytealg.IndexByteString"], named := ["onionskin/sha.roundWords"], apart := false, laid := [("onionskin/sha.roundWords", laid_onionskin_sha_roundWords)] }
def DigestBackSaid : Prop := digestBackRow.holds Tryd.pinned (OpenSpec.ofChange digestBackSpec)

/-- ITS FALSE NEIGHBOUR: 'it returns false'. Refute it at one input. -/
def digestBackWrong : ChangeSpec := { name := "digestBack", fn := fun _ => fun
  | [d1, d2] => { results := [.lit (.bool false)], args := [d1, d2] }
  | _ => none }
def DigestBackWrongFalsely : Prop := digestBackRow.holds Tryd.pinned (OpenSpec.ofChange digestBackWrong)

/-- 'onionskinlaw02.DigestOrder': WHATEVER THE INPUT: true; the input reads as it did. -/
def digestOrderSpec : ChangeSpec := { name := "digestOrder", fn := fun _ => fun
  | [d1, d2, d3] => { results := [.lit (.bool true)], args := [d1, d2, d3] }
  | _ => none }
def digestOrderRow : OpenClaim := { program := "ytknfpfhbplmffaadoor", sum := "ebdddc1508a814baa0ec14e65571110d094d82c92eec5477146c9cfe6f578f8f", func := "onionskin/onionskinlaw02.DigestOrder", spec := "digestOrder", inPlace := ["internal/bytealg.IndexByteString"], named := ["onionskin/sha.roundWords"], apart := false, laid := [("onionskin/sha.roundWords", laid_onionskin_sha_roundWords)] }
def DigestOrderSaid : Prop := digestOrderRow.holds Tryd.pinned (OpenSpec.ofChange digestOrderSpec)

/-- ITS FALSE NEIGHBOUR: 'it returns false'. Refute it at one input. -/
def digestOrderWrong : ChangeSpec := { name := "digestOrder", fn := fun _ => fun
  | [d1, d2, d3] => { results := [.lit (.bool false)], args := [d1, d2, d3] }
  | _ => none }
def DigestOrderWrongFalsely : Prop := digestOrderRow.holds Tryd.pinned (OpenSpec.ofChange digestOrderWrong)

/-- 'onionskinlaw02.DigestLetters': WHATEVER THE INPUT: true; the input reads as it did. -/
def digestLettersSpec : ChangeSpec := { name := "digestLetters", fn := fun _ => fun
  | [d1, d2, d3] => { results := [.lit (.bool true)], args := [d1, d2, d3] }
  | _ => none }
def digestLettersRow : OpenClaim := { program := "ytknfpfhbplmffaadoor", sum := "ebdddc1508a814baa0ec14e65571110d094d82c92eec5477146c9cfe6f578f8f", func := "onionskin/onionskinlaw02.DigestLetters", spec := "digestLetters", inPlace := ["internal/bytealg.IndexByteString"], named := ["onionskin/sha.roundWords"], apart := false, laid := [("onionskin/sha.roundWords", laid_onionskin_sha_roundWords)] }
def DigestLettersSaid : Prop := digestLettersRow.holds Tryd.pinned (OpenSpec.ofChange digestLettersSpec)

/-- ITS FALSE NEIGHBOUR: 'it returns false'. Refute it at one input. -/
def digestLettersWrong : ChangeSpec := { name := "digestLetters", fn := fun _ => fun
  | [d1, d2, d3] => { results := [.lit (.bool false)], args := [d1, d2, d3] }
  | _ => none }
def DigestLettersWrongFalsely : Prop := digestLettersRow.holds Tryd.pinned (OpenSpec.ofChange digestLettersWrong)

/-- 'onionskinlaw02.DigestOf': WHATEVER THE INPUT: true; the input reads as it did. -/
def digestOfSpec : ChangeSpec := { name := "digestOf", fn := fun _ => fun
  | [d] => { results := [.lit (.bool true)], args := [d] }
  | _ => none }
def digestOfRow : OpenClaim := { program := "ytknfpfhbplmffaadoor", sum := "ebdddc1508a814baa0ec14e65571110d094d82c92eec5477146c9cfe6f578f8f", func := "onionskin/onionskinlaw02.DigestOf", spec := "digestOf", inPlace := ["internal/bytealg.IndexByteString"], named := ["onionskin/sha.roundWords"], apart := false, laid := [("onionskin/sha.roundWords", laid_onionskin_sha_roundWords)] }
def DigestOfSaid : Prop := digestOfRow.holds Tryd.pinned (OpenSpec.ofChange digestOfSpec)

/-- ITS FALSE NEIGHBOUR: 'it returns false'. Refute it at one input. -/
def digestOfWrong : ChangeSpec := { name := "digestOf", fn := fun _ => fun
  | [d] => { results := [.lit (.bool false)], args := [d] }
  | _ => none }
def DigestOfWrongFalsely : Prop := digestOfRow.holds Tryd.pinned (OpenSpec.ofChange digestOfWrong)

/- THE SECOND FORM. 'bulk': how many values and letters a reading holds, each counted each time it is reached (what is shared counts as often as it is met; a slice's spare places count too). A statement '..UptoSaid' is the law's where the arguments, and the package variables that the reading takes, are together of bulk at most 1048576: NARROWER than '..Said'. Prove '..Said' where nothing that the law and all that it calls make is longer than what came in: it says more and counts as full. Else prove '..UptoSaid'. A law counts once. -/
mutual
def uptoBulk {H : Type} : DataW H → Nat
  | .lit (.string bytes) => bytes.length + 1
  | .lit _ => 1
  | .nil => 1
  | .ptr d => uptoBulk d + 1
  | .slice elems spare => uptoBulkAll elems + uptoBulkAll spare + 1
  | .agg parts => uptoBulkAll parts + 1
  | .iface _ d => uptoBulk d + 1
  | .map entries => uptoBulkEntries entries + 1
  | .held _ => 1
def uptoBulkAll {H : Type} : List (DataW H) → Nat
  | [] => 0
  | d :: r => uptoBulk d + uptoBulkAll r
def uptoBulkEntries {H : Type} : List (Lit × DataW H) → Nat
  | [] => 0
  | x :: r => uptoBulkEntry x + uptoBulkEntries r
def uptoBulkEntry {H : Type} : Lit × DataW H → Nat
  | (.string bytes, d) => bytes.length + uptoBulk d + 1
  | (_, d) => uptoBulk d + 1
 end
def uptoSmall : (H : Type) → List (DataW H) → Bool := fun _ ds => decide (uptoBulkAll ds ≤ 1048576)
def OpenSpec.upto (s : _root_.Go.ChangeSpec) : _root_.Go.OpenSpec := { _root_.Go.OpenSpec.ofChange s with cond := some uptoSmall }

/-- 'onionskinlaw01.ShaSums', WHERE WHAT IT READS IS OF BULK AT MOST 1048576: true; the input reads as it did. -/
def shaSumsUptoRow : OpenClaim := { program := "ytknfpfhbplmffaadoor", sum := "ebdddc1508a814baa0ec14e65571110d094d82c92eec5477146c9cfe6f578f8f", func := "onionskin/onionskinlaw01.ShaSums", spec := "shaSums", named := ["onionskin/sha.roundWords"], apart := false, laid := [("onionskin/sha.roundWords", laid_onionskin_sha_roundWords)], narrowed := true }
def ShaSumsUptoSaid : Prop := shaSumsUptoRow.holds Tryd.pinned (OpenSpec.upto shaSumsSpec)

/-- 'onionskinlaw01.ShaPieces', WHERE WHAT IT READS IS OF BULK AT MOST 1048576: true; the input reads as it did. -/
def shaPiecesUptoRow : OpenClaim := { program := "ytknfpfhbplmffaadoor", sum := "ebdddc1508a814baa0ec14e65571110d094d82c92eec5477146c9cfe6f578f8f", func := "onionskin/onionskinlaw01.ShaPieces", spec := "shaPieces", named := ["onionskin/sha.roundWords"], apart := false, laid := [("onionskin/sha.roundWords", laid_onionskin_sha_roundWords)], narrowed := true }
def ShaPiecesUptoSaid : Prop := shaPiecesUptoRow.holds Tryd.pinned (OpenSpec.upto shaPiecesSpec)

/-- 'onionskinlaw01.ShaLong', WHERE WHAT IT READS IS OF BULK AT MOST 1048576: true; the input reads as it did. -/
def shaLongUptoRow : OpenClaim := { program := "ytknfpfhbplmffaadoor", sum := "ebdddc1508a814baa0ec14e65571110d094d82c92eec5477146c9cfe6f578f8f", func := "onionskin/onionskinlaw01.ShaLong", spec := "shaLong", named := ["onionskin/sha.roundWords"], apart := false, laid := [("onionskin/sha.roundWords", laid_onionskin_sha_roundWords)], narrowed := true }
def ShaLongUptoSaid : Prop := shaLongUptoRow.holds Tryd.pinned (OpenSpec.upto shaLongSpec)

/-- 'onionskinlaw01.ShaTwo', WHERE WHAT IT READS IS OF BULK AT MOST 1048576: true; the input reads as it did. -/
def shaTwoUptoRow : OpenClaim := { program := "ytknfpfhbplmffaadoor", sum := "ebdddc1508a814baa0ec14e65571110d094d82c92eec5477146c9cfe6f578f8f", func := "onionskin/onionskinlaw01.ShaTwo", spec := "shaTwo", named := ["onionskin/sha.roundWords"], apart := false, laid := [("onionskin/sha.roundWords", laid_onionskin_sha_roundWords)], narrowed := true }
def ShaTwoUptoSaid : Prop := shaTwoUptoRow.holds Tryd.pinned (OpenSpec.upto shaTwoSpec)

/-- 'onionskinlaw02.DigestTells', WHERE WHAT IT READS IS OF BULK AT MOST 1048576: true; the input reads as it did. -/
def digestTellsUptoRow : OpenClaim := { program := "ytknfpfhbplmffaadoor", sum := "ebdddc1508a814baa0ec14e65571110d094d82c92eec5477146c9cfe6f578f8f", func := "onionskin/onionskinlaw02.DigestTells", spec := "digestTells", inPlace := ["internal/bytealg.IndexByteString"], named := ["onionskin/sha.roundWords"], apart := false, laid := [("onionskin/sha.roundWords", laid_onionskin_sha_roundWords)], narrowed := true }
def DigestTellsUptoSaid : Prop := digestTellsUptoRow.holds Tryd.pinned (OpenSpec.upto digestTellsSpec)

/-- 'onionskinlaw02.DigestBack', WHERE WHAT IT READS IS OF BULK AT MOST 1048576: true; the input reads as it did. -/
def digestBackUptoRow : OpenClaim := { program := "ytknfpfhbplmffaadoor", sum := "ebdddc1508a814baa0ec14e65571110d094d82c92eec5477146c9cfe6f578f8f", func := "onionskin/onionskinlaw02.DigestBack", spec := "digestBack", inPlace := ["internal/bytealg.IndexByteString"], named := ["onionskin/sha.roundWords"], apart := false, laid := [("onionskin/sha.roundWords", laid_onionskin_sha_roundWords)], narrowed := true }
def DigestBackUptoSaid : Prop := digestBackUptoRow.holds Tryd.pinned (OpenSpec.upto digestBackSpec)

/-- 'onionskinlaw02.DigestOrder', WHERE WHAT IT READS IS OF BULK AT MOST 1048576: true; the input reads as it did. -/
def digestOrderUptoRow : OpenClaim := { program := "ytknfpfhbplmffaadoor", sum := "ebdddc1508a814baa0ec14e65571110d094d82c92eec5477146c9cfe6f578f8f", func := "onionskin/onionskinlaw02.DigestOrder", spec := "digestOrder", inPlace := ["internal/bytealg.IndexByteString"], named := ["onionskin/sha.roundWords"], apart := false, laid := [("onionskin/sha.roundWords", laid_onionskin_sha_roundWords)], narrowed := true }
def DigestOrderUptoSaid : Prop := digestOrderUptoRow.holds Tryd.pinned (OpenSpec.upto digestOrderSpec)

/-- 'onionskinlaw02.DigestLetters', WHERE WHAT IT READS IS OF BULK AT MOST 1048576: true; the input reads as it did. -/
def digestLettersUptoRow : OpenClaim := { program := "ytknfpfhbplmffaadoor", sum := "ebdddc1508a814baa0ec14e65571110d094d82c92eec5477146c9cfe6f578f8f", func := "onionskin/onionskinlaw02.DigestLetters", spec := "digestLetters", inPlace := ["internal/bytealg.IndexByteString"], named := ["onionskin/sha.roundWords"], apart := false, laid := [("onionskin/sha.roundWords", laid_onionskin_sha_roundWords)], narrowed := true }
def DigestLettersUptoSaid : Prop := digestLettersUptoRow.holds Tryd.pinned (OpenSpec.upto digestLettersSpec)

/-- 'onionskinlaw02.DigestOf', WHERE WHAT IT READS IS OF BULK AT MOST 1048576: true; the input reads as it did. -/
def digestOfUptoRow : OpenClaim := { program := "ytknfpfhbplmffaadoor", sum := "ebdddc1508a814baa0ec14e65571110d094d82c92eec5477146c9cfe6f578f8f", func := "onionskin/onionskinlaw02.DigestOf", spec := "digestOf", inPlace := ["internal/bytealg.IndexByteString"], named := ["onionskin/sha.roundWords"], apart := false, laid := [("onionskin/sha.roundWords", laid_onionskin_sha_roundWords)], narrowed := true }
def DigestOfUptoSaid : Prop := digestOfUptoRow.holds Tryd.pinned (OpenSpec.upto digestOfSpec)

end Rows
end Go.Proofs.YtknfpfhbplmffaaDoor
