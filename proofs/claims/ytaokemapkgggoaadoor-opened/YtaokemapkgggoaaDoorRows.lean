/-
  NARROWER THAN 'FOR EVERY INPUT', by the rows' own cells (each row's printed sentence says how): Mixed: laid · Cuts: laid · Sealed: laid · Blind: laid · Guarded: laid · Torn: laid · Opened: laid.
  DERIVED. THE GIVEN ROWS OF THIS SEAT. 7 by the template 'for every input the law returns true; each argument reads behind the call as it read before'; 0 by the template 'total and deterministic' (their statements: YtaokemapkgggoaaDoorTotals.lean).
  GIVEN WITH THE SEED: the statements are not yours to turn. If you find one false, say at which input.
  Laid BY PROGRAM, IN A SANDBOX (cutbox-rows.mjs): the forced cells as the released guide's own fill.sh prints them over the translation fe9f75b66c0a4b23… (all of the seat's roots in one cut). By AI agents, Wed Nov 11 2026. No macro, syntax, notation, axiom, sorry.
-/
import Derived.Test.YtaokemapkgggoaaDoorChecked
import GoSem.Claim
import GoSem.ClaimJoined
import GoSem.ClaimMapViews
import Derived.JoinedTies
import Derived.KernelRfl
namespace Go.Proofs.YtaokemapkgggoaaDoor
/- THE CELL 'sum', in the pinned program and in every row, IS THE sha256 OF THE DUMP (.gsa) THAT YtaokemapkgggoaaDoorProg.lean LOADS. Nothing in Lean hashes anything: it is a label: what it is worth is what the hold of that sum in a sandbox is worth. -/
noncomputable def Tryd.pinned : Pinned := { name := "ytaokemapkgggoaadoor", sum := "fe9f75b66c0a4b23b4ecc81b62c5a25a260192edc330625d63346e56748dc482", checked := Tryd.checked }
namespace Rows
def none {H : Type} : Left H := { results := [], args := [] }

/- WHAT THE LISTED PACKAGE-LEVEL VARIABLES READ AS WHEN THE CALL BEGINS. Each datum BY PROGRAM (the guide's laid-datum.mjs) off the statement by which the dump's own 'gosem.cut.vars' lays the variable. In a bare row this is a premise. The card (YtaokemapkgggoaaDoorCards.lean) ties it to the program's text. -/
def laid_warden_warden_startWords {H : Type} : DataW H := .agg [.lit (.int .u32 1779033703), .lit (.int .u32 3144134277), .lit (.int .u32 1013904242), .lit (.int .u32 2773480762), .lit (.int .u32 1359893119), .lit (.int .u32 2600822924), .lit (.int .u32 528734635), .lit (.int .u32 1541459225)]
def laid_warden_warden_rootWords {H : Type} : DataW H := .agg [.lit (.int .u32 1116352408), .lit (.int .u32 1899447441), .lit (.int .u32 3049323471), .lit (.int .u32 3921009573), .lit (.int .u32 961987163), .lit (.int .u32 1508970993), .lit (.int .u32 2453635748), .lit (.int .u32 2870763221), .lit (.int .u32 3624381080), .lit (.int .u32 310598401), .lit (.int .u32 607225278), .lit (.int .u32 1426881987), .lit (.int .u32 1925078388), .lit (.int .u32 2162078206), .lit (.int .u32 2614888103), .lit (.int .u32 3248222580), .lit (.int .u32 3835390401), .lit (.int .u32 4022224774), .lit (.int .u32 264347078), .lit (.int .u32 604807628), .lit (.int .u32 770255983), .lit (.int .u32 1249150122), .lit (.int .u32 1555081692), .lit (.int .u32 1996064986), .lit (.int .u32 2554220882), .lit (.int .u32 2821834349), .lit (.int .u32 2952996808), .lit (.int .u32 3210313671), .lit (.int .u32 3336571891), .lit (.int .u32 3584528711), .lit (.int .u32 113926993), .lit (.int .u32 338241895), .lit (.int .u32 666307205), .lit (.int .u32 773529912), .lit (.int .u32 1294757372), .lit (.int .u32 1396182291), .lit (.int .u32 1695183700), .lit (.int .u32 1986661051), .lit (.int .u32 2177026350), .lit (.int .u32 2456956037), .lit (.int .u32 2730485921), .lit (.int .u32 2820302411), .lit (.int .u32 3259730800), .lit (.int .u32 3345764771), .lit (.int .u32 3516065817), .lit (.int .u32 3600352804), .lit (.int .u32 4094571909), .lit (.int .u32 275423344), .lit (.int .u32 430227734), .lit (.int .u32 506948616), .lit (.int .u32 659060556), .lit (.int .u32 883997877), .lit (.int .u32 958139571), .lit (.int .u32 1322822218), .lit (.int .u32 1537002063), .lit (.int .u32 1747873779), .lit (.int .u32 1955562222), .lit (.int .u32 2024104815), .lit (.int .u32 2227730452), .lit (.int .u32 2361852424), .lit (.int .u32 2428436474), .lit (.int .u32 2756734187), .lit (.int .u32 3204031479), .lit (.int .u32 3329325298)]

/-- 'wardenkeep.Mixed': WHATEVER THE INPUT: true; the input reads as it did. -/
def mixedSpec : ChangeSpec := { name := "mixed", fn := fun _ => fun
  | [d1, d2, d3] => { results := [.lit (.bool true)], args := [d1, d2, d3] }
  | _ => none }
def mixedRow : OpenClaim := { program := "ytaokemapkgggoaadoor", sum := "fe9f75b66c0a4b23b4ecc81b62c5a25a260192edc330625d63346e56748dc482", func := "warden/wardenkeep.Mixed", spec := "mixed", inPlace := ["internal/abi.NoEscape"], unfollowed := true, recurses := true, named := ["warden/warden.startWords", "warden/warden.rootWords"], apart := false, laid := [("warden/warden.startWords", laid_warden_warden_startWords), ("warden/warden.rootWords", laid_warden_warden_rootWords)] }
def MixedSaid : Prop := mixedRow.holds Tryd.pinned (OpenSpec.ofChange mixedSpec)

/-- ITS FALSE NEIGHBOUR: 'it returns false'. Refute it at one input. -/
def mixedWrong : ChangeSpec := { name := "mixed", fn := fun _ => fun
  | [d1, d2, d3] => { results := [.lit (.bool false)], args := [d1, d2, d3] }
  | _ => none }
def MixedWrongFalsely : Prop := mixedRow.holds Tryd.pinned (OpenSpec.ofChange mixedWrong)

/-- 'wardenkeep.Cuts': WHATEVER THE INPUT: true; the input reads as it did. -/
def cutsSpec : ChangeSpec := { name := "cuts", fn := fun _ => fun
  | [d1, d2, d3, d4] => { results := [.lit (.bool true)], args := [d1, d2, d3, d4] }
  | _ => none }
def cutsRow : OpenClaim := { program := "ytaokemapkgggoaadoor", sum := "fe9f75b66c0a4b23b4ecc81b62c5a25a260192edc330625d63346e56748dc482", func := "warden/wardenkeep.Cuts", spec := "cuts", inPlace := ["internal/abi.NoEscape"], unfollowed := true, recurses := true, named := ["warden/warden.startWords", "warden/warden.rootWords"], apart := false, laid := [("warden/warden.startWords", laid_warden_warden_startWords), ("warden/warden.rootWords", laid_warden_warden_rootWords)] }
def CutsSaid : Prop := cutsRow.holds Tryd.pinned (OpenSpec.ofChange cutsSpec)

/-- ITS FALSE NEIGHBOUR: 'it returns false'. Refute it at one input. -/
def cutsWrong : ChangeSpec := { name := "cuts", fn := fun _ => fun
  | [d1, d2, d3, d4] => { results := [.lit (.bool false)], args := [d1, d2, d3, d4] }
  | _ => none }
def CutsWrongFalsely : Prop := cutsRow.holds Tryd.pinned (OpenSpec.ofChange cutsWrong)

/-- 'wardenkeep.Sealed': WHATEVER THE INPUT: true; the input reads as it did. -/
def sealedSpec : ChangeSpec := { name := "sealed", fn := fun _ => fun
  | [d1, d2, d3, d4, d5] => { results := [.lit (.bool true)], args := [d1, d2, d3, d4, d5] }
  | _ => none }
def sealedRow : OpenClaim := { program := "ytaokemapkgggoaadoor", sum := "fe9f75b66c0a4b23b4ecc81b62c5a25a260192edc330625d63346e56748dc482", func := "warden/wardenkeep.Sealed", spec := "sealed", inPlace := ["internal/abi.NoEscape"], unfollowed := true, recurses := true, named := ["warden/warden.startWords", "warden/warden.rootWords"], apart := false, laid := [("warden/warden.startWords", laid_warden_warden_startWords), ("warden/warden.rootWords", laid_warden_warden_rootWords)] }
def SealedSaid : Prop := sealedRow.holds Tryd.pinned (OpenSpec.ofChange sealedSpec)

/-- ITS FALSE NEIGHBOUR: 'it returns false'. Refute it at one input. -/
def sealedWrong : ChangeSpec := { name := "sealed", fn := fun _ => fun
  | [d1, d2, d3, d4, d5] => { results := [.lit (.bool false)], args := [d1, d2, d3, d4, d5] }
  | _ => none }
def SealedWrongFalsely : Prop := sealedRow.holds Tryd.pinned (OpenSpec.ofChange sealedWrong)

/-- 'wardenkeep.Blind': WHATEVER THE INPUT: true; the input reads as it did. -/
def blindSpec : ChangeSpec := { name := "blind", fn := fun _ => fun
  | [d1, d2, d3, d4, d5] => { results := [.lit (.bool true)], args := [d1, d2, d3, d4, d5] }
  | _ => none }
def blindRow : OpenClaim := { program := "ytaokemapkgggoaadoor", sum := "fe9f75b66c0a4b23b4ecc81b62c5a25a260192edc330625d63346e56748dc482", func := "warden/wardenkeep.Blind", spec := "blind", inPlace := ["internal/abi.NoEscape"], unfollowed := true, recurses := true, named := ["warden/warden.startWords", "warden/warden.rootWords"], apart := false, laid := [("warden/warden.startWords", laid_warden_warden_startWords), ("warden/warden.rootWords", laid_warden_warden_rootWords)] }
def BlindSaid : Prop := blindRow.holds Tryd.pinned (OpenSpec.ofChange blindSpec)

/-- ITS FALSE NEIGHBOUR: 'it returns false'. Refute it at one input. -/
def blindWrong : ChangeSpec := { name := "blind", fn := fun _ => fun
  | [d1, d2, d3, d4, d5] => { results := [.lit (.bool false)], args := [d1, d2, d3, d4, d5] }
  | _ => none }
def BlindWrongFalsely : Prop := blindRow.holds Tryd.pinned (OpenSpec.ofChange blindWrong)

/-- 'wardenkeep.Guarded': WHATEVER THE INPUT: true; the input reads as it did. -/
def guardedSpec : ChangeSpec := { name := "guarded", fn := fun _ => fun
  | [d1, d2, d3] => { results := [.lit (.bool true)], args := [d1, d2, d3] }
  | _ => none }
def guardedRow : OpenClaim := { program := "ytaokemapkgggoaadoor", sum := "fe9f75b66c0a4b23b4ecc81b62c5a25a260192edc330625d63346e56748dc482", func := "warden/wardenkeep.Guarded", spec := "guarded", inPlace := ["internal/abi.NoEscape"], unfollowed := true, recurses := true, named := ["warden/warden.startWords", "warden/warden.rootWords"], apart := false, laid := [("warden/warden.startWords", laid_warden_warden_startWords), ("warden/warden.rootWords", laid_warden_warden_rootWords)] }
def GuardedSaid : Prop := guardedRow.holds Tryd.pinned (OpenSpec.ofChange guardedSpec)

/-- ITS FALSE NEIGHBOUR: 'it returns false'. Refute it at one input. -/
def guardedWrong : ChangeSpec := { name := "guarded", fn := fun _ => fun
  | [d1, d2, d3] => { results := [.lit (.bool false)], args := [d1, d2, d3] }
  | _ => none }
def GuardedWrongFalsely : Prop := guardedRow.holds Tryd.pinned (OpenSpec.ofChange guardedWrong)

/-- 'wardenkeep.Torn': WHATEVER THE INPUT: true; the input reads as it did. -/
def tornSpec : ChangeSpec := { name := "torn", fn := fun _ => fun
  | [d1, d2, d3, d4, d5, d6] => { results := [.lit (.bool true)], args := [d1, d2, d3, d4, d5, d6] }
  | _ => none }
def tornRow : OpenClaim := { program := "ytaokemapkgggoaadoor", sum := "fe9f75b66c0a4b23b4ecc81b62c5a25a260192edc330625d63346e56748dc482", func := "warden/wardenkeep.Torn", spec := "torn", inPlace := ["internal/abi.NoEscape"], unfollowed := true, recurses := true, named := ["warden/warden.startWords", "warden/warden.rootWords"], apart := false, laid := [("warden/warden.startWords", laid_warden_warden_startWords), ("warden/warden.rootWords", laid_warden_warden_rootWords)] }
def TornSaid : Prop := tornRow.holds Tryd.pinned (OpenSpec.ofChange tornSpec)

/-- ITS FALSE NEIGHBOUR: 'it returns false'. Refute it at one input. -/
def tornWrong : ChangeSpec := { name := "torn", fn := fun _ => fun
  | [d1, d2, d3, d4, d5, d6] => { results := [.lit (.bool false)], args := [d1, d2, d3, d4, d5, d6] }
  | _ => none }
def TornWrongFalsely : Prop := tornRow.holds Tryd.pinned (OpenSpec.ofChange tornWrong)

/-- 'wardenkeep.Opened': WHATEVER THE INPUT: true; the input reads as it did. -/
def openedSpec : ChangeSpec := { name := "opened", fn := fun _ => fun
  | [d1, d2, d3, d4, d5, d6, d7] => { results := [.lit (.bool true)], args := [d1, d2, d3, d4, d5, d6, d7] }
  | _ => none }
def openedRow : OpenClaim := { program := "ytaokemapkgggoaadoor", sum := "fe9f75b66c0a4b23b4ecc81b62c5a25a260192edc330625d63346e56748dc482", func := "warden/wardenkeep.Opened", spec := "opened", inPlace := ["internal/abi.NoEscape"], unfollowed := true, recurses := true, named := ["warden/warden.startWords", "warden/warden.rootWords"], apart := false, laid := [("warden/warden.startWords", laid_warden_warden_startWords), ("warden/warden.rootWords", laid_warden_warden_rootWords)] }
def OpenedSaid : Prop := openedRow.holds Tryd.pinned (OpenSpec.ofChange openedSpec)

/-- ITS FALSE NEIGHBOUR: 'it returns false'. Refute it at one input. -/
def openedWrong : ChangeSpec := { name := "opened", fn := fun _ => fun
  | [d1, d2, d3, d4, d5, d6, d7] => { results := [.lit (.bool false)], args := [d1, d2, d3, d4, d5, d6, d7] }
  | _ => none }
def OpenedWrongFalsely : Prop := openedRow.holds Tryd.pinned (OpenSpec.ofChange openedWrong)

/- THE SECOND FORM. 'bulk': how many values and letters a reading holds, each counted each time it is reached (what is shared counts as often as it is met; a slice's spare places count too). A statement '..UptoSaid' is the law's where the arguments, and the package variables that the reading takes, are together of bulk at most 1048576: NARROWER than '..Said'. Prove '..Said' where nothing that the law and all that it calls make is longer than what came in: it says more and counts as full. Else prove '..UptoSaid'. A law counts once. -/
mutual
def uptoBulk {H : Type} : DataW H → Nat
  | .lit (.string bytes) => bytes.length + 1
  | .lit _ => 1
  | .nil => 1
  | .ptr d => uptoBulk d + 1
  | .slice elems spare => uptoBulkAll elems + uptoBulkAll spare + 1
  | .agg parts => uptoBulkAll parts + 1
  | .iface _ d => uptoBulk d + 1
  | .map entries => uptoBulkEntries entries + 1
  | .held _ => 1
def uptoBulkAll {H : Type} : List (DataW H) → Nat
  | [] => 0
  | d :: r => uptoBulk d + uptoBulkAll r
def uptoBulkEntries {H : Type} : List (Lit × DataW H) → Nat
  | [] => 0
  | x :: r => uptoBulkEntry x + uptoBulkEntries r
def uptoBulkEntry {H : Type} : Lit × DataW H → Nat
  | (.string bytes, d) => bytes.length + uptoBulk d + 1
  | (_, d) => uptoBulk d + 1
 end
def uptoSmall : (H : Type) → List (DataW H) → Bool := fun _ ds => decide (uptoBulkAll ds ≤ 1048576)
def OpenSpec.upto (s : _root_.Go.ChangeSpec) : _root_.Go.OpenSpec := { _root_.Go.OpenSpec.ofChange s with cond := some uptoSmall }

/-- 'wardenkeep.Mixed', WHERE WHAT IT READS IS OF BULK AT MOST 1048576: true; the input reads as it did. -/
def mixedUptoRow : OpenClaim := { program := "ytaokemapkgggoaadoor", sum := "fe9f75b66c0a4b23b4ecc81b62c5a25a260192edc330625d63346e56748dc482", func := "warden/wardenkeep.Mixed", spec := "mixed", inPlace := ["internal/abi.NoEscape"], unfollowed := true, recurses := true, named := ["warden/warden.startWords", "warden/warden.rootWords"], apart := false, laid := [("warden/warden.startWords", laid_warden_warden_startWords), ("warden/warden.rootWords", laid_warden_warden_rootWords)], narrowed := true }
def MixedUptoSaid : Prop := mixedUptoRow.holds Tryd.pinned (OpenSpec.upto mixedSpec)

/-- 'wardenkeep.Cuts', WHERE WHAT IT READS IS OF BULK AT MOST 1048576: true; the input reads as it did. -/
def cutsUptoRow : OpenClaim := { program := "ytaokemapkgggoaadoor", sum := "fe9f75b66c0a4b23b4ecc81b62c5a25a260192edc330625d63346e56748dc482", func := "warden/wardenkeep.Cuts", spec := "cuts", inPlace := ["internal/abi.NoEscape"], unfollowed := true, recurses := true, named := ["warden/warden.startWords", "warden/warden.rootWords"], apart := false, laid := [("warden/warden.startWords", laid_warden_warden_startWords), ("warden/warden.rootWords", laid_warden_warden_rootWords)], narrowed := true }
def CutsUptoSaid : Prop := cutsUptoRow.holds Tryd.pinned (OpenSpec.upto cutsSpec)

/-- 'wardenkeep.Sealed', WHERE WHAT IT READS IS OF BULK AT MOST 1048576: true; the input reads as it did. -/
def sealedUptoRow : OpenClaim := { program := "ytaokemapkgggoaadoor", sum := "fe9f75b66c0a4b23b4ecc81b62c5a25a260192edc330625d63346e56748dc482", func := "warden/wardenkeep.Sealed", spec := "sealed", inPlace := ["internal/abi.NoEscape"], unfollowed := true, recurses := true, named := ["warden/warden.startWords", "warden/warden.rootWords"], apart := false, laid := [("warden/warden.startWords", laid_warden_warden_startWords), ("warden/warden.rootWords", laid_warden_warden_rootWords)], narrowed := true }
def SealedUptoSaid : Prop := sealedUptoRow.holds Tryd.pinned (OpenSpec.upto sealedSpec)

/-- 'wardenkeep.Blind', WHERE WHAT IT READS IS OF BULK AT MOST 1048576: true; the input reads as it did. -/
def blindUptoRow : OpenClaim := { program := "ytaokemapkgggoaadoor", sum := "fe9f75b66c0a4b23b4ecc81b62c5a25a260192edc330625d63346e56748dc482", func := "warden/wardenkeep.Blind", spec := "blind", inPlace := ["internal/abi.NoEscape"], unfollowed := true, recurses := true, named := ["warden/warden.startWords", "warden/warden.rootWords"], apart := false, laid := [("warden/warden.startWords", laid_warden_warden_startWords), ("warden/warden.rootWords", laid_warden_warden_rootWords)], narrowed := true }
def BlindUptoSaid : Prop := blindUptoRow.holds Tryd.pinned (OpenSpec.upto blindSpec)

/-- 'wardenkeep.Guarded', WHERE WHAT IT READS IS OF BULK AT MOST 1048576: true; the input reads as it did. -/
def guardedUptoRow : OpenClaim := { program := "ytaokemapkgggoaadoor", sum := "fe9f75b66c0a4b23b4ecc81b62c5a25a260192edc330625d63346e56748dc482", func := "warden/wardenkeep.Guarded", spec := "guarded", inPlace := ["internal/abi.NoEscape"], unfollowed := true, recurses := true, named := ["warden/warden.startWords", "warden/warden.rootWords"], apart := false, laid := [("warden/warden.startWords", laid_warden_warden_startWords), ("warden/warden.rootWords", laid_warden_warden_rootWords)], narrowed := true }
def GuardedUptoSaid : Prop := guardedUptoRow.holds Tryd.pinned (OpenSpec.upto guardedSpec)

/-- 'wardenkeep.Torn', WHERE WHAT IT READS IS OF BULK AT MOST 1048576: true; the input reads as it did. -/
def tornUptoRow : OpenClaim := { program := "ytaokemapkgggoaadoor", sum := "fe9f75b66c0a4b23b4ecc81b62c5a25a260192edc330625d63346e56748dc482", func := "warden/wardenkeep.Torn", spec := "torn", inPlace := ["internal/abi.NoEscape"], unfollowed := true, recurses := true, named := ["warden/warden.startWords", "warden/warden.rootWords"], apart := false, laid := [("warden/warden.startWords", laid_warden_warden_startWords), ("warden/warden.rootWords", laid_warden_warden_rootWords)], narrowed := true }
def TornUptoSaid : Prop := tornUptoRow.holds Tryd.pinned (OpenSpec.upto tornSpec)

/-- 'wardenkeep.Opened', WHERE WHAT IT READS IS OF BULK AT MOST 1048576: true; the input reads as it did. -/
def openedUptoRow : OpenClaim := { program := "ytaokemapkgggoaadoor", sum := "fe9f75b66c0a4b23b4ecc81b62c5a25a260192edc330625d63346e56748dc482", func := "warden/wardenkeep.Opened", spec := "opened", inPlace := ["internal/abi.NoEscape"], unfollowed := true, recurses := true, named := ["warden/warden.startWords", "warden/warden.rootWords"], apart := false, laid := [("warden/warden.startWords", laid_warden_warden_startWords), ("warden/warden.rootWords", laid_warden_warden_rootWords)], narrowed := true }
def OpenedUptoSaid : Prop := openedUptoRow.holds Tryd.pinned (OpenSpec.upto openedSpec)

end Rows
end Go.Proofs.YtaokemapkgggoaaDoor
