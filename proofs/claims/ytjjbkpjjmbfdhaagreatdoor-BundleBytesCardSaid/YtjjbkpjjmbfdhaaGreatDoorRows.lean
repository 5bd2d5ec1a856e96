/-
  NARROWER THAN 'FOR EVERY INPUT', by the rows' own cells (each row's printed sentence says how): BundleBytes: laid.
  DERIVED. THE GIVEN ROWS OF THIS SEAT. 1 by the template 'for every input the law returns true; each argument reads behind the call as it read before'; 0 by the template 'total and deterministic' (their statements: YtjjbkpjjmbfdhaaGreatDoorTotals.lean).
  GIVEN WITH THE SEED: the statements are not yours to turn. If you find one false, say at which input.
  Laid BY PROGRAM, IN A SANDBOX (cutbox-rows.mjs): the forced cells as the released guide's own fill.sh prints them over the translation ec930523c0e1cb01… (all of the seat's roots in one cut). By AI agents, Wed Nov 11 2026. No macro, syntax, notation, axiom, sorry.
-/
import Derived.Test.YtjjbkpjjmbfdhaaGreatDoorChecked
import GoSem.PinnedTables
import GoSem.Claim
import GoSem.ClaimJoined
import GoSem.ClaimMapViews
import Derived.JoinedTies
import Derived.KernelRfl
namespace Go.Proofs.YtjjbkpjjmbfdhaaGreatDoor
/- THE CELL 'sum', in the pinned program and in every row, IS THE sha256 OF THE DUMP (.gsa) THAT YtjjbkpjjmbfdhaaGreatDoorProg.lean LOADS. Nothing in Lean hashes anything: it is a label: what it is worth is what the hold of that sum in a sandbox is worth. -/
noncomputable def Tryz.pinned : Pinned := { name := "ytjjbkpjjmbfdhaagreatdoor", sum := "ec930523c0e1cb01087862002164a8fa0a11aaa142ab4ff6feafec2735c29e48", checked := Tryz.checked }
namespace Rows
def none {H : Type} : Left H := { results := [], args := [] }

/- WHAT THE LISTED PACKAGE-LEVEL VARIABLES READ AS WHEN THE CALL BEGINS. Each datum BY PROGRAM (the guide's laid-datum.mjs) off the statement by which the dump's own 'gosem.cut.vars' lays the variable. In a bare row this is a premise. The card (YtjjbkpjjmbfdhaaGreatDoorCards.lean) ties it to the program's text. -/
def laid_unicode_utf8_acceptRanges {H : Type} : DataW H := .agg [.agg [.lit (.int .u8 128), .lit (.int .u8 191)], .agg [.lit (.int .u8 160), .lit (.int .u8 191)], .agg [.lit (.int .u8 128), .lit (.int .u8 159)], .agg [.lit (.int .u8 144), .lit (.int .u8 191)], .agg [.lit (.int .u8 128), .lit (.int .u8 143)], .agg [.lit (.int .u8 0), .lit (.int .u8 0)], .agg [.lit (.int .u8 0), .lit (.int .u8 0)], .agg [.lit (.int .u8 0), .lit (.int .u8 0)], .agg [.lit (.int .u8 0), .lit (.int .u8 0)], .agg [.lit (.int .u8 0), .lit (.int .u8 0)], .agg [.lit (.int .u8 0), .lit (.int .u8 0)], .agg [.lit (.int .u8 0), .lit (.int .u8 0)], .agg [.lit (.int .u8 0), .lit (.int .u8 0)], .agg [.lit (.int .u8 0), .lit (.int .u8 0)], .agg [.lit (.int .u8 0), .lit (.int .u8 0)], .agg [.lit (.int .u8 0), .lit (.int .u8 0)]]
def laid_bulla_api_ErrRange {H : Type} : DataW H := .iface "*errors.errorString" (.ptr (.agg [.lit (.string [97, 32, 110, 117, 109, 98, 101, 114, 32, 105, 115, 32, 111, 117, 116, 32, 111, 102, 32, 105, 116, 115, 32, 114, 97, 110, 103, 101])]))
def laid_bulla_api_ErrShort {H : Type} : DataW H := .iface "*errors.errorString" (.ptr (.agg [.lit (.string [98, 121, 116, 101, 115, 32, 97, 114, 101, 32, 109, 105, 115, 115, 105, 110, 103])]))
def laid_bulla_api_ErrLong {H : Type} : DataW H := .iface "*errors.errorString" (.ptr (.agg [.lit (.string [116, 104, 101, 114, 101, 32, 105, 115, 32, 109, 111, 114, 101, 32, 116, 104, 97, 110, 32, 109, 97, 121, 32, 98, 101])]))
def laid_bulla_api_ErrForm {H : Type} : DataW H := .iface "*errors.errorString" (.ptr (.agg [.lit (.string [105, 116, 32, 105, 115, 32, 110, 111, 116, 32, 111, 102, 32, 105, 116, 115, 32, 102, 111, 114, 109])]))
def laid_bulla_api_ErrTag {H : Type} : DataW H := .iface "*errors.errorString" (.ptr (.agg [.lit (.string [97, 110, 111, 116, 104, 101, 114, 32, 116, 97, 103, 32, 105, 115, 32, 119, 97, 110, 116, 101, 100])]))
def laid_bulla_api_ErrDepth {H : Type} : DataW H := .iface "*errors.errorString" (.ptr (.agg [.lit (.string [105, 116, 32, 105, 115, 32, 110, 101, 115, 116, 101, 100, 32, 116, 111, 111, 32, 100, 101, 101, 112])]))
def laid_bulla_api_ErrOrder {H : Type} : DataW H := .iface "*errors.errorString" (.ptr (.agg [.lit (.string [105, 116, 32, 105, 115, 32, 110, 111, 116, 32, 105, 110, 32, 111, 114, 100, 101, 114])]))
def laid_bulla_api_ErrText {H : Type} : DataW H := .iface "*errors.errorString" (.ptr (.agg [.lit (.string [97, 32, 116, 101, 120, 116, 32, 105, 115, 32, 110, 111, 116, 32, 111, 102, 32, 105, 116, 115, 32, 102, 111, 114, 109])]))
def laid_bulla_api_ErrName {H : Type} : DataW H := .iface "*errors.errorString" (.ptr (.agg [.lit (.string [97, 32, 110, 97, 109, 101, 32, 105, 115, 32, 110, 111, 116, 32, 111, 102, 32, 105, 116, 115, 32, 102, 111, 114, 109])]))
def laid_bulla_api_ErrKey {H : Type} : DataW H := .iface "*errors.errorString" (.ptr (.agg [.lit (.string [116, 104, 101, 114, 101, 32, 105, 115, 32, 110, 111, 32, 115, 117, 99, 104, 32, 107, 101, 121])]))
def laid_bulla_api_ErrProof {H : Type} : DataW H := .iface "*errors.errorString" (.ptr (.agg [.lit (.string [105, 116, 32, 100, 111, 101, 115, 32, 110, 111, 116, 32, 112, 114, 111, 118, 101, 32, 119, 104, 97, 116, 32, 105, 116, 32, 99, 108, 97, 105, 109, 115])]))
def laid_bulla_api_ErrSign {H : Type} : DataW H := .iface "*errors.errorString" (.ptr (.agg [.lit (.string [116, 104, 101, 32, 115, 105, 103, 110, 97, 116, 117, 114, 101, 32, 105, 115, 32, 110, 111, 116, 32, 114, 105, 103, 104, 116])]))
def laid_bulla_api_ErrExpired {H : Type} : DataW H := .iface "*errors.errorString" (.ptr (.agg [.lit (.string [105, 116, 32, 105, 115, 32, 110, 111, 116, 32, 118, 97, 108, 105, 100, 32, 97, 110, 121, 32, 109, 111, 114, 101])]))
def laid_bulla_api_ErrEarly {H : Type} : DataW H := .iface "*errors.errorString" (.ptr (.agg [.lit (.string [105, 116, 32, 105, 115, 32, 110, 111, 116, 32, 118, 97, 108, 105, 100, 32, 121, 101, 116])]))
def laid_bulla_api_ErrUsage {H : Type} : DataW H := .iface "*errors.errorString" (.ptr (.agg [.lit (.string [105, 116, 32, 105, 115, 32, 110, 111, 116, 32, 102, 111, 114, 32, 116, 104, 97, 116, 32, 117, 115, 101])]))
def laid_bulla_api_ErrIssuer {H : Type} : DataW H := .iface "*errors.errorString" (.ptr (.agg [.lit (.string [105, 116, 115, 32, 105, 115, 115, 117, 101, 114, 32, 105, 115, 32, 110, 111, 116, 32, 116, 114, 117, 115, 116, 101, 100])]))
def laid_bulla_api_ErrRevoked {H : Type} : DataW H := .iface "*errors.errorString" (.ptr (.agg [.lit (.string [105, 116, 32, 105, 115, 32, 114, 101, 118, 111, 107, 101, 100])]))
def laid_bulla_api_ErrNone {H : Type} : DataW H := .iface "*errors.errorString" (.ptr (.agg [.lit (.string [116, 104, 101, 114, 101, 32, 105, 115, 32, 110, 111, 110, 101])]))
def laid_bulla_api_ErrExists {H : Type} : DataW H := .iface "*errors.errorString" (.ptr (.agg [.lit (.string [116, 104, 101, 114, 101, 32, 105, 115, 32, 111, 110, 101, 32, 97, 108, 114, 101, 97, 100, 121])]))
def laid_bulla_api_ErrStale {H : Type} : DataW H := .iface "*errors.errorString" (.ptr (.agg [.lit (.string [105, 116, 32, 119, 97, 115, 32, 99, 104, 97, 110, 103, 101, 100, 32, 109, 101, 97, 110, 119, 104, 105, 108, 101])]))
def laid_bulla_api_ErrQuota {H : Type} : DataW H := .iface "*errors.errorString" (.ptr (.agg [.lit (.string [116, 104, 101, 114, 101, 32, 97, 114, 101, 32, 116, 111, 111, 32, 109, 97, 110, 121])]))
def laid_bulla_api_ErrDenied {H : Type} : DataW H := .iface "*errors.errorString" (.ptr (.agg [.lit (.string [105, 116, 32, 105, 115, 32, 110, 111, 116, 32, 97, 108, 108, 111, 119, 101, 100])]))
def laid_bulla_api_ErrAuth {H : Type} : DataW H := .iface "*errors.errorString" (.ptr (.agg [.lit (.string [119, 104, 111, 32, 97, 115, 107, 115, 32, 105, 115, 32, 110, 111, 116, 32, 107, 110, 111, 119, 110])]))
def laid_bulla_api_ErrState {H : Type} : DataW H := .iface "*errors.errorString" (.ptr (.agg [.lit (.string [105, 116, 32, 99, 97, 110, 32, 110, 111, 116, 32, 98, 101, 32, 100, 111, 110, 101, 32, 110, 111, 119])]))
def laid_bulla_api_ErrDown {H : Type} : DataW H := .iface "*errors.errorString" (.ptr (.agg [.lit (.string [116, 104, 101, 32, 112, 111, 119, 101, 114, 32, 105, 115, 32, 103, 111, 110, 101])]))
def laid_bulla_api_ErrFull {H : Type} : DataW H := .iface "*errors.errorString" (.ptr (.agg [.lit (.string [116, 104, 101, 114, 101, 32, 105, 115, 32, 110, 111, 32, 114, 111, 111, 109])]))
def laid_bulla_api_ErrCorrupt {H : Type} : DataW H := .iface "*errors.errorString" (.ptr (.agg [.lit (.string [119, 104, 97, 116, 32, 105, 115, 32, 107, 101, 112, 116, 32, 105, 115, 32, 110, 111, 116, 32, 114, 105, 103, 104, 116])]))
def laid_bulla_api_ErrBusy {H : Type} : DataW H := .iface "*errors.errorString" (.ptr (.agg [.lit (.string [105, 116, 32, 105, 115, 32, 117, 110, 100, 101, 114, 32, 119, 97, 121])]))
def laid_bulla_moments_lengths {H : Type} : DataW H := .agg [.lit (.int .i64 31), .lit (.int .i64 28), .lit (.int .i64 31), .lit (.int .i64 30), .lit (.int .i64 31), .lit (.int .i64 30), .lit (.int .i64 31), .lit (.int .i64 31), .lit (.int .i64 30), .lit (.int .i64 31), .lit (.int .i64 30), .lit (.int .i64 31)]
/-- One of Go's own tables, pinned by name: the form's constant. -/
def laid_unicode_utf8_first : DataW Unit := Go.Pinned.utf8First

/-- 'bullalaw13.BundleBytes': WHATEVER THE INPUT: true; the input reads as it did. -/
def bundleBytesSpec : ChangeSpec := { name := "bundleBytes", fn := fun _ => fun
  | [d] => { results := [.lit (.bool true)], args := [d] }
  | _ => none }
def bundleBytesRow : OpenClaim := { program := "ytjjbkpjjmbfdhaagreatdoor", sum := "ec930523c0e1cb01087862002164a8fa0a11aaa142ab4ff6feafec2735c29e48", func := "bulla/bullalaw13.BundleBytes", spec := "bundleBytes", inPlace := ["internal/bytealg.IndexByteString", "internal/bytealg.Compare", "internal/reflectlite.TypeOf"], unfollowed := true, recurses := true, named := ["bulla/api.ErrNone", "bulla/api.ErrForm", "bulla/api.ErrTag", "bulla/api.ErrDepth", "bulla/api.ErrLong", "bulla/api.ErrShort", "bulla/api.ErrText", "unicode/utf8.first", "unicode/utf8.acceptRanges", "bulla/api.ErrState", "bulla/api.ErrRange", "bulla/moments.lengths", "bulla/api.ErrOrder", "bulla/api.ErrName", "bulla/api.ErrKey", "bulla/api.ErrProof", "bulla/api.ErrSign", "bulla/api.ErrExpired", "bulla/api.ErrEarly", "bulla/api.ErrUsage", "bulla/api.ErrIssuer", "bulla/api.ErrRevoked", "bulla/api.ErrExists", "bulla/api.ErrStale", "bulla/api.ErrQuota", "bulla/api.ErrDenied", "bulla/api.ErrAuth", "bulla/api.ErrDown", "bulla/api.ErrFull", "bulla/api.ErrCorrupt", "bulla/api.ErrBusy"], apart := false, laid := [("unicode/utf8.acceptRanges", laid_unicode_utf8_acceptRanges), ("bulla/api.ErrRange", laid_bulla_api_ErrRange), ("bulla/api.ErrShort", laid_bulla_api_ErrShort), ("bulla/api.ErrLong", laid_bulla_api_ErrLong), ("bulla/api.ErrForm", laid_bulla_api_ErrForm), ("bulla/api.ErrTag", laid_bulla_api_ErrTag), ("bulla/api.ErrDepth", laid_bulla_api_ErrDepth), ("bulla/api.ErrOrder", laid_bulla_api_ErrOrder), ("bulla/api.ErrText", laid_bulla_api_ErrText), ("bulla/api.ErrName", laid_bulla_api_ErrName), ("bulla/api.ErrKey", laid_bulla_api_ErrKey), ("bulla/api.ErrProof", laid_bulla_api_ErrProof), ("bulla/api.ErrSign", laid_bulla_api_ErrSign), ("bulla/api.ErrExpired", laid_bulla_api_ErrExpired), ("bulla/api.ErrEarly", laid_bulla_api_ErrEarly), ("bulla/api.ErrUsage", laid_bulla_api_ErrUsage), ("bulla/api.ErrIssuer", laid_bulla_api_ErrIssuer), ("bulla/api.ErrRevoked", laid_bulla_api_ErrRevoked), ("bulla/api.ErrNone", laid_bulla_api_ErrNone), ("bulla/api.ErrExists", laid_bulla_api_ErrExists), ("bulla/api.ErrStale", laid_bulla_api_ErrStale), ("bulla/api.ErrQuota", laid_bulla_api_ErrQuota), ("bulla/api.ErrDenied", laid_bulla_api_ErrDenied), ("bulla/api.ErrAuth", laid_bulla_api_ErrAuth), ("bulla/api.ErrState", laid_bulla_api_ErrState), ("bulla/api.ErrDown", laid_bulla_api_ErrDown), ("bulla/api.ErrFull", laid_bulla_api_ErrFull), ("bulla/api.ErrCorrupt", laid_bulla_api_ErrCorrupt), ("bulla/api.ErrBusy", laid_bulla_api_ErrBusy), ("bulla/moments.lengths", laid_bulla_moments_lengths), ("unicode/utf8.first", laid_unicode_utf8_first)] }
def BundleBytesSaid : Prop := bundleBytesRow.holds Tryz.pinned (OpenSpec.ofChange bundleBytesSpec)

/-- ITS FALSE NEIGHBOUR: 'it returns false'. Refute it at one input. -/
def bundleBytesWrong : ChangeSpec := { name := "bundleBytes", fn := fun _ => fun
  | [d] => { results := [.lit (.bool false)], args := [d] }
  | _ => none }
def BundleBytesWrongFalsely : Prop := bundleBytesRow.holds Tryz.pinned (OpenSpec.ofChange bundleBytesWrong)

/- THE SECOND FORM. 'bulk': how many values and letters a reading holds, each counted each time it is reached (what is shared counts as often as it is met; a slice's spare places count too). A statement '..UptoSaid' is the law's where the arguments, and the package variables that the reading takes, are together of bulk at most 1048576: NARROWER than '..Said'. Prove '..Said' where nothing that the law and all that it calls make is longer than what came in: it says more and counts as full. Else prove '..UptoSaid'. A law counts once. -/
mutual
def uptoBulk {H : Type} : DataW H → Nat
  | .lit (.string bytes) => bytes.length + 1
  | .lit _ => 1
  | .nil => 1
  | .ptr d => uptoBulk d + 1
  | .slice elems spare => uptoBulkAll elems + uptoBulkAll spare + 1
  | .agg parts => uptoBulkAll parts + 1
  | .iface _ d => uptoBulk d + 1
  | .map entries => uptoBulkEntries entries + 1
  | .held _ => 1
def uptoBulkAll {H : Type} : List (DataW H) → Nat
  | [] => 0
  | d :: r => uptoBulk d + uptoBulkAll r
def uptoBulkEntries {H : Type} : List (Lit × DataW H) → Nat
  | [] => 0
  | x :: r => uptoBulkEntry x + uptoBulkEntries r
def uptoBulkEntry {H : Type} : Lit × DataW H → Nat
  | (.string bytes, d) => bytes.length + uptoBulk d + 1
  | (_, d) => uptoBulk d + 1
 end
def uptoSmall : (H : Type) → List (DataW H) → Bool := fun _ ds => decide (uptoBulkAll ds ≤ 1048576)
def OpenSpec.upto (s : _root_.Go.ChangeSpec) : _root_.Go.OpenSpec := { _root_.Go.OpenSpec.ofChange s with cond := some uptoSmall }

/-- 'bullalaw13.BundleBytes', WHERE WHAT IT READS IS OF BULK AT MOST 1048576: true; the input reads as it did. -/
def bundleBytesUptoRow : OpenClaim := { program := "ytjjbkpjjmbfdhaagreatdoor", sum := "ec930523c0e1cb01087862002164a8fa0a11aaa142ab4ff6feafec2735c29e48", func := "bulla/bullalaw13.BundleBytes", spec := "bundleBytes", inPlace := ["internal/bytealg.IndexByteString", "internal/bytealg.Compare", "internal/reflectlite.TypeOf"], unfollowed := true, recurses := true, named := ["bulla/api.ErrNone", "bulla/api.ErrForm", "bulla/api.ErrTag", "bulla/api.ErrDepth", "bulla/api.ErrLong", "bulla/api.ErrShort", "bulla/api.ErrText", "unicode/utf8.first", "unicode/utf8.acceptRanges", "bulla/api.ErrState", "bulla/api.ErrRange", "bulla/moments.lengths", "bulla/api.ErrOrder", "bulla/api.ErrName", "bulla/api.ErrKey", "bulla/api.ErrProof", "bulla/api.ErrSign", "bulla/api.ErrExpired", "bulla/api.ErrEarly", "bulla/api.ErrUsage", "bulla/api.ErrIssuer", "bulla/api.ErrRevoked", "bulla/api.ErrExists", "bulla/api.ErrStale", "bulla/api.ErrQuota", "bulla/api.ErrDenied", "bulla/api.ErrAuth", "bulla/api.ErrDown", "bulla/api.ErrFull", "bulla/api.ErrCorrupt", "bulla/api.ErrBusy"], apart := false, laid := [("unicode/utf8.acceptRanges", laid_unicode_utf8_acceptRanges), ("bulla/api.ErrRange", laid_bulla_api_ErrRange), ("bulla/api.ErrShort", laid_bulla_api_ErrShort), ("bulla/api.ErrLong", laid_bulla_api_ErrLong), ("bulla/api.ErrForm", laid_bulla_api_ErrForm), ("bulla/api.ErrTag", laid_bulla_api_ErrTag), ("bulla/api.ErrDepth", laid_bulla_api_ErrDepth), ("bulla/api.ErrOrder", laid_bulla_api_ErrOrder), ("bulla/api.ErrText", laid_bulla_api_ErrText), ("bulla/api.ErrName", laid_bulla_api_ErrName), ("bulla/api.ErrKey", laid_bulla_api_ErrKey), ("bulla/api.ErrProof", laid_bulla_api_ErrProof), ("bulla/api.ErrSign", laid_bulla_api_ErrSign), ("bulla/api.ErrExpired", laid_bulla_api_ErrExpired), ("bulla/api.ErrEarly", laid_bulla_api_ErrEarly), ("bulla/api.ErrUsage", laid_bulla_api_ErrUsage), ("bulla/api.ErrIssuer", laid_bulla_api_ErrIssuer), ("bulla/api.ErrRevoked", laid_bulla_api_ErrRevoked), ("bulla/api.ErrNone", laid_bulla_api_ErrNone), ("bulla/api.ErrExists", laid_bulla_api_ErrExists), ("bulla/api.ErrStale", laid_bulla_api_ErrStale), ("bulla/api.ErrQuota", laid_bulla_api_ErrQuota), ("bulla/api.ErrDenied", laid_bulla_api_ErrDenied), ("bulla/api.ErrAuth", laid_bulla_api_ErrAuth), ("bulla/api.ErrState", laid_bulla_api_ErrState), ("bulla/api.ErrDown", laid_bulla_api_ErrDown), ("bulla/api.ErrFull", laid_bulla_api_ErrFull), ("bulla/api.ErrCorrupt", laid_bulla_api_ErrCorrupt), ("bulla/api.ErrBusy", laid_bulla_api_ErrBusy), ("bulla/moments.lengths", laid_bulla_moments_lengths), ("unicode/utf8.first", laid_unicode_utf8_first)], narrowed := true }
def BundleBytesUptoSaid : Prop := bundleBytesUptoRow.holds Tryz.pinned (OpenSpec.upto bundleBytesSpec)

end Rows
end Go.Proofs.YtjjbkpjjmbfdhaaGreatDoor
