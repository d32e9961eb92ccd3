/-
  DERIVED. GIVEN WITH THE SEED: THE CARDS: each row of YtecpeegbfeijaaaDoorRows.lean that lists a variable, with what it lists TIED to the program's text (the seventh form; the later family's looks); each row that meets fmt, with fmt's text TOLD by the authors' own Lean function (tested against real Go, not proved from fmt's source: count such statements apart). THE CARD IS WHAT COUNTS. Prove the row's statement (the work); the ties are given (YtecpeegbfeijaaaDoorTie.lean); close each card by the builder's one call (the guide's Derived/Test/ToyasCard.lean, 'card_holds'). Laid BY PROGRAM, IN A SANDBOX (cutbox-door.mjs). By AI agents, Wed Nov 11 2026. No macro, syntax, notation, axiom, sorry.
-/
import Derived.Test.YtecpeegbfeijaaaDoorRows
import GoSem.ClaimSeven
namespace Go.Proofs.YtecpeegbfeijaaaDoor
namespace Rows

/-- THE TIED CARD OF 'burgagelaw15.MemoFuture'. -/
def memoFutureCard : Claim7 := { stood := { row := memoFutureRow, standIns := [], harness := (true, "5f79c799f6df290f50456aa1607eda31b8914bd1cd82c8a15850858f010d3b1b"), looks := false }, kinds := [], alts := [], laidByText := true, laidKinds := [.data], laidTests := true, laidLooks := .later }
def MemoFutureCardSaid : Prop := Claim7.holds Tryd.pinned (.plain (OpenSpec.ofChange memoFutureSpec)) memoFutureCard

/-- THE TIED CARD OF 'burgagelaw15.MemoAlike'. -/
def memoAlikeCard : Claim7 := { stood := { row := memoAlikeRow, standIns := [], harness := (true, "5f79c799f6df290f50456aa1607eda31b8914bd1cd82c8a15850858f010d3b1b"), looks := false }, kinds := [], alts := [], laidByText := true, laidKinds := [.data], laidTests := true, laidLooks := .later }
def MemoAlikeCardSaid : Prop := Claim7.holds Tryd.pinned (.plain (OpenSpec.ofChange memoAlikeSpec)) memoAlikeCard

/-- THE TIED CARD OF 'burgagelaw15.MemoKeeps'. -/
def memoKeepsCard : Claim7 := { stood := { row := memoKeepsRow, standIns := [], harness := (true, "5f79c799f6df290f50456aa1607eda31b8914bd1cd82c8a15850858f010d3b1b"), looks := false }, kinds := [], alts := [], laidByText := true, laidKinds := [.data], laidTests := true, laidLooks := .later }
def MemoKeepsCardSaid : Prop := Claim7.holds Tryd.pinned (.plain (OpenSpec.ofChange memoKeepsSpec)) memoKeepsCard

/-- THE SECOND FORM's CARD OF 'burgagelaw15.MemoFuture'. -/
def memoFutureUptoCard : Claim7 := { stood := { row := memoFutureUptoRow, standIns := [], harness := (true, "5f79c799f6df290f50456aa1607eda31b8914bd1cd82c8a15850858f010d3b1b"), looks := false }, kinds := [], alts := [], laidByText := true, laidKinds := [.data], laidTests := true, laidLooks := .later }
def MemoFutureUptoCardSaid : Prop := Claim7.holds Tryd.pinned (.plain (OpenSpec.upto memoFutureSpec)) memoFutureUptoCard

/-- THE SECOND FORM's CARD OF 'burgagelaw15.MemoAlike'. -/
def memoAlikeUptoCard : Claim7 := { stood := { row := memoAlikeUptoRow, standIns := [], harness := (true, "5f79c799f6df290f50456aa1607eda31b8914bd1cd82c8a15850858f010d3b1b"), looks := false }, kinds := [], alts := [], laidByText := true, laidKinds := [.data], laidTests := true, laidLooks := .later }
def MemoAlikeUptoCardSaid : Prop := Claim7.holds Tryd.pinned (.plain (OpenSpec.upto memoAlikeSpec)) memoAlikeUptoCard

/-- THE SECOND FORM's CARD OF 'burgagelaw15.MemoKeeps'. -/
def memoKeepsUptoCard : Claim7 := { stood := { row := memoKeepsUptoRow, standIns := [], harness := (true, "5f79c799f6df290f50456aa1607eda31b8914bd1cd82c8a15850858f010d3b1b"), looks := false }, kinds := [], alts := [], laidByText := true, laidKinds := [.data], laidTests := true, laidLooks := .later }
def MemoKeepsUptoCardSaid : Prop := Claim7.holds Tryd.pinned (.plain (OpenSpec.upto memoKeepsSpec)) memoKeepsUptoCard
end Rows
end Go.Proofs.YtecpeegbfeijaaaDoor
