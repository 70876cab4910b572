/-
  DERIVED. GIVEN WITH THE SEED: THE CARDS: each row of YtbekebpkaeefiaaDoorRows.lean that lists a variable, with what it lists TIED to the program's text (the seventh form; the later family's looks); each row that meets fmt, with fmt's text TOLD by the authors' own Lean function (tested against real Go, not proved from fmt's source: count such statements apart). THE CARD IS WHAT COUNTS. Prove the row's statement (the work); the ties are given (YtbekebpkaeefiaaDoorTie.lean); close each card by the builder's one call (the guide's Derived/Test/ToyasCard.lean, 'card_holds'). Laid BY PROGRAM, IN A SANDBOX (cutbox-door.mjs). By AI agents, Wed Nov 11 2026. No macro, syntax, notation, axiom, sorry.
-/
import Derived.Test.YtbekebpkaeefiaaDoorRows
import GoSem.ClaimSeven
namespace Go.Proofs.YtbekebpkaeefiaaDoor
namespace Rows

/-- THE TIED CARD OF 'chafflaw15.SlotPlays'. -/
def slotPlaysCard : Claim7 := { stood := { row := slotPlaysRow, standIns := [], harness := (true, "1fad04b21a27aab75ff144846ad8382fb9cf1b066e0c8125b24baa74bfa7348b"), looks := false }, kinds := [], alts := [], laidByText := true, laidKinds := [.data, .pinned], laidTests := true, laidLooks := .later }
def SlotPlaysCardSaid : Prop := Claim7.holds Tryd.pinned (.plain (OpenSpec.ofChange slotPlaysSpec)) slotPlaysCard

/-- THE TIED CARD OF 'chafflaw16.VaultKeeps'. -/
def vaultKeepsCard : Claim7 := { stood := { row := vaultKeepsRow, standIns := [], harness := (true, "1fad04b21a27aab75ff144846ad8382fb9cf1b066e0c8125b24baa74bfa7348b"), looks := false }, kinds := [], alts := [], laidByText := true, laidKinds := [.data, .pinned], laidTests := true, laidLooks := .later }
def VaultKeepsCardSaid : Prop := Claim7.holds Tryd.pinned (.plain (OpenSpec.ofChange vaultKeepsSpec)) vaultKeepsCard

/-- THE TIED CARD OF 'chafflaw16.VaultRots'. -/
def vaultRotsCard : Claim7 := { stood := { row := vaultRotsRow, standIns := [], harness := (true, "1fad04b21a27aab75ff144846ad8382fb9cf1b066e0c8125b24baa74bfa7348b"), looks := false }, kinds := [], alts := [], laidByText := true, laidKinds := [.data, .pinned], laidTests := true, laidLooks := .later }
def VaultRotsCardSaid : Prop := Claim7.holds Tryd.pinned (.plain (OpenSpec.ofChange vaultRotsSpec)) vaultRotsCard

/-- THE SECOND FORM's CARD OF 'chafflaw15.SlotPlays'. -/
def slotPlaysUptoCard : Claim7 := { stood := { row := slotPlaysUptoRow, standIns := [], harness := (true, "1fad04b21a27aab75ff144846ad8382fb9cf1b066e0c8125b24baa74bfa7348b"), looks := false }, kinds := [], alts := [], laidByText := true, laidKinds := [.data, .pinned], laidTests := true, laidLooks := .later }
def SlotPlaysUptoCardSaid : Prop := Claim7.holds Tryd.pinned (.plain (OpenSpec.upto slotPlaysSpec)) slotPlaysUptoCard

/-- THE SECOND FORM's CARD OF 'chafflaw16.VaultKeeps'. -/
def vaultKeepsUptoCard : Claim7 := { stood := { row := vaultKeepsUptoRow, standIns := [], harness := (true, "1fad04b21a27aab75ff144846ad8382fb9cf1b066e0c8125b24baa74bfa7348b"), looks := false }, kinds := [], alts := [], laidByText := true, laidKinds := [.data, .pinned], laidTests := true, laidLooks := .later }
def VaultKeepsUptoCardSaid : Prop := Claim7.holds Tryd.pinned (.plain (OpenSpec.upto vaultKeepsSpec)) vaultKeepsUptoCard

/-- THE SECOND FORM's CARD OF 'chafflaw16.VaultRots'. -/
def vaultRotsUptoCard : Claim7 := { stood := { row := vaultRotsUptoRow, standIns := [], harness := (true, "1fad04b21a27aab75ff144846ad8382fb9cf1b066e0c8125b24baa74bfa7348b"), looks := false }, kinds := [], alts := [], laidByText := true, laidKinds := [.data, .pinned], laidTests := true, laidLooks := .later }
def VaultRotsUptoCardSaid : Prop := Claim7.holds Tryd.pinned (.plain (OpenSpec.upto vaultRotsSpec)) vaultRotsUptoCard
end Rows
end Go.Proofs.YtbekebpkaeefiaaDoor
