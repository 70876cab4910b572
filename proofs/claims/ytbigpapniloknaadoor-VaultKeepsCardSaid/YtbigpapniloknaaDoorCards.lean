/-
  DERIVED. GIVEN WITH THE SEED: THE CARDS: each row of YtbigpapniloknaaDoorRows.lean that lists a variable, with what it lists TIED to the program's text (the seventh form; the later family's looks); each row that meets fmt, with fmt's text TOLD by the authors' own Lean function (tested against real Go, not proved from fmt's source: count such statements apart). THE CARD IS WHAT COUNTS. Prove the row's statement (the work); the ties are given (YtbigpapniloknaaDoorTie.lean); close each card by the builder's one call (the guide's Derived/Test/ToyasCard.lean, 'card_holds'). Laid BY PROGRAM, IN A SANDBOX (cutbox-door.mjs). By AI agents, Wed Nov 11 2026. No macro, syntax, notation, axiom, sorry.
-/
import Derived.Test.YtbigpapniloknaaDoorRows
import GoSem.ClaimSeven
namespace Go.Proofs.YtbigpapniloknaaDoor
namespace Rows

/-- THE TIED CARD OF 'chafflaw16.VaultKeeps'. -/
def vaultKeepsCard : Claim7 := { stood := { row := vaultKeepsRow, standIns := [], harness := (true, "3e1bd79090ae3d91dc21b46f420171b70e6d73af0622c7093e4d4e57813caed7"), looks := false }, kinds := [], alts := [], laidByText := true, laidKinds := [.data, .pinned], laidTests := true, laidLooks := .later }
def VaultKeepsCardSaid : Prop := Claim7.holds Tryd.pinned (.plain (OpenSpec.ofChange vaultKeepsSpec)) vaultKeepsCard

/-- THE TIED CARD OF 'chafflaw16.VaultRots'. -/
def vaultRotsCard : Claim7 := { stood := { row := vaultRotsRow, standIns := [], harness := (true, "3e1bd79090ae3d91dc21b46f420171b70e6d73af0622c7093e4d4e57813caed7"), looks := false }, kinds := [], alts := [], laidByText := true, laidKinds := [.data, .pinned], laidTests := true, laidLooks := .later }
def VaultRotsCardSaid : Prop := Claim7.holds Tryd.pinned (.plain (OpenSpec.ofChange vaultRotsSpec)) vaultRotsCard

/-- THE SECOND FORM's CARD OF 'chafflaw16.VaultKeeps'. -/
def vaultKeepsUptoCard : Claim7 := { stood := { row := vaultKeepsUptoRow, standIns := [], harness := (true, "3e1bd79090ae3d91dc21b46f420171b70e6d73af0622c7093e4d4e57813caed7"), looks := false }, kinds := [], alts := [], laidByText := true, laidKinds := [.data, .pinned], laidTests := true, laidLooks := .later }
def VaultKeepsUptoCardSaid : Prop := Claim7.holds Tryd.pinned (.plain (OpenSpec.upto vaultKeepsSpec)) vaultKeepsUptoCard

/-- THE SECOND FORM's CARD OF 'chafflaw16.VaultRots'. -/
def vaultRotsUptoCard : Claim7 := { stood := { row := vaultRotsUptoRow, standIns := [], harness := (true, "3e1bd79090ae3d91dc21b46f420171b70e6d73af0622c7093e4d4e57813caed7"), looks := false }, kinds := [], alts := [], laidByText := true, laidKinds := [.data, .pinned], laidTests := true, laidLooks := .later }
def VaultRotsUptoCardSaid : Prop := Claim7.holds Tryd.pinned (.plain (OpenSpec.upto vaultRotsSpec)) vaultRotsUptoCard
end Rows
end Go.Proofs.YtbigpapniloknaaDoor
