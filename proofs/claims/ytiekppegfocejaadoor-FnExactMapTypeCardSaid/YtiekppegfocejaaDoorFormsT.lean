
/- The program's table of the forms of terms. -/
import Derived.Test.YtiekppegfocejaaDoorTermOk
namespace Go.Proofs.YtiekppegfocejaaDoor
open Go.RowKit

def tformCells : List Value := [.string ⟨#[]⟩, .int .i64 0, .int .i64 0, .int .i64 0, .int .i64 0, .bool false, .bool false, .string ⟨#[]⟩, .int .i64 0, .int .i64 0, .int .i64 0, .int .i64 0, .bool false, .bool false, .string ⟨#[97, 100, 100]⟩, .int .i64 2, .int .i64 0, .int .i64 0, .int .i64 0, .bool false, .bool false, .string ⟨#[105, 102]⟩, .int .i64 3, .int .i64 0, .int .i64 0, .int .i64 0, .bool false, .bool false, .string ⟨#[112, 97, 105, 114]⟩, .int .i64 2, .int .i64 0, .int .i64 0, .int .i64 0, .bool false, .bool false, .string ⟨#[115, 112, 108, 105, 116]⟩, .int .i64 2, .int .i64 0, .int .i64 2, .int .i64 0, .bool true, .bool false, .string ⟨#[108, 101, 102, 116]⟩, .int .i64 1, .int .i64 0, .int .i64 0, .int .i64 0, .bool false, .bool true, .string ⟨#[114, 105, 103, 104, 116]⟩, .int .i64 1, .int .i64 0, .int .i64 0, .int .i64 0, .bool false, .bool true, .string ⟨#[99, 97, 115, 101]⟩, .int .i64 3, .int .i64 0, .int .i64 1, .int .i64 1, .bool true, .bool false, .string ⟨#[102, 117, 110]⟩, .int .i64 1, .int .i64 1, .int .i64 0, .int .i64 0, .bool true, .bool true, .string ⟨#[97, 112, 112]⟩, .int .i64 2, .int .i64 0, .int .i64 0, .int .i64 0, .bool false, .bool false, .string ⟨#[98, 111, 120]⟩, .int .i64 1, .int .i64 0, .int .i64 0, .int .i64 0, .bool true, .bool false, .string ⟨#[111, 112, 101, 110]⟩, .int .i64 2, .int .i64 0, .int .i64 1, .int .i64 0, .bool true, .bool false]
/-- The table of the forms of terms reads as the program's text says. -/
def TForms (W : World) : Prop := ∀ j v, tformCells[j]? = some v → W.cell? ⟨0, j, none⟩ = some v
theorem TForms.ext {W : World} (F : TForms W) (y : Ext W) : TForms y.w := fun j v h => y.cell (F j v h)
def wordO (op : Nat) : ByteArray := [⟨#[]⟩, ⟨#[]⟩, ⟨#[97, 100, 100]⟩, ⟨#[105, 102]⟩, ⟨#[112, 97, 105, 114]⟩, ⟨#[115, 112, 108, 105, 116]⟩, ⟨#[108, 101, 102, 116]⟩, ⟨#[114, 105, 103, 104, 116]⟩, ⟨#[99, 97, 115, 101]⟩, ⟨#[102, 117, 110]⟩, ⟨#[97, 112, 112]⟩, ⟨#[98, 111, 120]⟩, ⟨#[111, 112, 101, 110]⟩].getD op ⟨#[]⟩
theorem TForms.at {W : World} (F : TForms W) {j : Nat} (hj : j ≤ 12) :
    W.cell? ⟨0, j * 7, none⟩ = some (.string (wordO j)) ∧ W.cell? ⟨0, j * 7 + 1, none⟩ = some (.int .i64 (manyO j)) ∧
    W.cell? ⟨0, j * 7 + 2, none⟩ = some (.int .i64 (addsO j 0)) ∧ W.cell? ⟨0, j * 7 + 3, none⟩ = some (.int .i64 (if j = 9 then 0 else addsO j 1)) ∧ W.cell? ⟨0, j * 7 + 4, none⟩ = some (.int .i64 (if j = 9 then 0 else addsO j 2)) ∧
    W.cell? ⟨0, j * 7 + 5, none⟩ = some (.bool (decide (HasG j))) ∧ W.cell? ⟨0, j * 7 + 6, none⟩ = some (.bool (decide (TypedO j))) := by
  have h : j = 0 ∨ j = 1 ∨ j = 2 ∨ j = 3 ∨ j = 4 ∨ j = 5 ∨ j = 6 ∨ j = 7 ∨ j = 8 ∨ j = 9 ∨ j = 10 ∨ j = 11 ∨ j = 12 := by omega
  rcases h with rfl | rfl | rfl | rfl | rfl | rfl | rfl | rfl | rfl | rfl | rfl | rfl | rfl <;> exact ⟨F _ _ rfl, F _ _ rfl, F _ _ rfl, F _ _ rfl, F _ _ rfl, F _ _ rfl, F _ _ rfl⟩

end Go.Proofs.YtiekppegfocejaaDoor
