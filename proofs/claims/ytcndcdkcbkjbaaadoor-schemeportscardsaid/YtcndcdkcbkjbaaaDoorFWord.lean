/-
  The word of an error's number.
-/
import Derived.Test.YtcndcdkcbkjbaaaDoorFSmall
namespace Go.Proofs.YtcndcdkcbkjbaaaDoor
open Go.RowKit

/-- An error's word. -/
def word (n : Int) : ByteArray := ([⟨#[111, 107]⟩, ⟨#[97, 114, 103, 117, 109, 101, 110, 116]⟩, ⟨#[102, 111, 114, 109]⟩, ⟨#[104, 111, 115, 116]⟩, ⟨#[112, 111, 114, 116]⟩, ⟨#[98, 97, 115, 101]⟩, ⟨#[116, 111, 111, 32, 108, 111, 110, 103]⟩, ⟨#[115, 116, 97, 108, 101]⟩, ⟨#[102, 117, 108, 108]⟩, ⟨#[99, 108, 111, 115, 101, 100]⟩, ⟨#[110, 111, 110, 101]⟩] : List ByteArray).getD n.toNat ⟨#[]⟩
theorem word_size (n : Int) : (word n).size ≤ 8 := by
  unfold word
  rcases Nat.lt_or_ge n.toNat 11 with h | h
  · have : ∀ k, k < 11 → (([⟨#[111, 107]⟩, ⟨#[97, 114, 103, 117, 109, 101, 110, 116]⟩, ⟨#[102, 111, 114, 109]⟩, ⟨#[104, 111, 115, 116]⟩, ⟨#[112, 111, 114, 116]⟩, ⟨#[98, 97, 115, 101]⟩, ⟨#[116, 111, 111, 32, 108, 111, 110, 103]⟩, ⟨#[115, 116, 97, 108, 101]⟩, ⟨#[102, 117, 108, 108]⟩, ⟨#[99, 108, 111, 115, 101, 100]⟩, ⟨#[110, 111, 110, 101]⟩] : List ByteArray).getD k ⟨#[]⟩).size ≤ 8 := by decide
    exact this _ h
  · rw [List.getD_eq_getElem?_getD, List.getElem?_eq_none h]; decide

def Returns (v : Value) (w : World) (e : Ending) (w' : World) : Prop := e = .returned v ∧ Below w.heap.size w w'

end Go.Proofs.YtcndcdkcbkjbaaaDoor
