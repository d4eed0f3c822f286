/-
  The program's Encode and Decode do as the document says.
-/
import Derived.Test.YtmnpefpglpabmaaQEnc2
import Derived.Test.YtmnpefpglpabmaaQDec
namespace Go.Proofs.Ytmnpefpglpabmaa
theorem punyC : PunyC := ⟨fun A ln cap w h hs hl _ => enc_ok A ln cap w h hs hl, fun A l cap w h hr hb hl _ => enc_bad A l cap w h hr hb hl, fun s w hs => dec_any s w hs⟩
end Go.Proofs.Ytmnpefpglpabmaa
