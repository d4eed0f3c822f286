/-
  The program's Encode and Decode do as the document says.
-/
import Derived.Test.YtmnpefpglpabmaaDoorQEnc2
import Derived.Test.YtmnpefpglpabmaaDoorQDec
namespace Go.Proofs.YtmnpefpglpabmaaDoor
theorem punyC : PunyC := ⟨fun A ln cap w h hs hl _ => enc_ok A ln cap w h hs hl, fun A l cap w h hr hb hl _ => enc_bad A l cap w h hr hb hl, fun s w hs => dec_any s w hs⟩
end Go.Proofs.YtmnpefpglpabmaaDoor
