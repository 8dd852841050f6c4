/- Texts that the others stand on. -/
import Derived.Test.YtikimcbalkhooaaGreatJ10
namespace Go.Proofs.YtikimcbalkhooaaGreat
open Go.RowKit Go.PlainAid
open Dk (En Stay hasK putE getE keysOf Dct Dg dtag ecells Turn)
end Go.Proofs.YtikimcbalkhooaaGreat
