/- Package frame: 'Decode'. -/
import Derived.Test.YtpfbiijcmmkjlaaDoorFrI
namespace Go.Proofs.YtpfbiijcmmkjlaaDoor.Fr
open Go.RowKit
set_option maxRecDepth 100000

/-- What Decode answers: kind, payload, error. -/
def decodeI (p : List Int) : Int × List Int × Int := if (sizeF p).2 = true ∧ (sizeF p).1 = p.length then decI p else (0, [], 2)

end Go.Proofs.YtpfbiijcmmkjlaaDoor.Fr
