/- Texts Rin0, packed. -/
import Derived.Test.YtngchjejmnfanaaGreatPk0
import Derived.Test.YtngchjejmnfanaaGreatPk3
import Derived.Test.YtngchjejmnfanaaGreatPk5
namespace Go.Proofs.YtngchjejmnfanaaGreat.Ri
open Go.RowKit Cd
set_option linter.unusedVariables false
set_option linter.unusedSimpArgs false
theorem noP_len : noP.d.length = 32 := rfl
end Go.Proofs.YtngchjejmnfanaaGreat.Ri
