/- The contract of graph.relations. -/
import Derived.Test.YtcfclknfnadgcaaDoorGRnopl
import Derived.Test.YtcfclknfnadgcaaDoorGRnosix
import Derived.Test.YtcfclknfnadgcaaDoorGRnooth
import Derived.Test.YtcfclknfnadgcaaDoorGR2pl
import Derived.Test.YtcfclknfnadgcaaDoorGR2oth
import Derived.Test.YtcfclknfnadgcaaDoorGR3pl
import Derived.Test.YtcfclknfnadgcaaDoorGR3oth
import Derived.Test.YtcfclknfnadgcaaDoorGR4pl
import Derived.Test.YtcfclknfnadgcaaDoorGR4oth
namespace Go.Proofs.YtcfclknfnadgcaaDoor
open Go.RowKit Go.Shelf Go.Lib
theorem relations_any (vs : Array Value) (u : Un) (w : World) (hu : UV w vs u) : Calls Tryd.prog 44 #[.agg vs] w (RelsEnd w vs (relsU u)) := by
  by_cases h2 : u.kd = 2
  · cases hp : u.pl
    · exact rel_2_oth vs u w hu h2 hp
    · exact rel_2_pl vs u w hu h2 hp
  by_cases h3 : u.kd = 3
  · cases hp : u.pl
    · exact rel_3_oth vs u w hu h3 hp
    · exact rel_3_pl vs u w hu h3 hp
  by_cases h4 : u.kd = 4
  · cases hp : u.pl
    · exact rel_4_oth vs u w hu h4 hp
    · exact rel_4_pl vs u w hu h4 hp
  cases hp : u.pl
  · by_cases h6 : u.kd = 6
    · exact rel_no_six vs u w hu h6 hp
    · exact rel_no_oth vs u w hu h2 h3 h4 hp h6
  · exact rel_no_pl vs u w hu h2 h3 h4 hp
end Go.Proofs.YtcfclknfnadgcaaDoor
