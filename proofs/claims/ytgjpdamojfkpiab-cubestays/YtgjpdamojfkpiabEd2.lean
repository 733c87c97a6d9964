/-
  The Edwards curve's points are a group.
-/
import Derived.Test.YtgjpdamojfkpiabEd
namespace Ob
set_option linter.unusedVariables false
set_option linter.unusedSimpArgs false

theorem ge_on {x1 y1 x2 y2 d : Fin RE} (h1 : y1 * y1 = 1 + x1 * x1 + d * (x1 * x1 * (y1 * y1))) (h2 : y2 * y2 = 1 + x2 * x2 + d * (x2 * x2 * (y2 * y2))) :
    (y1 * y2 + x1 * x2) * (y1 * y2 + x1 * x2) * ((1 + d * (x1 * x2 * (y1 * y2))) * (1 + d * (x1 * x2 * (y1 * y2))))
    = ((1 + d * (x1 * x2 * (y1 * y2))) * (1 - d * (x1 * x2 * (y1 * y2)))) * ((1 + d * (x1 * x2 * (y1 * y2))) * (1 - d * (x1 * x2 * (y1 * y2))))
      + (x1 * y2 + y1 * x2) * (x1 * y2 + y1 * x2) * ((1 - d * (x1 * x2 * (y1 * y2))) * (1 - d * (x1 * x2 * (y1 * y2))))
      + d * ((x1 * y2 + y1 * x2) * (x1 * y2 + y1 * x2) * ((y1 * y2 + x1 * x2) * (y1 * y2 + x1 * x2))) := by
  grobner
theorem ge_x {x1 y1 x2 y2 x3 y3 d : Fin RE}
    (h1 : y1 * y1 = 1 + x1 * x1 + d * (x1 * x1 * (y1 * y1))) (h2 : y2 * y2 = 1 + x2 * x2 + d * (x2 * x2 * (y2 * y2))) (h3 : y3 * y3 = 1 + x3 * x3 + d * (x3 * x3 * (y3 * y3))) :
    ((x1 * y2 + y1 * x2) * (1 - d * (x1 * x2 * (y1 * y2))) * y3 + (y1 * y2 + x1 * x2) * (1 + d * (x1 * x2 * (y1 * y2))) * x3) * ((1 + d * (x2 * x3 * (y2 * y3))) * (1 - d * (x2 * x3 * (y2 * y3))) + d * ((x2 * y3 + y2 * x3) * (y2 * y3 + x2 * x3) * x1 * y1))
    = (x1 * (y2 * y3 + x2 * x3) * (1 + d * (x2 * x3 * (y2 * y3))) + y1 * (x2 * y3 + y2 * x3) * (1 - d * (x2 * x3 * (y2 * y3)))) * ((1 + d * (x1 * x2 * (y1 * y2))) * (1 - d * (x1 * x2 * (y1 * y2))) + d * ((x1 * y2 + y1 * x2) * (y1 * y2 + x1 * x2) * x3 * y3)) := by
  grobner
theorem ge_y {x1 y1 x2 y2 x3 y3 d : Fin RE}
    (h1 : y1 * y1 = 1 + x1 * x1 + d * (x1 * x1 * (y1 * y1))) (h2 : y2 * y2 = 1 + x2 * x2 + d * (x2 * x2 * (y2 * y2))) (h3 : y3 * y3 = 1 + x3 * x3 + d * (x3 * x3 * (y3 * y3))) :
    ((y1 * y2 + x1 * x2) * (1 + d * (x1 * x2 * (y1 * y2))) * y3 + (x1 * y2 + y1 * x2) * (1 - d * (x1 * x2 * (y1 * y2))) * x3) * ((1 + d * (x2 * x3 * (y2 * y3))) * (1 - d * (x2 * x3 * (y2 * y3))) - d * ((x2 * y3 + y2 * x3) * (y2 * y3 + x2 * x3) * x1 * y1))
    = (y1 * (y2 * y3 + x2 * x3) * (1 + d * (x2 * x3 * (y2 * y3))) + x1 * (x2 * y3 + y2 * x3) * (1 - d * (x2 * x3 * (y2 * y3)))) * ((1 + d * (x1 * x2 * (y1 * y2))) * (1 - d * (x1 * x2 * (y1 * y2))) - d * ((x1 * y2 + y1 * x2) * (y1 * y2 + x1 * x2) * x3 * y3)) := by
  grobner
end Ob
