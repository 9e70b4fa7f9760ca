/-
  The document's numbers, one by one.
-/
import Derived.Test.YtecmgojecjenmaaDoorRnM
namespace Go.Proofs.YtecmgojecjenmaaDoor
open Go.RowKit
theorem rd_2 : rdN 2 = 1116352408 := by decide +kernel
theorem rd_3 : rdN 3 = 1899447441 := by decide +kernel
theorem rd_5 : rdN 5 = 3049323471 := by decide +kernel
theorem rd_7 : rdN 7 = 3921009573 := by decide +kernel
theorem rd_11 : rdN 11 = 961987163 := by decide +kernel
theorem rd_13 : rdN 13 = 1508970993 := by decide +kernel
theorem rd_17 : rdN 17 = 2453635748 := by decide +kernel
theorem rd_19 : rdN 19 = 2870763221 := by decide +kernel
theorem rd_23 : rdN 23 = 3624381080 := by decide +kernel
theorem rd_29 : rdN 29 = 310598401 := by decide +kernel
theorem rd_31 : rdN 31 = 607225278 := by decide +kernel
theorem rd_37 : rdN 37 = 1426881987 := by decide +kernel
theorem rd_41 : rdN 41 = 1925078388 := by decide +kernel
theorem rd_43 : rdN 43 = 2162078206 := by decide +kernel
theorem rd_47 : rdN 47 = 2614888103 := by decide +kernel
theorem rd_53 : rdN 53 = 3248222580 := by decide +kernel
theorem rd_59 : rdN 59 = 3835390401 := by decide +kernel
theorem rd_61 : rdN 61 = 4022224774 := by decide +kernel
theorem rd_67 : rdN 67 = 264347078 := by decide +kernel
theorem rd_71 : rdN 71 = 604807628 := by decide +kernel
theorem rd_73 : rdN 73 = 770255983 := by decide +kernel
theorem rd_79 : rdN 79 = 1249150122 := by decide +kernel
theorem rd_83 : rdN 83 = 1555081692 := by decide +kernel
theorem rd_89 : rdN 89 = 1996064986 := by decide +kernel
theorem rd_97 : rdN 97 = 2554220882 := by decide +kernel
theorem rd_101 : rdN 101 = 2821834349 := by decide +kernel
theorem rd_103 : rdN 103 = 2952996808 := by decide +kernel
theorem rd_107 : rdN 107 = 3210313671 := by decide +kernel
theorem rd_109 : rdN 109 = 3336571891 := by decide +kernel
theorem rd_113 : rdN 113 = 3584528711 := by decide +kernel
theorem rd_127 : rdN 127 = 113926993 := by decide +kernel
theorem rd_131 : rdN 131 = 338241895 := by decide +kernel
end Go.Proofs.YtecmgojecjenmaaDoor
