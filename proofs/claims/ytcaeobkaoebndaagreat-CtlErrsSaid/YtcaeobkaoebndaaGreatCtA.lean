/- Layer 7: a controller's, an event's, a machine's cells as rows that the walk does not open; loads and stores of these whole. -/
import Derived.Test.YtcaeobkaoebndaaGreatPlain
import Derived.Test.YtcaeobkaoebndaaGreatJ1
import Derived.Outline
import Derived.Deep.CutRange
import Derived.Deep.RegionHeld3
import Derived.LoopTactic
namespace Go.Proofs.YtcaeobkaoebndaaGreat
open Go.RowKit Go.Lib

abbrev strB (l : List UInt8) : ByteArray := ⟨l.toArray⟩
theorem strB_list (s : ByteArray) : strB s.data.toList = s := by cases s; simp [strB]
def ctA (c : B.Cs) : Array Value := #[.int .i64 (c.cnt.t : Nat), .int .i64 (c.cnt.r : Nat), .bool c.cnt.o, .int .i64 (c.cnt.n : Nat), .int .i64 (c.state : Nat), .int .i64 (c.n : Nat), .bool c.was, .bool c.hard, .bool c.has, .int .u32 (c.fr.id : Nat), .bool c.fr.ext, .bool c.fr.remote, .int .i64 (c.fr.dlc : Nat), .string (strB c.fr.data), .bool c.sends, .string (strB c.out), .int .i64 (c.at_ : Nat), .int .u8 (c.st.1 : Nat), .int .i64 (c.st.2 : Nat), .string (strB c.got), .bool c.fin, .int .i64 (c.tail : Nat), .bool c.good]
def evA (v : B.Ev) : Array Value := #[.int .i64 (v.kind : Nat), .int .u32 (v.fr.id : Nat), .bool v.fr.ext, .bool v.fr.remote, .int .i64 (v.fr.dlc : Nat), .string (strB v.fr.data), .int .i64 (v.bad : Nat)]
/-- a machine: a controller on its way, and what happened -/
def mA (c : B.Cs) (v : B.Ev) : Array Value := #[.int .i64 (c.cnt.t : Nat), .int .i64 (c.cnt.r : Nat), .bool c.cnt.o, .int .i64 (c.cnt.n : Nat), .int .i64 (c.state : Nat), .int .i64 (c.n : Nat), .bool c.was, .bool c.hard, .bool c.has, .int .u32 (c.fr.id : Nat), .bool c.fr.ext, .bool c.fr.remote, .int .i64 (c.fr.dlc : Nat), .string (strB c.fr.data), .bool c.sends, .string (strB c.out), .int .i64 (c.at_ : Nat), .int .u8 (c.st.1 : Nat), .int .i64 (c.st.2 : Nat), .string (strB c.got), .bool c.fin, .int .i64 (c.tail : Nat), .bool c.good, .int .i64 (v.kind : Nat), .int .u32 (v.fr.id : Nat), .bool v.fr.ext, .bool v.fr.remote, .int .i64 (v.fr.dlc : Nat), .string (strB v.fr.data), .int .i64 (v.bad : Nat)]
theorem ctA_size (c : B.Cs) : (ctA c).size = 23 := rfl
theorem evA_size (v : B.Ev) : (evA v).size = 7 := rfl
theorem mA_size (c : B.Cs) (v : B.Ev) : (mA c v).size = 30 := rfl
theorem ctA_one (c : B.Cs) : (ctA c).toList.all (·.oneCell') = true := rfl
theorem evA_one (v : B.Ev) : (evA v).toList.all (·.oneCell') = true := rfl
theorem mA_one (c : B.Cs) (v : B.Ev) : (mA c v).toList.all (·.oneCell') = true := rfl
theorem ctA_0 (c : B.Cs) : (ctA c)[0]? = some (.int .i64 (c.cnt.t : Nat)) := rfl
theorem ctA_1 (c : B.Cs) : (ctA c)[1]? = some (.int .i64 (c.cnt.r : Nat)) := rfl
theorem ctA_2 (c : B.Cs) : (ctA c)[2]? = some (.bool c.cnt.o) := rfl
theorem ctA_3 (c : B.Cs) : (ctA c)[3]? = some (.int .i64 (c.cnt.n : Nat)) := rfl
theorem ctA_4 (c : B.Cs) : (ctA c)[4]? = some (.int .i64 (c.state : Nat)) := rfl
theorem ctA_5 (c : B.Cs) : (ctA c)[5]? = some (.int .i64 (c.n : Nat)) := rfl
theorem ctA_6 (c : B.Cs) : (ctA c)[6]? = some (.bool c.was) := rfl
theorem ctA_7 (c : B.Cs) : (ctA c)[7]? = some (.bool c.hard) := rfl
theorem ctA_8 (c : B.Cs) : (ctA c)[8]? = some (.bool c.has) := rfl
theorem ctA_9 (c : B.Cs) : (ctA c)[9]? = some (.int .u32 (c.fr.id : Nat)) := rfl
theorem ctA_10 (c : B.Cs) : (ctA c)[10]? = some (.bool c.fr.ext) := rfl
theorem ctA_11 (c : B.Cs) : (ctA c)[11]? = some (.bool c.fr.remote) := rfl
theorem ctA_12 (c : B.Cs) : (ctA c)[12]? = some (.int .i64 (c.fr.dlc : Nat)) := rfl
theorem ctA_13 (c : B.Cs) : (ctA c)[13]? = some (.string (strB c.fr.data)) := rfl
theorem ctA_14 (c : B.Cs) : (ctA c)[14]? = some (.bool c.sends) := rfl
theorem ctA_15 (c : B.Cs) : (ctA c)[15]? = some (.string (strB c.out)) := rfl
theorem ctA_16 (c : B.Cs) : (ctA c)[16]? = some (.int .i64 (c.at_ : Nat)) := rfl
theorem ctA_17 (c : B.Cs) : (ctA c)[17]? = some (.int .u8 (c.st.1 : Nat)) := rfl
theorem ctA_18 (c : B.Cs) : (ctA c)[18]? = some (.int .i64 (c.st.2 : Nat)) := rfl
theorem ctA_19 (c : B.Cs) : (ctA c)[19]? = some (.string (strB c.got)) := rfl
theorem ctA_20 (c : B.Cs) : (ctA c)[20]? = some (.bool c.fin) := rfl
theorem ctA_21 (c : B.Cs) : (ctA c)[21]? = some (.int .i64 (c.tail : Nat)) := rfl
theorem ctA_22 (c : B.Cs) : (ctA c)[22]? = some (.bool c.good) := rfl
theorem evA_0 (v : B.Ev) : (evA v)[0]? = some (.int .i64 (v.kind : Nat)) := rfl
theorem evA_1 (v : B.Ev) : (evA v)[1]? = some (.int .u32 (v.fr.id : Nat)) := rfl
theorem evA_2 (v : B.Ev) : (evA v)[2]? = some (.bool v.fr.ext) := rfl
theorem evA_3 (v : B.Ev) : (evA v)[3]? = some (.bool v.fr.remote) := rfl
theorem evA_4 (v : B.Ev) : (evA v)[4]? = some (.int .i64 (v.fr.dlc : Nat)) := rfl
theorem evA_5 (v : B.Ev) : (evA v)[5]? = some (.string (strB v.fr.data)) := rfl
theorem evA_6 (v : B.Ev) : (evA v)[6]? = some (.int .i64 (v.bad : Nat)) := rfl
theorem mA_0 (c : B.Cs) (v : B.Ev) : (mA c v)[0]? = some (.int .i64 (c.cnt.t : Nat)) := rfl
theorem mA_1 (c : B.Cs) (v : B.Ev) : (mA c v)[1]? = some (.int .i64 (c.cnt.r : Nat)) := rfl
theorem mA_2 (c : B.Cs) (v : B.Ev) : (mA c v)[2]? = some (.bool c.cnt.o) := rfl
theorem mA_3 (c : B.Cs) (v : B.Ev) : (mA c v)[3]? = some (.int .i64 (c.cnt.n : Nat)) := rfl
theorem mA_4 (c : B.Cs) (v : B.Ev) : (mA c v)[4]? = some (.int .i64 (c.state : Nat)) := rfl
theorem mA_5 (c : B.Cs) (v : B.Ev) : (mA c v)[5]? = some (.int .i64 (c.n : Nat)) := rfl
theorem mA_6 (c : B.Cs) (v : B.Ev) : (mA c v)[6]? = some (.bool c.was) := rfl
theorem mA_7 (c : B.Cs) (v : B.Ev) : (mA c v)[7]? = some (.bool c.hard) := rfl
theorem mA_8 (c : B.Cs) (v : B.Ev) : (mA c v)[8]? = some (.bool c.has) := rfl
theorem mA_9 (c : B.Cs) (v : B.Ev) : (mA c v)[9]? = some (.int .u32 (c.fr.id : Nat)) := rfl
theorem mA_10 (c : B.Cs) (v : B.Ev) : (mA c v)[10]? = some (.bool c.fr.ext) := rfl
theorem mA_11 (c : B.Cs) (v : B.Ev) : (mA c v)[11]? = some (.bool c.fr.remote) := rfl
theorem mA_12 (c : B.Cs) (v : B.Ev) : (mA c v)[12]? = some (.int .i64 (c.fr.dlc : Nat)) := rfl
theorem mA_13 (c : B.Cs) (v : B.Ev) : (mA c v)[13]? = some (.string (strB c.fr.data)) := rfl
theorem mA_14 (c : B.Cs) (v : B.Ev) : (mA c v)[14]? = some (.bool c.sends) := rfl
theorem mA_15 (c : B.Cs) (v : B.Ev) : (mA c v)[15]? = some (.string (strB c.out)) := rfl
theorem mA_16 (c : B.Cs) (v : B.Ev) : (mA c v)[16]? = some (.int .i64 (c.at_ : Nat)) := rfl
theorem mA_17 (c : B.Cs) (v : B.Ev) : (mA c v)[17]? = some (.int .u8 (c.st.1 : Nat)) := rfl
theorem mA_18 (c : B.Cs) (v : B.Ev) : (mA c v)[18]? = some (.int .i64 (c.st.2 : Nat)) := rfl
theorem mA_19 (c : B.Cs) (v : B.Ev) : (mA c v)[19]? = some (.string (strB c.got)) := rfl
theorem mA_20 (c : B.Cs) (v : B.Ev) : (mA c v)[20]? = some (.bool c.fin) := rfl
theorem mA_21 (c : B.Cs) (v : B.Ev) : (mA c v)[21]? = some (.int .i64 (c.tail : Nat)) := rfl
theorem mA_22 (c : B.Cs) (v : B.Ev) : (mA c v)[22]? = some (.bool c.good) := rfl
theorem mA_23 (c : B.Cs) (v : B.Ev) : (mA c v)[23]? = some (.int .i64 (v.kind : Nat)) := rfl
theorem mA_24 (c : B.Cs) (v : B.Ev) : (mA c v)[24]? = some (.int .u32 (v.fr.id : Nat)) := rfl
theorem mA_25 (c : B.Cs) (v : B.Ev) : (mA c v)[25]? = some (.bool v.fr.ext) := rfl
theorem mA_26 (c : B.Cs) (v : B.Ev) : (mA c v)[26]? = some (.bool v.fr.remote) := rfl
theorem mA_27 (c : B.Cs) (v : B.Ev) : (mA c v)[27]? = some (.int .i64 (v.fr.dlc : Nat)) := rfl
theorem mA_28 (c : B.Cs) (v : B.Ev) : (mA c v)[28]? = some (.string (strB v.fr.data)) := rfl
theorem mA_29 (c : B.Cs) (v : B.Ev) : (mA c v)[29]? = some (.int .i64 (v.bad : Nat)) := rfl
theorem ctA_set0 (c : B.Cs) (x : Nat) : (ctA c).setIfInBounds 0 (.int .i64 (x : Int)) = ctA { c with cnt := { c.cnt with t := x } } := rfl
theorem ctA_set0_0 (c : B.Cs) : (ctA c).setIfInBounds 0 (.int .i64 0) = ctA { c with cnt := { c.cnt with t := 0 } } := rfl
theorem ctA_set1_0 (c : B.Cs) : (ctA c).setIfInBounds 0 (.int .i64 1) = ctA { c with cnt := { c.cnt with t := 1 } } := rfl
theorem ctA_suc0 (c : B.Cs) (x : Nat) : (ctA c).setIfInBounds 0 (.int .i64 ((x : Int) + 1)) = ctA { c with cnt := { c.cnt with t := (x + 1) } } := rfl
theorem ctA_set1 (c : B.Cs) (x : Nat) : (ctA c).setIfInBounds 1 (.int .i64 (x : Int)) = ctA { c with cnt := { c.cnt with r := x } } := rfl
theorem ctA_set0_1 (c : B.Cs) : (ctA c).setIfInBounds 1 (.int .i64 0) = ctA { c with cnt := { c.cnt with r := 0 } } := rfl
theorem ctA_set1_1 (c : B.Cs) : (ctA c).setIfInBounds 1 (.int .i64 1) = ctA { c with cnt := { c.cnt with r := 1 } } := rfl
theorem ctA_suc1 (c : B.Cs) (x : Nat) : (ctA c).setIfInBounds 1 (.int .i64 ((x : Int) + 1)) = ctA { c with cnt := { c.cnt with r := (x + 1) } } := rfl
theorem ctA_set2 (c : B.Cs) (x : Bool) : (ctA c).setIfInBounds 2 (.bool x) = ctA { c with cnt := { c.cnt with o := x } } := rfl
theorem ctA_set3 (c : B.Cs) (x : Nat) : (ctA c).setIfInBounds 3 (.int .i64 (x : Int)) = ctA { c with cnt := { c.cnt with n := x } } := rfl
theorem ctA_set0_3 (c : B.Cs) : (ctA c).setIfInBounds 3 (.int .i64 0) = ctA { c with cnt := { c.cnt with n := 0 } } := rfl
theorem ctA_set1_3 (c : B.Cs) : (ctA c).setIfInBounds 3 (.int .i64 1) = ctA { c with cnt := { c.cnt with n := 1 } } := rfl
theorem ctA_suc3 (c : B.Cs) (x : Nat) : (ctA c).setIfInBounds 3 (.int .i64 ((x : Int) + 1)) = ctA { c with cnt := { c.cnt with n := (x + 1) } } := rfl
theorem ctA_set4 (c : B.Cs) (x : Nat) : (ctA c).setIfInBounds 4 (.int .i64 (x : Int)) = ctA { c with state := x } := rfl
theorem ctA_set0_4 (c : B.Cs) : (ctA c).setIfInBounds 4 (.int .i64 0) = ctA { c with state := 0 } := rfl
theorem ctA_set1_4 (c : B.Cs) : (ctA c).setIfInBounds 4 (.int .i64 1) = ctA { c with state := 1 } := rfl
theorem ctA_suc4 (c : B.Cs) (x : Nat) : (ctA c).setIfInBounds 4 (.int .i64 ((x : Int) + 1)) = ctA { c with state := (x + 1) } := rfl
theorem ctA_set5 (c : B.Cs) (x : Nat) : (ctA c).setIfInBounds 5 (.int .i64 (x : Int)) = ctA { c with n := x } := rfl
theorem ctA_set0_5 (c : B.Cs) : (ctA c).setIfInBounds 5 (.int .i64 0) = ctA { c with n := 0 } := rfl
theorem ctA_set1_5 (c : B.Cs) : (ctA c).setIfInBounds 5 (.int .i64 1) = ctA { c with n := 1 } := rfl
theorem ctA_suc5 (c : B.Cs) (x : Nat) : (ctA c).setIfInBounds 5 (.int .i64 ((x : Int) + 1)) = ctA { c with n := (x + 1) } := rfl
theorem ctA_set6 (c : B.Cs) (x : Bool) : (ctA c).setIfInBounds 6 (.bool x) = ctA { c with was := x } := rfl
theorem ctA_set7 (c : B.Cs) (x : Bool) : (ctA c).setIfInBounds 7 (.bool x) = ctA { c with hard := x } := rfl
theorem ctA_set8 (c : B.Cs) (x : Bool) : (ctA c).setIfInBounds 8 (.bool x) = ctA { c with has := x } := rfl
theorem ctA_set9 (c : B.Cs) (x : Nat) : (ctA c).setIfInBounds 9 (.int .u32 (x : Int)) = ctA { c with fr := { c.fr with id := x } } := rfl
theorem ctA_set0_9 (c : B.Cs) : (ctA c).setIfInBounds 9 (.int .u32 0) = ctA { c with fr := { c.fr with id := 0 } } := rfl
theorem ctA_set1_9 (c : B.Cs) : (ctA c).setIfInBounds 9 (.int .u32 1) = ctA { c with fr := { c.fr with id := 1 } } := rfl
theorem ctA_suc9 (c : B.Cs) (x : Nat) : (ctA c).setIfInBounds 9 (.int .u32 ((x : Int) + 1)) = ctA { c with fr := { c.fr with id := (x + 1) } } := rfl
theorem ctA_set10 (c : B.Cs) (x : Bool) : (ctA c).setIfInBounds 10 (.bool x) = ctA { c with fr := { c.fr with ext := x } } := rfl
theorem ctA_set11 (c : B.Cs) (x : Bool) : (ctA c).setIfInBounds 11 (.bool x) = ctA { c with fr := { c.fr with remote := x } } := rfl
theorem ctA_set12 (c : B.Cs) (x : Nat) : (ctA c).setIfInBounds 12 (.int .i64 (x : Int)) = ctA { c with fr := { c.fr with dlc := x } } := rfl
theorem ctA_set0_12 (c : B.Cs) : (ctA c).setIfInBounds 12 (.int .i64 0) = ctA { c with fr := { c.fr with dlc := 0 } } := rfl
theorem ctA_set1_12 (c : B.Cs) : (ctA c).setIfInBounds 12 (.int .i64 1) = ctA { c with fr := { c.fr with dlc := 1 } } := rfl
theorem ctA_suc12 (c : B.Cs) (x : Nat) : (ctA c).setIfInBounds 12 (.int .i64 ((x : Int) + 1)) = ctA { c with fr := { c.fr with dlc := (x + 1) } } := rfl
theorem ctA_set13 (c : B.Cs) (x : ByteArray) : (ctA c).setIfInBounds 13 (.string x) = ctA { c with fr := { c.fr with data := x.data.toList } } := by
  show _ = ctA { c with fr := { c.fr with data := x.data.toList } }
  have : Value.string x = .string (strB x.data.toList) := by rw [strB_list]
  rw [this]; rfl
theorem ctA_set14 (c : B.Cs) (x : Bool) : (ctA c).setIfInBounds 14 (.bool x) = ctA { c with sends := x } := rfl
theorem ctA_set15 (c : B.Cs) (x : ByteArray) : (ctA c).setIfInBounds 15 (.string x) = ctA { c with out := x.data.toList } := by
  show _ = ctA { c with out := x.data.toList }
  have : Value.string x = .string (strB x.data.toList) := by rw [strB_list]
  rw [this]; rfl
theorem ctA_set16 (c : B.Cs) (x : Nat) : (ctA c).setIfInBounds 16 (.int .i64 (x : Int)) = ctA { c with at_ := x } := rfl
theorem ctA_set0_16 (c : B.Cs) : (ctA c).setIfInBounds 16 (.int .i64 0) = ctA { c with at_ := 0 } := rfl
theorem ctA_set1_16 (c : B.Cs) : (ctA c).setIfInBounds 16 (.int .i64 1) = ctA { c with at_ := 1 } := rfl
theorem ctA_suc16 (c : B.Cs) (x : Nat) : (ctA c).setIfInBounds 16 (.int .i64 ((x : Int) + 1)) = ctA { c with at_ := (x + 1) } := rfl
theorem ctA_set17 (c : B.Cs) (x : Nat) : (ctA c).setIfInBounds 17 (.int .u8 (x : Int)) = ctA { c with st := (x, c.st.2) } := rfl
theorem ctA_set0_17 (c : B.Cs) : (ctA c).setIfInBounds 17 (.int .u8 0) = ctA { c with st := (0, c.st.2) } := rfl
theorem ctA_set1_17 (c : B.Cs) : (ctA c).setIfInBounds 17 (.int .u8 1) = ctA { c with st := (1, c.st.2) } := rfl
theorem ctA_suc17 (c : B.Cs) (x : Nat) : (ctA c).setIfInBounds 17 (.int .u8 ((x : Int) + 1)) = ctA { c with st := ((x + 1), c.st.2) } := rfl
theorem ctA_set18 (c : B.Cs) (x : Nat) : (ctA c).setIfInBounds 18 (.int .i64 (x : Int)) = ctA { c with st := (c.st.1, x) } := rfl
theorem ctA_set0_18 (c : B.Cs) : (ctA c).setIfInBounds 18 (.int .i64 0) = ctA { c with st := (c.st.1, 0) } := rfl
theorem ctA_set1_18 (c : B.Cs) : (ctA c).setIfInBounds 18 (.int .i64 1) = ctA { c with st := (c.st.1, 1) } := rfl
theorem ctA_suc18 (c : B.Cs) (x : Nat) : (ctA c).setIfInBounds 18 (.int .i64 ((x : Int) + 1)) = ctA { c with st := (c.st.1, (x + 1)) } := rfl
theorem ctA_set19 (c : B.Cs) (x : ByteArray) : (ctA c).setIfInBounds 19 (.string x) = ctA { c with got := x.data.toList } := by
  show _ = ctA { c with got := x.data.toList }
  have : Value.string x = .string (strB x.data.toList) := by rw [strB_list]
  rw [this]; rfl
theorem ctA_set20 (c : B.Cs) (x : Bool) : (ctA c).setIfInBounds 20 (.bool x) = ctA { c with fin := x } := rfl
theorem ctA_set21 (c : B.Cs) (x : Nat) : (ctA c).setIfInBounds 21 (.int .i64 (x : Int)) = ctA { c with tail := x } := rfl
theorem ctA_set0_21 (c : B.Cs) : (ctA c).setIfInBounds 21 (.int .i64 0) = ctA { c with tail := 0 } := rfl
theorem ctA_set1_21 (c : B.Cs) : (ctA c).setIfInBounds 21 (.int .i64 1) = ctA { c with tail := 1 } := rfl
theorem ctA_suc21 (c : B.Cs) (x : Nat) : (ctA c).setIfInBounds 21 (.int .i64 ((x : Int) + 1)) = ctA { c with tail := (x + 1) } := rfl
theorem ctA_set22 (c : B.Cs) (x : Bool) : (ctA c).setIfInBounds 22 (.bool x) = ctA { c with good := x } := rfl
theorem mA_set0 (c : B.Cs) (v : B.Ev) (x : Nat) : (mA c v).setIfInBounds 0 (.int .i64 (x : Int)) = mA { c with cnt := { c.cnt with t := x } } v := rfl
theorem mA_set0_0 (c : B.Cs) (v : B.Ev) : (mA c v).setIfInBounds 0 (.int .i64 0) = mA { c with cnt := { c.cnt with t := 0 } } v := rfl
theorem mA_set1_0 (c : B.Cs) (v : B.Ev) : (mA c v).setIfInBounds 0 (.int .i64 1) = mA { c with cnt := { c.cnt with t := 1 } } v := rfl
theorem mA_suc0 (c : B.Cs) (v : B.Ev) (x : Nat) : (mA c v).setIfInBounds 0 (.int .i64 ((x : Int) + 1)) = mA { c with cnt := { c.cnt with t := (x + 1) } } v := rfl
theorem mA_set1 (c : B.Cs) (v : B.Ev) (x : Nat) : (mA c v).setIfInBounds 1 (.int .i64 (x : Int)) = mA { c with cnt := { c.cnt with r := x } } v := rfl
theorem mA_set0_1 (c : B.Cs) (v : B.Ev) : (mA c v).setIfInBounds 1 (.int .i64 0) = mA { c with cnt := { c.cnt with r := 0 } } v := rfl
theorem mA_set1_1 (c : B.Cs) (v : B.Ev) : (mA c v).setIfInBounds 1 (.int .i64 1) = mA { c with cnt := { c.cnt with r := 1 } } v := rfl
theorem mA_suc1 (c : B.Cs) (v : B.Ev) (x : Nat) : (mA c v).setIfInBounds 1 (.int .i64 ((x : Int) + 1)) = mA { c with cnt := { c.cnt with r := (x + 1) } } v := rfl
theorem mA_set2 (c : B.Cs) (v : B.Ev) (x : Bool) : (mA c v).setIfInBounds 2 (.bool x) = mA { c with cnt := { c.cnt with o := x } } v := rfl
theorem mA_set3 (c : B.Cs) (v : B.Ev) (x : Nat) : (mA c v).setIfInBounds 3 (.int .i64 (x : Int)) = mA { c with cnt := { c.cnt with n := x } } v := rfl
theorem mA_set0_3 (c : B.Cs) (v : B.Ev) : (mA c v).setIfInBounds 3 (.int .i64 0) = mA { c with cnt := { c.cnt with n := 0 } } v := rfl
theorem mA_set1_3 (c : B.Cs) (v : B.Ev) : (mA c v).setIfInBounds 3 (.int .i64 1) = mA { c with cnt := { c.cnt with n := 1 } } v := rfl
theorem mA_suc3 (c : B.Cs) (v : B.Ev) (x : Nat) : (mA c v).setIfInBounds 3 (.int .i64 ((x : Int) + 1)) = mA { c with cnt := { c.cnt with n := (x + 1) } } v := rfl
theorem mA_set4 (c : B.Cs) (v : B.Ev) (x : Nat) : (mA c v).setIfInBounds 4 (.int .i64 (x : Int)) = mA { c with state := x } v := rfl
theorem mA_set0_4 (c : B.Cs) (v : B.Ev) : (mA c v).setIfInBounds 4 (.int .i64 0) = mA { c with state := 0 } v := rfl
theorem mA_set1_4 (c : B.Cs) (v : B.Ev) : (mA c v).setIfInBounds 4 (.int .i64 1) = mA { c with state := 1 } v := rfl
theorem mA_suc4 (c : B.Cs) (v : B.Ev) (x : Nat) : (mA c v).setIfInBounds 4 (.int .i64 ((x : Int) + 1)) = mA { c with state := (x + 1) } v := rfl
theorem mA_set5 (c : B.Cs) (v : B.Ev) (x : Nat) : (mA c v).setIfInBounds 5 (.int .i64 (x : Int)) = mA { c with n := x } v := rfl
theorem mA_set0_5 (c : B.Cs) (v : B.Ev) : (mA c v).setIfInBounds 5 (.int .i64 0) = mA { c with n := 0 } v := rfl
theorem mA_set1_5 (c : B.Cs) (v : B.Ev) : (mA c v).setIfInBounds 5 (.int .i64 1) = mA { c with n := 1 } v := rfl
theorem mA_set1000000000_5 (c : B.Cs) (v : B.Ev) : (mA c v).setIfInBounds 5 (.int .i64 1000000000) = mA { c with n := 1000000000 } v := rfl
theorem mA_suc5 (c : B.Cs) (v : B.Ev) (x : Nat) : (mA c v).setIfInBounds 5 (.int .i64 ((x : Int) + 1)) = mA { c with n := (x + 1) } v := rfl
theorem mA_set6 (c : B.Cs) (v : B.Ev) (x : Bool) : (mA c v).setIfInBounds 6 (.bool x) = mA { c with was := x } v := rfl
theorem mA_set7 (c : B.Cs) (v : B.Ev) (x : Bool) : (mA c v).setIfInBounds 7 (.bool x) = mA { c with hard := x } v := rfl
theorem mA_set8 (c : B.Cs) (v : B.Ev) (x : Bool) : (mA c v).setIfInBounds 8 (.bool x) = mA { c with has := x } v := rfl
theorem mA_set9 (c : B.Cs) (v : B.Ev) (x : Nat) : (mA c v).setIfInBounds 9 (.int .u32 (x : Int)) = mA { c with fr := { c.fr with id := x } } v := rfl
theorem mA_set0_9 (c : B.Cs) (v : B.Ev) : (mA c v).setIfInBounds 9 (.int .u32 0) = mA { c with fr := { c.fr with id := 0 } } v := rfl
theorem mA_set1_9 (c : B.Cs) (v : B.Ev) : (mA c v).setIfInBounds 9 (.int .u32 1) = mA { c with fr := { c.fr with id := 1 } } v := rfl
theorem mA_suc9 (c : B.Cs) (v : B.Ev) (x : Nat) : (mA c v).setIfInBounds 9 (.int .u32 ((x : Int) + 1)) = mA { c with fr := { c.fr with id := (x + 1) } } v := rfl
theorem mA_set10 (c : B.Cs) (v : B.Ev) (x : Bool) : (mA c v).setIfInBounds 10 (.bool x) = mA { c with fr := { c.fr with ext := x } } v := rfl
theorem mA_set11 (c : B.Cs) (v : B.Ev) (x : Bool) : (mA c v).setIfInBounds 11 (.bool x) = mA { c with fr := { c.fr with remote := x } } v := rfl
theorem mA_set12 (c : B.Cs) (v : B.Ev) (x : Nat) : (mA c v).setIfInBounds 12 (.int .i64 (x : Int)) = mA { c with fr := { c.fr with dlc := x } } v := rfl
theorem mA_set0_12 (c : B.Cs) (v : B.Ev) : (mA c v).setIfInBounds 12 (.int .i64 0) = mA { c with fr := { c.fr with dlc := 0 } } v := rfl
theorem mA_set1_12 (c : B.Cs) (v : B.Ev) : (mA c v).setIfInBounds 12 (.int .i64 1) = mA { c with fr := { c.fr with dlc := 1 } } v := rfl
theorem mA_suc12 (c : B.Cs) (v : B.Ev) (x : Nat) : (mA c v).setIfInBounds 12 (.int .i64 ((x : Int) + 1)) = mA { c with fr := { c.fr with dlc := (x + 1) } } v := rfl
theorem mA_set13 (c : B.Cs) (v : B.Ev) (x : ByteArray) : (mA c v).setIfInBounds 13 (.string x) = mA { c with fr := { c.fr with data := x.data.toList } } v := by
  show _ = mA { c with fr := { c.fr with data := x.data.toList } } v
  have : Value.string x = .string (strB x.data.toList) := by rw [strB_list]
  rw [this]; rfl
theorem mA_set14 (c : B.Cs) (v : B.Ev) (x : Bool) : (mA c v).setIfInBounds 14 (.bool x) = mA { c with sends := x } v := rfl
theorem mA_set15 (c : B.Cs) (v : B.Ev) (x : ByteArray) : (mA c v).setIfInBounds 15 (.string x) = mA { c with out := x.data.toList } v := by
  show _ = mA { c with out := x.data.toList } v
  have : Value.string x = .string (strB x.data.toList) := by rw [strB_list]
  rw [this]; rfl
theorem mA_set16 (c : B.Cs) (v : B.Ev) (x : Nat) : (mA c v).setIfInBounds 16 (.int .i64 (x : Int)) = mA { c with at_ := x } v := rfl
theorem mA_set0_16 (c : B.Cs) (v : B.Ev) : (mA c v).setIfInBounds 16 (.int .i64 0) = mA { c with at_ := 0 } v := rfl
theorem mA_set1_16 (c : B.Cs) (v : B.Ev) : (mA c v).setIfInBounds 16 (.int .i64 1) = mA { c with at_ := 1 } v := rfl
theorem mA_suc16 (c : B.Cs) (v : B.Ev) (x : Nat) : (mA c v).setIfInBounds 16 (.int .i64 ((x : Int) + 1)) = mA { c with at_ := (x + 1) } v := rfl
theorem mA_set17 (c : B.Cs) (v : B.Ev) (x : Nat) : (mA c v).setIfInBounds 17 (.int .u8 (x : Int)) = mA { c with st := (x, c.st.2) } v := rfl
theorem mA_set0_17 (c : B.Cs) (v : B.Ev) : (mA c v).setIfInBounds 17 (.int .u8 0) = mA { c with st := (0, c.st.2) } v := rfl
theorem mA_set1_17 (c : B.Cs) (v : B.Ev) : (mA c v).setIfInBounds 17 (.int .u8 1) = mA { c with st := (1, c.st.2) } v := rfl
theorem mA_set48_17 (c : B.Cs) (v : B.Ev) : (mA c v).setIfInBounds 17 (.int .u8 48) = mA { c with st := (48, c.st.2) } v := rfl
theorem mA_suc17 (c : B.Cs) (v : B.Ev) (x : Nat) : (mA c v).setIfInBounds 17 (.int .u8 ((x : Int) + 1)) = mA { c with st := ((x + 1), c.st.2) } v := rfl
theorem mA_set18 (c : B.Cs) (v : B.Ev) (x : Nat) : (mA c v).setIfInBounds 18 (.int .i64 (x : Int)) = mA { c with st := (c.st.1, x) } v := rfl
theorem mA_set0_18 (c : B.Cs) (v : B.Ev) : (mA c v).setIfInBounds 18 (.int .i64 0) = mA { c with st := (c.st.1, 0) } v := rfl
theorem mA_set1_18 (c : B.Cs) (v : B.Ev) : (mA c v).setIfInBounds 18 (.int .i64 1) = mA { c with st := (c.st.1, 1) } v := rfl
theorem mA_suc18 (c : B.Cs) (v : B.Ev) (x : Nat) : (mA c v).setIfInBounds 18 (.int .i64 ((x : Int) + 1)) = mA { c with st := (c.st.1, (x + 1)) } v := rfl
theorem mA_set19 (c : B.Cs) (v : B.Ev) (x : ByteArray) : (mA c v).setIfInBounds 19 (.string x) = mA { c with got := x.data.toList } v := by
  show _ = mA { c with got := x.data.toList } v
  have : Value.string x = .string (strB x.data.toList) := by rw [strB_list]
  rw [this]; rfl
theorem mA_set20 (c : B.Cs) (v : B.Ev) (x : Bool) : (mA c v).setIfInBounds 20 (.bool x) = mA { c with fin := x } v := rfl
theorem mA_set21 (c : B.Cs) (v : B.Ev) (x : Nat) : (mA c v).setIfInBounds 21 (.int .i64 (x : Int)) = mA { c with tail := x } v := rfl
theorem mA_set0_21 (c : B.Cs) (v : B.Ev) : (mA c v).setIfInBounds 21 (.int .i64 0) = mA { c with tail := 0 } v := rfl
theorem mA_set1_21 (c : B.Cs) (v : B.Ev) : (mA c v).setIfInBounds 21 (.int .i64 1) = mA { c with tail := 1 } v := rfl
theorem mA_suc21 (c : B.Cs) (v : B.Ev) (x : Nat) : (mA c v).setIfInBounds 21 (.int .i64 ((x : Int) + 1)) = mA { c with tail := (x + 1) } v := rfl
theorem mA_set22 (c : B.Cs) (v : B.Ev) (x : Bool) : (mA c v).setIfInBounds 22 (.bool x) = mA { c with good := x } v := rfl
theorem evA_set0 (v : B.Ev) (x : Nat) : (evA v).setIfInBounds 0 (.int .i64 (x : Int)) = evA { v with kind := x } := rfl
theorem evA_set0_0 (v : B.Ev) : (evA v).setIfInBounds 0 (.int .i64 0) = evA { v with kind := 0 } := rfl
theorem evA_set1_0 (v : B.Ev) : (evA v).setIfInBounds 0 (.int .i64 1) = evA { v with kind := 1 } := rfl
theorem evA_set2_0 (v : B.Ev) : (evA v).setIfInBounds 0 (.int .i64 2) = evA { v with kind := 2 } := rfl
theorem evA_set3_0 (v : B.Ev) : (evA v).setIfInBounds 0 (.int .i64 3) = evA { v with kind := 3 } := rfl
theorem evA_set4_0 (v : B.Ev) : (evA v).setIfInBounds 0 (.int .i64 4) = evA { v with kind := 4 } := rfl
theorem evA_suc0 (v : B.Ev) (x : Nat) : (evA v).setIfInBounds 0 (.int .i64 ((x : Int) + 1)) = evA { v with kind := (x + 1) } := rfl
theorem evA_set1 (v : B.Ev) (x : Nat) : (evA v).setIfInBounds 1 (.int .u32 (x : Int)) = evA { v with fr := { v.fr with id := x } } := rfl
theorem evA_set0_1 (v : B.Ev) : (evA v).setIfInBounds 1 (.int .u32 0) = evA { v with fr := { v.fr with id := 0 } } := rfl
theorem evA_set1_1 (v : B.Ev) : (evA v).setIfInBounds 1 (.int .u32 1) = evA { v with fr := { v.fr with id := 1 } } := rfl
theorem evA_suc1 (v : B.Ev) (x : Nat) : (evA v).setIfInBounds 1 (.int .u32 ((x : Int) + 1)) = evA { v with fr := { v.fr with id := (x + 1) } } := rfl
theorem evA_set2 (v : B.Ev) (x : Bool) : (evA v).setIfInBounds 2 (.bool x) = evA { v with fr := { v.fr with ext := x } } := rfl
theorem evA_set3 (v : B.Ev) (x : Bool) : (evA v).setIfInBounds 3 (.bool x) = evA { v with fr := { v.fr with remote := x } } := rfl
theorem evA_set4 (v : B.Ev) (x : Nat) : (evA v).setIfInBounds 4 (.int .i64 (x : Int)) = evA { v with fr := { v.fr with dlc := x } } := rfl
theorem evA_set0_4 (v : B.Ev) : (evA v).setIfInBounds 4 (.int .i64 0) = evA { v with fr := { v.fr with dlc := 0 } } := rfl
theorem evA_set1_4 (v : B.Ev) : (evA v).setIfInBounds 4 (.int .i64 1) = evA { v with fr := { v.fr with dlc := 1 } } := rfl
theorem evA_suc4 (v : B.Ev) (x : Nat) : (evA v).setIfInBounds 4 (.int .i64 ((x : Int) + 1)) = evA { v with fr := { v.fr with dlc := (x + 1) } } := rfl
theorem evA_set5 (v : B.Ev) (x : ByteArray) : (evA v).setIfInBounds 5 (.string x) = evA { v with fr := { v.fr with data := x.data.toList } } := by
  show _ = evA { v with fr := { v.fr with data := x.data.toList } }
  have : Value.string x = .string (strB x.data.toList) := by rw [strB_list]
  rw [this]; rfl
theorem evA_set6 (v : B.Ev) (x : Nat) : (evA v).setIfInBounds 6 (.int .i64 (x : Int)) = evA { v with bad := x } := rfl
theorem evA_set0_6 (v : B.Ev) : (evA v).setIfInBounds 6 (.int .i64 0) = evA { v with bad := 0 } := rfl
theorem evA_set1_6 (v : B.Ev) : (evA v).setIfInBounds 6 (.int .i64 1) = evA { v with bad := 1 } := rfl
theorem evA_set14_6 (v : B.Ev) : (evA v).setIfInBounds 6 (.int .i64 14) = evA { v with bad := 14 } := rfl
theorem evA_suc6 (v : B.Ev) (x : Nat) : (evA v).setIfInBounds 6 (.int .i64 ((x : Int) + 1)) = evA { v with bad := (x + 1) } := rfl
theorem mA_set23 (c : B.Cs) (v : B.Ev) (x : Nat) : (mA c v).setIfInBounds 23 (.int .i64 (x : Int)) = mA c { v with kind := x } := rfl
theorem mA_set0_23 (c : B.Cs) (v : B.Ev) : (mA c v).setIfInBounds 23 (.int .i64 0) = mA c { v with kind := 0 } := rfl
theorem mA_set1_23 (c : B.Cs) (v : B.Ev) : (mA c v).setIfInBounds 23 (.int .i64 1) = mA c { v with kind := 1 } := rfl
theorem mA_set2_23 (c : B.Cs) (v : B.Ev) : (mA c v).setIfInBounds 23 (.int .i64 2) = mA c { v with kind := 2 } := rfl
theorem mA_set3_23 (c : B.Cs) (v : B.Ev) : (mA c v).setIfInBounds 23 (.int .i64 3) = mA c { v with kind := 3 } := rfl
theorem mA_set4_23 (c : B.Cs) (v : B.Ev) : (mA c v).setIfInBounds 23 (.int .i64 4) = mA c { v with kind := 4 } := rfl
theorem mA_suc23 (c : B.Cs) (v : B.Ev) (x : Nat) : (mA c v).setIfInBounds 23 (.int .i64 ((x : Int) + 1)) = mA c { v with kind := (x + 1) } := rfl
theorem mA_set24 (c : B.Cs) (v : B.Ev) (x : Nat) : (mA c v).setIfInBounds 24 (.int .u32 (x : Int)) = mA c { v with fr := { v.fr with id := x } } := rfl
theorem mA_set0_24 (c : B.Cs) (v : B.Ev) : (mA c v).setIfInBounds 24 (.int .u32 0) = mA c { v with fr := { v.fr with id := 0 } } := rfl
theorem mA_set1_24 (c : B.Cs) (v : B.Ev) : (mA c v).setIfInBounds 24 (.int .u32 1) = mA c { v with fr := { v.fr with id := 1 } } := rfl
theorem mA_suc24 (c : B.Cs) (v : B.Ev) (x : Nat) : (mA c v).setIfInBounds 24 (.int .u32 ((x : Int) + 1)) = mA c { v with fr := { v.fr with id := (x + 1) } } := rfl
theorem mA_set25 (c : B.Cs) (v : B.Ev) (x : Bool) : (mA c v).setIfInBounds 25 (.bool x) = mA c { v with fr := { v.fr with ext := x } } := rfl
theorem mA_set26 (c : B.Cs) (v : B.Ev) (x : Bool) : (mA c v).setIfInBounds 26 (.bool x) = mA c { v with fr := { v.fr with remote := x } } := rfl
theorem mA_set27 (c : B.Cs) (v : B.Ev) (x : Nat) : (mA c v).setIfInBounds 27 (.int .i64 (x : Int)) = mA c { v with fr := { v.fr with dlc := x } } := rfl
theorem mA_set0_27 (c : B.Cs) (v : B.Ev) : (mA c v).setIfInBounds 27 (.int .i64 0) = mA c { v with fr := { v.fr with dlc := 0 } } := rfl
theorem mA_set1_27 (c : B.Cs) (v : B.Ev) : (mA c v).setIfInBounds 27 (.int .i64 1) = mA c { v with fr := { v.fr with dlc := 1 } } := rfl
theorem mA_suc27 (c : B.Cs) (v : B.Ev) (x : Nat) : (mA c v).setIfInBounds 27 (.int .i64 ((x : Int) + 1)) = mA c { v with fr := { v.fr with dlc := (x + 1) } } := rfl
theorem mA_set28 (c : B.Cs) (v : B.Ev) (x : ByteArray) : (mA c v).setIfInBounds 28 (.string x) = mA c { v with fr := { v.fr with data := x.data.toList } } := by
  show _ = mA c { v with fr := { v.fr with data := x.data.toList } }
  have : Value.string x = .string (strB x.data.toList) := by rw [strB_list]
  rw [this]; rfl
theorem mA_set29 (c : B.Cs) (v : B.Ev) (x : Nat) : (mA c v).setIfInBounds 29 (.int .i64 (x : Int)) = mA c { v with bad := x } := rfl
theorem mA_set0_29 (c : B.Cs) (v : B.Ev) : (mA c v).setIfInBounds 29 (.int .i64 0) = mA c { v with bad := 0 } := rfl
theorem mA_set1_29 (c : B.Cs) (v : B.Ev) : (mA c v).setIfInBounds 29 (.int .i64 1) = mA c { v with bad := 1 } := rfl
theorem mA_suc29 (c : B.Cs) (v : B.Ev) (x : Nat) : (mA c v).setIfInBounds 29 (.int .i64 ((x : Int) + 1)) = mA c { v with bad := (x + 1) } := rfl

/-- the cells of a block that may be written -/
def rowAt (w : World) (g : Nat) : Option (Array Value) := match w.heap[g]? with | some (.cells cs _ (0, 0)) => some cs | _ => none
theorem Blk.rowA {w : World} {g : Nat} {cs : Array Value} {t : TypeId} (h : Blk w g cs t) : rowAt w g = some cs := by unfold rowAt; rw [show w.heap[g]? = _ from h]; rfl
theorem Blk.cells {w : World} {g : Nat} {cs : Array Value} {t : TypeId} (h : Blk w g cs t) : ∀ i, w.cell? ⟨g, i, none⟩ = cs[i]? := fun i => by simp [World.cell?, show w.heap[g]? = _ from h]
theorem Blk.frees {w : World} {g : Nat} {cs : Array Value} {t : TypeId} (h : Blk w g cs t) : ∀ i, w.frozen? ⟨g, i, none⟩ = false := fun i => h.free i
theorem rowAt_drew (w : World) (g : Nat) : rowAt w.drew g = rowAt w g := rfl
theorem rowAt_drewN (w : World) (g n : Nat) : rowAt (w.drewN n) g = rowAt w g := rfl
theorem rowAt_new (w : World) (cs : Array Value) (t : TypeId) (g : Nat) (h : g = w.heap.size) : rowAt (w.alloc (.cells cs t)) g = some cs := (blk_new w cs t g h).rowA
theorem rowAt_past (w : World) (o : Obj) (g : Nat) (h : g < w.heap.size) : rowAt (w.alloc o) g = rowAt w g := by unfold rowAt; rw [Below.heap_alloc _ _ _ h]
theorem rowAt_setRow_other (w : World) (g k : Nat) (cs : Array Value) (h : g ≠ k) : rowAt (w.setRow k cs) g = rowAt w g := by unfold rowAt; rw [setRow_other _ _ _ _ h]
theorem rowAt_blk {w : World} {g : Nat} {cs : Array Value} (h : rowAt w g = some cs) : ∃ t, Blk w g cs t := by
  unfold rowAt at h
  split at h
  · rename_i c t e; exact ⟨t, by rw [← Option.some.inj h]; exact e⟩
  · cases h
theorem rowAt_setRow (w : World) (g : Nat) (cs : Array Value) : rowAt (w.setRow g cs) g = (rowAt w g).map fun _ => cs := by
  cases h : rowAt w g with
  | none =>
    unfold rowAt at h ⊢
    unfold World.setRow
    simp only [Array.getElem?_modify, if_pos]
    cases h2 : w.heap[g]? with
    | none => rfl
    | some o =>
      rw [h2] at h
      cases o <;> first | rfl | skip
      rename_i c t f
      simp only [Option.map_some]
      obtain ⟨a, b⟩ := f
      by_cases ha : a = 0
      · by_cases hb : b = 0
        · subst ha hb; cases h
        · split
          · rename_i e; simp only [Option.some.injEq, Obj.cells.injEq, Prod.mk.injEq] at e; omega
          · rfl
      · split
        · rename_i e; simp only [Option.some.injEq, Obj.cells.injEq, Prod.mk.injEq] at e; omega
        · rfl
  | some d =>
    obtain ⟨t, hB⟩ := rowAt_blk h
    exact (hB.row cs).rowA
theorem rowAt_setCell_other (w : World) (g k i : Nat) (x : Value) (h : g ≠ k) : rowAt (w.setCell ⟨k, i, none⟩ x) g = rowAt w g := by unfold rowAt; rw [Below.heap_setCell _ _ _ _ h]
theorem rowAt_setCell (w : World) (g i : Nat) (x : Value) (cs : Array Value) (h : rowAt w g = some cs) : rowAt (w.setCell ⟨g, i, none⟩ x) g = some (cs.setIfInBounds i x) := by
  obtain ⟨t, hB⟩ := rowAt_blk h
  exact (hB.set i x).rowA
theorem rowAt_below {W w1 : World} (hb : Below W.heap.size W w1) : ∀ b, b < W.heap.size → rowAt w1 b = rowAt W b := fun b h => by unfold rowAt; rw [hb.block b h]
theorem rowAt_lt {w : World} {g : Nat} {cs : Array Value} (h : rowAt w g = some cs) : g < w.heap.size := by obtain ⟨t, hB⟩ := rowAt_blk h; exact hB.lt
theorem rowAt_cell {w : World} {g : Nat} {cs : Array Value} (h : rowAt w g = some cs) : ∀ i, w.cell? ⟨g, i, none⟩ = cs[i]? := by obtain ⟨t, hB⟩ := rowAt_blk h; exact hB.cells
theorem rowAt_free {w : World} {g : Nat} {cs : Array Value} (h : rowAt w g = some cs) : ∀ i, w.frozen? ⟨g, i, none⟩ = false := by obtain ⟨t, hB⟩ := rowAt_blk h; exact hB.frees

/-! ### loads and stores of a whole controller, a whole event, a whole machine -/
theorem run_loadVar_part (w : World) (g o n : Nat) (ty : TypeId) (cs : Array Value) (d : TypeDesc) (hr : rowAt w g = some cs) (hu : Tryz.prog.underlying ty = some d) (hd : d.isRow = true)
    (hi : (Tryz.prog.info? ty).map (·.size) = some n) (hn : o + n ≤ cs.size) : (loadVar ty ⟨g, o, none⟩).run Tryz.prog w = .ok (.agg ((cs.toList.drop o).take n).toArray) w := by
  refine run_loadVar_mid w g o ty _ d (fun j v hv => ?_) hu hd ?_
  · rw [rowAt_cell hr]
    have hj : j < n := by
      have := (List.getElem?_eq_some_iff.1 hv).1
      rw [List.length_take] at this; omega
    rw [List.getElem?_take_of_lt hj, List.getElem?_drop] at hv
    rw [← hv, Array.getElem?_toList]
  · rw [hi]
    exact congrArg some (by rw [List.length_take, List.length_drop, Array.length_toList, Nat.min_eq_left (by omega)])

noncomputable def ldCt (a : Addr) : Sem Value := loadVar 33 a
noncomputable def stCt (a : Addr) (v : Value) : Sem Unit := storeVar 33 a v
theorem ld_ct (a : Addr) : loadVar 33 a = ldCt a := rfl
theorem st_ct (a : Addr) (v : Value) : storeVar 33 a v = stCt a v := rfl

noncomputable def ldEv (a : Addr) : Sem Value := loadVar 42 a
noncomputable def stEv (a : Addr) (v : Value) : Sem Unit := storeVar 42 a v
theorem ld_ev (a : Addr) : loadVar 42 a = ldEv a := rfl
theorem st_ev (a : Addr) (v : Value) : storeVar 42 a v = stEv a v := rfl

noncomputable def ldMa (a : Addr) : Sem Value := loadVar 56 a
noncomputable def stMa (a : Addr) (v : Value) : Sem Unit := storeVar 56 a v
theorem ld_ma (a : Addr) : loadVar 56 a = ldMa a := rfl
theorem st_ma (a : Addr) (v : Value) : storeVar 56 a v = stMa a v := rfl

/-- cells laid over cells, from o on -/
def putL (cur : Array Value) (o : Nat) (xs : List Value) : Array Value := (cur.toList.take o ++ (xs ++ cur.toList.drop (o + xs.length))).toArray
theorem putL_nil (cur : Array Value) (o : Nat) : putL cur o [] = cur := by
  unfold putL; simp
theorem putL_cons (cur : Array Value) (o : Nat) (v : Value) (r : List Value) (h : o < cur.size) : putL (cur.setIfInBounds o v) (o + 1) r = putL cur o (v :: r) := by
  unfold putL
  congr 1
  rw [Array.toList_setIfInBounds]
  have h' : o < cur.toList.length := by simpa using h
  rw [List.take_set, List.drop_set, if_pos (by omega)]
  rw [List.take_succ_eq_append_getElem h', List.set_append_right _ _ (by rw [List.length_take]; exact Nat.min_le_left _ _)]
  have e : min o cur.size = o := Nat.min_eq_left (Nat.le_of_lt h)
  simp [e, Nat.add_assoc, Nat.add_comm 1]
theorem setRow_self {w : World} {g : Nat} {cs : Array Value} {t : TypeId} (h : Blk w g cs t) : w.setRow g cs = w := by
  have hlt := h.lt
  have h' : w.heap[g] = .cells cs t (0, 0) := by simpa [Array.getElem?_eq_getElem hlt] using (show w.heap[g]? = _ from h)
  unfold World.setRow
  congr 1
  apply Array.ext
  · simp
  · intro i h1 h2
    rw [Array.getElem_modify]
    split
    · rename_i e; subst e; rw [h']
    · rfl
theorem setCells_row (g : Nat) (t : TypeId) : ∀ (xs : List Value) (o : Nat) (w : World) (cur : Array Value), Blk w g cur t → o + xs.length ≤ cur.size → w.setCells g o xs = w.setRow g (putL cur o xs)
  | [], o, w, cur, h, _ => by rw [putL_nil]; exact (setRow_self h).symm
  | v :: r, o, w, cur, h, hl => by
    have hl' : o + (r.length + 1) ≤ cur.size := hl
    rw [World.setCells, setCells_row g t r (o + 1) _ _ (h.set o v) (by simp; omega), setCell_eq_setRow w g o cur t (0, 0) v h, setRow_setRow, putL_cons _ _ _ _ (by omega)]
theorem run_storeVar_part (w : World) (g o n : Nat) (ty : TypeId) (old xs : Array Value) (hr : rowAt w g = some old) (hn : o + n ≤ old.size) (hx : xs.size = n) (h1 : xs.toList.all (·.oneCell') = true)
    (hi : (Tryz.prog.info? ty).map (·.size) = some n) : (storeVar ty ⟨g, o, none⟩ (.agg xs)).run Tryz.prog w = .ok () (w.setRow g (putL old o xs.toList)) := by
  obtain ⟨t, hB⟩ := rowAt_blk hr
  rw [run_storeVar_mid w g o ty xs (fun j hj => ⟨by rw [hB.cells]; simp; omega, hB.frees _⟩) (by rw [hx]; exact hi) (all_oneCell_toArray (cs := xs.toList) (List.all_eq_true.1 h1)), setCells_row g t _ _ _ _ hB (by simpa [hx] using hn)]
def ldPart (n o : Nat) (r : Option (Array Value)) (E : Result Value) (w : World) : Result Value := match r with
  | some cs => if o + n ≤ cs.size then .ok (.agg ((cs.toList.drop o).take n).toArray) w else E
  | none => E
def stPart (n o : Nat) (r : Option (Array Value)) (xs : Array Value) (E : Result Unit) (g : Nat) (w : World) : Result Unit := match r with
  | some old => if o + n ≤ old.size ∧ xs.size = n ∧ xs.toList.all (·.oneCell') = true then .ok () (w.setRow g (putL old o xs.toList)) else E
  | none => E

theorem in_ct : (Tryz.prog.info? 33).map (·.size) = some 23 := by kernel_rfl
noncomputable def ldCt0 (a : Addr) (w : World) : Result Value := (ldCt a).run Tryz.prog w
noncomputable def stCt0 (a : Addr) (v : Value) (w : World) : Result Unit := (stCt a v).run Tryz.prog w
theorem ldCt_at (g o : Nat) (w : World) : (ldCt ⟨g, o, none⟩).run Tryz.prog w = ldPart 23 o (rowAt w g) (ldCt0 ⟨g, o, none⟩ w) w := by
  unfold ldPart
  split
  · rename_i cs h
    split
    · rename_i hn
      exact run_loadVar_part w g o 23 _ cs _ h Tryz.underlying33 rfl in_ct hn
    · rfl
  · rfl
theorem stCt_at (g o : Nat) (xs : Array Value) (w : World) : (stCt ⟨g, o, none⟩ (.agg xs)).run Tryz.prog w = stPart 23 o (rowAt w g) xs (stCt0 ⟨g, o, none⟩ (.agg xs) w) g w := by
  unfold stPart
  split
  · rename_i old h
    split
    · rename_i hn
      exact run_storeVar_part w g o 23 _ old xs h hn.1 hn.2.1 hn.2.2 in_ct
    · rfl
  · rfl

theorem in_ev : (Tryz.prog.info? 42).map (·.size) = some 7 := by kernel_rfl
noncomputable def ldEv0 (a : Addr) (w : World) : Result Value := (ldEv a).run Tryz.prog w
noncomputable def stEv0 (a : Addr) (v : Value) (w : World) : Result Unit := (stEv a v).run Tryz.prog w
theorem ldEv_at (g o : Nat) (w : World) : (ldEv ⟨g, o, none⟩).run Tryz.prog w = ldPart 7 o (rowAt w g) (ldEv0 ⟨g, o, none⟩ w) w := by
  unfold ldPart
  split
  · rename_i cs h
    split
    · rename_i hn
      exact run_loadVar_part w g o 7 _ cs _ h Tryz.underlying42 rfl in_ev hn
    · rfl
  · rfl
theorem stEv_at (g o : Nat) (xs : Array Value) (w : World) : (stEv ⟨g, o, none⟩ (.agg xs)).run Tryz.prog w = stPart 7 o (rowAt w g) xs (stEv0 ⟨g, o, none⟩ (.agg xs) w) g w := by
  unfold stPart
  split
  · rename_i old h
    split
    · rename_i hn
      exact run_storeVar_part w g o 7 _ old xs h hn.1 hn.2.1 hn.2.2 in_ev
    · rfl
  · rfl

theorem in_ma : (Tryz.prog.info? 56).map (·.size) = some 30 := by kernel_rfl
noncomputable def ldMa0 (a : Addr) (w : World) : Result Value := (ldMa a).run Tryz.prog w
noncomputable def stMa0 (a : Addr) (v : Value) (w : World) : Result Unit := (stMa a v).run Tryz.prog w
theorem ldMa_at (g o : Nat) (w : World) : (ldMa ⟨g, o, none⟩).run Tryz.prog w = ldPart 30 o (rowAt w g) (ldMa0 ⟨g, o, none⟩ w) w := by
  unfold ldPart
  split
  · rename_i cs h
    split
    · rename_i hn
      exact run_loadVar_part w g o 30 _ cs _ h Tryz.underlying56 rfl in_ma hn
    · rfl
  · rfl
theorem stMa_at (g o : Nat) (xs : Array Value) (w : World) : (stMa ⟨g, o, none⟩ (.agg xs)).run Tryz.prog w = stPart 30 o (rowAt w g) xs (stMa0 ⟨g, o, none⟩ (.agg xs) w) g w := by
  unfold stPart
  split
  · rename_i old h
    split
    · rename_i hn
      exact run_storeVar_part w g o 30 _ old xs h hn.1 hn.2.1 hn.2.2 in_ma
    · rfl
  · rfl

theorem ldp_ct (c : B.Cs) (E : Result Value) (w : World) : ldPart 23 0 (some (ctA c)) E w = .ok (.agg (ctA c)) w := by
  show (if 0 + 23 ≤ (ctA c).size then Result.ok (Value.agg (((ctA c).toList.drop 0).take 23).toArray) w else E) = _
  rw [if_pos (by show 0 + 23 ≤ 23; decide)]; rfl
theorem ldp_ma (c : B.Cs) (v : B.Ev) (E : Result Value) (w : World) : ldPart 23 0 (some (mA c v)) E w = .ok (.agg (ctA c)) w := by
  show (if 0 + 23 ≤ (mA c v).size then Result.ok (Value.agg (((mA c v).toList.drop 0).take 23).toArray) w else E) = _
  rw [if_pos (by show 0 + 23 ≤ 30; decide)]; rfl
theorem ldp_ev (v : B.Ev) (E : Result Value) (w : World) : ldPart 7 0 (some (evA v)) E w = .ok (.agg (evA v)) w := by
  show (if 0 + 7 ≤ (evA v).size then Result.ok (Value.agg (((evA v).toList.drop 0).take 7).toArray) w else E) = _
  rw [if_pos (by show 0 + 7 ≤ 7; decide)]; rfl
theorem ldp_mev (c : B.Cs) (v : B.Ev) (E : Result Value) (w : World) : ldPart 7 23 (some (mA c v)) E w = .ok (.agg (evA v)) w := by
  show (if 23 + 7 ≤ (mA c v).size then Result.ok (Value.agg (((mA c v).toList.drop 23).take 7).toArray) w else E) = _
  rw [if_pos (by show 23 + 7 ≤ 30; decide)]; rfl
theorem stp_ct (c d : B.Cs) (E : Result Unit) (g : Nat) (w : World) : stPart 23 0 (some (ctA d)) (ctA c) E g w = .ok () (w.setRow g (ctA c)) := by
  show (if 0 + 23 ≤ (ctA d).size ∧ (ctA c).size = 23 ∧ (ctA c).toList.all (·.oneCell') = true then Result.ok () (w.setRow g (putL (ctA d) 0 (ctA c).toList)) else E) = _
  rw [if_pos ⟨by show 0 + 23 ≤ 23; decide, rfl, ctA_one c⟩]; rfl
theorem stp_ma (c d : B.Cs) (v : B.Ev) (E : Result Unit) (g : Nat) (w : World) : stPart 23 0 (some (mA d v)) (ctA c) E g w = .ok () (w.setRow g (mA c v)) := by
  show (if 0 + 23 ≤ (mA d v).size ∧ (ctA c).size = 23 ∧ (ctA c).toList.all (·.oneCell') = true then Result.ok () (w.setRow g (putL (mA d v) 0 (ctA c).toList)) else E) = _
  rw [if_pos ⟨by show 0 + 23 ≤ 30; decide, rfl, ctA_one c⟩]; rfl
theorem stp_ev (u v : B.Ev) (E : Result Unit) (g : Nat) (w : World) : stPart 7 0 (some (evA u)) (evA v) E g w = .ok () (w.setRow g (evA v)) := by
  show (if 0 + 7 ≤ (evA u).size ∧ (evA v).size = 7 ∧ (evA v).toList.all (·.oneCell') = true then Result.ok () (w.setRow g (putL (evA u) 0 (evA v).toList)) else E) = _
  rw [if_pos ⟨by show 0 + 7 ≤ 7; decide, rfl, evA_one v⟩]; rfl
theorem stp_mev (c : B.Cs) (u v : B.Ev) (E : Result Unit) (g : Nat) (w : World) : stPart 7 23 (some (mA c u)) (evA v) E g w = .ok () (w.setRow g (mA c v)) := by
  show (if 23 + 7 ≤ (mA c u).size ∧ (evA v).size = 7 ∧ (evA v).toList.all (·.oneCell') = true then Result.ok () (w.setRow g (putL (mA c u) 23 (evA v).toList)) else E) = _
  rw [if_pos ⟨by show 23 + 7 ≤ 30; decide, rfl, evA_one v⟩]; rfl
theorem stp_mm (c d : B.Cs) (u v : B.Ev) (E : Result Unit) (g : Nat) (w : World) : stPart 30 0 (some (mA d u)) (mA c v) E g w = .ok () (w.setRow g (mA c v)) := by
  show (if 0 + 30 ≤ (mA d u).size ∧ (mA c v).size = 30 ∧ (mA c v).toList.all (·.oneCell') = true then Result.ok () (w.setRow g (putL (mA d u) 0 (mA c v).toList)) else E) = _
  rw [if_pos ⟨by show 0 + 30 ≤ 30; decide, rfl, mA_one c v⟩]; rfl
theorem zero_ct : (#[.int .i64 0, .int .i64 0, .bool false, .int .i64 0, .int .i64 0, .int .i64 0, .bool false, .bool false, .bool false, .int .u32 0, .bool false, .bool false, .int .i64 0, .string ⟨#[]⟩, .bool false, .string ⟨#[]⟩, .int .i64 0, .int .u8 0, .int .i64 0, .string ⟨#[]⟩, .bool false, .int .i64 0, .bool false] : Array Value) = ctA B.cs0 := rfl
theorem zero_ev : (#[.int .i64 0, .int .u32 0, .bool false, .bool false, .int .i64 0, .string ⟨#[]⟩, .int .i64 0] : Array Value) = evA B.ev0 := rfl
theorem ev_err (e : Nat) : (#[.int .i64 3, .int .u32 0, .bool false, .bool false, .int .i64 0, .string ⟨#[]⟩, .int .i64 (e : Int)] : Array Value) = evA ⟨3, B.noFr, e⟩ := rfl
theorem ev_sent (f : B.Fr) : (#[.int .i64 1, .int .u32 (f.id : Nat), .bool f.ext, .bool f.remote, .int .i64 (f.dlc : Nat), .string (strB f.data), .int .i64 0] : Array Value) = evA ⟨1, f, 0⟩ := rfl
theorem zero_ma : (#[.int .i64 0, .int .i64 0, .bool false, .int .i64 0, .int .i64 0, .int .i64 0, .bool false, .bool false, .bool false, .int .u32 0, .bool false, .bool false, .int .i64 0, .string ⟨#[]⟩, .bool false, .string ⟨#[]⟩, .int .i64 0, .int .u8 0, .int .i64 0, .string ⟨#[]⟩, .bool false, .int .i64 0, .bool false, .int .i64 0, .int .u32 0, .bool false, .bool false, .int .i64 0, .string ⟨#[]⟩, .int .i64 0] : Array Value) = mA B.cs0 B.ev0 := rfl
noncomputable def bdMa (xs : Array (Nat × Value)) : Sem Value := Instr.build 56 xs
theorem bd_ma (xs : Array (Nat × Value)) : Instr.build 56 xs = bdMa xs := rfl
theorem bdMa_at (c : B.Cs) (w : World) : (bdMa #[(0, .agg (ctA c))]).run Tryz.prog w = .ok (.agg (mA c B.ev0)) w := by
  refine run_build w _ _ _ ?_
  kernel_rfl
theorem run_build_ma (c : B.Cs) (w : World) : (Instr.build 56 #[(0, .agg (ctA c))]).run Tryz.prog w = .ok (.agg (mA c B.ev0)) w := by
  refine run_build w _ _ _ ?_
  kernel_rfl
theorem cell_setRow (w : World) (g i : Nat) (cs : Array Value) (h : (rowAt w g).isSome = true) : (w.setRow g cs).cell? ⟨g, i, none⟩ = cs[i]? := by
  obtain ⟨d, hd⟩ := Option.isSome_iff_exists.1 h
  obtain ⟨t, hB⟩ := rowAt_blk hd
  exact (hB.row cs).cells i
theorem free_setRow (w : World) (g i : Nat) (cs : Array Value) (h : (rowAt w g).isSome = true) : (w.setRow g cs).frozen? ⟨g, i, none⟩ = false := by
  obtain ⟨d, hd⟩ := Option.isSome_iff_exists.1 h
  obtain ⟨t, hB⟩ := rowAt_blk hd
  exact (hB.row cs).frees i
theorem cell_setRow_other (w : World) (g b i : Nat) (cs : Array Value) (h : b ≠ g) : (w.setRow g cs).cell? ⟨b, i, none⟩ = w.cell? ⟨b, i, none⟩ := Go.cell_setRow_other w g cs ⟨b, i, none⟩ h
theorem free_setRow_other (w : World) (g b i : Nat) (cs : Array Value) (h : b ≠ g) : (w.setRow g cs).frozen? ⟨b, i, none⟩ = w.frozen? ⟨b, i, none⟩ := by
  simp [World.frozen?, setRow_other w g b cs h]
theorem rowAt_setCell_map (w : World) (g i : Nat) (x : Value) : rowAt (w.setCell ⟨g, i, none⟩ x) g = (rowAt w g).map fun cs => cs.setIfInBounds i x := by
  cases h : rowAt w g with
  | some cs => rw [rowAt_setCell w g i x cs h]; rfl
  | none =>
    unfold rowAt at h ⊢
    unfold World.setCell
    simp only [Array.getElem?_modify, if_pos]
    cases h2 : w.heap[g]? with
    | none => rfl
    | some o =>
      rw [h2] at h
      cases o <;> first | rfl | skip
      rename_i c t f
      simp only [Option.map_some]
      obtain ⟨a, b⟩ := f
      by_cases ha : a = 0
      · by_cases hb : b = 0
        · subst ha hb; cases h
        · split
          · rename_i e; simp only [Option.some.injEq, Obj.cells.injEq, Prod.mk.injEq] at e; omega
          · rfl
      · split
        · rename_i e; simp only [Option.some.injEq, Obj.cells.injEq, Prod.mk.injEq] at e; omega
        · rfl
theorem res_row_t {fn : Func} {p u : Tmp} {ty : TypeId} {d : TypeDesc} {n : Nat} (h : fn.results = #[.cell p ty, .tmp u]) (hu : Tryz.prog.underlying ty = some d) (hd : d.isRow = true) (hi : (Tryz.prog.info? ty).map (·.size) = some n)
    (tmps : Array Value) (w : World) (g : Nat) (cs : Array Value) (hp : tmps.getD p undef = .pointer (some ⟨g, 0, none⟩)) (hr : rowAt w g = some cs) (hs : cs.size = n) :
    (results fn tmps).run Tryz.prog w = .ok (.tuple #[.agg cs, tmps.getD u undef]) w := by
  have hp' : tmps[p]?.getD undef = .pointer (some ⟨g, 0, none⟩) := by simpa using hp
  have hl : (loadVar ty ⟨g, 0, none⟩).run Tryz.prog w = .ok (.agg cs) w := by
    have := run_loadVar_part w g 0 n ty cs _ hr hu hd hi (by omega)
    rw [this, List.drop_zero, List.take_of_length_le (by simp; omega)]
  simp [results, h, hp', asAddr, hl]
theorem res_fr_t {fn : Func} {p u : Tmp} (h : fn.results = #[.cell p 24, .tmp u]) (tmps : Array Value) (w : World) (g : Nat) (cs : Array Value) (hp : tmps.getD p undef = .pointer (some ⟨g, 0, none⟩)) (hr : rowAt w g = some cs) (hs : cs.size = 5) :
    (results fn tmps).run Tryz.prog w = .ok (.tuple #[.agg cs, tmps.getD u undef]) w :=
  res_row_t h Tryz.underlying24 rfl (by kernel_rfl) tmps w g cs hp hr hs
theorem load_ct7 {w : World} {g : Nat} {c : B.Cs} (h : rowAt w g = some (ctA c)) : (loadVar 33 ⟨g, 0, none⟩).run Tryz.prog w = .ok (.agg (ctA c)) w := by
  have := ldCt_at g 0 w
  rw [h, ldp_ct] at this; exact this
theorem load_ev7 {w : World} {g : Nat} {v : B.Ev} (h : rowAt w g = some (evA v)) : (loadVar 42 ⟨g, 0, none⟩).run Tryz.prog w = .ok (.agg (evA v)) w := by
  have := ldEv_at g 0 w
  rw [h, ldp_ev] at this; exact this
theorem res_ct {fn : Func} {p : Tmp} (h : fn.results = #[.cell p 33]) (tmps : Array Value) (w : World) (g : Nat) (c : B.Cs) (hp : tmps.getD p undef = .pointer (some ⟨g, 0, none⟩)) (hr : rowAt w g = some (ctA c)) :
    (results fn tmps).run Tryz.prog w = .ok (.agg (ctA c)) w := by
  have hp' : tmps[p]?.getD undef = .pointer (some ⟨g, 0, none⟩) := by simpa using hp
  simp [results, h, hp', asAddr, load_ct7 hr]
theorem res_ct_t {fn : Func} {p u : Tmp} (h : fn.results = #[.cell p 33, .tmp u]) (tmps : Array Value) (w : World) (g : Nat) (c : B.Cs) (hp : tmps.getD p undef = .pointer (some ⟨g, 0, none⟩)) (hr : rowAt w g = some (ctA c)) :
    (results fn tmps).run Tryz.prog w = .ok (.tuple #[.agg (ctA c), tmps.getD u undef]) w := by
  have hp' : tmps[p]?.getD undef = .pointer (some ⟨g, 0, none⟩) := by simpa using hp
  simp [results, h, hp', asAddr, load_ct7 hr]
theorem res_ct_ev_t {fn : Func} {p q u : Tmp} (h : fn.results = #[.cell p 33, .cell q 42, .tmp u]) (tmps : Array Value) (w : World) (g k : Nat) (c : B.Cs) (v : B.Ev)
    (hp : tmps.getD p undef = .pointer (some ⟨g, 0, none⟩)) (hq : tmps.getD q undef = .pointer (some ⟨k, 0, none⟩)) (hr : rowAt w g = some (ctA c)) (hk : rowAt w k = some (evA v)) :
    (results fn tmps).run Tryz.prog w = .ok (.tuple #[.agg (ctA c), .agg (evA v), tmps.getD u undef]) w := by
  have hp' : tmps[p]?.getD undef = .pointer (some ⟨g, 0, none⟩) := by simpa using hp
  have hq' : tmps[q]?.getD undef = .pointer (some ⟨k, 0, none⟩) := by simpa using hq
  simp [results, h, hp', hq', asAddr, load_ct7 hr, load_ev7 hk]
theorem setRow_alloc_at (w : World) (old cs : Array Value) (t : TypeId) (n : Nat) (h : n = w.heap.size) : (w.alloc (.cells old t)).setRow n cs = w.alloc (.cells cs t) := by
  subst h
  unfold World.setRow World.alloc
  simp only
  congr 1
  apply Array.ext
  · simp
  · intro i h1 h2
    rw [Array.getElem_modify]
    split
    · rename_i e; subst e; simp
    · rename_i e
      have hi : i < w.heap.size := by simp at h1; omega
      rw [Array.getElem_push_lt hi, Array.getElem_push_lt hi]
theorem setRow_alloc_past (w : World) (o : Obj) (cs : Array Value) (n : Nat) (h : n < w.heap.size) : (w.alloc o).setRow n cs = (w.setRow n cs).alloc o := by
  unfold World.setRow World.alloc
  simp only
  congr 1
  apply Array.ext
  · simp
  · intro i h1 h2
    rw [Array.getElem_modify]
    rcases Nat.lt_or_ge i w.heap.size with hi | hi
    · rw [Array.getElem_push_lt hi, Array.getElem_push_lt (by simpa using hi), Array.getElem_modify]
    · have : i = w.heap.size := by simp at h1; omega
      subst this
      rw [if_neg (by omega), Array.getElem_push_eq, Array.getElem_push, dif_neg (by simp)]
theorem setRow_drew (w : World) (g : Nat) (cs : Array Value) : w.drew.setRow g cs = (w.setRow g cs).drew := rfl
end Go.Proofs.YtcaeobkaoebndaaGreat
