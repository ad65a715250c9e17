/- What the laid variables give: the tables that a cell's text reads. -/
import Derived.Test.YtdfgpaoehikdpabDoorCellA
import Derived.Lib.LaidU8
namespace Go.Proofs.YtdfgpaoehikdpabDoor.Cell
open Go.RowKit
theorem tPow : Tryd.prog.globals[3]?.map (·.type) = some 93 := by kernel_rfl
theorem cPow : Tryd.prog.cellsOf 93 = 20 := by kernel_rfl
theorem cPow1 : Tryd.prog.cellsOf 60 = 1 := by kernel_rfl
theorem pow_of_reads {w : World} (h : Go.Lib.VarReads Tryd.prog w "internal/strconv.uint64pow10" (Go.Lib.tabData .u64 Go.Lib.pow10Tab)) : Go.Lib.TabIs Tryd.prog w "internal/strconv.uint64pow10" .u64 Go.Lib.pow10Tab := by
  obtain ⟨g, t, cs, fuel, p, hg, ht, hv, hd⟩ := h
  obtain rfl := Option.some.inj (gPow.symm.trans hg)
  obtain rfl := Option.some.inj (tPow.symm.trans ht)
  unfold Go.Lib.TabIs
  rw [hv, ← Go.Lib.cells_of_tab Tryd.underlying93 Tryd.underlying60 cPow1 cPow hd]
theorem tabs_of {w : World} (h : Go.Lib.VarReads Tryd.prog w "internal/strconv.uint64pow10" (Go.Lib.tabData .u64 Go.Lib.pow10Tab)) (hsh : w.ShapedOpen Tryd.prog) : Tabs w :=
  ⟨pow_of_reads h, Tryd.laysM155.s1_3 w hsh⟩
end Go.Proofs.YtdfgpaoehikdpabDoor.Cell
