import Derived.Test.YtbbbegjedmicpaaGreatDoorProg
import Derived.Shelf.SlSortCmp.Whole1

namespace Go.Proofs
open Go.Shelf
theorem Tryz.bShelfSrt {f : FuncId} {B : Func} (h : ((prog.funcs[f]?).elim "" Func.name == "runtime.NumGoroutine") = false) (k : prog.funcs[f]? = some {B with name := (prog.funcs[f]?).elim "" Func.name}) : Bears prog f B := ⟨_, h, k⟩
def Tryz.sortF_ren : Go.Shelf.Ren := ⟨fun | 6 => 70 | 15 => 116 | 14 => 115 | 28 => 182 | 29 => 183 | 20 => 174 | 21 => 175 | 22 => 176 | 23 => 177 | 24 => 178 | 25 => 179 | 26 => 180 | 27 => 181 | 46 => 233 | 47 => 234 | 48 => 235 | 49 => 236 | 50 => 237 | 57 => 284 | n => n, fun | 22 => 85 | 24 => 168 | 25 => 178 | 3 => 3 | 39 => 241 | 0 => 0 | 53 => 130 | 55 => 53 | 4 => 4 | 46 => 294 | 45 => 293 | 50 => 214 | 5 => 5 | 9 => 9 | 66 => 341 | 70 => 344 | 76 => 372 | 77 => 373 | n => n, fun | n => n⟩
theorem Tryz.sortF : Go.Proofs.SlLaysF.n6 Tryz.prog Tryz.sortF_ren := by constructor<;>first|kernel_rfl|(intro w;kernel_rfl)|(apply Tryz.bShelfSrt<;>kernel_rfl)
end Go.Proofs
