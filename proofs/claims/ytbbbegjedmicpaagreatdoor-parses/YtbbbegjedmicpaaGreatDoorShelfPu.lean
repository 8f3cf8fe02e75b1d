import Derived.Test.YtbbbegjedmicpaaGreatDoorProg
import Derived.Shelf.Pu.ParseUintPublic10

/-
  THE LIBRARY's strconv.ParseUint AND strings.Clone: its contracts, laid at this program (plain text, by program).
-/
namespace Go.Proofs
open Go.Shelf

def Tryz.laysPu14_ren : Go.Shelf.Ren := ⟨fun | 14 => 172 | 16 => 231 | 17 => 232 | 19 => 278 | 20 => 279 | 21 => 280 | 22 => 281 | 23 => 282 | 24 => 283 | 25 => 111 | 27 => 303 | 26 => 302 | 28 => 317 | 29 => 323 | 30 => 326 | 31 => 327 | 32 => 328 | 33 => 329 | 35 => 183 | 34 => 330 | 36 => 331 | 37 => 332 | 38 => 333 | 39 => 334 | 40 => 335 | n => n, fun | 9 => 9 | 3 => 3 | 22 => 53 | 24 => 288 | 25 => 289 | 4 => 4 | 34 => 367 | 5 => 5 | 36 => 241 | 37 => 147 | 0 => 0 | 39 => 369 | 21 => 21 | 44 => 391 | 47 => 286 | 50 => 402 | 48 => 400 | 2 => 2 | 52 => 409 | 55 => 411 | 59 => 415 | 60 => 130 | 20 => 20 | 61 => 416 | 65 => 417 | 66 => 418 | 67 => 143 | n => n, fun | 0 => 3 | 1 => 4 | 2 => 5 | 3 => 6 | 4 => 7 | n => n⟩
theorem Tryz.laysPu14 : Go.Proofs.LaysPu.n14 Tryz.prog Tryz.laysPu14_ren := by constructor<;>first|kernel_rfl|(intro w;kernel_rfl)

def Tryz.laysPu25_ren : Go.Shelf.Ren := ⟨fun | 25 => 111 | n => n, fun | 9 => 9 | 3 => 3 | 4 => 4 | 37 => 147 | 0 => 0 | 47 => 286 | 5 => 5 | n => n, fun | n => n⟩
theorem Tryz.laysPu25 : Go.Proofs.LaysPu.n25 Tryz.prog Tryz.laysPu25_ren := by constructor<;>first|kernel_rfl|(intro w;kernel_rfl)

end Go.Proofs
