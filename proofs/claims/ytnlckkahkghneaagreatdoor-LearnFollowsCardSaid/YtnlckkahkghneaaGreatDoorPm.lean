/- A policy's calls are method values of its cache behind an interface: which function each is, by kind. -/
import Derived.Test.YtnlckkahkghneaaGreatDoorKv
namespace Go.Proofs.YtnlckkahkghneaaGreatDoor
open Go.RowKit Sg
/-- The type of the pointer to a kind's cache. -/
def tC : Nat → Nat | 0 => 215 | 3 => 219 | 4 => 221 | _ => 217
/-- A kind's cache as an interface value. -/
def cI (kind c : Nat) : Value := .iface (tC kind) (.pointer (some ⟨c, 0, none⟩))
/-- A method value of it. -/
def mV (kind c : Nat) (n : String) : Value := .func (.method n) #[cI kind c] #[]
theorem run_enter9 {P : Program} {f : FuncId} {fn : Func} {c : Code} (hf : P.funcs[f]? = some fn) (hname : (fn.name == "runtime.NumGoroutine") = false) (hb : fn.body = some c) (args : Array Value) (w : World) :
    (callFunc f args).run P w = .ok (.enter f args) w := by
  have h1 : fn.name ≠ "runtime.NumGoroutine" := by simpa using hname
  simp [callFunc, hf, h1, hb]
theorem cfHas {k : Nat} (hk : k < 5) (args : Array Value) (w : World) : (callFunc (fHas k) args).run Tryz.prog w = .ok (.enter (fHas k) args) w := by
  rcases k with _ | _ | _ | _ | _ | k
  · exact run_enter9 Tryz.func244 (by kernel_rfl) rfl args w
  · exact run_enter9 Tryz.func258 (by kernel_rfl) rfl args w
  · exact run_enter9 Tryz.func258 (by kernel_rfl) rfl args w
  · exact run_enter9 Tryz.func310 (by kernel_rfl) rfl args w
  · exact run_enter9 Tryz.func332 (by kernel_rfl) rfl args w
  · omega
theorem meHas {k : Nat} (hk : k < 5) (p : Addr) (w : World) : (Go.method 494 (tC k) (.pointer (some p)) "Has").run Tryz.prog w = .ok (fHas k, .pointer (some p)) w := by
  rcases k with _ | _ | _ | _ | _ | k
  · show (Go.method 494 215 (.pointer (some p)) "Has").run Tryz.prog w = .ok (244, .pointer (some p)) w; kernel_rfl
  · show (Go.method 494 217 (.pointer (some p)) "Has").run Tryz.prog w = .ok (258, .pointer (some p)) w; kernel_rfl
  · show (Go.method 494 217 (.pointer (some p)) "Has").run Tryz.prog w = .ok (258, .pointer (some p)) w; kernel_rfl
  · show (Go.method 494 219 (.pointer (some p)) "Has").run Tryz.prog w = .ok (310, .pointer (some p)) w; kernel_rfl
  · show (Go.method 494 221 (.pointer (some p)) "Has").run Tryz.prog w = .ok (332, .pointer (some p)) w; kernel_rfl
  · omega
theorem naHas {k : Nat} (hk : k < 5) (p : Addr) (w : World) : (Go.nilAhead 494 (tC k) (.pointer (some p)) "Has").run Tryz.prog w = .ok (some false) w := by
  rcases k with _ | _ | _ | _ | _ | k
  · show (Go.nilAhead 494 215 (.pointer (some p)) "Has").run Tryz.prog w = .ok (some false) w; kernel_rfl
  · show (Go.nilAhead 494 217 (.pointer (some p)) "Has").run Tryz.prog w = .ok (some false) w; kernel_rfl
  · show (Go.nilAhead 494 217 (.pointer (some p)) "Has").run Tryz.prog w = .ok (some false) w; kernel_rfl
  · show (Go.nilAhead 494 219 (.pointer (some p)) "Has").run Tryz.prog w = .ok (some false) w; kernel_rfl
  · show (Go.nilAhead 494 221 (.pointer (some p)) "Has").run Tryz.prog w = .ok (some false) w; kernel_rfl
  · omega
theorem cfLen {k : Nat} (hk : k < 5) (args : Array Value) (w : World) : (callFunc (fLen k) args).run Tryz.prog w = .ok (.enter (fLen k) args) w := by
  rcases k with _ | _ | _ | _ | _ | k
  · exact run_enter9 Tryz.func246 (by kernel_rfl) rfl args w
  · exact run_enter9 Tryz.func260 (by kernel_rfl) rfl args w
  · exact run_enter9 Tryz.func260 (by kernel_rfl) rfl args w
  · exact run_enter9 Tryz.func312 (by kernel_rfl) rfl args w
  · exact run_enter9 Tryz.func334 (by kernel_rfl) rfl args w
  · omega
theorem meLen {k : Nat} (hk : k < 5) (p : Addr) (w : World) : (Go.method 494 (tC k) (.pointer (some p)) "Len").run Tryz.prog w = .ok (fLen k, .pointer (some p)) w := by
  rcases k with _ | _ | _ | _ | _ | k
  · show (Go.method 494 215 (.pointer (some p)) "Len").run Tryz.prog w = .ok (246, .pointer (some p)) w; kernel_rfl
  · show (Go.method 494 217 (.pointer (some p)) "Len").run Tryz.prog w = .ok (260, .pointer (some p)) w; kernel_rfl
  · show (Go.method 494 217 (.pointer (some p)) "Len").run Tryz.prog w = .ok (260, .pointer (some p)) w; kernel_rfl
  · show (Go.method 494 219 (.pointer (some p)) "Len").run Tryz.prog w = .ok (312, .pointer (some p)) w; kernel_rfl
  · show (Go.method 494 221 (.pointer (some p)) "Len").run Tryz.prog w = .ok (334, .pointer (some p)) w; kernel_rfl
  · omega
theorem naLen {k : Nat} (hk : k < 5) (p : Addr) (w : World) : (Go.nilAhead 494 (tC k) (.pointer (some p)) "Len").run Tryz.prog w = .ok (some false) w := by
  rcases k with _ | _ | _ | _ | _ | k
  · show (Go.nilAhead 494 215 (.pointer (some p)) "Len").run Tryz.prog w = .ok (some false) w; kernel_rfl
  · show (Go.nilAhead 494 217 (.pointer (some p)) "Len").run Tryz.prog w = .ok (some false) w; kernel_rfl
  · show (Go.nilAhead 494 217 (.pointer (some p)) "Len").run Tryz.prog w = .ok (some false) w; kernel_rfl
  · show (Go.nilAhead 494 219 (.pointer (some p)) "Len").run Tryz.prog w = .ok (some false) w; kernel_rfl
  · show (Go.nilAhead 494 221 (.pointer (some p)) "Len").run Tryz.prog w = .ok (some false) w; kernel_rfl
  · omega
theorem cfRequest {k : Nat} (hk : k < 5) (args : Array Value) (w : World) : (callFunc (fRequest k) args).run Tryz.prog w = .ok (.enter (fRequest k) args) w := by
  rcases k with _ | _ | _ | _ | _ | k
  · exact run_enter9 Tryz.func248 (by kernel_rfl) rfl args w
  · exact run_enter9 Tryz.func262 (by kernel_rfl) rfl args w
  · exact run_enter9 Tryz.func262 (by kernel_rfl) rfl args w
  · exact run_enter9 Tryz.func314 (by kernel_rfl) rfl args w
  · exact run_enter9 Tryz.func336 (by kernel_rfl) rfl args w
  · omega
theorem meRequest {k : Nat} (hk : k < 5) (p : Addr) (w : World) : (Go.method 494 (tC k) (.pointer (some p)) "Request").run Tryz.prog w = .ok (fRequest k, .pointer (some p)) w := by
  rcases k with _ | _ | _ | _ | _ | k
  · show (Go.method 494 215 (.pointer (some p)) "Request").run Tryz.prog w = .ok (248, .pointer (some p)) w; kernel_rfl
  · show (Go.method 494 217 (.pointer (some p)) "Request").run Tryz.prog w = .ok (262, .pointer (some p)) w; kernel_rfl
  · show (Go.method 494 217 (.pointer (some p)) "Request").run Tryz.prog w = .ok (262, .pointer (some p)) w; kernel_rfl
  · show (Go.method 494 219 (.pointer (some p)) "Request").run Tryz.prog w = .ok (314, .pointer (some p)) w; kernel_rfl
  · show (Go.method 494 221 (.pointer (some p)) "Request").run Tryz.prog w = .ok (336, .pointer (some p)) w; kernel_rfl
  · omega
theorem naRequest {k : Nat} (hk : k < 5) (p : Addr) (w : World) : (Go.nilAhead 494 (tC k) (.pointer (some p)) "Request").run Tryz.prog w = .ok (some false) w := by
  rcases k with _ | _ | _ | _ | _ | k
  · show (Go.nilAhead 494 215 (.pointer (some p)) "Request").run Tryz.prog w = .ok (some false) w; kernel_rfl
  · show (Go.nilAhead 494 217 (.pointer (some p)) "Request").run Tryz.prog w = .ok (some false) w; kernel_rfl
  · show (Go.nilAhead 494 217 (.pointer (some p)) "Request").run Tryz.prog w = .ok (some false) w; kernel_rfl
  · show (Go.nilAhead 494 219 (.pointer (some p)) "Request").run Tryz.prog w = .ok (some false) w; kernel_rfl
  · show (Go.nilAhead 494 221 (.pointer (some p)) "Request").run Tryz.prog w = .ok (some false) w; kernel_rfl
  · omega
theorem cfRemove {k : Nat} (hk : k < 5) (args : Array Value) (w : World) : (callFunc (fRemove k) args).run Tryz.prog w = .ok (.enter (fRemove k) args) w := by
  rcases k with _ | _ | _ | _ | _ | k
  · exact run_enter9 Tryz.func247 (by kernel_rfl) rfl args w
  · exact run_enter9 Tryz.func261 (by kernel_rfl) rfl args w
  · exact run_enter9 Tryz.func261 (by kernel_rfl) rfl args w
  · exact run_enter9 Tryz.func313 (by kernel_rfl) rfl args w
  · exact run_enter9 Tryz.func335 (by kernel_rfl) rfl args w
  · omega
theorem meRemove {k : Nat} (hk : k < 5) (p : Addr) (w : World) : (Go.method 494 (tC k) (.pointer (some p)) "Remove").run Tryz.prog w = .ok (fRemove k, .pointer (some p)) w := by
  rcases k with _ | _ | _ | _ | _ | k
  · show (Go.method 494 215 (.pointer (some p)) "Remove").run Tryz.prog w = .ok (247, .pointer (some p)) w; kernel_rfl
  · show (Go.method 494 217 (.pointer (some p)) "Remove").run Tryz.prog w = .ok (261, .pointer (some p)) w; kernel_rfl
  · show (Go.method 494 217 (.pointer (some p)) "Remove").run Tryz.prog w = .ok (261, .pointer (some p)) w; kernel_rfl
  · show (Go.method 494 219 (.pointer (some p)) "Remove").run Tryz.prog w = .ok (313, .pointer (some p)) w; kernel_rfl
  · show (Go.method 494 221 (.pointer (some p)) "Remove").run Tryz.prog w = .ok (335, .pointer (some p)) w; kernel_rfl
  · omega
theorem naRemove {k : Nat} (hk : k < 5) (p : Addr) (w : World) : (Go.nilAhead 494 (tC k) (.pointer (some p)) "Remove").run Tryz.prog w = .ok (some false) w := by
  rcases k with _ | _ | _ | _ | _ | k
  · show (Go.nilAhead 494 215 (.pointer (some p)) "Remove").run Tryz.prog w = .ok (some false) w; kernel_rfl
  · show (Go.nilAhead 494 217 (.pointer (some p)) "Remove").run Tryz.prog w = .ok (some false) w; kernel_rfl
  · show (Go.nilAhead 494 217 (.pointer (some p)) "Remove").run Tryz.prog w = .ok (some false) w; kernel_rfl
  · show (Go.nilAhead 494 219 (.pointer (some p)) "Remove").run Tryz.prog w = .ok (some false) w; kernel_rfl
  · show (Go.nilAhead 494 221 (.pointer (some p)) "Remove").run Tryz.prog w = .ok (some false) w; kernel_rfl
  · omega
theorem cfAdopt {k : Nat} (hk : k < 5) (args : Array Value) (w : World) : (callFunc (fAdopt k) args).run Tryz.prog w = .ok (.enter (fAdopt k) args) w := by
  rcases k with _ | _ | _ | _ | _ | k
  · exact run_enter9 Tryz.func241 (by kernel_rfl) rfl args w
  · exact run_enter9 Tryz.func255 (by kernel_rfl) rfl args w
  · exact run_enter9 Tryz.func255 (by kernel_rfl) rfl args w
  · exact run_enter9 Tryz.func307 (by kernel_rfl) rfl args w
  · exact run_enter9 Tryz.func329 (by kernel_rfl) rfl args w
  · omega
theorem meAdopt {k : Nat} (hk : k < 5) (p : Addr) (w : World) : (Go.method 494 (tC k) (.pointer (some p)) "Adopt").run Tryz.prog w = .ok (fAdopt k, .pointer (some p)) w := by
  rcases k with _ | _ | _ | _ | _ | k
  · show (Go.method 494 215 (.pointer (some p)) "Adopt").run Tryz.prog w = .ok (241, .pointer (some p)) w; kernel_rfl
  · show (Go.method 494 217 (.pointer (some p)) "Adopt").run Tryz.prog w = .ok (255, .pointer (some p)) w; kernel_rfl
  · show (Go.method 494 217 (.pointer (some p)) "Adopt").run Tryz.prog w = .ok (255, .pointer (some p)) w; kernel_rfl
  · show (Go.method 494 219 (.pointer (some p)) "Adopt").run Tryz.prog w = .ok (307, .pointer (some p)) w; kernel_rfl
  · show (Go.method 494 221 (.pointer (some p)) "Adopt").run Tryz.prog w = .ok (329, .pointer (some p)) w; kernel_rfl
  · omega
theorem naAdopt {k : Nat} (hk : k < 5) (p : Addr) (w : World) : (Go.nilAhead 494 (tC k) (.pointer (some p)) "Adopt").run Tryz.prog w = .ok (some false) w := by
  rcases k with _ | _ | _ | _ | _ | k
  · show (Go.nilAhead 494 215 (.pointer (some p)) "Adopt").run Tryz.prog w = .ok (some false) w; kernel_rfl
  · show (Go.nilAhead 494 217 (.pointer (some p)) "Adopt").run Tryz.prog w = .ok (some false) w; kernel_rfl
  · show (Go.nilAhead 494 217 (.pointer (some p)) "Adopt").run Tryz.prog w = .ok (some false) w; kernel_rfl
  · show (Go.nilAhead 494 219 (.pointer (some p)) "Adopt").run Tryz.prog w = .ok (some false) w; kernel_rfl
  · show (Go.nilAhead 494 221 (.pointer (some p)) "Adopt").run Tryz.prog w = .ok (some false) w; kernel_rfl
  · omega
theorem cfVictim {k : Nat} (hk : k < 5) (args : Array Value) (w : World) : (callFunc (fVictim k) args).run Tryz.prog w = .ok (.enter (fVictim k) args) w := by
  rcases k with _ | _ | _ | _ | _ | k
  · exact run_enter9 Tryz.func250 (by kernel_rfl) rfl args w
  · exact run_enter9 Tryz.func264 (by kernel_rfl) rfl args w
  · exact run_enter9 Tryz.func264 (by kernel_rfl) rfl args w
  · exact run_enter9 Tryz.func316 (by kernel_rfl) rfl args w
  · exact run_enter9 Tryz.func338 (by kernel_rfl) rfl args w
  · omega
theorem meVictim {k : Nat} (hk : k < 5) (p : Addr) (w : World) : (Go.method 494 (tC k) (.pointer (some p)) "Victim").run Tryz.prog w = .ok (fVictim k, .pointer (some p)) w := by
  rcases k with _ | _ | _ | _ | _ | k
  · show (Go.method 494 215 (.pointer (some p)) "Victim").run Tryz.prog w = .ok (250, .pointer (some p)) w; kernel_rfl
  · show (Go.method 494 217 (.pointer (some p)) "Victim").run Tryz.prog w = .ok (264, .pointer (some p)) w; kernel_rfl
  · show (Go.method 494 217 (.pointer (some p)) "Victim").run Tryz.prog w = .ok (264, .pointer (some p)) w; kernel_rfl
  · show (Go.method 494 219 (.pointer (some p)) "Victim").run Tryz.prog w = .ok (316, .pointer (some p)) w; kernel_rfl
  · show (Go.method 494 221 (.pointer (some p)) "Victim").run Tryz.prog w = .ok (338, .pointer (some p)) w; kernel_rfl
  · omega
theorem naVictim {k : Nat} (hk : k < 5) (p : Addr) (w : World) : (Go.nilAhead 494 (tC k) (.pointer (some p)) "Victim").run Tryz.prog w = .ok (some false) w := by
  rcases k with _ | _ | _ | _ | _ | k
  · show (Go.nilAhead 494 215 (.pointer (some p)) "Victim").run Tryz.prog w = .ok (some false) w; kernel_rfl
  · show (Go.nilAhead 494 217 (.pointer (some p)) "Victim").run Tryz.prog w = .ok (some false) w; kernel_rfl
  · show (Go.nilAhead 494 217 (.pointer (some p)) "Victim").run Tryz.prog w = .ok (some false) w; kernel_rfl
  · show (Go.nilAhead 494 219 (.pointer (some p)) "Victim").run Tryz.prog w = .ok (some false) w; kernel_rfl
  · show (Go.nilAhead 494 221 (.pointer (some p)) "Victim").run Tryz.prog w = .ok (some false) w; kernel_rfl
  · omega
theorem cfDrop {k : Nat} (hk : k < 5) (args : Array Value) (w : World) : (callFunc (fDrop k) args).run Tryz.prog w = .ok (.enter (fDrop k) args) w := by
  rcases k with _ | _ | _ | _ | _ | k
  · exact run_enter9 Tryz.func242 (by kernel_rfl) rfl args w
  · exact run_enter9 Tryz.func256 (by kernel_rfl) rfl args w
  · exact run_enter9 Tryz.func256 (by kernel_rfl) rfl args w
  · exact run_enter9 Tryz.func308 (by kernel_rfl) rfl args w
  · exact run_enter9 Tryz.func330 (by kernel_rfl) rfl args w
  · omega
theorem meDrop {k : Nat} (hk : k < 5) (p : Addr) (w : World) : (Go.method 494 (tC k) (.pointer (some p)) "Drop").run Tryz.prog w = .ok (fDrop k, .pointer (some p)) w := by
  rcases k with _ | _ | _ | _ | _ | k
  · show (Go.method 494 215 (.pointer (some p)) "Drop").run Tryz.prog w = .ok (242, .pointer (some p)) w; kernel_rfl
  · show (Go.method 494 217 (.pointer (some p)) "Drop").run Tryz.prog w = .ok (256, .pointer (some p)) w; kernel_rfl
  · show (Go.method 494 217 (.pointer (some p)) "Drop").run Tryz.prog w = .ok (256, .pointer (some p)) w; kernel_rfl
  · show (Go.method 494 219 (.pointer (some p)) "Drop").run Tryz.prog w = .ok (308, .pointer (some p)) w; kernel_rfl
  · show (Go.method 494 221 (.pointer (some p)) "Drop").run Tryz.prog w = .ok (330, .pointer (some p)) w; kernel_rfl
  · omega
theorem naDrop {k : Nat} (hk : k < 5) (p : Addr) (w : World) : (Go.nilAhead 494 (tC k) (.pointer (some p)) "Drop").run Tryz.prog w = .ok (some false) w := by
  rcases k with _ | _ | _ | _ | _ | k
  · show (Go.nilAhead 494 215 (.pointer (some p)) "Drop").run Tryz.prog w = .ok (some false) w; kernel_rfl
  · show (Go.nilAhead 494 217 (.pointer (some p)) "Drop").run Tryz.prog w = .ok (some false) w; kernel_rfl
  · show (Go.nilAhead 494 217 (.pointer (some p)) "Drop").run Tryz.prog w = .ok (some false) w; kernel_rfl
  · show (Go.nilAhead 494 219 (.pointer (some p)) "Drop").run Tryz.prog w = .ok (some false) w; kernel_rfl
  · show (Go.nilAhead 494 221 (.pointer (some p)) "Drop").run Tryz.prog w = .ok (some false) w; kernel_rfl
  · omega
theorem cfResize {k : Nat} (hk : k < 5) (args : Array Value) (w : World) : (callFunc (fResize k) args).run Tryz.prog w = .ok (.enter (fResize k) args) w := by
  rcases k with _ | _ | _ | _ | _ | k
  · exact run_enter9 Tryz.func249 (by kernel_rfl) rfl args w
  · exact run_enter9 Tryz.func263 (by kernel_rfl) rfl args w
  · exact run_enter9 Tryz.func263 (by kernel_rfl) rfl args w
  · exact run_enter9 Tryz.func315 (by kernel_rfl) rfl args w
  · exact run_enter9 Tryz.func337 (by kernel_rfl) rfl args w
  · omega
theorem meResize {k : Nat} (hk : k < 5) (p : Addr) (w : World) : (Go.method 494 (tC k) (.pointer (some p)) "Resize").run Tryz.prog w = .ok (fResize k, .pointer (some p)) w := by
  rcases k with _ | _ | _ | _ | _ | k
  · show (Go.method 494 215 (.pointer (some p)) "Resize").run Tryz.prog w = .ok (249, .pointer (some p)) w; kernel_rfl
  · show (Go.method 494 217 (.pointer (some p)) "Resize").run Tryz.prog w = .ok (263, .pointer (some p)) w; kernel_rfl
  · show (Go.method 494 217 (.pointer (some p)) "Resize").run Tryz.prog w = .ok (263, .pointer (some p)) w; kernel_rfl
  · show (Go.method 494 219 (.pointer (some p)) "Resize").run Tryz.prog w = .ok (315, .pointer (some p)) w; kernel_rfl
  · show (Go.method 494 221 (.pointer (some p)) "Resize").run Tryz.prog w = .ok (337, .pointer (some p)) w; kernel_rfl
  · omega
theorem naResize {k : Nat} (hk : k < 5) (p : Addr) (w : World) : (Go.nilAhead 494 (tC k) (.pointer (some p)) "Resize").run Tryz.prog w = .ok (some false) w := by
  rcases k with _ | _ | _ | _ | _ | k
  · show (Go.nilAhead 494 215 (.pointer (some p)) "Resize").run Tryz.prog w = .ok (some false) w; kernel_rfl
  · show (Go.nilAhead 494 217 (.pointer (some p)) "Resize").run Tryz.prog w = .ok (some false) w; kernel_rfl
  · show (Go.nilAhead 494 217 (.pointer (some p)) "Resize").run Tryz.prog w = .ok (some false) w; kernel_rfl
  · show (Go.nilAhead 494 219 (.pointer (some p)) "Resize").run Tryz.prog w = .ok (some false) w; kernel_rfl
  · show (Go.nilAhead 494 221 (.pointer (some p)) "Resize").run Tryz.prog w = .ok (some false) w; kernel_rfl
  · omega
theorem cfKeys {k : Nat} (hk : k < 5) (args : Array Value) (w : World) : (callFunc (fKeys k) args).run Tryz.prog w = .ok (.enter (fKeys k) args) w := by
  rcases k with _ | _ | _ | _ | _ | k
  · exact run_enter9 Tryz.func245 (by kernel_rfl) rfl args w
  · exact run_enter9 Tryz.func259 (by kernel_rfl) rfl args w
  · exact run_enter9 Tryz.func259 (by kernel_rfl) rfl args w
  · exact run_enter9 Tryz.func311 (by kernel_rfl) rfl args w
  · exact run_enter9 Tryz.func333 (by kernel_rfl) rfl args w
  · omega
theorem meKeys {k : Nat} (hk : k < 5) (p : Addr) (w : World) : (Go.method 494 (tC k) (.pointer (some p)) "Keys").run Tryz.prog w = .ok (fKeys k, .pointer (some p)) w := by
  rcases k with _ | _ | _ | _ | _ | k
  · show (Go.method 494 215 (.pointer (some p)) "Keys").run Tryz.prog w = .ok (245, .pointer (some p)) w; kernel_rfl
  · show (Go.method 494 217 (.pointer (some p)) "Keys").run Tryz.prog w = .ok (259, .pointer (some p)) w; kernel_rfl
  · show (Go.method 494 217 (.pointer (some p)) "Keys").run Tryz.prog w = .ok (259, .pointer (some p)) w; kernel_rfl
  · show (Go.method 494 219 (.pointer (some p)) "Keys").run Tryz.prog w = .ok (311, .pointer (some p)) w; kernel_rfl
  · show (Go.method 494 221 (.pointer (some p)) "Keys").run Tryz.prog w = .ok (333, .pointer (some p)) w; kernel_rfl
  · omega
theorem naKeys {k : Nat} (hk : k < 5) (p : Addr) (w : World) : (Go.nilAhead 494 (tC k) (.pointer (some p)) "Keys").run Tryz.prog w = .ok (some false) w := by
  rcases k with _ | _ | _ | _ | _ | k
  · show (Go.nilAhead 494 215 (.pointer (some p)) "Keys").run Tryz.prog w = .ok (some false) w; kernel_rfl
  · show (Go.nilAhead 494 217 (.pointer (some p)) "Keys").run Tryz.prog w = .ok (some false) w; kernel_rfl
  · show (Go.nilAhead 494 217 (.pointer (some p)) "Keys").run Tryz.prog w = .ok (some false) w; kernel_rfl
  · show (Go.nilAhead 494 219 (.pointer (some p)) "Keys").run Tryz.prog w = .ok (some false) w; kernel_rfl
  · show (Go.nilAhead 494 221 (.pointer (some p)) "Keys").run Tryz.prog w = .ok (some false) w; kernel_rfl
  · omega
theorem cfGhosts {k : Nat} (hk : k < 5) (args : Array Value) (w : World) : (callFunc (fGhosts k) args).run Tryz.prog w = .ok (.enter (fGhosts k) args) w := by
  rcases k with _ | _ | _ | _ | _ | k
  · exact run_enter9 Tryz.func243 (by kernel_rfl) rfl args w
  · exact run_enter9 Tryz.func257 (by kernel_rfl) rfl args w
  · exact run_enter9 Tryz.func257 (by kernel_rfl) rfl args w
  · exact run_enter9 Tryz.func309 (by kernel_rfl) rfl args w
  · exact run_enter9 Tryz.func331 (by kernel_rfl) rfl args w
  · omega
theorem meGhosts {k : Nat} (hk : k < 5) (p : Addr) (w : World) : (Go.method 494 (tC k) (.pointer (some p)) "Ghosts").run Tryz.prog w = .ok (fGhosts k, .pointer (some p)) w := by
  rcases k with _ | _ | _ | _ | _ | k
  · show (Go.method 494 215 (.pointer (some p)) "Ghosts").run Tryz.prog w = .ok (243, .pointer (some p)) w; kernel_rfl
  · show (Go.method 494 217 (.pointer (some p)) "Ghosts").run Tryz.prog w = .ok (257, .pointer (some p)) w; kernel_rfl
  · show (Go.method 494 217 (.pointer (some p)) "Ghosts").run Tryz.prog w = .ok (257, .pointer (some p)) w; kernel_rfl
  · show (Go.method 494 219 (.pointer (some p)) "Ghosts").run Tryz.prog w = .ok (309, .pointer (some p)) w; kernel_rfl
  · show (Go.method 494 221 (.pointer (some p)) "Ghosts").run Tryz.prog w = .ok (331, .pointer (some p)) w; kernel_rfl
  · omega
theorem naGhosts {k : Nat} (hk : k < 5) (p : Addr) (w : World) : (Go.nilAhead 494 (tC k) (.pointer (some p)) "Ghosts").run Tryz.prog w = .ok (some false) w := by
  rcases k with _ | _ | _ | _ | _ | k
  · show (Go.nilAhead 494 215 (.pointer (some p)) "Ghosts").run Tryz.prog w = .ok (some false) w; kernel_rfl
  · show (Go.nilAhead 494 217 (.pointer (some p)) "Ghosts").run Tryz.prog w = .ok (some false) w; kernel_rfl
  · show (Go.nilAhead 494 217 (.pointer (some p)) "Ghosts").run Tryz.prog w = .ok (some false) w; kernel_rfl
  · show (Go.nilAhead 494 219 (.pointer (some p)) "Ghosts").run Tryz.prog w = .ok (some false) w; kernel_rfl
  · show (Go.nilAhead 494 221 (.pointer (some p)) "Ghosts").run Tryz.prog w = .ok (some false) w; kernel_rfl
  · omega
end Go.Proofs.YtnlckkahkghneaaGreatDoor
