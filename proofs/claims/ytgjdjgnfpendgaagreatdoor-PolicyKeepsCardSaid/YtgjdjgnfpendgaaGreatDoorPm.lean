/- A policy's calls are method values of its cache behind an interface: which function each is, by kind. -/
import Derived.Test.YtgjdjgnfpendgaaGreatDoorKv
namespace Go.Proofs.YtgjdjgnfpendgaaGreatDoor
open Go.RowKit Sg
/-- The type of the pointer to a kind's cache. -/
def tC : Nat → Nat | 0 => 143 | 3 => 147 | 4 => 149 | _ => 145
/-- A kind's cache as an interface value. -/
def cI (kind c : Nat) : Value := .iface (tC kind) (.pointer (some ⟨c, 0, none⟩))
/-- A method value of it. -/
def mV (kind c : Nat) (n : String) : Value := .func (.method n) #[cI kind c] #[]
theorem run_enter9 {P : Program} {f : FuncId} {fn : Func} {c : Code} (hf : P.funcs[f]? = some fn) (hname : (fn.name == "runtime.NumGoroutine") = false) (hb : fn.body = some c) (args : Array Value) (w : World) :
    (callFunc f args).run P w = .ok (.enter f args) w := by
  have h1 : fn.name ≠ "runtime.NumGoroutine" := by simpa using hname
  simp [callFunc, hf, h1, hb]
theorem cfHas {k : Nat} (hk : k < 5) (args : Array Value) (w : World) : (callFunc (fHas k) args).run Tryz.prog w = .ok (.enter (fHas k) args) w := by
  rcases k with _ | _ | _ | _ | _ | k
  · exact run_enter9 Tryz.func136 (by kernel_rfl) rfl args w
  · exact run_enter9 Tryz.func162 (by kernel_rfl) rfl args w
  · exact run_enter9 Tryz.func162 (by kernel_rfl) rfl args w
  · exact run_enter9 Tryz.func215 (by kernel_rfl) rfl args w
  · exact run_enter9 Tryz.func237 (by kernel_rfl) rfl args w
  · omega
theorem meHas {k : Nat} (hk : k < 5) (p : Addr) (w : World) : (Go.method 415 (tC k) (.pointer (some p)) "Has").run Tryz.prog w = .ok (fHas k, .pointer (some p)) w := by
  rcases k with _ | _ | _ | _ | _ | k
  · show (Go.method 415 143 (.pointer (some p)) "Has").run Tryz.prog w = .ok (136, .pointer (some p)) w; kernel_rfl
  · show (Go.method 415 145 (.pointer (some p)) "Has").run Tryz.prog w = .ok (162, .pointer (some p)) w; kernel_rfl
  · show (Go.method 415 145 (.pointer (some p)) "Has").run Tryz.prog w = .ok (162, .pointer (some p)) w; kernel_rfl
  · show (Go.method 415 147 (.pointer (some p)) "Has").run Tryz.prog w = .ok (215, .pointer (some p)) w; kernel_rfl
  · show (Go.method 415 149 (.pointer (some p)) "Has").run Tryz.prog w = .ok (237, .pointer (some p)) w; kernel_rfl
  · omega
theorem naHas {k : Nat} (hk : k < 5) (p : Addr) (w : World) : (Go.nilAhead 415 (tC k) (.pointer (some p)) "Has").run Tryz.prog w = .ok (some false) w := by
  rcases k with _ | _ | _ | _ | _ | k
  · show (Go.nilAhead 415 143 (.pointer (some p)) "Has").run Tryz.prog w = .ok (some false) w; kernel_rfl
  · show (Go.nilAhead 415 145 (.pointer (some p)) "Has").run Tryz.prog w = .ok (some false) w; kernel_rfl
  · show (Go.nilAhead 415 145 (.pointer (some p)) "Has").run Tryz.prog w = .ok (some false) w; kernel_rfl
  · show (Go.nilAhead 415 147 (.pointer (some p)) "Has").run Tryz.prog w = .ok (some false) w; kernel_rfl
  · show (Go.nilAhead 415 149 (.pointer (some p)) "Has").run Tryz.prog w = .ok (some false) w; kernel_rfl
  · omega
theorem cfLen {k : Nat} (hk : k < 5) (args : Array Value) (w : World) : (callFunc (fLen k) args).run Tryz.prog w = .ok (.enter (fLen k) args) w := by
  rcases k with _ | _ | _ | _ | _ | k
  · exact run_enter9 Tryz.func138 (by kernel_rfl) rfl args w
  · exact run_enter9 Tryz.func164 (by kernel_rfl) rfl args w
  · exact run_enter9 Tryz.func164 (by kernel_rfl) rfl args w
  · exact run_enter9 Tryz.func217 (by kernel_rfl) rfl args w
  · exact run_enter9 Tryz.func239 (by kernel_rfl) rfl args w
  · omega
theorem meLen {k : Nat} (hk : k < 5) (p : Addr) (w : World) : (Go.method 415 (tC k) (.pointer (some p)) "Len").run Tryz.prog w = .ok (fLen k, .pointer (some p)) w := by
  rcases k with _ | _ | _ | _ | _ | k
  · show (Go.method 415 143 (.pointer (some p)) "Len").run Tryz.prog w = .ok (138, .pointer (some p)) w; kernel_rfl
  · show (Go.method 415 145 (.pointer (some p)) "Len").run Tryz.prog w = .ok (164, .pointer (some p)) w; kernel_rfl
  · show (Go.method 415 145 (.pointer (some p)) "Len").run Tryz.prog w = .ok (164, .pointer (some p)) w; kernel_rfl
  · show (Go.method 415 147 (.pointer (some p)) "Len").run Tryz.prog w = .ok (217, .pointer (some p)) w; kernel_rfl
  · show (Go.method 415 149 (.pointer (some p)) "Len").run Tryz.prog w = .ok (239, .pointer (some p)) w; kernel_rfl
  · omega
theorem naLen {k : Nat} (hk : k < 5) (p : Addr) (w : World) : (Go.nilAhead 415 (tC k) (.pointer (some p)) "Len").run Tryz.prog w = .ok (some false) w := by
  rcases k with _ | _ | _ | _ | _ | k
  · show (Go.nilAhead 415 143 (.pointer (some p)) "Len").run Tryz.prog w = .ok (some false) w; kernel_rfl
  · show (Go.nilAhead 415 145 (.pointer (some p)) "Len").run Tryz.prog w = .ok (some false) w; kernel_rfl
  · show (Go.nilAhead 415 145 (.pointer (some p)) "Len").run Tryz.prog w = .ok (some false) w; kernel_rfl
  · show (Go.nilAhead 415 147 (.pointer (some p)) "Len").run Tryz.prog w = .ok (some false) w; kernel_rfl
  · show (Go.nilAhead 415 149 (.pointer (some p)) "Len").run Tryz.prog w = .ok (some false) w; kernel_rfl
  · omega
theorem cfRequest {k : Nat} (hk : k < 5) (args : Array Value) (w : World) : (callFunc (fRequest k) args).run Tryz.prog w = .ok (.enter (fRequest k) args) w := by
  rcases k with _ | _ | _ | _ | _ | k
  · exact run_enter9 Tryz.func140 (by kernel_rfl) rfl args w
  · exact run_enter9 Tryz.func166 (by kernel_rfl) rfl args w
  · exact run_enter9 Tryz.func166 (by kernel_rfl) rfl args w
  · exact run_enter9 Tryz.func219 (by kernel_rfl) rfl args w
  · exact run_enter9 Tryz.func241 (by kernel_rfl) rfl args w
  · omega
theorem meRequest {k : Nat} (hk : k < 5) (p : Addr) (w : World) : (Go.method 415 (tC k) (.pointer (some p)) "Request").run Tryz.prog w = .ok (fRequest k, .pointer (some p)) w := by
  rcases k with _ | _ | _ | _ | _ | k
  · show (Go.method 415 143 (.pointer (some p)) "Request").run Tryz.prog w = .ok (140, .pointer (some p)) w; kernel_rfl
  · show (Go.method 415 145 (.pointer (some p)) "Request").run Tryz.prog w = .ok (166, .pointer (some p)) w; kernel_rfl
  · show (Go.method 415 145 (.pointer (some p)) "Request").run Tryz.prog w = .ok (166, .pointer (some p)) w; kernel_rfl
  · show (Go.method 415 147 (.pointer (some p)) "Request").run Tryz.prog w = .ok (219, .pointer (some p)) w; kernel_rfl
  · show (Go.method 415 149 (.pointer (some p)) "Request").run Tryz.prog w = .ok (241, .pointer (some p)) w; kernel_rfl
  · omega
theorem naRequest {k : Nat} (hk : k < 5) (p : Addr) (w : World) : (Go.nilAhead 415 (tC k) (.pointer (some p)) "Request").run Tryz.prog w = .ok (some false) w := by
  rcases k with _ | _ | _ | _ | _ | k
  · show (Go.nilAhead 415 143 (.pointer (some p)) "Request").run Tryz.prog w = .ok (some false) w; kernel_rfl
  · show (Go.nilAhead 415 145 (.pointer (some p)) "Request").run Tryz.prog w = .ok (some false) w; kernel_rfl
  · show (Go.nilAhead 415 145 (.pointer (some p)) "Request").run Tryz.prog w = .ok (some false) w; kernel_rfl
  · show (Go.nilAhead 415 147 (.pointer (some p)) "Request").run Tryz.prog w = .ok (some false) w; kernel_rfl
  · show (Go.nilAhead 415 149 (.pointer (some p)) "Request").run Tryz.prog w = .ok (some false) w; kernel_rfl
  · omega
theorem cfRemove {k : Nat} (hk : k < 5) (args : Array Value) (w : World) : (callFunc (fRemove k) args).run Tryz.prog w = .ok (.enter (fRemove k) args) w := by
  rcases k with _ | _ | _ | _ | _ | k
  · exact run_enter9 Tryz.func139 (by kernel_rfl) rfl args w
  · exact run_enter9 Tryz.func165 (by kernel_rfl) rfl args w
  · exact run_enter9 Tryz.func165 (by kernel_rfl) rfl args w
  · exact run_enter9 Tryz.func218 (by kernel_rfl) rfl args w
  · exact run_enter9 Tryz.func240 (by kernel_rfl) rfl args w
  · omega
theorem meRemove {k : Nat} (hk : k < 5) (p : Addr) (w : World) : (Go.method 415 (tC k) (.pointer (some p)) "Remove").run Tryz.prog w = .ok (fRemove k, .pointer (some p)) w := by
  rcases k with _ | _ | _ | _ | _ | k
  · show (Go.method 415 143 (.pointer (some p)) "Remove").run Tryz.prog w = .ok (139, .pointer (some p)) w; kernel_rfl
  · show (Go.method 415 145 (.pointer (some p)) "Remove").run Tryz.prog w = .ok (165, .pointer (some p)) w; kernel_rfl
  · show (Go.method 415 145 (.pointer (some p)) "Remove").run Tryz.prog w = .ok (165, .pointer (some p)) w; kernel_rfl
  · show (Go.method 415 147 (.pointer (some p)) "Remove").run Tryz.prog w = .ok (218, .pointer (some p)) w; kernel_rfl
  · show (Go.method 415 149 (.pointer (some p)) "Remove").run Tryz.prog w = .ok (240, .pointer (some p)) w; kernel_rfl
  · omega
theorem naRemove {k : Nat} (hk : k < 5) (p : Addr) (w : World) : (Go.nilAhead 415 (tC k) (.pointer (some p)) "Remove").run Tryz.prog w = .ok (some false) w := by
  rcases k with _ | _ | _ | _ | _ | k
  · show (Go.nilAhead 415 143 (.pointer (some p)) "Remove").run Tryz.prog w = .ok (some false) w; kernel_rfl
  · show (Go.nilAhead 415 145 (.pointer (some p)) "Remove").run Tryz.prog w = .ok (some false) w; kernel_rfl
  · show (Go.nilAhead 415 145 (.pointer (some p)) "Remove").run Tryz.prog w = .ok (some false) w; kernel_rfl
  · show (Go.nilAhead 415 147 (.pointer (some p)) "Remove").run Tryz.prog w = .ok (some false) w; kernel_rfl
  · show (Go.nilAhead 415 149 (.pointer (some p)) "Remove").run Tryz.prog w = .ok (some false) w; kernel_rfl
  · omega
theorem cfAdopt {k : Nat} (hk : k < 5) (args : Array Value) (w : World) : (callFunc (fAdopt k) args).run Tryz.prog w = .ok (.enter (fAdopt k) args) w := by
  rcases k with _ | _ | _ | _ | _ | k
  · exact run_enter9 Tryz.func133 (by kernel_rfl) rfl args w
  · exact run_enter9 Tryz.func159 (by kernel_rfl) rfl args w
  · exact run_enter9 Tryz.func159 (by kernel_rfl) rfl args w
  · exact run_enter9 Tryz.func212 (by kernel_rfl) rfl args w
  · exact run_enter9 Tryz.func234 (by kernel_rfl) rfl args w
  · omega
theorem meAdopt {k : Nat} (hk : k < 5) (p : Addr) (w : World) : (Go.method 415 (tC k) (.pointer (some p)) "Adopt").run Tryz.prog w = .ok (fAdopt k, .pointer (some p)) w := by
  rcases k with _ | _ | _ | _ | _ | k
  · show (Go.method 415 143 (.pointer (some p)) "Adopt").run Tryz.prog w = .ok (133, .pointer (some p)) w; kernel_rfl
  · show (Go.method 415 145 (.pointer (some p)) "Adopt").run Tryz.prog w = .ok (159, .pointer (some p)) w; kernel_rfl
  · show (Go.method 415 145 (.pointer (some p)) "Adopt").run Tryz.prog w = .ok (159, .pointer (some p)) w; kernel_rfl
  · show (Go.method 415 147 (.pointer (some p)) "Adopt").run Tryz.prog w = .ok (212, .pointer (some p)) w; kernel_rfl
  · show (Go.method 415 149 (.pointer (some p)) "Adopt").run Tryz.prog w = .ok (234, .pointer (some p)) w; kernel_rfl
  · omega
theorem naAdopt {k : Nat} (hk : k < 5) (p : Addr) (w : World) : (Go.nilAhead 415 (tC k) (.pointer (some p)) "Adopt").run Tryz.prog w = .ok (some false) w := by
  rcases k with _ | _ | _ | _ | _ | k
  · show (Go.nilAhead 415 143 (.pointer (some p)) "Adopt").run Tryz.prog w = .ok (some false) w; kernel_rfl
  · show (Go.nilAhead 415 145 (.pointer (some p)) "Adopt").run Tryz.prog w = .ok (some false) w; kernel_rfl
  · show (Go.nilAhead 415 145 (.pointer (some p)) "Adopt").run Tryz.prog w = .ok (some false) w; kernel_rfl
  · show (Go.nilAhead 415 147 (.pointer (some p)) "Adopt").run Tryz.prog w = .ok (some false) w; kernel_rfl
  · show (Go.nilAhead 415 149 (.pointer (some p)) "Adopt").run Tryz.prog w = .ok (some false) w; kernel_rfl
  · omega
theorem cfVictim {k : Nat} (hk : k < 5) (args : Array Value) (w : World) : (callFunc (fVictim k) args).run Tryz.prog w = .ok (.enter (fVictim k) args) w := by
  rcases k with _ | _ | _ | _ | _ | k
  · exact run_enter9 Tryz.func142 (by kernel_rfl) rfl args w
  · exact run_enter9 Tryz.func168 (by kernel_rfl) rfl args w
  · exact run_enter9 Tryz.func168 (by kernel_rfl) rfl args w
  · exact run_enter9 Tryz.func221 (by kernel_rfl) rfl args w
  · exact run_enter9 Tryz.func243 (by kernel_rfl) rfl args w
  · omega
theorem meVictim {k : Nat} (hk : k < 5) (p : Addr) (w : World) : (Go.method 415 (tC k) (.pointer (some p)) "Victim").run Tryz.prog w = .ok (fVictim k, .pointer (some p)) w := by
  rcases k with _ | _ | _ | _ | _ | k
  · show (Go.method 415 143 (.pointer (some p)) "Victim").run Tryz.prog w = .ok (142, .pointer (some p)) w; kernel_rfl
  · show (Go.method 415 145 (.pointer (some p)) "Victim").run Tryz.prog w = .ok (168, .pointer (some p)) w; kernel_rfl
  · show (Go.method 415 145 (.pointer (some p)) "Victim").run Tryz.prog w = .ok (168, .pointer (some p)) w; kernel_rfl
  · show (Go.method 415 147 (.pointer (some p)) "Victim").run Tryz.prog w = .ok (221, .pointer (some p)) w; kernel_rfl
  · show (Go.method 415 149 (.pointer (some p)) "Victim").run Tryz.prog w = .ok (243, .pointer (some p)) w; kernel_rfl
  · omega
theorem naVictim {k : Nat} (hk : k < 5) (p : Addr) (w : World) : (Go.nilAhead 415 (tC k) (.pointer (some p)) "Victim").run Tryz.prog w = .ok (some false) w := by
  rcases k with _ | _ | _ | _ | _ | k
  · show (Go.nilAhead 415 143 (.pointer (some p)) "Victim").run Tryz.prog w = .ok (some false) w; kernel_rfl
  · show (Go.nilAhead 415 145 (.pointer (some p)) "Victim").run Tryz.prog w = .ok (some false) w; kernel_rfl
  · show (Go.nilAhead 415 145 (.pointer (some p)) "Victim").run Tryz.prog w = .ok (some false) w; kernel_rfl
  · show (Go.nilAhead 415 147 (.pointer (some p)) "Victim").run Tryz.prog w = .ok (some false) w; kernel_rfl
  · show (Go.nilAhead 415 149 (.pointer (some p)) "Victim").run Tryz.prog w = .ok (some false) w; kernel_rfl
  · omega
theorem cfDrop {k : Nat} (hk : k < 5) (args : Array Value) (w : World) : (callFunc (fDrop k) args).run Tryz.prog w = .ok (.enter (fDrop k) args) w := by
  rcases k with _ | _ | _ | _ | _ | k
  · exact run_enter9 Tryz.func134 (by kernel_rfl) rfl args w
  · exact run_enter9 Tryz.func160 (by kernel_rfl) rfl args w
  · exact run_enter9 Tryz.func160 (by kernel_rfl) rfl args w
  · exact run_enter9 Tryz.func213 (by kernel_rfl) rfl args w
  · exact run_enter9 Tryz.func235 (by kernel_rfl) rfl args w
  · omega
theorem meDrop {k : Nat} (hk : k < 5) (p : Addr) (w : World) : (Go.method 415 (tC k) (.pointer (some p)) "Drop").run Tryz.prog w = .ok (fDrop k, .pointer (some p)) w := by
  rcases k with _ | _ | _ | _ | _ | k
  · show (Go.method 415 143 (.pointer (some p)) "Drop").run Tryz.prog w = .ok (134, .pointer (some p)) w; kernel_rfl
  · show (Go.method 415 145 (.pointer (some p)) "Drop").run Tryz.prog w = .ok (160, .pointer (some p)) w; kernel_rfl
  · show (Go.method 415 145 (.pointer (some p)) "Drop").run Tryz.prog w = .ok (160, .pointer (some p)) w; kernel_rfl
  · show (Go.method 415 147 (.pointer (some p)) "Drop").run Tryz.prog w = .ok (213, .pointer (some p)) w; kernel_rfl
  · show (Go.method 415 149 (.pointer (some p)) "Drop").run Tryz.prog w = .ok (235, .pointer (some p)) w; kernel_rfl
  · omega
theorem naDrop {k : Nat} (hk : k < 5) (p : Addr) (w : World) : (Go.nilAhead 415 (tC k) (.pointer (some p)) "Drop").run Tryz.prog w = .ok (some false) w := by
  rcases k with _ | _ | _ | _ | _ | k
  · show (Go.nilAhead 415 143 (.pointer (some p)) "Drop").run Tryz.prog w = .ok (some false) w; kernel_rfl
  · show (Go.nilAhead 415 145 (.pointer (some p)) "Drop").run Tryz.prog w = .ok (some false) w; kernel_rfl
  · show (Go.nilAhead 415 145 (.pointer (some p)) "Drop").run Tryz.prog w = .ok (some false) w; kernel_rfl
  · show (Go.nilAhead 415 147 (.pointer (some p)) "Drop").run Tryz.prog w = .ok (some false) w; kernel_rfl
  · show (Go.nilAhead 415 149 (.pointer (some p)) "Drop").run Tryz.prog w = .ok (some false) w; kernel_rfl
  · omega
theorem cfResize {k : Nat} (hk : k < 5) (args : Array Value) (w : World) : (callFunc (fResize k) args).run Tryz.prog w = .ok (.enter (fResize k) args) w := by
  rcases k with _ | _ | _ | _ | _ | k
  · exact run_enter9 Tryz.func141 (by kernel_rfl) rfl args w
  · exact run_enter9 Tryz.func167 (by kernel_rfl) rfl args w
  · exact run_enter9 Tryz.func167 (by kernel_rfl) rfl args w
  · exact run_enter9 Tryz.func220 (by kernel_rfl) rfl args w
  · exact run_enter9 Tryz.func242 (by kernel_rfl) rfl args w
  · omega
theorem meResize {k : Nat} (hk : k < 5) (p : Addr) (w : World) : (Go.method 415 (tC k) (.pointer (some p)) "Resize").run Tryz.prog w = .ok (fResize k, .pointer (some p)) w := by
  rcases k with _ | _ | _ | _ | _ | k
  · show (Go.method 415 143 (.pointer (some p)) "Resize").run Tryz.prog w = .ok (141, .pointer (some p)) w; kernel_rfl
  · show (Go.method 415 145 (.pointer (some p)) "Resize").run Tryz.prog w = .ok (167, .pointer (some p)) w; kernel_rfl
  · show (Go.method 415 145 (.pointer (some p)) "Resize").run Tryz.prog w = .ok (167, .pointer (some p)) w; kernel_rfl
  · show (Go.method 415 147 (.pointer (some p)) "Resize").run Tryz.prog w = .ok (220, .pointer (some p)) w; kernel_rfl
  · show (Go.method 415 149 (.pointer (some p)) "Resize").run Tryz.prog w = .ok (242, .pointer (some p)) w; kernel_rfl
  · omega
theorem naResize {k : Nat} (hk : k < 5) (p : Addr) (w : World) : (Go.nilAhead 415 (tC k) (.pointer (some p)) "Resize").run Tryz.prog w = .ok (some false) w := by
  rcases k with _ | _ | _ | _ | _ | k
  · show (Go.nilAhead 415 143 (.pointer (some p)) "Resize").run Tryz.prog w = .ok (some false) w; kernel_rfl
  · show (Go.nilAhead 415 145 (.pointer (some p)) "Resize").run Tryz.prog w = .ok (some false) w; kernel_rfl
  · show (Go.nilAhead 415 145 (.pointer (some p)) "Resize").run Tryz.prog w = .ok (some false) w; kernel_rfl
  · show (Go.nilAhead 415 147 (.pointer (some p)) "Resize").run Tryz.prog w = .ok (some false) w; kernel_rfl
  · show (Go.nilAhead 415 149 (.pointer (some p)) "Resize").run Tryz.prog w = .ok (some false) w; kernel_rfl
  · omega
theorem cfKeys {k : Nat} (hk : k < 5) (args : Array Value) (w : World) : (callFunc (fKeys k) args).run Tryz.prog w = .ok (.enter (fKeys k) args) w := by
  rcases k with _ | _ | _ | _ | _ | k
  · exact run_enter9 Tryz.func137 (by kernel_rfl) rfl args w
  · exact run_enter9 Tryz.func163 (by kernel_rfl) rfl args w
  · exact run_enter9 Tryz.func163 (by kernel_rfl) rfl args w
  · exact run_enter9 Tryz.func216 (by kernel_rfl) rfl args w
  · exact run_enter9 Tryz.func238 (by kernel_rfl) rfl args w
  · omega
theorem meKeys {k : Nat} (hk : k < 5) (p : Addr) (w : World) : (Go.method 415 (tC k) (.pointer (some p)) "Keys").run Tryz.prog w = .ok (fKeys k, .pointer (some p)) w := by
  rcases k with _ | _ | _ | _ | _ | k
  · show (Go.method 415 143 (.pointer (some p)) "Keys").run Tryz.prog w = .ok (137, .pointer (some p)) w; kernel_rfl
  · show (Go.method 415 145 (.pointer (some p)) "Keys").run Tryz.prog w = .ok (163, .pointer (some p)) w; kernel_rfl
  · show (Go.method 415 145 (.pointer (some p)) "Keys").run Tryz.prog w = .ok (163, .pointer (some p)) w; kernel_rfl
  · show (Go.method 415 147 (.pointer (some p)) "Keys").run Tryz.prog w = .ok (216, .pointer (some p)) w; kernel_rfl
  · show (Go.method 415 149 (.pointer (some p)) "Keys").run Tryz.prog w = .ok (238, .pointer (some p)) w; kernel_rfl
  · omega
theorem naKeys {k : Nat} (hk : k < 5) (p : Addr) (w : World) : (Go.nilAhead 415 (tC k) (.pointer (some p)) "Keys").run Tryz.prog w = .ok (some false) w := by
  rcases k with _ | _ | _ | _ | _ | k
  · show (Go.nilAhead 415 143 (.pointer (some p)) "Keys").run Tryz.prog w = .ok (some false) w; kernel_rfl
  · show (Go.nilAhead 415 145 (.pointer (some p)) "Keys").run Tryz.prog w = .ok (some false) w; kernel_rfl
  · show (Go.nilAhead 415 145 (.pointer (some p)) "Keys").run Tryz.prog w = .ok (some false) w; kernel_rfl
  · show (Go.nilAhead 415 147 (.pointer (some p)) "Keys").run Tryz.prog w = .ok (some false) w; kernel_rfl
  · show (Go.nilAhead 415 149 (.pointer (some p)) "Keys").run Tryz.prog w = .ok (some false) w; kernel_rfl
  · omega
theorem cfGhosts {k : Nat} (hk : k < 5) (args : Array Value) (w : World) : (callFunc (fGhosts k) args).run Tryz.prog w = .ok (.enter (fGhosts k) args) w := by
  rcases k with _ | _ | _ | _ | _ | k
  · exact run_enter9 Tryz.func135 (by kernel_rfl) rfl args w
  · exact run_enter9 Tryz.func161 (by kernel_rfl) rfl args w
  · exact run_enter9 Tryz.func161 (by kernel_rfl) rfl args w
  · exact run_enter9 Tryz.func214 (by kernel_rfl) rfl args w
  · exact run_enter9 Tryz.func236 (by kernel_rfl) rfl args w
  · omega
theorem meGhosts {k : Nat} (hk : k < 5) (p : Addr) (w : World) : (Go.method 415 (tC k) (.pointer (some p)) "Ghosts").run Tryz.prog w = .ok (fGhosts k, .pointer (some p)) w := by
  rcases k with _ | _ | _ | _ | _ | k
  · show (Go.method 415 143 (.pointer (some p)) "Ghosts").run Tryz.prog w = .ok (135, .pointer (some p)) w; kernel_rfl
  · show (Go.method 415 145 (.pointer (some p)) "Ghosts").run Tryz.prog w = .ok (161, .pointer (some p)) w; kernel_rfl
  · show (Go.method 415 145 (.pointer (some p)) "Ghosts").run Tryz.prog w = .ok (161, .pointer (some p)) w; kernel_rfl
  · show (Go.method 415 147 (.pointer (some p)) "Ghosts").run Tryz.prog w = .ok (214, .pointer (some p)) w; kernel_rfl
  · show (Go.method 415 149 (.pointer (some p)) "Ghosts").run Tryz.prog w = .ok (236, .pointer (some p)) w; kernel_rfl
  · omega
theorem naGhosts {k : Nat} (hk : k < 5) (p : Addr) (w : World) : (Go.nilAhead 415 (tC k) (.pointer (some p)) "Ghosts").run Tryz.prog w = .ok (some false) w := by
  rcases k with _ | _ | _ | _ | _ | k
  · show (Go.nilAhead 415 143 (.pointer (some p)) "Ghosts").run Tryz.prog w = .ok (some false) w; kernel_rfl
  · show (Go.nilAhead 415 145 (.pointer (some p)) "Ghosts").run Tryz.prog w = .ok (some false) w; kernel_rfl
  · show (Go.nilAhead 415 145 (.pointer (some p)) "Ghosts").run Tryz.prog w = .ok (some false) w; kernel_rfl
  · show (Go.nilAhead 415 147 (.pointer (some p)) "Ghosts").run Tryz.prog w = .ok (some false) w; kernel_rfl
  · show (Go.nilAhead 415 149 (.pointer (some p)) "Ghosts").run Tryz.prog w = .ok (some false) w; kernel_rfl
  · omega
end Go.Proofs.YtgjdjgnfpendgaaGreatDoor
