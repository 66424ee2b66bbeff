/- Results that are kept in a variable: a rank. -/
import Derived.Test.YtdbfojolocelaaaHc
namespace Go.Proofs.Ytdbfojolocelaaa
open Go.RowKit Ht Go.Maps Go.WideMaps

/-- A rank read out of a variable. -/
theorem loadR (w : World) (b : Nat) (r1 r2 : Value) (h0 : w.cell? ⟨b, 0, none⟩ = some r1) (h1 : w.cell? ⟨b, 1, none⟩ = some r2) : (loadVar 73 ⟨b, 0, none⟩).run Try.prog w = .ok (.agg #[r1, r2]) w := by
  have a1 := Try.isAgg73
  have z1 := Try.sizeOf73
  unfold loadVar
  go_simp
theorem results_cell1 {fn : Func} {a u : Tmp} {ty : TypeId} (h : fn.results = #[.cell a ty, .tmp u]) (tmps : Array Value) (P : Program) (w : World) (p : Addr) (v : Value) (ha : tmps.getD a undef = .pointer (some p)) (hv : (loadVar ty p).run P w = .ok v w) :
    (results fn tmps).run P w = .ok (.tuple #[v, tmps.getD u undef]) w := by
  rw [Array.getD_eq_getD_getElem?] at ha
  simp [results, h, ha, asAddr, hv]
theorem results_cell2 {fn : Func} {a u z : Tmp} {ty : TypeId} (h : fn.results = #[.tmp z, .cell a ty, .tmp u]) (tmps : Array Value) (P : Program) (w : World) (p : Addr) (v : Value) (ha : tmps.getD a undef = .pointer (some p)) (hv : (loadVar ty p).run P w = .ok v w) :
    (results fn tmps).run P w = .ok (.tuple #[tmps.getD z undef, v, tmps.getD u undef]) w := by
  rw [Array.getD_eq_getD_getElem?] at ha
  simp [results, h, ha, asAddr, hv]
end Go.Proofs.Ytdbfojolocelaaa
