/- What the laws of layer 9 ask of a cache of any kind, off the facts of its calls. -/
import Derived.Test.YtnlckkahkghneaaGreatDoorKf
namespace Go.Proofs.YtnlckkahkghneaaGreatDoor
open Sg

namespace KSt
variable {st : KSt}
theorem tell_hit (h : st.Ok) (hm : st.mo ≠ 0) {k : ByteArray} (hk : k ∈ st.keys) : st.tell k = (true, ⟨#[]⟩, false) := by
  have f := req_f h hm k
  have h1 : (st.tell k).1 = true := f.hitE.trans (inn_iff.2 hk)
  have h3 : (st.tell k).2.2 = false := f.outE.trans (by rw [inn_iff.2 hk]; rfl)
  have h2 := f.non h3
  exact Prod.ext h1 (Prod.ext h2 h3)
theorem tell_room (h : st.Ok) (hm : st.mo ≠ 0) {k : ByteArray} (hk : k ∉ st.keys) (hr : st.keys.length < st.mo) : st.tell k = (false, ⟨#[]⟩, false) := by
  have f := req_f h hm k
  have h1 : (st.tell k).1 = false := f.hitE.trans (inn_no.2 hk)
  have h3 : (st.tell k).2.2 = false := f.outE.trans (by rw [decide_eq_false (by omega), Bool.and_false])
  have h2 := f.non h3
  exact Prod.ext h1 (Prod.ext h2 h3)
theorem req_len (h : st.Ok) (hm : st.mo ≠ 0) (k : ByteArray) : (st.req k).keys.length = if (inn st.keys k || decide (st.mo ≤ st.keys.length)) = true then st.keys.length else st.keys.length + 1 := by
  have f := req_f h hm k
  have h0 := f.len
  rw [f.hitE, f.outE] at h0
  rw [h0]
  cases inn st.keys k with
  | true => rfl
  | false =>
    by_cases hr : st.mo ≤ st.keys.length
    · rw [decide_eq_true hr]; rfl
    · rw [decide_eq_false hr]; rfl
theorem req_old (h : st.Ok) (k : ByteArray) : ∀ x ∈ (st.req k).keys, x ∈ st.keys ∨ x = k := by
  by_cases hm : st.mo = 0
  · intro x hx
    rw [(req_zero h hm k).2.1] at hx
    cases hx
  · exact (req_f h hm k).old
/-- The laws' first calls: a, a, b, c of a policy that has room for two. -/
theorem wake {s0 s1 s2 s3 s4 : KSt} {a b c : ByteArray} (e1 : s1 = s0.req a) (e2 : s2 = s1.req a) (e3 : s3 = s2.req b) (e4 : s4 = s3.req c)
    (h0 : s0.Ok) (h1 : s1.Ok) (h2 : s2.Ok) (h3 : s3.Ok) (h4 : s4.Ok) (m0 : s0.mo = 2) (k0 : s0.keys = []) (hab : b ≠ a) (hca : c ≠ a) (hcb : c ≠ b) :
    s0.tell a = (false, ⟨#[]⟩, false) ∧ s1.tell a = (true, ⟨#[]⟩, false) ∧ (s3.tell c).2.2 = true ∧ s4.keys.length = 2 ∧ s4.has c = true ∧ s4.any = true ∧ s4.has s4.vic = true ∧ s4.mo = 2 := by
  have m1 : s1.mo = 2 := by rw [e1, mo_req]; exact m0
  have m2 : s2.mo = 2 := by rw [e2, mo_req]; exact m1
  have m3 : s3.mo = 2 := by rw [e3, mo_req]; exact m2
  have m4 : s4.mo = 2 := by rw [e4, mo_req]; exact m3
  have f1 := req_f h0 (by omega) a
  have f2 := req_f h1 (by omega) a
  have f3 := req_f h2 (by omega) b
  have f4 := req_f h3 (by omega) c
  rw [← e1] at f1
  rw [← e2] at f2
  rw [← e3] at f3
  rw [← e4] at f4
  have l1 := req_len h0 (by omega) a
  have l2 := req_len h1 (by omega) a
  have l3 := req_len h2 (by omega) b
  have l4 := req_len h3 (by omega) c
  rw [← e1, k0, if_neg (by rw [m0]; simp [inn])] at l1
  rw [← e2, inn_iff.2 f1.has, Bool.true_or, if_pos rfl] at l2
  have o1 : ∀ x ∈ s1.keys, x = a := fun x hx => by
    rcases f1.old x hx with h | h
    · rw [k0] at h; cases h
    · exact h
  have o2 : ∀ x ∈ s2.keys, x = a := fun x hx => (f2.old x hx).elim (o1 x) id
  have o3 : ∀ x ∈ s3.keys, x = a ∨ x = b := fun x hx => (f3.old x hx).imp (o2 x) id
  have l1' : s1.keys.length = 1 := l1
  have l2' : s2.keys.length = 1 := by omega
  rw [← e3, inn_no.2 (fun e => hab (o2 b e)), decide_eq_false (by omega)] at l3
  have l3' : s3.keys.length = 2 := by rw [l3, if_neg (by decide)]; omega
  have hc : c ∉ s3.keys := fun e => (o3 c e).elim hca hcb
  rw [← e4, decide_eq_true (by omega), Bool.or_true, if_pos rfl] at l4
  have d4 := dr_f h4
  have n4 : s4.keys.isEmpty = false := by
    rw [List.isEmpty_eq_false_iff]
    exact List.ne_nil_of_mem f4.has
  have a4 : s4.any = true := by rw [d4.okE, n4]; rfl
  refine ⟨tell_room h0 (by omega) (by rw [k0]; simp) (by rw [k0, m0]; simp), tell_hit h1 (by omega) f1.has, ?_, by omega, inn_iff.2 f4.has, a4, inn_iff.2 (d4.vic a4), m4⟩
  rw [f4.outE, inn_no.2 hc, decide_eq_true (by omega)]; rfl
end KSt
end Go.Proofs.YtnlckkahkghneaaGreatDoor
