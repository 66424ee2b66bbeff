/- What the calls of a cache of any kind leave is right again (as plain lists). -/
import Derived.Test.YtnlckkahkghneaaGreatDoorKf
namespace Go.Proofs.YtnlckkahkghneaaGreatDoor
open Sg

section
variable {ch : Bool} {mo n : Nat} {L : List (LF.Ht.Ent ByteArray)}
theorem lf_put_ok (o : LF.Ht.Once L n) (f : LF.Lf.Fit ch L n) (s : LF.Ht.Srt L) (k : ByteArray) :
    LF.Ht.Once (LF.Lf.put ch n L k) (n + 1) ∧ LF.Lf.Fit ch (LF.Lf.put ch n L k) (n + 1) ∧ LF.Ht.Srt (LF.Lf.put ch n L k) := by
  refine ⟨LF.Lf.put_once o k, LF.Lf.put_fit f k, ?_⟩
  unfold LF.Lf.put
  refine LF.Ht.ins_srt _ _ (LF.Ht.rem_srt s k) fun x hx => ?_
  have := o.le x (LF.Ht.mem_rem.1 hx).1
  show x.set ≠ n + 1
  omega
theorem lf_sub_ok {L' : List (LF.Ht.Ent ByteArray)} (o : LF.Ht.Once L n) (f : LF.Lf.Fit ch L n) (s : LF.Ht.Srt L) (h : L'.Sublist L) : LF.Ht.Once L' n ∧ LF.Lf.Fit ch L' n ∧ LF.Ht.Srt L' :=
  ⟨LF.Lf.once_sub o h, LF.Lf.fit_sub f fun _ he => h.subset he, List.Pairwise.sublist h s⟩
end
namespace KSt
variable {st : KSt}
theorem ok_req (h : st.Ok) (k : ByteArray) : (st.req k).Ok := by
  cases st with
  | lr mo ks => exact ⟨reqK_nodup k h.1, reqK_le mo ks k⟩
  | lf ch mo n L =>
    obtain ⟨o, hl, f, s⟩ := h
    show LF.Ht.Once (LF.Lf.reqL ch mo n L k) (LF.Lf.reqN mo n) ∧ (LF.Lf.reqL ch mo n L k).length ≤ mo ∧ LF.Lf.Fit ch (LF.Lf.reqL ch mo n L k) (LF.Lf.reqN mo n) ∧ LF.Ht.Srt (LF.Lf.reqL ch mo n L k)
    unfold LF.Lf.reqL LF.Lf.reqN
    by_cases hm : mo = 0
    · rw [if_pos hm, if_pos hm]; exact ⟨o, hl, f, s⟩
    · rw [if_neg hm, if_neg hm]
      by_cases hi : LF.Lf.isIn L k = true
      · rw [if_pos hi]
        obtain ⟨a, b, c⟩ := lf_put_ok (ch := ch) o f s k
        refine ⟨a, ?_, b, c⟩
        rw [LF.Lf.put_len, LF.Lf.rem_len o hi]; exact hl
      · rw [if_neg hi]
        obtain ⟨o', f', s'⟩ := lf_sub_ok (ch := ch) o f s (List.drop_sublist (L.length + 1 - mo) L)
        obtain ⟨a, b, c⟩ := lf_put_ok (ch := ch) o' f' s' k
        refine ⟨a, ?_, b, c⟩
        rw [LF.Lf.put_len]
        have := LF.Lf.rem_le (L.drop (L.length + 1 - mo)) k
        rw [List.length_drop] at this
        omega
  | sr s => exact SR.Ok.req h k
  | ar s => exact AR.Ok.req h k
theorem ok_rm (h : st.Ok) (k : ByteArray) : (st.rm k).Ok := by
  cases st with
  | lr mo ks => exact ⟨rem_nodup h.1, Nat.le_trans (rem_le ks k) h.2⟩
  | lf ch mo n L =>
    obtain ⟨o, hl, f, s⟩ := h
    obtain ⟨o', f', s'⟩ := lf_sub_ok (ch := ch) (L' := LF.Ht.rem L k) o f s List.filter_sublist
    exact ⟨o', Nat.le_trans (LF.Lf.rem_le L k) hl, f', s'⟩
  | sr s => exact SR.Ok.rm h k
  | ar s => exact AR.Ok.rm h k
theorem ok_ad (h : st.Ok) (k : ByteArray) : (st.ad k).Ok := by
  cases st with
  | lr mo ks =>
    show (LR.adK mo ks k).Nodup ∧ (LR.adK mo ks k).length ≤ mo
    unfold LR.adK
    by_cases hb : LR.adB mo ks k = true
    · rw [if_pos hb]
      unfold LR.adB at hb
      rw [Bool.and_eq_true, decide_eq_true_eq] at hb
      refine ⟨snoc_nodup k h.1, ?_⟩
      have := rem_le ks k
      rw [List.length_append, List.length_singleton]; omega
    · rw [if_neg hb]; exact h
  | lf ch mo n L =>
    obtain ⟨o, hl, f, s⟩ := h
    show LF.Ht.Once (LF.Lf.adL ch mo n L k) (LF.Lf.adN mo n L k) ∧ (LF.Lf.adL ch mo n L k).length ≤ mo ∧ LF.Lf.Fit ch (LF.Lf.adL ch mo n L k) (LF.Lf.adN mo n L k) ∧ LF.Ht.Srt (LF.Lf.adL ch mo n L k)
    unfold LF.Lf.adL LF.Lf.adN
    by_cases hb : LF.Lf.adB mo L k = true
    · rw [if_pos hb, if_pos hb]
      obtain ⟨a, b, c⟩ := lf_put_ok (ch := ch) o f s k
      unfold LF.Lf.adB at hb
      rw [Bool.and_eq_true, decide_eq_true_eq] at hb
      refine ⟨a, ?_, b, c⟩
      have := LF.Lf.rem_le L k
      rw [LF.Lf.put_len]; omega
    · rw [if_neg hb, if_neg hb]; exact ⟨o, hl, f, s⟩
  | sr s => exact SR.Ok.ad h k
  | ar s => exact AR.Ok.ad h k
theorem ok_dr (h : st.Ok) : st.dr.Ok := by
  cases st with
  | lr mo ks => exact ⟨h.1.sublist (List.tail_sublist ks), by have := h.2; show ks.tail.length ≤ mo; rw [List.length_tail]; omega⟩
  | lf ch mo n L =>
    obtain ⟨o, hl, f, s⟩ := h
    obtain ⟨o', f', s'⟩ := lf_sub_ok (ch := ch) o f s (List.tail_sublist L)
    exact ⟨o', by rw [List.length_tail]; omega, f', s'⟩
  | sr s => exact SR.Ok.dr h
  | ar s => exact AR.Ok.dr h
theorem ok_rs (h : st.Ok) (m : Nat) : (st.rs m).Ok := by
  cases st with
  | lr mo ks => exact ⟨h.1.sublist (lastN_sub m ks), by show (lastN m ks).length ≤ m; rw [lastN_len]; omega⟩
  | lf ch mo n L =>
    obtain ⟨o, hl, f, s⟩ := h
    obtain ⟨o', f', s'⟩ := lf_sub_ok (ch := ch) o f s (List.drop_sublist (L.length - m) L)
    exact ⟨o', by rw [List.length_drop]; omega, f', s'⟩
  | sr s => exact SR.Ok.rs h m
  | ar s => exact AR.Ok.rs h m
theorem ok_start (kind m : Nat) : (start kind m).Ok := by
  have lf : ∀ ch, (KSt.lf ch m 0 []).Ok := fun ch => ⟨⟨List.nodup_nil, List.nodup_nil, (fun e he => by cases he)⟩, Nat.zero_le _, ⟨(fun e he => by cases he), (fun e he => by cases he)⟩, List.Pairwise.nil⟩
  rcases kind with _ | _ | _ | _ | kind
  · exact ⟨List.nodup_nil, Nat.zero_le _⟩
  · exact lf false
  · exact lf true
  · exact SR.ok_start m
  · exact AR.ok_start m
end KSt
end Go.Proofs.YtnlckkahkghneaaGreatDoor
