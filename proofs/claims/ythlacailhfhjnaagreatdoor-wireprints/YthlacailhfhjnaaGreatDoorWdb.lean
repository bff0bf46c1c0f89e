import Derived.Test.YthlacailhfhjnaaGreatDoorWda
import Derived.Lib.ItoaLen
namespace Go.Proofs.YthlacailhfhjnaaGreatDoor
open Go.RowKit Go.Lib
theorem hln_len (f : Fl) : (hln f).length = f.1.length + f.2.length + 4 := by simp [hln]; omega
def hsum : List Fl → Nat
  | [] => 0
  | f :: l => f.1.length + f.2.length + 4 + hsum l
theorem hlns_len (hs : List Fl) : (hlns hs).length = hsum hs := by
  induction hs with
  | nil => rfl
  | cons f l ih =>
    have e : hlns (f :: l) = hln f ++ hlns l := by simp [hlns]
    rw [e, List.length_append, ih, hln_len]
    rfl
theorem hlns_take (hs : List Fl) (k : Nat) (h : k < hs.length) : hlns (hs.take (k + 1)) = hlns (hs.take k) ++ hln (hs.getD k fl0) := by
  have e : hs.getD k fl0 = hs[k] := by simp [h]
  rw [List.take_succ_eq_append_getElem h, e]
  unfold hlns
  rw [List.flatMap_append]
  simp
theorem hlns_le (hs : List Fl) (k : Nat) : (hlns (hs.take k)).length ≤ (hlns hs).length := by
  have e : hlns hs = hlns (hs.take k) ++ hlns (hs.drop k) := by
    unfold hlns
    rw [← List.flatMap_append, List.take_append_drop]
  rw [e, List.length_append]
  omega
theorem kept_at {b T : Nat} {W W' : World} (o : OthersKept 5 (some b) W W') {f : Nat} {cs : Array Value} (h : W.heap[f]? = some (.cells cs T (0, 0))) (hf : f ≠ b) (hT : T ≠ 5) : W'.heap[f]? = some (.cells cs T (0, 0)) :=
  o f _ h (fun e => hf (Option.some.inj e)) (fun _ _ e => by simp at e; exact absurd e.2.1 hT)
theorem Bd.keep {B b : Nat} {acc : Bs} {W W' : World} (h : Bd B b acc W) (k : Below W.heap.size W W') : Bd B b acc W' := by
  have hh : ∀ (i : Nat) (o : Obj), W.heap[i]? = some o → W'.heap[i]? = some o := fun i o e => by
    rw [k.block i (Array.getElem?_eq_some_iff.1 e).1]
    exact e
  have key : ∀ p, BuilderAtF 122 5 B b p (byteCells acc) W → BuilderAtF 122 5 B b p (byteCells acc) W' := by
    rintro p ⟨hB, v, hb, hown, hne⟩
    refine ⟨hB, v, hh _ _ hb, ⟨hown.1, ?_⟩, hne⟩
    rcases hown.2 with hn | ⟨g, cap, cur, fz, hv, hbg, hg, rest⟩
    · exact .inl hn
    · exact .inr ⟨g, cap, cur, fz, hv, hbg, hh _ _ hg, rest⟩
  exact h.elim (fun x => .inl (key _ x)) (fun x => .inr (key _ x))
theorem bd_below {B b : Nat} {l : Bs} {w w' : World} (h : Bd B b l w) (hb : Below w.heap.size w w') : Bd B b l w' := h.keep hb
theorem itoa_len (n : Nat) (h : n ≤ 1000000000000) : (decDigits n).length ≤ 100 := by
  have := itoa_length_le (n : Int) (by omega) (by omega)
  rw [itoa_nonneg] at this
  omega
theorem write_eq (B b : Nat) (acc s : Bs) (X : ByteArray) (hX : X = ⟨s.toArray⟩) (w : World) (h : Bd B b acc w) (hl : acc.length + s.length ≤ 140737488355328) (hB : B ≤ w.heap.size) :
    Calls Tryz.prog 91 #[(.pointer (some ⟨b, 0, none⟩) : Value), .string X] w fun e w' => e = .returned (.tuple #[.int .i64 s.length, .nilIface]) ∧ Bd B b (acc ++ s) w' ∧ Below B w w' ∧ OthersKept 5 (some b) w w' := by
  subst hX
  exact write_any B b acc s w h hl hB
set_option maxHeartbeats 8000000 in
set_option maxRecDepth 8000 in
theorem lay_any {B : Nat} (first : Bs) (a : Option Addr) (n cap : Nat) (hs : List Fl) (b : Bs) (w : World) (hp : Fls w a n hs) (hE : Env B w) (h1 : first.length ≤ 1000000000000) (h2 : (hlns hs).length ≤ 1000000000000) (h3 : b.length ≤ 1000000000000) (hn : n ≤ 1000000000000) :
    Calls Tryz.prog 65 #[S first, .slice a n cap, S b] w fun e w' => e = .returned (S (lay first hs b)) ∧ Below w.heap.size w w' := by
  have hb0 : Below w.heap.size w (w.alloc (.cells #[.pointer none, .slice none 0 0] 122)) := (Below.refl _ w).alloc (Nat.le_refl _) _
  have HB := hide (show Bd w.heap.size w.heap.size [] (w.alloc (.cells #[.pointer none, .slice none 0 0] 122)) from IsBuilderF.of (fresh_isBuilder 122 5 w))
  have HB0 := hide hb0
  have HP := hide hp
  have HN := hide hp.1
  have HE := hide hE.mono
  have hz0 : w.heap.size ≤ (w.alloc (.cells #[.pointer none, .slice none 0 0] 122)).heap.size := by simp
  clear hp hE hb0
  go_enter Tryz.func65, Tryz.ntmps65
  go_wp2_with fail
  refine (write_eq w.heap.size w.heap.size [] (first ++ [13, 10]) _ (ba_append first [13, 10]) _ (unhide HB) (by simp; omega) hz0).mono ?_
  rintro e w1 ⟨rfl, q1, q2, _⟩
  have HB1 := hide (show Bd w.heap.size w.heap.size (first ++ [13, 10]) w1 from q1)
  have HW1 := hide ((unhide HB0).trans q2)
  have hz1 : w.heap.size < w1.heap.size := by have := q2.size; simp at this; omega
  clear q1 q2 HB HB0 hz0
  go_wp2
  go_loopw [15] (fun i wr => ∃ k : Nat, k ≤ n ∧ i = .int .i64 k ∧ Bd w.heap.size w.heap.size (first ++ [13, 10] ++ hlns (hs.take k)) wr ∧ Below w.heap.size w wr ∧ w.heap.size < wr.heap.size) (fun i _ => n - (Go.RowKit.intOf i).toNat)
  case atStart => exact ⟨0, by omega, rfl, by simpa [hlns] using unhide HB1, unhide HW1, hz1⟩
  case round =>
    obtain ⟨k, hk, rfl, hbd, hbr, hsz⟩ := hrel
    clear HB1 HW1 hz1
    have hle := hlns_le hs k
    have hlO : (first ++ [13, 10] ++ hlns (hs.take k)).length = first.length + 2 + (hlns (hs.take k)).length := by simp; omega
    by_cases hlt : k < n
    · obtain ⟨p, o, rfl, hpl, hc0, hc1⟩ := ((unhide HP).below hbr).at hlt
      have hta := hlns_take hs k (by have := unhide HN; omega)
      have hl2 := hlns_le hs (k + 1)
      rw [hta, List.length_append] at hl2
      have HTA := hide (show first ++ [13, 10] ++ hlns (hs.take (k + 1)) = (first ++ [13, 10] ++ hlns (hs.take k)) ++ hln (hs.getD k fl0) by rw [hta]; simp)
      have hll := hln_len (hs.getD k fl0)
      generalize hs.getD k fl0 = F at *
      obtain ⟨fn, fv⟩ := F
      simp only at hc0 hc1 hll
      have hlt' : (k : Int) < (n : Int) := by omega
      have hE0 := hide (hbr.alloc (o := Obj.cells #[S fn, S fv] 35) (by omega))
      have hI0 := hide (show Bd w.heap.size w.heap.size _ _ from IsBuilderF.alloc hbd (.cells #[S fn, S fv] 35))
      have hs0 : w.heap.size ≤ (wr.alloc (.cells #[S fn, S fv] 35)).heap.size := by simp; omega
      have HX := hide (show (((ByteArray.mk fn.toArray ++ ByteArray.mk #[58, 32]) ++ ByteArray.mk fv.toArray) ++ ByteArray.mk #[13, 10]) = ⟨(hln (fn, fv)).toArray⟩ from by
        show (((ByteArray.mk fn.toArray ++ ByteArray.mk [58, 32].toArray) ++ ByteArray.mk fv.toArray) ++ ByteArray.mk [13, 10].toArray) = _
        rw [ba_append, ba_append, ba_append]
        simp [hln])
      generalize first ++ [13, 10] ++ hlns (hs.take k) = ACC at *
      clear hbd hbr hta
      go_wp2_with fail
      refine (write_eq w.heap.size w.heap.size ACC (hln (fn, fv)) _ (unhide HX) _ (unhide hI0) (by omega) hs0).mono ?_
      rintro e w2 ⟨rfl, q1, q2, _⟩
      have HB2 := hide q1
      have HW2 := hide ((unhide hE0).trans q2)
      have hz2 : w.heap.size < w2.heap.size := by have := q2.size; simp at this; omega
      clear q1 q2
      go_wp2
      refine ⟨⟨k + 1, by omega, by go_num, by rw [unhide HTA]; exact unhide HB2, unhide HW2, hz2⟩, ?_⟩
      simp [Go.RowKit.intOf]; omega
    · have hd : decide (k < n) = false := by simp; omega
      have e : hs.take k = hs := List.take_of_length_le (by have := unhide HN; omega)
      rw [e] at hbd hlO
      have HL := hide (show lay first hs b = (((first ++ [13, 10] ++ hlns hs) ++ hln (CL, decDigits b.length)) ++ [13, 10]) ++ b by simp [lay])
      generalize first ++ [13, 10] ++ hlns hs = ACC at *
      have HBD := hide hbd
      have HBR := hide hbr
      have HIT := hide (itoa_any b.length wr ((unhide HE).below hbr) (by omega))
      have HDL := hide (itoa_len b.length (by omega))
      have HX := hide (show ((ByteArray.mk #[67, 111, 110, 116, 101, 110, 116, 45, 76, 101, 110, 103, 116, 104, 58, 32] ++ ByteArray.mk (decDigits b.length).toArray) ++ ByteArray.mk #[13, 10]) = ⟨(hln (CL, decDigits b.length)).toArray⟩ from by
        show ((ByteArray.mk [67, 111, 110, 116, 101, 110, 116, 45, 76, 101, 110, 103, 116, 104, 58, 32].toArray ++ ByteArray.mk (decDigits b.length).toArray) ++ ByteArray.mk [13, 10].toArray) = _
        rw [ba_append, ba_append]
        simp [hln, CL])
      have hll := hln_len (CL, decDigits b.length)
      have hcl : CL.length = 14 := rfl
      simp only at hll
      have hdl := unhide HDL
      clear hbd hbr e HDL
      generalize hln (CL, decDigits b.length) = HLN at *
      generalize decDigits b.length = DD at *
      go_wp2_with fail
      refine (unhide HIT).mono ?_
      rintro e w2 ⟨rfl, b2⟩
      have HB2 := hide (show Bd w.heap.size w.heap.size ACC w2 from bd_below (unhide HBD) b2)
      have HW2 := hide ((unhide HBR).trans (b2.mono (by omega)))
      have hz2 : w.heap.size < w2.heap.size := by have := b2.size; omega
      clear b2 HIT HBD HBR
      go_wp2_with fail
      refine (write_eq w.heap.size w.heap.size ACC HLN _ (unhide HX) _ (unhide HB2) (by omega) (by omega)).mono ?_
      rintro e w3 ⟨rfl, q1, q2, _⟩
      have HB3 := hide q1
      have HW3 := hide ((unhide HW2).trans q2)
      have hz3 : w.heap.size < w3.heap.size := by have := q2.size; omega
      have hl3 : (ACC ++ HLN).length = ACC.length + HLN.length := by simp
      clear q1 q2 HB2 HW2
      generalize ACC ++ HLN = A3 at *
      go_wp2_with fail
      refine (write_eq w.heap.size w.heap.size A3 [13, 10] _ rfl _ (unhide HB3) (by simp; omega) (by omega)).mono ?_
      rintro e w4 ⟨rfl, q1, q2, _⟩
      have HB4 := hide q1
      have HW4 := hide ((unhide HW3).trans q2)
      have hz4 : w.heap.size < w4.heap.size := by have := q2.size; omega
      have hl4 : (A3 ++ [13, 10]).length = A3.length + 2 := by simp
      clear q1 q2 HB3 HW3
      generalize A3 ++ [13, 10] = A4 at *
      go_wp2_with fail
      refine (write_any w.heap.size w.heap.size A4 b _ (unhide HB4) (by omega) (by omega)).mono ?_
      rintro e w5 ⟨rfl, q1, q2, _⟩
      have HB5 := hide q1
      have HW5 := hide ((unhide HW4).trans q2)
      have hz5 : w.heap.size < w5.heap.size := by have := q2.size; omega
      clear q1 q2 HB4 HW4
      go_wp2_with fail
      refine (Tryz.Builder_String_any_k w.heap.size w.heap.size (A4 ++ b) w5 (unhide HB5) (by omega)).mono ?_
      rintro e w6 ⟨rfl, _, k2, _⟩
      go_wp2
      go_ret
      exact ⟨by rw [unhide HL]; rfl, (unhide HW5).trans k2⟩
end Go.Proofs.YthlacailhfhjnaaGreatDoor
