import Derived.Test.YtjopnhhdemfniaaGreatDoorPjd
import Derived.Test.YtjopnhhdemfniaaGreatDoorReda
namespace Go.Proofs.YtjopnhhdemfniaaGreatDoor
open Go.RowKit Go.Lib
set_option maxHeartbeats 4000000
set_option maxRecDepth 8000
theorem wpList_bytesF {ops : Array Oper} {rest : List Oper} {o : Oper} {a : Act} {w : World} {Q : Exit → Act → World → Prop} (hgd : o.guard = none) (x : Operand) (ho : o.op = .convert 9 117 x)
    (s : List UInt8) (hx : a.eval x = .string ⟨s.toArray⟩)
    (h : ∀ w' cap, Bys w.heap.size 0 cap s w' → (∀ j, j < s.length → w'.frozen? ⟨w.heap.size, j, none⟩ = false) → Below w.heap.size w w' → wpList Tryz.prog ops Q rest (a.put o.dst (.slice (some ⟨w.heap.size, 0, none⟩) s.length cap)) w') : wpList Tryz.prog ops Q (o :: rest) a w := by
  refine wpList_plain hgd fun K hK => ?_
  have hrun := run_bytes_of_string (P := Tryz.prog) w 9 117 5 ⟨s.toArray⟩ Tryz.underlying9 Tryz.underlying117 Tryz.underlying5
  have hsz : (ByteArray.mk s.toArray).size = s.length := by simp [ByteArray.size]
  unfold Oper.wp execOp
  simp only [ho, hx, Sem.run_bind, hrun, Result.andThen_ok]
  rw [hsz]
  refine hK _ _ (h _ _ ⟨?_, ?_, ?_⟩ ?_ ?_)
  · intro j hj
    rw [Nat.zero_add]
    have e := World.cell?_alloc_mark w.drew (bytesRow ⟨s.toArray⟩ (grownCap w s.length 0 5)) 5 ((bytesRow ⟨s.toArray⟩ (grownCap w s.length 0 5)).size, (bytesRow ⟨s.toArray⟩ (grownCap w s.length 0 5)).size + 1) j
    refine e.trans ?_
    rw [bytesRow_at _ _ _ (by simpa using hj)]
    simp [hj]
  · exact grownCap_ge w s.length 0 5
  · simp
  · intro j hj
    have f := World.frozen?_alloc_mark w.drew (bytesRow ⟨s.toArray⟩ (grownCap w s.length 0 5)) 5 (bytesRow ⟨s.toArray⟩ (grownCap w s.length 0 5)).size ((bytesRow ⟨s.toArray⟩ (grownCap w s.length 0 5)).size + 1) j
    refine f.trans ?_
    have : s.length ≤ (bytesRow ⟨s.toArray⟩ (grownCap w s.length 0 5)).size := by simp [bytesRow, hsz]
    simp; omega
  · exact ((Below.refl _ _).drew).alloc (Nat.le_refl _) _
set_option maxRecDepth 8000 in
theorem bent_any (X : List UInt8) (at_ by_ : Int) (w : World) (h0 : -9223372036854775808 ≤ at_) (h1 : at_ ≤ 9223372036854775807) (hX : X.length ≤ 1000000000000) :
    Calls Tryz.prog 16 #[.string ⟨X.toArray⟩, .int .i64 at_, .int .i64 by_] w fun e w' => ∃ Y : List UInt8, e = .returned (.string ⟨Y.toArray⟩) ∧ Y.length = X.length ∧ Below w.heap.size w w' := by
  by_cases hn : X = []
  · subst hn
    go_enter Tryz.func16, Tryz.ntmps16
    go_wp2
    go_ret
    exact ⟨[], rfl, rfl, Below.refl _ _⟩
  · have hpos : 0 < X.length := List.length_pos_iff.2 hn
    have hne : X.isEmpty = false := by cases X; exact absurd rfl hn; rfl
    have hpk := pkv_lt at_ X.length hpos
    have HP := hide (fun W => pick_any at_ X.length W hpos (by omega) h0 h1)
    generalize pkv at_ X.length = k at *
    clear hn
    go_enter Tryz.func16, Tryz.ntmps16
    go_wp2_with (refine wpList_bytesF rfl (.tmp 11) rfl X (by rfl) ?_; intro w1 cap1 hb1 hf1 hbe1)
    refine (unhide HP w1).mono ?_
    rintro e w' ⟨rfl, rfl⟩
    have hc := hb1.cell k hpk
    rw [Nat.zero_add] at hc
    have hf := hf1 k hpk
    have hcap := hb1.cap
    have hlt := hb1.lt
    generalize hby : IntKind.u8.wrap by_ = c at *
    have hcr : 0 ≤ c ∧ c < 256 := by rw [← hby, IntKind.wrap_u8]; omega
    obtain ⟨d, hd⟩ : ∃ d : UInt8, c = (d.toNat : Int) := ⟨UInt8.ofNat c.toNat, by rw [UInt8.toNat_ofNat']; omega⟩
    subst hd
    have hx : (convert 117 9 (.slice (some ⟨w.heap.size, 0, none⟩) X.length cap1)).run Tryz.prog (w'.setCell ⟨w.heap.size, k, none⟩ (.int .u8 (d.toNat : Int))) = .ok (.string ⟨(X.set k d).toArray⟩) (w'.setCell ⟨w.heap.size, k, none⟩ (.int .u8 (d.toNat : Int))) := by
      refine run_text _ w.heap.size 0 X.length cap1 (X.set k d) (by simp) ?_
      intro j hj
      rw [Nat.zero_add]
      by_cases e : j = k
      · subst e
        rw [World.cell?_setCell_same _ _ _ hc]
        simp [hj]
      · rw [World.cell?_setCell_other (a := ⟨w.heap.size, k, none⟩) (b := ⟨w.heap.size, j, none⟩) (h := by intro q; injection q; omega)]
        have := hb1.cell j hj
        rw [Nat.zero_add] at this
        rw [this]
        have e2 : (X.set k d).getD j 0 = X.getD j 0 := by
          simp [show ¬ k = j by omega]
        rw [e2]
    have HX := hide hx
    clear hx hb1 hf1
    go_wp2_with (refine wpList_conv rfl 117 9 (.tmp 21) rfl _ _ (by rfl) (unhide HX) ?_)
    go_ret
    exact ⟨X.set k d, rfl, by simp, hbe1.setCell (Nat.le_refl _) _⟩
end Go.Proofs.YtjopnhhdemfniaaGreatDoor
