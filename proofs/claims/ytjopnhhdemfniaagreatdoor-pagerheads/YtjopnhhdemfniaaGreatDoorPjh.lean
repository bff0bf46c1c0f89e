import Derived.Test.YtjopnhhdemfniaaGreatDoorPjc
import Derived.Test.YtjopnhhdemfniaaGreatDoorPjg
import Derived.Test.YtjopnhhdemfniaaGreatDoorZdetl
namespace Go.Proofs.YtjopnhhdemfniaaGreatDoor
open Go.RowKit
set_option maxHeartbeats 8000000
set_option maxRecDepth 8000
theorem info131s : (Tryz.prog.info? 131).map (·.size) = some 4 := by kernel_rfl
theorem wp_st131 {ops : Array Oper} {rest : List Oper} {o : Oper} {a : Act} {w : World} {Q : Exit → Act → World → Prop} (hgd : o.guard = none) (x y : Operand) (ho : o.op = .store 131 x y)
    (P : Nat) (hx : a.eval x = .pointer (some ⟨P, 0, none⟩)) (g r b : Int) (s : Bs) (hy : a.eval y = .agg #[I g, I r, I b, S s]) (old : Array Value) (ho5 : old.size = 4)
    (hg : w.heap[P]? = some (.cells old 131 (0, 0)))
    (h : wpList Tryz.prog ops Q rest (a.put o.dst undef) (w.setRow P #[I g, I r, I b, S s])) : wpList Tryz.prog ops Q (o :: rest) a w :=
  wpList_store_row hgd 131 x y ho P _ hx hy 131 old hg info131s (by rw [ho5]; rfl) (by simp [Value.oneCell']) h
theorem lv_row {T : TypeId} {n : Nat} (hA : ∀ w, (isAgg T).run Tryz.prog w = .ok true w) (hs : ∀ w, (sizeOf T).run Tryz.prog w = .ok n w) {w : World} {g : Nat} {cs : Array Value} {t : TypeId} {f : Nat × Nat} (hg : w.heap[g]? = some (.cells cs t f)) (hn : cs.size = n) : (loadVar T ⟨g, 0, none⟩).run Tryz.prog w = .ok (.agg cs) w := by
  have h := s_ldr hA hs (o := 0) hg cs.toList (by simpa using hn) (by rw [List.drop_zero, List.take_of_length_le (by simp [hn])])
  have e : (Instr.loadAt T (.pointer (some ⟨g, 0, none⟩))).run Tryz.prog w = (loadVar T ⟨g, 0, none⟩).run Tryz.prog w := by simp [Instr.loadAt, Instr.sureAddr]
  rw [← e, h]
/-- A struct in its cell and a word come out. -/
theorem out2c {T : TypeId} {n : Nat} (hA : ∀ w, (isAgg T).run Tryz.prog w = .ok true w) (hs : ∀ w, (sizeOf T).run Tryz.prog w = .ok n w) {fn : Func} {p q : Tmp} {W : World} {a : Act} {Z : Nat} {cs : Array Value} {t : TypeId} {v : Value} {Post : Ending → World → Prop} (hf : fn.results = #[.cell p T, .tmp q]) (hd : a.defers = []) (ht : a.tmps.getD p undef = .pointer (some ⟨Z, 0, none⟩)) (hv : a.tmps.getD q undef = v) (h : W.heap[Z]? = some (.cells cs t (0, 0))) (hn : cs.size = n) (hp : Post (.returned (.tuple #[.agg cs, v])) W) : bodyPost Tryz.prog fn Post .ret a W := by
  subst hv
  refine bodyPost_ret ?_ hd hp
  have ht' : a.tmps[p]?.getD undef = .pointer (some ⟨Z, 0, none⟩) := by simpa using ht
  simp only [results, hf]
  simp [ht', asAddr, lv_row hA hs h hn]
theorem rPrintHead_any (h : Hd) (w : World) : Calls Tryz.prog 21 #[I h.gen, I h.root, I h.blocks, S h.note] w fun e w' => e = .returned (.tuple #[S (prh h).1, I (prh h).2]) ∧ Below w.heap.size w w' := by
  have hg := heap_alloc_new w (.cells #[I 0, I 0, I 0, .string ⟨#[]⟩] 131)
  have HG := hide hg
  have hr := setRow_row (vs := #[I h.gen, I h.root, I h.blocks, S h.note]) hg
  have HR := hide hr
  have HB := hide (belowR (((Below.refl w.heap.size w).alloc (Nat.le_refl _) (.cells #[I 0, I 0, I 0, .string ⟨#[]⟩] 131))) (Nat.le_refl _) #[I h.gen, I h.root, I h.blocks, S h.note])
  have HM := hide (rmay_any h ((w.alloc (.cells #[I 0, I 0, I 0, .string ⟨#[]⟩] 131)).setRow w.heap.size #[I h.gen, I h.root, I h.blocks, S h.note]))
  clear hg hr
  cases hm : h.may
  · rw [hm] at HM
    have HP := hide (show prh h = ([], 1) by unfold prh; rw [if_neg (by rw [hm]; exact Bool.false_ne_true)])
    clear hm
    obtain ⟨g, r, b, x⟩ := h
    unfold hda at HM
    simp only at HM HR HB ⊢
    go_enter Tryz.func21, Tryz.ntmps21
    go_wp2_with (refine wp_st131 rfl (.tmp 10) (.tmp 16) rfl w.heap.size (by rfl) g r b x (by rfl) _ rfl (unhide HG) ?_; obtain ⟨e0, e1, e2, e3⟩ := rbox4 (unhide HR) (Below.refl _ _) (lt_of_row (unhide HR)); generalize (w.alloc (.cells #[I 0, I 0, I 0, .string ⟨#[]⟩] 131)).setRow w.heap.size #[I g, I r, I b, S x] = W2 at *)
    refine (unhide HM).mono ?_
    rintro e w3 ⟨rfl, q3⟩
    have HQ := hide q3
    clear q3
    go_wp2
    refine bodyPost_ret (v := .tuple #[S [], I 1]) (by simp [results, Tryz.results21, go_sem]) rfl ?_
    exact ⟨by rw [unhide HP], (unhide HB).trans ((unhide HQ).mono (unhide HB).size)⟩
  · rw [hm] at HM
    have HP := hide (show prh h = (h.blk, 0) by unfold prh; rw [if_pos hm])
    have HS := hide (Hd.blk_sec (Hd.may_note hm))
    have HSL := hide (Hd.sec_len (Hd.may_note hm))
    have H1 := hide (fun W => rsector_any h W hm)
    have H2 := hide (fun W => noughts_any 448 W (by omega))
    clear hm
    generalize h.blk = BL at *
    generalize h.sec = SC at *
    obtain ⟨g, r, b, x⟩ := h
    unfold hda at HM H1
    simp only at HM HR HB H1 ⊢
    go_enter Tryz.func21, Tryz.ntmps21
    go_wp2_with (refine wp_st131 rfl (.tmp 10) (.tmp 16) rfl w.heap.size (by rfl) g r b x (by rfl) _ rfl (unhide HG) ?_; obtain ⟨e0, e1, e2, e3⟩ := rbox4 (unhide HR) (Below.refl _ _) (lt_of_row (unhide HR)); generalize (w.alloc (.cells #[I 0, I 0, I 0, .string ⟨#[]⟩] 131)).setRow w.heap.size #[I g, I r, I b, S x] = W2 at *)
    refine (unhide HM).mono ?_
    rintro e w3 ⟨rfl, q3⟩
    obtain ⟨d0, d1, d2, d3⟩ := rbox4 (unhide HR) q3 (lt_of_row (unhide HR))
    have HQ := hide q3
    clear q3 e0 e1 e2 e3
    go_wp2_with fail
    refine (unhide H1 _).mono ?_
    rintro e w4 ⟨rfl, q4⟩
    have HQ4 := hide q4
    clear q4
    have c1 : ¬ 9223372036854775807 < SC.length + 448 := by have := unhide HSL; omega
    go_wp2_with fail
    refine (unhide H2 _).mono ?_
    rintro e w5 ⟨rfl, q5⟩
    have HQ5 := hide q5
    clear q5
    go_wp2
    refine bodyPost_ret (v := .tuple #[S (SC ++ List.replicate 448 0), I 0]) ?_ rfl ?_
    · simp [results, Tryz.results21, go_sem]
      apply ByteArray.ext
      simp [ByteArray.data_append]
    · have b1 := (unhide HB).trans ((unhide HQ).mono (unhide HB).size)
      have b2 := b1.trans ((unhide HQ4).mono b1.size)
      exact ⟨by rw [unhide HP, unhide HS], b2.trans ((unhide HQ5).mono b2.size)⟩
end Go.Proofs.YtjopnhhdemfniaaGreatDoor
