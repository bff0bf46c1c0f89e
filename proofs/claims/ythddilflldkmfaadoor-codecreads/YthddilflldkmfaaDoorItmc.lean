import Derived.Test.YthddilflldkmfaaDoorRgwa
namespace Go.Proofs.YthddilflldkmfaaDoor
open Go.RowKit Go.Lib
theorem ext_take0 (X : List UInt8) (b : Nat) : (ByteArray.mk X.toArray).extract 0 b = ⟨(X.take b).toArray⟩ := by
  apply ByteArray.ext
  apply Array.ext'
  simp [ByteArray.data_extract]
theorem cut_take (T : List UInt8) (q : Nat) (hq : min T.length 65535 = q) : T.take q = T.take 65535 := by
  by_cases h : T.length ≤ 65535
  · rw [List.take_of_length_le (by omega), List.take_of_length_le (by omega)]
  · rw [show q = 65535 by omega]
theorem Box.keep {g : Nat} {x : Raw} {w w' : World} {P : Nat → Prop} (h : Box g x w) (ho : Only P w w') (hg : ¬ P g) : Box g x w' := by
  have e : ∀ j, w'.cell? ⟨g, j, none⟩ = w.cell? ⟨g, j, none⟩ := fun j => World.cell?_of_block (ho.block g h.lt hg)
  exact ⟨(e 0).trans h.c0, (e 1).trans h.c1, (e 2).trans h.c2, (e 3).trans h.c3, (e 4).trans h.c4, Nat.lt_of_lt_of_le h.lt ho.size⟩
theorem WTo.then_below {b : Nat} {v : Value} {X2 : List UInt8} {E2 : Nat} {w w1 w2 : World} (h : WTo b v X2 E2 w w1) (hb : Below w1.heap.size w1 w2) : WTo b v X2 E2 w w2 := by
  obtain ⟨v', a, o, f⟩ := h
  exact ⟨v', a.below hb, o.trans (Only.of_below (P := fun _ => False) hb) (fun _ _ q => q.elim), f⟩
/-- What holds while a text is written: the world as it was, or the Writer behind it. -/
def WrW (b : Nat) (v : Value) (X' : List UInt8) (n : Nat) (w w1 : World) (L : Nat → Bool) (W : World) : Prop :=
  Only (foot b v) w1 W ∧ (L n = false → Below w1.heap.size w1 W) ∧ (L n = true → WTo b v X' 0 w W)
set_option maxHeartbeats 2000000 in
set_option maxRecDepth 8000 in
theorem writes1 (x : Raw) (b : Nat) (v : Value) (X : List UInt8) (w : World) (h : x.Fit) (hk : pk x.k 3 = 1) (hw : WAt b v X 0 w) (hX : X.length + 65538 ≤ 70368744177664) :
    Calls Tryd.prog 36 #[x.val, .pointer (some ⟨b, 0, none⟩)] w fun e w' => e = .returned (.tuple #[]) ∧ WTo b v (X ++ (be (ahd x.most) (x.t.take 65535).length ++ x.t.take 65535)) 0 w w' := by
  have HP := hide (fun W => pick_any x.k 3 W h.k.1 h.k.2 (by omega) (by omega))
  rw [hk] at HP
  have HM := hide (fun W => imost_any x W h)
  have hbox := Box.new w x
  have hal : Below w.heap.size w (w.alloc (.cells #[.int .i64 x.k, .int .i64 x.s, .int .i64 x.n, .int .i64 x.m, .string ⟨x.t.toArray⟩] 57)) := (Below.refl _ _).alloc (Nat.le_refl _) _
  have hnl := text_laid h
  have hll : (x.t.take 65535).length ≤ 65535 := by rw [List.length_take]; omega
  have HW := hide (fun W (hW : Below w.heap.size w W) => wtext_any b v X 0 x.most (x.t.take 65535) W (hw.below hW) (by omega))
  rw [hnl.1, hnl.2, wPut_ok] at HW
  have ht := h.t
  obtain ⟨q, hq⟩ : ∃ q, min x.t.length 65535 = q := ⟨_, rfl⟩
  have hm8 : Value.int .i64 (if (65535 : Int) < (x.t.length : Int) then 65535 else (x.t.length : Int)) = .int .i64 (q : Int) := by congr 1; split <;> omega
  have hs9 : q ≤ x.t.length ∧ x.t.length ≤ 9223372036854775807 := by omega
  rw [← cut_take x.t q hq] at HW ⊢
  have hgb : ¬ foot b v w.heap.size := by
    have h1 := lt_of_row hw.row
    rintro (e | e)
    · omega
    · have := ((World.ownsRowF_of hw.own).lt _ e).2
      omega
  have HG := hide hgb
  have H8 := hide hm8
  have H9 := hide hs9
  unfold Raw.val at HM ⊢
  clear hnl hw h hk hll hq hm8 hs9 hgb
  go_enter Tryd.func36, Tryd.ntmps36
  go_wp2_with fail
  refine (unhide HP _).mono ?_
  rintro e w1 ⟨rfl, rfl⟩
  have HBox := hide hbox
  have HAl := hide hal
  generalize w.alloc (.cells #[.int .i64 x.k, .int .i64 x.s, .int .i64 x.n, .int .i64 x.m, .string ⟨x.t.toArray⟩] 57) = w1 at *
  clear hal
  obtain ⟨b0, b1, b2, b3, b4, b5⟩ := hbox
  go_wp2_with fail
  refine rgw1 x b w.heap.size q rfl rfl rfl _ _ (show 32 ≤ 32 from by decide) rfl rfl (WrW b v (X ++ (be (ahd x.most) (x.t.take q).length ++ x.t.take q)) 10 w w1) ?h0 ?hp ?l1 ?c2 ?l4 ?l6 (unhide H8) (unhide H9) ?c10 ?_
  case h0 => exact ⟨Only.drew _ _, fun _ => (Below.refl _ _).drew, fun q => by cases q⟩
  case hp =>
    intro i hi L W hW
    have hne : i ≠ 10 := by intro e; subst e; simp at hi
    have e : upd L i 10 = L 10 := by simp [upd, Ne.symm hne]
    unfold WrW
    rw [e]
    exact hW
  case l1 => exact fun L W hW => (unhide HBox).keep hW.1 (unhide HG)
  case l4 => exact fun L W hW => ((unhide HBox).keep hW.1 (unhide HG)).c4
  case l6 => exact fun L W hW => ((unhide HBox).keep hW.1 (unhide HG)).c4
  case c2 =>
    intro L W hW _
    refine (unhide HM W).mono ?_
    rintro e w2 ⟨rfl, hb⟩
    refine ⟨rfl, hW.1.trans (Only.of_below (P := fun _ => False) hb) (fun _ _ q => q.elim), fun q => ?_, fun q => ?_⟩
    · have := hW.2.1 (by simpa [upd] using q)
      exact this.trans (hb.mono this.size)
    · exact (hW.2.2 (by simpa [upd] using q)).then_below hb
  case c10 =>
    intro L W hW hL
    have hbw := hW.2.1 hL
    refine (unhide HW W ((unhide HAl).trans (hbw.mono (unhide HAl).size))).mono ?_
    rintro e w2 ⟨rfl, hto⟩
    have h2 := WTo.after ((unhide HAl).trans (hbw.mono (unhide HAl).size)) hto
    obtain ⟨v', a, o, f⟩ := hto
    exact ⟨rfl, hW.1.trans o (fun _ _ q => q), fun q => by simp [upd] at q, fun _ => h2⟩
  intro L W hall hW
  have hto := hW.2.2 (hall 10 (by omega))
  go_wp2
  go_end0
  exact ⟨rfl, hto⟩
set_option maxHeartbeats 1000000 in
theorem writes2 (x : Raw) (b : Nat) (v : Value) (X : List UInt8) (w : World) (h : x.Fit) (hk : pk x.k 3 = 2) (hw : WAt b v X 0 w) (hX : X.length + x.t.length ≤ 70368744177664) :
    Calls Tryd.prog 36 #[x.val, .pointer (some ⟨b, 0, none⟩)] w fun e w' => e = .returned (.tuple #[]) ∧ WTo b v (X ++ x.t) 0 w w' := by
  have HP := hide (fun W => pick_any x.k 3 W h.k.1 h.k.2 (by omega) (by omega))
  rw [hk] at HP
  have hal : Below w.heap.size w (w.alloc (.cells #[.int .i64 x.k, .int .i64 x.s, .int .i64 x.n, .int .i64 x.m, .string ⟨x.t.toArray⟩] 57)) := (Below.refl _ _).alloc (Nat.le_refl _) _
  have hbox := Box.new w x
  have HW := hide (wraw_any b v X 0 x.t _ (hw.below hal) hX)
  rw [wPut_ok] at HW
  unfold Raw.val
  clear hw h hk
  go_enter Tryd.func36, Tryd.ntmps36
  go_wp2_with fail
  refine (unhide HP _).mono ?_
  rintro e w1 ⟨rfl, rfl⟩
  have HAl := hide hal
  generalize w.alloc (.cells #[.int .i64 x.k, .int .i64 x.s, .int .i64 x.n, .int .i64 x.m, .string ⟨x.t.toArray⟩] 57) = w1 at *
  clear hal
  obtain ⟨b0, b1, b2, b3, b4, b5⟩ := hbox
  go_wp2_with fail
  refine (unhide HW).mono ?_
  rintro e w2 ⟨rfl, hto⟩
  go_wp2
  go_end0
  exact ⟨rfl, WTo.after (unhide HAl) hto⟩
theorem pk3 (k : Int) : pk k 3 = 0 ∨ pk k 3 = 1 ∨ pk k 3 = 2 := by have := pk_lt k 3 (by omega); omega
theorem writes_any (x : Raw) (b : Nat) (v : Value) (X : List UInt8) (w : World) (h : x.Fit) (hw : WAt b v X 0 w) (hX : X.length + x.t.length + 65538 ≤ 70368744177664) :
    Calls Tryd.prog 36 #[x.val, .pointer (some ⟨b, 0, none⟩)] w fun e w' => e = .returned (.tuple #[]) ∧ WTo b v (X ++ x.itm.laid) 0 w w' := by
  rcases pk3 x.k with hk | hk | hk
  · have e : x.itm.laid = be x.size x.num := by unfold Itm.laid Raw.itm; simp only [hk]
    rw [e]
    exact writes0 x b v X w h hk hw (by omega)
  · have e : x.itm.laid = be (ahd x.most) (x.t.take 65535).length ++ x.t.take 65535 := by unfold Itm.laid Raw.itm; simp only [hk]; rfl
    rw [e]
    exact writes1 x b v X w h hk hw (by omega)
  · have e : x.itm.laid = x.t := by unfold Itm.laid Raw.itm; simp only [hk]
    rw [e]
    exact writes2 x b v X w h hk hw (by omega)
end Go.Proofs.YthddilflldkmfaaDoor
