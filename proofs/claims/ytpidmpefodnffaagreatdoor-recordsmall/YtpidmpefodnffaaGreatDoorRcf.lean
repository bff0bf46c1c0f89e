import Derived.Test.YtpidmpefodnffaaGreatDoorRcd
import Derived.Test.YtpidmpefodnffaaGreatDoorTra
import Derived.Test.YtpidmpefodnffaaGreatDoorOft
namespace Go.Proofs.YtpidmpefodnffaaGreatDoor
open Go.RowKit Go.Lib
set_option maxHeartbeats 4000000
set_option maxRecDepth 8000
theorem rMem100 (fa ge : Int) (v : Bs) (w : World) (h1 : 0 ≤ fa ∧ fa ≤ 9223372036854775807) (h2 : 0 ≤ ge ∧ ge ≤ 9223372036854775807) : Calls Tryz.prog 100 #[I fa, I ge, S v] w fun e w' => e = .returned (.agg #[S (109 :: (be 8 fa.toNat ++ be 4 ge.toNat)), S v]) ∧ Below w.heap.size w w' := by
  have HB := hide (show Below w.heap.size w (w.alloc (.cells #[S [], S []] 30)) from (Below.refl _ w).alloc (Nat.le_refl _) _)
  have HR := hide (heap_alloc_new w (.cells #[S [], S []] 30))
  generalize hW1 : w.alloc (.cells #[S [], S []] 30) = W1 at *
  have X0 := hide (fun W => byI fa 8 W (by decide) (by decide) h1.1 h1.2)
  have X1 := hide (fun W => byI ge 4 W (by decide) (by decide) h2.1 h2.2)
  have l0 := be_len 8 fa.toNat
  have l1 := be_len 4 ge.toNat
  generalize be 8 fa.toNat = x0 at *
  generalize be 4 ge.toNat = x1 at *
  clear h1 h2
  go_enter Tryz.func100, Tryz.ntmps100
  go_wp2_with fail
  refine (unhide X0 W1).mono ?_
  rintro e W2 ⟨rfl, hb⟩
  have HB2 := hide ((unhide HB).trans (hb.mono (unhide HB).size))
  have HR2 := hide ((hb.block _ (lt_of_row (unhide HR))).trans (unhide HR))
  clear hb X0 HB HR hW1
  go_wp2_with fail
  refine (unhide X1 W2).mono ?_
  rintro e W3 ⟨rfl, hb⟩
  have HB3 := hide ((unhide HB2).trans (hb.mono (unhide HB2).size))
  have HR3 := hide ((hb.block _ (lt_of_row (unhide HR2))).trans (unhide HR2))
  clear hb X1 HB2 HR2
  go_wp2_with (refine wp_st30 rfl (.tmp 6) (.tmp 14) rfl w.heap.size (by rfl) (109 :: (x0 ++ x1)) v (by rfl) #[S [], S []] rfl (unhide HR3) ?_)
  refine out1c (T := 30) (n := 2) (p := 6) (cs := #[S (109 :: (x0 ++ x1)), S v]) (fun _ => by kernel_rfl) (fun _ => by kernel_rfl) (Z := w.heap.size) (by rfl) (by rfl) (by rfl) (setRow_row (unhide HR3)) (by rfl) ?_
  exact ⟨rfl, (setRow_Only W3 w.heap.size #[S (109 :: (x0 ++ x1)), S v]).below (unhide HB3) (unhide HB3).size (fun k e => by omega)⟩
def vrrf37 (X _R : Nat) (id9 fa ge : Int) (_c : Unit) (i : Nat) : Value := match i with
  | 0 => (.pointer (some ⟨X, 1, none⟩))
  | 1 => (I fa)
  | 2 => (.pointer (some ⟨X, 2, none⟩))
  | 3 => (I ge)
  | 4 => (.pointer (some ⟨X, 0, none⟩))
  | 5 => (I id9)
  | 6 => (S (be 8 id9.toNat))
  | 7 => (.agg #[S (109 :: (be 8 fa.toNat ++ be 4 ge.toNat)), S (be 8 id9.toNat)])
  | 8 => undef
  | 9 => (I 0)
  | _ => undef
def rrf37T : List (Op × Option Tmp × Option (Nat × Bool)) := [
  (.fieldAddr 58 (.tmp 1) 1, some 10, none),
  (.load 3 (.tmp 10), some 11, none),
  (.fieldAddr 58 (.tmp 1) 2, some 12, none),
  (.load 3 (.tmp 12), some 13, none),
  (.fieldAddr 58 (.tmp 1) 0, some 14, none),
  (.load 3 (.tmp 14), some 15, none),
  (.call { callee := .value (.func 62), args := #[(.tmp 15), (.const (I 8))], argTypes := #[3, 3] }, some 16, none),
  (.call { callee := .value (.func 100), args := #[(.tmp 11), (.tmp 13), (.tmp 16)], argTypes := #[3, 3, 9] }, some 17, none),
  (.store 30 (.tmp 2) (.tmp 17), none, none),
  (.assign (.const (I 0)), some 3, none)]
def rrf37D : List (Nat × Nat) := [(1, 0), (3, 2), (5, 4), (6, 5), (7, 1), (7, 3), (7, 6), (8, 7)]
set_option maxHeartbeats 4000000 in
theorem rrf37 {ops : Array Oper} {id : Nat} {Q : Exit → Act → World → Prop} (X R : Nat) (id9 fa ge : Int) (htab : ops.toList.map (fun o => (o.op, o.dst, o.guard)) = rrf37T) (hdep : deplB rrf37D ops = true) (hac : acB ops = true)
    (a0 : Act) (w : World) (hsz : 18 ≤ a0.tmps.size) (o1 : a0.tmps[1]? = some (.pointer (some ⟨X, 0, none⟩))) (o2 : a0.tmps[2]? = some (.pointer (some ⟨R, 0, none⟩)))
    (Wd : Unit → (Nat → Bool) → World → Prop) (h0 : ∃ c, Wd c (fun _ => false) w.drew) (hpure : ∀ i, i ∉ ([6, 7, 8] : List Nat) → ∀ c L W, Wd c L W → Wd c (upd L i) W)
    (r1 : ∀ c L W, Wd c L W → L 1 = false → L 0 = true → (Instr.loadAt 3 (.pointer (some ⟨X, 1, none⟩))).run Tryz.prog W = .ok (I fa) W)
    (r3 : ∀ c L W, Wd c L W → L 3 = false → L 2 = true → (Instr.loadAt 3 (.pointer (some ⟨X, 2, none⟩))).run Tryz.prog W = .ok (I ge) W)
    (r5 : ∀ c L W, Wd c L W → L 5 = false → L 4 = true → (Instr.loadAt 3 (.pointer (some ⟨X, 0, none⟩))).run Tryz.prog W = .ok (I id9) W)
    (r6 : ∀ c L W, Wd c L W → L 6 = false → L 5 = true → Calls Tryz.prog 62 #[(I id9), (I 8)] W fun eg w' => ∃ c', (∀ j, L j = true → vrrf37 X R id9 fa ge c' j = vrrf37 X R id9 fa ge c j) ∧ eg = .returned (vrrf37 X R id9 fa ge c' 6) ∧ Wd c' (upd L 6) w')
    (r7 : ∀ c L W, Wd c L W → L 7 = false → L 1 = true → L 3 = true → L 6 = true → Calls Tryz.prog 100 #[(I fa), (I ge), (S (be 8 id9.toNat))] W fun eg w' => ∃ c', (∀ j, L j = true → vrrf37 X R id9 fa ge c' j = vrrf37 X R id9 fa ge c j) ∧ eg = .returned (vrrf37 X R id9 fa ge c' 7) ∧ Wd c' (upd L 7) w')
    (r8 : ∀ c L W, Wd c L W → L 8 = false → L 7 = true → ∃ W', (Instr.storeAt 30 (.pointer (some ⟨R, 0, none⟩)) (.agg #[S (109 :: (be 8 fa.toNat ++ be 4 ge.toNat)), S (be 8 id9.toNat)])).run Tryz.prog W = .ok () W' ∧ Wd c (upd L 8) W')
    (hend : ∀ c L W, (∀ i, i < 10 → L i = true) → Wd c L W → Q .normal (((((((((a0.put (some 10) (.pointer (some ⟨X, 1, none⟩))).put (some 11) (I fa)).put (some 12) (.pointer (some ⟨X, 2, none⟩))).put (some 13) (I ge)).put (some 14) (.pointer (some ⟨X, 0, none⟩))).put (some 15) (I id9)).put (some 16) (S (be 8 id9.toNat))).put (some 17) (.agg #[S (109 :: (be 8 fa.toNat ++ be 4 ge.toNat)), S (be 8 id9.toNat)])).put (some 3) (I 0)) W) : (Code.region id ops true).wp Tryz.prog Q a0 w := by
  let val : Unit → Nat → Value := vrrf37 X R id9 fa ge
  have hosz : ops.size = 10 := by
    have := congrArg List.length htab
    simpa [rrf37T] using this
  have hds : ∀ i s, (rrf37T[i]?).bind (·.2.1) = some s → dstOf ops i = some s := fun i s hi => by rw [tab_dst htab, hi]
  have hdisB : disL rrf37T = true := by rfl
  have hdis := disL_of htab hdisB
  have hold : ∀ s, rrf37T.all (fun x => !(x.2.1 == some s)) = true → (List.range ops.size).all (fun j => !(dstOf ops j == some s)) = true := fun s h => holdL htab s h
  refine region_detX val Wd (hac_of hac) hdis h0 ?_ ?_
  rotate_left
  · intro c L W hall hW
    have := hend c L W (by rw [← hosz]; exact hall) hW
    have e : frm ops a0 (val c) (fun _ => true) ops.size = (((((((((a0.put (some 10) (.pointer (some ⟨X, 1, none⟩))).put (some 11) (I fa)).put (some 12) (.pointer (some ⟨X, 2, none⟩))).put (some 13) (I ge)).put (some 14) (.pointer (some ⟨X, 0, none⟩))).put (some 15) (I id9)).put (some 16) (S (be 8 id9.toNat))).put (some 17) (.agg #[S (109 :: (be 8 fa.toNat ++ be 4 ge.toNat)), S (be 8 id9.toNat)])).put (some 3) (I 0)) := by
      rw [hosz]
      simp only [frm, if_true]
      rw [tab_dst htab 0, tab_dst htab 1, tab_dst htab 2, tab_dst htab 3, tab_dst htab 4, tab_dst htab 5, tab_dst htab 6, tab_dst htab 7, (show dstOf ops 8 = none from (tab_dst htab 8).trans rfl), put_none, tab_dst htab 9]
      rfl
    rw [e]
    exact this
  intro i o ho c L a w' hL hd ha hW
  have hi : i < 10 := by rw [← hosz]; exact (Array.getElem?_eq_some_iff.1 ho).1
  have G : ∀ j s : Nat, (rrf37T[j]?).bind (·.2.1) = some s → s < 18 → (i, j) ∈ rrf37D → a.tmps[s]? = some (val c j) := fun j s h1 h2 h3 => frm_at hdis ha j s (hds j s h1) (by omega) (depl_of hdep i j h3 ho hd)
  match i, ho, hL, hi, G with
  | 0, ho, hL, _, G =>
    obtain ⟨hop, hgd⟩ := tab3 htab ho rfl
    have h0 := frm_old ha 1 _ (hold 1 rfl) o1
    exact (dXr ho hgd (hpure 0 (by decide) c L w' hW) (g_field hop (eval_of h0) (by kernel_rfl)))
  | 1, ho, hL, _, G =>
    obtain ⟨hop, hgd⟩ := tab3 htab ho rfl
    have h0 := G 0 10 rfl (by decide) (by decide)
    exact (dXr ho hgd (hpure 1 (by decide) c L w' hW) (g_load hop (eval_of h0) (r1 c L w' hW hL (depl_of hdep 1 0 (by decide) ho hd))))
  | 2, ho, hL, _, G =>
    obtain ⟨hop, hgd⟩ := tab3 htab ho rfl
    have h0 := frm_old ha 1 _ (hold 1 rfl) o1
    exact (dXr ho hgd (hpure 2 (by decide) c L w' hW) (g_field hop (eval_of h0) (by kernel_rfl)))
  | 3, ho, hL, _, G =>
    obtain ⟨hop, hgd⟩ := tab3 htab ho rfl
    have h0 := G 2 12 rfl (by decide) (by decide)
    exact (dXr ho hgd (hpure 3 (by decide) c L w' hW) (g_load hop (eval_of h0) (r3 c L w' hW hL (depl_of hdep 3 2 (by decide) ho hd))))
  | 4, ho, hL, _, G =>
    obtain ⟨hop, hgd⟩ := tab3 htab ho rfl
    have h0 := frm_old ha 1 _ (hold 1 rfl) o1
    exact (dXr ho hgd (hpure 4 (by decide) c L w' hW) (g_field hop (eval_of h0) (by kernel_rfl)))
  | 5, ho, hL, _, G =>
    obtain ⟨hop, hgd⟩ := tab3 htab ho rfl
    have h0 := G 4 14 rfl (by decide) (by decide)
    exact (dXr ho hgd (hpure 5 (by decide) c L w' hW) (g_load hop (eval_of h0) (r5 c L w' hW hL (depl_of hdep 5 4 (by decide) ho hd))))
  | 6, ho, hL, _, G =>
    obtain ⟨hop, hgd⟩ := tab3 htab ho rfl
    have h0 := G 5 15 rfl (by decide) (by decide)
    refine doesX_call ho (wanted_none hgd) 62 #[(I id9), (I 8)] ?_ (r6 c L w' hW hL (depl_of hdep 6 5 (by decide) ho hd))
    rw [run_calls Tryz.func62 (by kernel_rfl) rfl _ _ _ _ hop rfl]
    simp only [List.map_toArray, List.map_cons, List.map_nil, eval_of h0]
    all_goals rfl
  | 7, ho, hL, _, G =>
    obtain ⟨hop, hgd⟩ := tab3 htab ho rfl
    have h0 := G 1 11 rfl (by decide) (by decide)
    have h1 := G 3 13 rfl (by decide) (by decide)
    have h2 := G 6 16 rfl (by decide) (by decide)
    refine doesX_call ho (wanted_none hgd) 100 #[(I fa), (I ge), (S (be 8 id9.toNat))] ?_ (r7 c L w' hW hL (depl_of hdep 7 1 (by decide) ho hd) (depl_of hdep 7 3 (by decide) ho hd) (depl_of hdep 7 6 (by decide) ho hd))
    rw [run_calls Tryz.func100 (by kernel_rfl) rfl _ _ _ _ hop rfl]
    simp only [List.map_toArray, List.map_cons, List.map_nil, eval_of h0, eval_of h1, eval_of h2]
    all_goals rfl
  | 8, ho, hL, _, G =>
    obtain ⟨hop, hgd⟩ := tab3 htab ho rfl
    have h0 := frm_old ha 2 _ (hold 2 rfl) o2
    have h1 := G 7 17 rfl (by decide) (by decide)
    obtain ⟨W', q1, q2⟩ := r8 c L w' hW hL (depl_of hdep 8 7 (by decide) ho hd)
    exact doesX_of (doesL_skp ho (wanted_none hgd) rfl q2 (g_store hop (eval_of h0) (eval_of h1) q1))
  | 9, ho, hL, _, G =>
    obtain ⟨hop, hgd⟩ := tab3 htab ho rfl
    exact (dXr ho hgd (hpure 9 (by decide) c L w' hW) (by rw [run_assign _ _ _ hop]; exact congrArg (fun v => Result.ok (Next.value v) w') rfl))
  | (i + 10), ho, hL, hi, _ => exact absurd hi (by omega)
theorem rOf37 (id9 fa ge : Int) (ha : Bs) (mi : Int) (sp : Bool) (at9 ne : Int) (se : Bs) (w : World) : Calls Tryz.prog 37 #[.agg #[I id9, I fa, I ge, S ha, I mi, .bool sp, I at9, I ne, S se]] w fun e w' => e = .returned (.tuple #[.agg #[S (ofT id9 fa ge ha mi sp at9 ne se).1.1, S (ofT id9 fa ge ha mi sp at9 ne se).1.2], I (ofT id9 fa ge ha mi sp at9 ne se).2]) ∧ Below w.heap.size w w' := by
  have hb0 : Below w.heap.size w ((w.alloc (.cells #[I id9, I fa, I ge, S ha, I mi, .bool sp, I at9, I ne, S se] 58)).alloc (.cells #[S [], S []] 30)) := ((Below.refl _ w).alloc (Nat.le_refl _) _).alloc (by simp) _
  have hT : ((w.alloc (.cells #[I id9, I fa, I ge, S ha, I mi, .bool sp, I at9, I ne, S se] 58)).alloc (.cells #[S [], S []] 30)).heap[w.heap.size]? = some (.cells #[I id9, I fa, I ge, S ha, I mi, .bool sp, I at9, I ne, S se] 58 (0, 0)) := by
    rw [heap_alloc_old _ _ (by simp)]; exact heap_alloc_new _ _
  have hR : ((w.alloc (.cells #[I id9, I fa, I ge, S ha, I mi, .bool sp, I at9, I ne, S se] 58)).alloc (.cells #[S [], S []] 30)).heap[w.heap.size + 1]? = some (.cells #[S [], S []] 30 (0, 0)) := by
    have e := heap_alloc_new (w.alloc (.cells #[I id9, I fa, I ge, S ha, I mi, .bool sp, I at9, I ne, S se] 58)) (.cells #[S [], S []] 30)
    simpa using e
  have c0 : ((w.alloc (.cells #[I id9, I fa, I ge, S ha, I mi, .bool sp, I at9, I ne, S se] 58)).alloc (.cells #[S [], S []] 30)).cell? ⟨w.heap.size, 0, none⟩ = some (I id9) := cellr hT rfl
  have c1 : ((w.alloc (.cells #[I id9, I fa, I ge, S ha, I mi, .bool sp, I at9, I ne, S se] 58)).alloc (.cells #[S [], S []] 30)).cell? ⟨w.heap.size, 1, none⟩ = some (I fa) := cellr hT rfl
  have c2 : ((w.alloc (.cells #[I id9, I fa, I ge, S ha, I mi, .bool sp, I at9, I ne, S se] 58)).alloc (.cells #[S [], S []] 30)).cell? ⟨w.heap.size, 2, none⟩ = some (I ge) := cellr hT rfl
  have c3 : ((w.alloc (.cells #[I id9, I fa, I ge, S ha, I mi, .bool sp, I at9, I ne, S se] 58)).alloc (.cells #[S [], S []] 30)).cell? ⟨w.heap.size, 3, none⟩ = some (S ha) := cellr hT rfl
  have c4 : ((w.alloc (.cells #[I id9, I fa, I ge, S ha, I mi, .bool sp, I at9, I ne, S se] 58)).alloc (.cells #[S [], S []] 30)).cell? ⟨w.heap.size, 4, none⟩ = some (I mi) := cellr hT rfl
  have c5 : ((w.alloc (.cells #[I id9, I fa, I ge, S ha, I mi, .bool sp, I at9, I ne, S se] 58)).alloc (.cells #[S [], S []] 30)).cell? ⟨w.heap.size, 5, none⟩ = some (.bool sp) := cellr hT rfl
  have c6 : ((w.alloc (.cells #[I id9, I fa, I ge, S ha, I mi, .bool sp, I at9, I ne, S se] 58)).alloc (.cells #[S [], S []] 30)).cell? ⟨w.heap.size, 6, none⟩ = some (I at9) := cellr hT rfl
  have c7 : ((w.alloc (.cells #[I id9, I fa, I ge, S ha, I mi, .bool sp, I at9, I ne, S se] 58)).alloc (.cells #[S [], S []] 30)).cell? ⟨w.heap.size, 7, none⟩ = some (I ne) := cellr hT rfl
  have c8 : ((w.alloc (.cells #[I id9, I fa, I ge, S ha, I mi, .bool sp, I at9, I ne, S se] 58)).alloc (.cells #[S [], S []] 30)).cell? ⟨w.heap.size, 8, none⟩ = some (S se) := cellr hT rfl
  generalize hW1 : ((w.alloc (.cells #[I id9, I fa, I ge, S ha, I mi, .bool sp, I at9, I ne, S se] 58)).alloc (.cells #[S [], S []] 30)) = W1 at *
  have HT := hide hT
  have HR := hide hR
  have HB := hide hb0
  clear hT hR hb0
  have HM := hide (rMay97 id9 fa ge ha mi sp at9 ne se W1)
  go_enter Tryz.func37, Tryz.ntmps37
  go_wp2_with fail
  refine (unhide HM).mono ?_
  rintro e W2 ⟨rfl, hb⟩
  have HT2 := hide ((hb.block _ (lt_of_row (unhide HT))).trans (unhide HT))
  have HR2 := hide ((hb.block _ (lt_of_row (unhide HR))).trans (unhide HR))
  have HB2 := hide ((unhide HB).trans (hb.mono (unhide HB).size))
  clear HM hb HT HR HB hW1 c0 c1 c2 c3 c4 c5 c6 c7 c8
  cases hok : tokOK id9 fa ge ha mi sp at9 ne se
  · have HP : Hid (ofT id9 fa ge ha mi sp at9 ne se = (([], []), 140)) := hide (by simp [ofT, hok])
    clear hok
    go_wp2_with (refine wp_st30 rfl (.tmp 2) (.tmp 9) rfl (w.heap.size + 1) (by rfl) [] [] (by rfl) #[S [], S []] rfl (unhide HR2) ?_)
    refine out2c (T := 30) (n := 2) (p := 2) (q := 3) (cs := #[S [], S []]) (fun _ => by kernel_rfl) (fun _ => by kernel_rfl) (Z := w.heap.size + 1) (by rfl) (by rfl) (by rfl) (by rfl) (setRow_row (unhide HR2)) (by rfl) ?_
    rw [unhide HP]
    exact ⟨rfl, (setRow_Only W2 (w.heap.size + 1) #[S [], S []]).below (unhide HB2) (unhide HB2).size (fun k e => by omega)⟩
  · have hbb := tokB hok
    have HP : Hid (ofT id9 fa ge ha mi sp at9 ne se = ((109 :: (be 8 fa.toNat ++ be 4 ge.toNat), be 8 id9.toNat), 0)) := hide (by unfold ofT; rw [if_pos hok]; simp [cat, lx, memKl, memVl])
    have Rk0 : Rk w w.heap.size #[I id9, I fa, I ge, S ha, I mi, .bool sp, I at9, I ne, S se] 58 (w.heap.size + 1) 8 #[S (109 :: (be 8 fa.toNat ++ be 4 ge.toNat)), S (be 8 id9.toNat)] () (fun _ => false) W2.drew := ⟨(unhide HB2).drew, unhide HT2, unhide HR2, Nat.le_succ _, by omega⟩
    clear hok
    go_wp2_with fail
    refine rrf37 w.heap.size (w.heap.size + 1) id9 fa ge rfl (by rfl) (by rfl) _ W2 (by simp) rfl rfl (Rk w w.heap.size #[I id9, I fa, I ge, S ha, I mi, .bool sp, I at9, I ne, S se] 58 (w.heap.size + 1) 8 #[S (109 :: (be 8 fa.toNat ++ be 4 ge.toNat)), S (be 8 id9.toNat)]) ⟨(), Rk0⟩ (fun i hi c L W hW => hW.pure i (fun e => hi (by simp [e])))
      (fun c L W hW _ _ => s_ld (T := 3) (fun _ => by kernel_rfl) (hW.cell rfl))
      (fun c L W hW _ _ => s_ld (T := 3) (fun _ => by kernel_rfl) (hW.cell rfl))
      (fun c L W hW _ _ => s_ld (T := 3) (fun _ => by kernel_rfl) (hW.cell rfl))
      (fun c L W hW _ _ => (byI id9 8 W (by decide) (by decide) (by omega) (by omega)).mono fun e w' q => ⟨(), fun _ _ => rfl, q.1, hW.call 6 (by decide) q.2⟩)
      (fun c L W hW _ _ _ _ => (rMem100 fa ge _ W (by omega) (by omega)).mono fun e w' q => ⟨(), fun _ _ => rfl, q.1, hW.call 7 (by decide) q.2⟩)
      (fun c L W hW hL _ => hW.store hL)
      ?_
    intro c L W hall hW
    have hr : W.heap[w.heap.size + 1]? = some (.cells #[S (109 :: (be 8 fa.toNat ++ be 4 ge.toNat)), S (be 8 id9.toNat)] 30 (0, 0)) := by
      have := hW.rr
      rw [hall 8 (by decide)] at this
      exact this
    have HB9 := hide hW.bel
    have HR9 := hide hr
    clear hall hW hr Rk0 hbb HB2 HT2 HR2
    simp only [Act.put, List.setIfInBounds_toArray, List.set_cons_succ, List.set_cons_zero]
    go_wp2_with fail
    refine out2c (T := 30) (n := 2) (p := 2) (q := 3) (cs := #[S (109 :: (be 8 fa.toNat ++ be 4 ge.toNat)), S (be 8 id9.toNat)]) (fun _ => by kernel_rfl) (fun _ => by kernel_rfl) (Z := w.heap.size + 1) (by rfl) (by rfl) (by rfl) (by rfl) (unhide HR9) (by rfl) ?_
    rw [unhide HP]
    exact ⟨rfl, unhide HB9⟩
end Go.Proofs.YtpidmpefodnffaaGreatDoor
