import Derived.Test.YtpidmpefodnffaaGreatDoorPrg
import Derived.Test.YtpidmpefodnffaaGreatDoorZfdj
import Derived.Test.YtpidmpefodnffaaGreatDoorLyf
namespace Go.Proofs.YtpidmpefodnffaaGreatDoor
open Go.RowKit
set_option maxHeartbeats 4000000
set_option maxRecDepth 8000
def famK0 (k : Bs) : Bs × Nat := (k, 0)
def famK1 (k : Bs) : Bs × Nat := rr2 1 (famK0 k)
def fam_id (k : Bs) : Int := rv 8 (famK1 k)
def famV0 (v : Bs) : Bs × Nat := (v, 0)
def fam_cl (v : Bs) : Bs := tv 16 (famV0 v)
def famV1 (v : Bs) : Bs × Nat := ts 16 (famV0 v)
def fam_su (v : Bs) : Bs := tv 16 (famV1 v)
def famV2 (v : Bs) : Bs × Nat := ts 16 (famV1 v)
def fam_sc (v : Bs) : List Bs := (parse (tv 60 (famV2 v))).1
def famV3 (v : Bs) : Bs × Nat := ts 60 (famV2 v)
def fam_cr (v : Bs) : Int := rv 6 (famV3 v)
def famV4 (v : Bs) : Bs × Nat := rs 6 (famV3 v)
def fam_us (v : Bs) : Int := rv 6 (famV4 v)
def famV5 (v : Bs) : Bs × Nat := rs 6 (famV4 v)
def fam_idl (v : Bs) : Int := rv 6 (famV5 v)
def famV6 (v : Bs) : Bs × Nat := rs 6 (famV5 v)
def fam_ab (v : Bs) : Int := rv 6 (famV6 v)
def famV7 (v : Bs) : Bs × Nat := rs 6 (famV6 v)
def fam_gr (v : Bs) : Int := rv 6 (famV7 v)
def famV8 (v : Bs) : Bs × Nat := rs 6 (famV7 v)
def fam_ge (v : Bs) : Int := rv 4 (famV8 v)
def famV9 (v : Bs) : Bs × Nat := rs 4 (famV8 v)
def fam_to (v : Bs) : Int := rv 8 (famV9 v)
def famV10 (v : Bs) : Bs × Nat := rs 8 (famV9 v)
def fam_st (v : Bs) : Int := rv 1 (famV10 v)
def famV11 (v : Bs) : Bs × Nat := rs 1 (famV10 v)
def fam_en (v : Bs) : Int := rv 6 (famV11 v)
def famV12 (v : Bs) : Bs × Nat := rs 6 (famV11 v)
def fam_co (v : Bs) : Int := rv 8 (famV12 v)
def famstk : Nat → Bs × Nat → List Ct → (Bs × Nat) × List Ct := fun i => match i with
  | 0 => fun s cs => (rr2 1 s, cs)
  | 1 => fun s cs => (rs 8 s, cs.set 0 (.n (rv 8 s)))
  | _ => fun s cs => (s, cs)
def famstv : Nat → Bs × Nat → List Ct → (Bs × Nat) × List Ct := fun i => match i with
  | 0 => fun s cs => (ts 16 s, cs.set 1 (.s (tv 16 s)))
  | 1 => fun s cs => (ts 16 s, cs.set 2 (.s (tv 16 s)))
  | 2 => fun s cs => (ts 60 s, cs.set 3 (.l (parse (tv 60 s)).1))
  | 3 => fun s cs => (rs 6 s, cs.set 4 (.n (rv 6 s)))
  | 4 => fun s cs => (rs 6 s, cs.set 5 (.n (rv 6 s)))
  | 5 => fun s cs => (rs 6 s, cs.set 6 (.n (rv 6 s)))
  | 6 => fun s cs => (rs 6 s, cs.set 7 (.n (rv 6 s)))
  | 7 => fun s cs => (rs 6 s, cs.set 8 (.n (rv 6 s)))
  | 8 => fun s cs => (rs 4 s, cs.set 9 (.n (rv 4 s)))
  | 9 => fun s cs => (rs 8 s, cs.set 10 (.n (rv 8 s)))
  | 10 => fun s cs => (rs 1 s, cs.set 11 (.n (rv 1 s)))
  | 11 => fun s cs => (rs 6 s, cs.set 12 (.n (rv 6 s)))
  | 12 => fun s cs => (rs 8 s, cs.set 13 (.n (rv 8 s)))
  | _ => fun s cs => (s, cs)
def famRd (k v : Bs) : List Ct := [.n (fam_id k), .s (fam_cl v), .s (fam_su v), .l (fam_sc v), .n (fam_cr v), .n (fam_us v), .n (fam_idl v), .n (fam_ab v), .n (fam_gr v), .n (fam_ge v), .n (fam_to v), .n (fam_st v), .n (fam_en v), .n (fam_co v)]
theorem famRd_eq (k v : Bs) : (runF famstv 13 (v, 0) (runF famstk 2 (k, 0) [.n 0, .s [], .s [], .z, .n 0, .n 0, .n 0, .n 0, .n 0, .n 0, .n 0, .n 0, .n 0, .n 0]).2).2 = famRd k v := by kernel_rfl
theorem famRd_nl (k : Bs) : (runF famstk 2 (k, 0) [.n 0, .s [], .s [], .z, .n 0, .n 0, .n 0, .n 0, .n 0, .n 0, .n 0, .n 0, .n 0, .n 0]).2.all Ct.nl = true := by kernel_rfl
def famG (k v : Bs) : Bool := famP (fam_id k) (fam_cl v) (fam_su v) (fam_sc v) (fam_cr v) (fam_us v) (fam_idl v) (fam_ab v) (fam_gr v) (fam_ge v) (fam_to v) (fam_st v) (fam_en v) (fam_co v) == ((k, v), 0)
def vrpa86 (_T _P : Nat) (k v : Bs) (c : (Nat → Nat)) (i : Nat) : Value := match i with
  | 0 => (FN 74)
  | 1 => (.agg #[(.slice (some ⟨c 0, 0, none⟩) 2 2), (.slice (some ⟨c 1, 0, none⟩) 13 13)])
  | 2 => (.agg #[S k, S v])
  | 3 => (.tuple #[])
  | _ => undef
def rpa86T : List (Op × Option Tmp × Option (Nat × Bool)) := [
  (.move (.tmp 2), some 12, none),
  (.call { callee := .value (.tmp 12), args := #[(.tmp 8)], argTypes := #[204] }, some 13, none),
  (.load 30 (.tmp 3), some 14, none),
  (.call { callee := .value (.func 140), args := #[(.tmp 13), (.tmp 14)], argTypes := #[111, 30] }, some 15, none)]
def rpa86D : List (Nat × Nat) := [(1, 0), (3, 1), (3, 2)]
set_option maxHeartbeats 4000000 in
theorem rpa86 {ops : Array Oper} {id : Nat} {Q : Exit → Act → World → Prop} (T P : Nat) (k v : Bs) (htab : ops.toList.map (fun o => (o.op, o.dst, o.guard)) = rpa86T) (hdep : deplB rpa86D ops = true) (hac : acB ops = true)
    (a0 : Act) (w : World) (hsz : 16 ≤ a0.tmps.size) (o2 : a0.tmps[2]? = some (FN 74)) (o3 : a0.tmps[3]? = some (ptr P)) (o8 : a0.tmps[8]? = some (ptr T))
    (Wd : (Nat → Nat) → (Nat → Bool) → World → Prop) (h0 : ∃ c, Wd c (fun _ => false) w.drew) (hpure : ∀ i, i ∉ ([1, 3] : List Nat) → ∀ c L W, Wd c L W → Wd c (upd L i) W)
    (r1 : ∀ c L W, Wd c L W → L 1 = false → L 0 = true → Calls Tryz.prog 74 #[(ptr T)] W fun eg w' => ∃ c', (∀ j, L j = true → vrpa86 T P k v c' j = vrpa86 T P k v c j) ∧ eg = .returned (vrpa86 T P k v c' 1) ∧ Wd c' (upd L 1) w')
    (r2 : ∀ c L W, Wd c L W → L 2 = false → (Instr.loadAt 30 (ptr P)).run Tryz.prog W = .ok (.agg #[S k, S v]) W)
    (r3 : ∀ c L W, Wd c L W → L 3 = false → L 1 = true → L 2 = true → Calls Tryz.prog 140 #[(.agg #[(.slice (some ⟨c 0, 0, none⟩) 2 2), (.slice (some ⟨c 1, 0, none⟩) 13 13)]), (.agg #[S k, S v])] W fun eg w' => ∃ c', (∀ j, L j = true → vrpa86 T P k v c' j = vrpa86 T P k v c j) ∧ eg = .returned (vrpa86 T P k v c' 3) ∧ Wd c' (upd L 3) w')
    (hend : ∀ c L W, (∀ i, i < 4 → L i = true) → Wd c L W → Q .normal ((((a0.put (some 12) (FN 74)).put (some 13) (.agg #[(.slice (some ⟨c 0, 0, none⟩) 2 2), (.slice (some ⟨c 1, 0, none⟩) 13 13)])).put (some 14) (.agg #[S k, S v])).put (some 15) (.tuple #[])) W) : (Code.region id ops true).wp Tryz.prog Q a0 w := by
  let val : (Nat → Nat) → Nat → Value := vrpa86 T P k v
  have hosz : ops.size = 4 := by
    have := congrArg List.length htab
    simpa [rpa86T] using this
  have hds : ∀ i s, (rpa86T[i]?).bind (·.2.1) = some s → dstOf ops i = some s := fun i s hi => by rw [tab_dst htab, hi]
  have hdisB : disL rpa86T = true := by rfl
  have hdis := disL_of htab hdisB
  have hold : ∀ s, rpa86T.all (fun x => !(x.2.1 == some s)) = true → (List.range ops.size).all (fun j => !(dstOf ops j == some s)) = true := fun s h => holdL htab s h
  refine region_detX val Wd (hac_of hac) hdis h0 ?_ ?_
  rotate_left
  · intro c L W hall hW
    have := hend c L W (by rw [← hosz]; exact hall) hW
    have e : frm ops a0 (val c) (fun _ => true) ops.size = ((((a0.put (some 12) (FN 74)).put (some 13) (.agg #[(.slice (some ⟨c 0, 0, none⟩) 2 2), (.slice (some ⟨c 1, 0, none⟩) 13 13)])).put (some 14) (.agg #[S k, S v])).put (some 15) (.tuple #[])) := by
      rw [hosz]
      simp only [frm, if_true]
      rw [tab_dst htab 0, tab_dst htab 1, tab_dst htab 2, tab_dst htab 3]
      rfl
    rw [e]
    exact this
  intro i o ho c L a w' hL hd ha hW
  have hi : i < 4 := by rw [← hosz]; exact (Array.getElem?_eq_some_iff.1 ho).1
  have G : ∀ j s : Nat, (rpa86T[j]?).bind (·.2.1) = some s → s < 16 → (i, j) ∈ rpa86D → a.tmps[s]? = some (val c j) := fun j s h1 h2 h3 => frm_at hdis ha j s (hds j s h1) (by omega) (depl_of hdep i j h3 ho hd)
  match i, ho, hL, hi, G with
  | 0, ho, hL, _, G =>
    obtain ⟨hop, hgd⟩ := tab3 htab ho rfl
    have h0 := frm_old ha 2 _ (hold 2 rfl) o2
    exact (dXr ho hgd (hpure 0 (by decide) c L w' hW) (g_mov hop (eval_of h0)))
  | 1, ho, hL, _, G =>
    obtain ⟨hop, hgd⟩ := tab3 htab ho rfl
    have h0 := frm_old ha 8 _ (hold 8 rfl) o8
    have hf := G 0 12 rfl (by decide) (by decide)
    refine doesX_call ho (wanted_none hgd) 74 #[(ptr T)] ?_ (r1 c L w' hW hL (depl_of hdep 1 0 (by decide) ho hd))
    rw [run_callv Tryz.func74 (by kernel_rfl) rfl _ _ _ _ _ hop (eval_of hf)]
    simp only [List.map_toArray, List.map_cons, List.map_nil, eval_of h0]
    all_goals rfl
  | 2, ho, hL, _, G =>
    obtain ⟨hop, hgd⟩ := tab3 htab ho rfl
    have h0 := frm_old ha 3 _ (hold 3 rfl) o3
    exact (dXr ho hgd (hpure 2 (by decide) c L w' hW) (g_load hop (eval_of h0) (r2 c L w' hW hL)))
  | 3, ho, hL, _, G =>
    obtain ⟨hop, hgd⟩ := tab3 htab ho rfl
    have h0 := G 1 13 rfl (by decide) (by decide)
    have h1 := G 2 14 rfl (by decide) (by decide)
    refine doesX_call ho (wanted_none hgd) 140 #[(.agg #[(.slice (some ⟨c 0, 0, none⟩) 2 2), (.slice (some ⟨c 1, 0, none⟩) 13 13)]), (.agg #[S k, S v])] ?_ (r3 c L w' hW hL (depl_of hdep 3 1 (by decide) ho hd) (depl_of hdep 3 2 (by decide) ho hd))
    rw [run_calls Tryz.func140 (by kernel_rfl) rfl _ _ _ _ hop rfl]
    simp only [List.map_toArray, List.map_cons, List.map_nil, eval_of h0, eval_of h1]
    all_goals rfl
  | (i + 4), ho, hL, hi, _ => exact absurd hi (by omega)
def lyf86 (B0 T : Nat) (c : Nat → Nat) (W : World) : Prop := ∃ a, B0 ≤ a ∧ T < a ∧ a < W.heap.size ∧ W.heap[a + 1]? = some (.cells #[S [102]] 9 (0, 0)) ∧ (a + 2 ≤ c 0 ∧ W.heap[c 0]? = some (.cells #[(vW ⟨a + 1, 0, none⟩ 1), (vI ⟨T, 0, none⟩ 8)] 213 (0, 0))) ∧ (a + 2 ≤ c 1 ∧ W.heap[c 1]? = some (.cells #[(vT ⟨T, 1, none⟩ 16), (vT ⟨T, 2, none⟩ 16), (vN ⟨T, 3, none⟩ 60), (vI ⟨T, 4, none⟩ 6), (vI ⟨T, 5, none⟩ 6), (vI ⟨T, 6, none⟩ 6), (vI ⟨T, 7, none⟩ 6), (vI ⟨T, 8, none⟩ 6), (vI ⟨T, 9, none⟩ 4), (vI ⟨T, 10, none⟩ 8), (vI ⟨T, 11, none⟩ 1), (vI ⟨T, 12, none⟩ 6), (vI ⟨T, 13, none⟩ 8)] 213 (0, 0)))
theorem tk86 (B0 T : Nat) (c : Nat → Nat) (W : World) (k v : Bs) (hk : k.length ≤ 9223372036854775807) (hv : v.length ≤ 9223372036854775807) (h : lyf86 B0 T c W) (hT : W.heap[T]? = some (.cells #[I 0, S [], S [], .slice none 0 0, I 0, I 0, I 0, I 0, I 0, I 0, I 0, I 0, I 0, I 0] 40 (0, 0))) :
    Calls Tryz.prog 140 #[.agg #[(.slice (some ⟨c 0, 0, none⟩) 2 2), (.slice (some ⟨c 1, 0, none⟩) 13 13)], .agg #[S k, S v]] W fun e w' => e = .returned (.tuple #[]) ∧ Rec W.heap.size T 40 (famRd k v) w' ∧ Only (fun q => q = T ∨ B0 < q) W w' := by
  obtain ⟨a, ha, hTa, haw, hL1, ⟨hk0, hc0⟩, ⟨hk1, hc1⟩⟩ := h
  have hls : ∀ l, l ∈ [a + 1] → l ≠ T ∧ ∃ y, W.heap[l]? = some (.cells #[S y] 9 (0, 0)) := by
    intro l hl
    simp only [List.mem_cons, List.not_mem_nil, or_false] at hl
    subst hl
    exact ⟨by omega, _, hL1⟩
  have hfx : ∀ q, q ∈ ([(c 0, .cells #[(vW ⟨a + 1, 0, none⟩ 1), (vI ⟨T, 0, none⟩ 8)] 213 (0, 0)), (c 1, .cells #[(vT ⟨T, 1, none⟩ 16), (vT ⟨T, 2, none⟩ 16), (vN ⟨T, 3, none⟩ 60), (vI ⟨T, 4, none⟩ 6), (vI ⟨T, 5, none⟩ 6), (vI ⟨T, 6, none⟩ 6), (vI ⟨T, 7, none⟩ 6), (vI ⟨T, 8, none⟩ 6), (vI ⟨T, 9, none⟩ 4), (vI ⟨T, 10, none⟩ 8), (vI ⟨T, 11, none⟩ 1), (vI ⟨T, 12, none⟩ 6), (vI ⟨T, 13, none⟩ 8)] 213 (0, 0))] : List (Nat × Obj)) → W.heap[q.1]? = some q.2 ∧ q.1 ≠ T ∧ ¬ q.1 ∈ [a + 1] := by
    intro q hq
    simp only [List.mem_cons, List.not_mem_nil, or_false] at hq
    rcases hq with rfl | rfl
    · exact ⟨hc0, by show c 0 ≠ T; omega, by simp; omega⟩
    · exact ⟨hc1, by show c 1 ≠ T; omega, by simp; omega⟩
  have r1 : Rw W (some ⟨c 0, 0, none⟩) 2 (fun i => (#[(vW ⟨a + 1, 0, none⟩ 1), (vI ⟨T, 0, none⟩ 8)] : Array Value).getD i undef) famstk T 40 [a + 1] [(c 0, .cells #[(vW ⟨a + 1, 0, none⟩ 1), (vI ⟨T, 0, none⟩ 8)] 213 (0, 0)), (c 1, .cells #[(vT ⟨T, 1, none⟩ 16), (vT ⟨T, 2, none⟩ 16), (vN ⟨T, 3, none⟩ 60), (vI ⟨T, 4, none⟩ 6), (vI ⟨T, 5, none⟩ 6), (vI ⟨T, 6, none⟩ 6), (vI ⟨T, 7, none⟩ 6), (vI ⟨T, 8, none⟩ 6), (vI ⟨T, 9, none⟩ 4), (vI ⟨T, 10, none⟩ 8), (vI ⟨T, 11, none⟩ 1), (vI ⟨T, 12, none⟩ 6), (vI ⟨T, 13, none⟩ 8)] 213 (0, 0))] 14 := ⟨by decide, fun _ => ⟨c 0, #[(vW ⟨a + 1, 0, none⟩ 1), (vI ⟨T, 0, none⟩ 8)], rfl, (List.Mem.head _), fun i hi => by match i, hi with | 0, _ => rfl | 1, _ => rfl | (q + 2), h => exact absurd h (by omega)⟩, fun i hi => by
      match i, hi with
      | 0, _ => exact Tf.let T 40 _ _ 14 (a + 1) (by simp) 1
      | 1, _ => exact Tf.nu T 40 _ _ 14 0 (by decide) 8
      | (q + 2), h => exact absurd h (by omega), hls, hfx⟩
  have r2 : Rw W (some ⟨c 1, 0, none⟩) 13 (fun i => (#[(vT ⟨T, 1, none⟩ 16), (vT ⟨T, 2, none⟩ 16), (vN ⟨T, 3, none⟩ 60), (vI ⟨T, 4, none⟩ 6), (vI ⟨T, 5, none⟩ 6), (vI ⟨T, 6, none⟩ 6), (vI ⟨T, 7, none⟩ 6), (vI ⟨T, 8, none⟩ 6), (vI ⟨T, 9, none⟩ 4), (vI ⟨T, 10, none⟩ 8), (vI ⟨T, 11, none⟩ 1), (vI ⟨T, 12, none⟩ 6), (vI ⟨T, 13, none⟩ 8)] : Array Value).getD i undef) famstv T 40 [a + 1] [(c 0, .cells #[(vW ⟨a + 1, 0, none⟩ 1), (vI ⟨T, 0, none⟩ 8)] 213 (0, 0)), (c 1, .cells #[(vT ⟨T, 1, none⟩ 16), (vT ⟨T, 2, none⟩ 16), (vN ⟨T, 3, none⟩ 60), (vI ⟨T, 4, none⟩ 6), (vI ⟨T, 5, none⟩ 6), (vI ⟨T, 6, none⟩ 6), (vI ⟨T, 7, none⟩ 6), (vI ⟨T, 8, none⟩ 6), (vI ⟨T, 9, none⟩ 4), (vI ⟨T, 10, none⟩ 8), (vI ⟨T, 11, none⟩ 1), (vI ⟨T, 12, none⟩ 6), (vI ⟨T, 13, none⟩ 8)] 213 (0, 0))] 14 := ⟨by decide, fun _ => ⟨c 1, #[(vT ⟨T, 1, none⟩ 16), (vT ⟨T, 2, none⟩ 16), (vN ⟨T, 3, none⟩ 60), (vI ⟨T, 4, none⟩ 6), (vI ⟨T, 5, none⟩ 6), (vI ⟨T, 6, none⟩ 6), (vI ⟨T, 7, none⟩ 6), (vI ⟨T, 8, none⟩ 6), (vI ⟨T, 9, none⟩ 4), (vI ⟨T, 10, none⟩ 8), (vI ⟨T, 11, none⟩ 1), (vI ⟨T, 12, none⟩ 6), (vI ⟨T, 13, none⟩ 8)], rfl, (List.Mem.tail _ (List.Mem.head _)), fun i hi => by match i, hi with | 0, _ => rfl | 1, _ => rfl | 2, _ => rfl | 3, _ => rfl | 4, _ => rfl | 5, _ => rfl | 6, _ => rfl | 7, _ => rfl | 8, _ => rfl | 9, _ => rfl | 10, _ => rfl | 11, _ => rfl | 12, _ => rfl | (q + 13), h => exact absurd h (by omega)⟩, fun i hi => by
      match i, hi with
      | 0, _ => exact Tf.tx T 40 _ _ 14 1 (by decide) 16
      | 1, _ => exact Tf.tx T 40 _ _ 14 2 (by decide) 16
      | 2, _ => exact Tf.na T 40 _ _ 14 3 (by decide) 60 (by decide)
      | 3, _ => exact Tf.nu T 40 _ _ 14 4 (by decide) 6
      | 4, _ => exact Tf.nu T 40 _ _ 14 5 (by decide) 6
      | 5, _ => exact Tf.nu T 40 _ _ 14 6 (by decide) 6
      | 6, _ => exact Tf.nu T 40 _ _ 14 7 (by decide) 6
      | 7, _ => exact Tf.nu T 40 _ _ 14 8 (by decide) 6
      | 8, _ => exact Tf.nu T 40 _ _ 14 9 (by decide) 4
      | 9, _ => exact Tf.nu T 40 _ _ 14 10 (by decide) 8
      | 10, _ => exact Tf.nu T 40 _ _ 14 11 (by decide) 1
      | 11, _ => exact Tf.nu T 40 _ _ 14 12 (by decide) 6
      | 12, _ => exact Tf.nu T 40 _ _ 14 13 (by decide) 8
      | (q + 13), h => exact absurd h (by omega), hls, hfx⟩
  have hrc : Rec 0 T 40 [.n 0, .s [], .s [], .z, .n 0, .n 0, .n 0, .n 0, .n 0, .n 0, .n 0, .n 0, .n 0, .n 0] W := ⟨#[I 0, S [], S [], .slice none 0 0, I 0, I 0, I 0, I 0, I 0, I 0, I 0, I 0, I 0, I 0].toList, hT, rfl, fun j q y h1 h2 => by
    match j, h1, h2 with
    | 0, h1, h2 => cases h1; cases h2; rfl
    | 1, h1, h2 => cases h1; cases h2; rfl
    | 2, h1, h2 => cases h1; cases h2; rfl
    | 3, h1, h2 => cases h1; cases h2; rfl
    | 4, h1, h2 => cases h1; cases h2; rfl
    | 5, h1, h2 => cases h1; cases h2; rfl
    | 6, h1, h2 => cases h1; cases h2; rfl
    | 7, h1, h2 => cases h1; cases h2; rfl
    | 8, h1, h2 => cases h1; cases h2; rfl
    | 9, h1, h2 => cases h1; cases h2; rfl
    | 10, h1, h2 => cases h1; cases h2; rfl
    | 11, h1, h2 => cases h1; cases h2; rfl
    | 12, h1, h2 => cases h1; cases h2; rfl
    | 13, h1, h2 => cases h1; cases h2; rfl
    | (j + 14), h1, h2 => cases h1⟩
  refine (ltake_any (some ⟨c 0, 0, none⟩) (some ⟨c 1, 0, none⟩) 2 13 _ _ famstk famstv T 40 _ _ 14 k v [.n 0, .s [], .s [], .z, .n 0, .n 0, .n 0, .n 0, .n 0, .n 0, .n 0, .n 0, .n 0, .n 0] W rfl hk hv r1 r2 hrc rfl (famRd_nl k)).mono ?_
  rintro e w' ⟨rfl, q1, q2⟩
  refine ⟨rfl, by rw [← famRd_eq]; exact q1, q2.mono (fun q _ e => ?_)⟩
  rcases e with e | e
  · exact .inl e
  · simp only [List.mem_cons, List.not_mem_nil, or_false] at e
    exact .inr (by omega)
theorem rc86 {B T : Nat} {k v : Bs} {W : World} (h : Rec B T 40 (famRd k v) W) : ∃ va vc, W.heap[T]? = some (.cells #[I (fam_id k), S (fam_cl v), S (fam_su v), .slice va (fam_sc v).length vc, I (fam_cr v), I (fam_us v), I (fam_idl v), I (fam_ab v), I (fam_gr v), I (fam_ge v), I (fam_to v), I (fam_st v), I (fam_en v), I (fam_co v)] 40 (0, 0)) ∧ OwnS B W (.slice va (fam_sc v).length vc) (fam_sc v) := by
  obtain ⟨vs, g1, g2, g3⟩ := h
  match vs, g1, g2, g3 with
  | [v0, v1, v2, v3, v4, v5, v6, v7, v8, v9, v10, v11, v12, v13], g1, _, g3 =>
    have q0 : CtAt B W (.n (fam_id k)) v0 := g3 0 _ _ rfl rfl
    cases q0
    have q1 : CtAt B W (.s (fam_cl v)) v1 := g3 1 _ _ rfl rfl
    cases q1
    have q2 : CtAt B W (.s (fam_su v)) v2 := g3 2 _ _ rfl rfl
    cases q2
    have q3 : CtAt B W (.l (fam_sc v)) v3 := g3 3 _ _ rfl rfl
    obtain ⟨va, vc, e⟩ := OwnS.form q3
    subst e
    have q3' := q3
    have q4 : CtAt B W (.n (fam_cr v)) v4 := g3 4 _ _ rfl rfl
    cases q4
    have q5 : CtAt B W (.n (fam_us v)) v5 := g3 5 _ _ rfl rfl
    cases q5
    have q6 : CtAt B W (.n (fam_idl v)) v6 := g3 6 _ _ rfl rfl
    cases q6
    have q7 : CtAt B W (.n (fam_ab v)) v7 := g3 7 _ _ rfl rfl
    cases q7
    have q8 : CtAt B W (.n (fam_gr v)) v8 := g3 8 _ _ rfl rfl
    cases q8
    have q9 : CtAt B W (.n (fam_ge v)) v9 := g3 9 _ _ rfl rfl
    cases q9
    have q10 : CtAt B W (.n (fam_to v)) v10 := g3 10 _ _ rfl rfl
    cases q10
    have q11 : CtAt B W (.n (fam_st v)) v11 := g3 11 _ _ rfl rfl
    cases q11
    have q12 : CtAt B W (.n (fam_en v)) v12 := g3 12 _ _ rfl rfl
    cases q12
    have q13 : CtAt B W (.n (fam_co v)) v13 := g3 13 _ _ rfl rfl
    cases q13
    exact ⟨va, vc, g1, q3'⟩
theorem pa86 (k v : Bs) (w : World) (hk : k.length ≤ 9223372036854775807) (hv : v.length ≤ 9223372036854775807) : Calls Tryz.prog 86 #[.agg #[S k, S v], FN 73, FN 74] w fun e w' => Below w.heap.size w w' ∧ ((famG k v = true ∧ ∃ va vc, e = .returned (.tuple #[.agg #[I (fam_id k), S (fam_cl v), S (fam_su v), .slice va (fam_sc v).length vc, I (fam_cr v), I (fam_us v), I (fam_idl v), I (fam_ab v), I (fam_gr v), I (fam_ge v), I (fam_to v), I (fam_st v), I (fam_en v), I (fam_co v)], I 0]) ∧ OwnS w.heap.size w' (.slice va (fam_sc v).length vc) (fam_sc v)) ∨ (famG k v = false ∧ e = .returned (.tuple #[.agg #[I 0, S [], S [], .slice none 0 0, I 0, I 0, I 0, I 0, I 0, I 0, I 0, I 0, I 0, I 0], I 141]))) := by
  have hb0 : Below w.heap.size w ((((w.alloc (.cells #[S k, S v] 30)).alloc (.cells #[I 0, S [], S [], .slice none 0 0, I 0, I 0, I 0, I 0, I 0, I 0, I 0, I 0, I 0, I 0] 40)).alloc (.cells #[I 0, S [], S [], .slice none 0 0, I 0, I 0, I 0, I 0, I 0, I 0, I 0, I 0, I 0, I 0] 40)).alloc (.cells #[I 0, S [], S [], .slice none 0 0, I 0, I 0, I 0, I 0, I 0, I 0, I 0, I 0, I 0, I 0] 40)) := ((((Below.refl _ w).alloc (Nat.le_refl _) _).alloc (by simp) _).alloc (by first | (simp; done) | (simp; omega)) _).alloc (by first | (simp; done) | (simp; omega)) _
  have hP : ((((w.alloc (.cells #[S k, S v] 30)).alloc (.cells #[I 0, S [], S [], .slice none 0 0, I 0, I 0, I 0, I 0, I 0, I 0, I 0, I 0, I 0, I 0] 40)).alloc (.cells #[I 0, S [], S [], .slice none 0 0, I 0, I 0, I 0, I 0, I 0, I 0, I 0, I 0, I 0, I 0] 40)).alloc (.cells #[I 0, S [], S [], .slice none 0 0, I 0, I 0, I 0, I 0, I 0, I 0, I 0, I 0, I 0, I 0] 40)).heap[w.heap.size]? = some (.cells #[S k, S v] 30 (0, 0)) := by
    rw [heap_alloc_old _ _ (by first | (simp; done) | (simp; omega))]; rw [heap_alloc_old _ _ (by first | (simp; done) | (simp; omega))]; rw [heap_alloc_old _ _ (by first | (simp; done) | (simp; omega))]; 
    have e := heap_alloc_new w (.cells #[S k, S v] 30)
    simpa using e
  have hR : ((((w.alloc (.cells #[S k, S v] 30)).alloc (.cells #[I 0, S [], S [], .slice none 0 0, I 0, I 0, I 0, I 0, I 0, I 0, I 0, I 0, I 0, I 0] 40)).alloc (.cells #[I 0, S [], S [], .slice none 0 0, I 0, I 0, I 0, I 0, I 0, I 0, I 0, I 0, I 0, I 0] 40)).alloc (.cells #[I 0, S [], S [], .slice none 0 0, I 0, I 0, I 0, I 0, I 0, I 0, I 0, I 0, I 0, I 0] 40)).heap[w.heap.size + 1]? = some (.cells #[I 0, S [], S [], .slice none 0 0, I 0, I 0, I 0, I 0, I 0, I 0, I 0, I 0, I 0, I 0] 40 (0, 0)) := by
    rw [heap_alloc_old _ _ (by first | (simp; done) | (simp; omega))]; rw [heap_alloc_old _ _ (by first | (simp; done) | (simp; omega))]; 
    have e := heap_alloc_new (w.alloc (.cells #[S k, S v] 30)) (.cells #[I 0, S [], S [], .slice none 0 0, I 0, I 0, I 0, I 0, I 0, I 0, I 0, I 0, I 0, I 0] 40)
    simpa using e
  have hT : ((((w.alloc (.cells #[S k, S v] 30)).alloc (.cells #[I 0, S [], S [], .slice none 0 0, I 0, I 0, I 0, I 0, I 0, I 0, I 0, I 0, I 0, I 0] 40)).alloc (.cells #[I 0, S [], S [], .slice none 0 0, I 0, I 0, I 0, I 0, I 0, I 0, I 0, I 0, I 0, I 0] 40)).alloc (.cells #[I 0, S [], S [], .slice none 0 0, I 0, I 0, I 0, I 0, I 0, I 0, I 0, I 0, I 0, I 0] 40)).heap[w.heap.size + 1 + 1]? = some (.cells #[I 0, S [], S [], .slice none 0 0, I 0, I 0, I 0, I 0, I 0, I 0, I 0, I 0, I 0, I 0] 40 (0, 0)) := by
    rw [heap_alloc_old _ _ (by first | (simp; done) | (simp; omega))]; 
    have e := heap_alloc_new ((w.alloc (.cells #[S k, S v] 30)).alloc (.cells #[I 0, S [], S [], .slice none 0 0, I 0, I 0, I 0, I 0, I 0, I 0, I 0, I 0, I 0, I 0] 40)) (.cells #[I 0, S [], S [], .slice none 0 0, I 0, I 0, I 0, I 0, I 0, I 0, I 0, I 0, I 0, I 0] 40)
    simpa using e
  have hZ : ((((w.alloc (.cells #[S k, S v] 30)).alloc (.cells #[I 0, S [], S [], .slice none 0 0, I 0, I 0, I 0, I 0, I 0, I 0, I 0, I 0, I 0, I 0] 40)).alloc (.cells #[I 0, S [], S [], .slice none 0 0, I 0, I 0, I 0, I 0, I 0, I 0, I 0, I 0, I 0, I 0] 40)).alloc (.cells #[I 0, S [], S [], .slice none 0 0, I 0, I 0, I 0, I 0, I 0, I 0, I 0, I 0, I 0, I 0] 40)).heap[w.heap.size + 1 + 1 + 1]? = some (.cells #[I 0, S [], S [], .slice none 0 0, I 0, I 0, I 0, I 0, I 0, I 0, I 0, I 0, I 0, I 0] 40 (0, 0)) := by
    
    have e := heap_alloc_new (((w.alloc (.cells #[S k, S v] 30)).alloc (.cells #[I 0, S [], S [], .slice none 0 0, I 0, I 0, I 0, I 0, I 0, I 0, I 0, I 0, I 0, I 0] 40)).alloc (.cells #[I 0, S [], S [], .slice none 0 0, I 0, I 0, I 0, I 0, I 0, I 0, I 0, I 0, I 0, I 0] 40)) (.cells #[I 0, S [], S [], .slice none 0 0, I 0, I 0, I 0, I 0, I 0, I 0, I 0, I 0, I 0, I 0] 40)
    simpa using e
  have hsz : ((((w.alloc (.cells #[S k, S v] 30)).alloc (.cells #[I 0, S [], S [], .slice none 0 0, I 0, I 0, I 0, I 0, I 0, I 0, I 0, I 0, I 0, I 0] 40)).alloc (.cells #[I 0, S [], S [], .slice none 0 0, I 0, I 0, I 0, I 0, I 0, I 0, I 0, I 0, I 0, I 0] 40)).alloc (.cells #[I 0, S [], S [], .slice none 0 0, I 0, I 0, I 0, I 0, I 0, I 0, I 0, I 0, I 0, I 0] 40)).heap.size = w.heap.size + 1 + 1 + 1 + 1 := by simp
  have h_cl : (fam_cl v).length ≤ 9223372036854775807 := Nat.le_trans (tv_len _ _) (by decide)
  have h_su : (fam_su v).length ≤ 9223372036854775807 := Nat.le_trans (tv_len _ _) (by decide)
  have hrgt : right (fam_sc v) = true := parse_ok _
  have hsl : (fam_sc v).length ≤ 140737488355000 := by have := (right_small hrgt).1; omega
  have hln : Lns (fam_sc v) := lns_right hrgt
  have HG : Hid (famG k v = (famP (fam_id k) (fam_cl v) (fam_su v) (fam_sc v) (fam_cr v) (fam_us v) (fam_idl v) (fam_ab v) (fam_gr v) (fam_ge v) (fam_to v) (fam_st v) (fam_en v) (fam_co v) == ((k, v), 0))) := hide rfl
  generalize famG k v = GG at *
  go_enter Tryz.func86, Tryz.ntmps86
  go_wp2_with fail
  generalize (((w.alloc (.cells #[S k, S v] 30)).alloc (.cells #[I 0, S [], S [], .slice none 0 0, I 0, I 0, I 0, I 0, I 0, I 0, I 0, I 0, I 0, I 0] 40)).alloc (.cells #[I 0, S [], S [], .slice none 0 0, I 0, I 0, I 0, I 0, I 0, I 0, I 0, I 0, I 0, I 0] 40)).alloc (.cells #[I 0, S [], S [], .slice none 0 0, I 0, I 0, I 0, I 0, I 0, I 0, I 0, I 0, I 0, I 0] 40) = W1 at *
  generalize hZe : w.heap.size + 1 + 1 + 1 = Z at *
  generalize hTe : w.heap.size + 1 + 1 = T at *
  generalize hRe : w.heap.size + 1 = R at *
  generalize hPe : w.heap.size = P at *
  refine rpa86 T P k v rfl (by rfl) (by rfl) _ W1 (by simp) rfl rfl rfl (Paq w T P R Z 40 #[I 0, S [], S [], .slice none 0 0, I 0, I 0, I 0, I 0, I 0, I 0, I 0, I 0, I 0, I 0] k v (lyf86 W1.heap.size T) (fun W => Rec W1.heap.size T 40 (famRd k v) W))
    ⟨fun _ => 0, ⟨by rw [hPe]; exact hb0.drew, hP, hR, hZ, (fun e => by cases e), fun _ => hT, (fun e => by cases e), (fun e => by cases e)⟩⟩
    (fun i hi c L W hW => hW.pure i (fun e => hi (by simp [e])) (fun e => hi (by simp [e])))
    (fun c L W hW hL _ => ?r1)
    (fun c L W hW _ => s_ldr (T := 30) (n := 2) (fun _ => by kernel_rfl) (fun _ => by kernel_rfl) (o := 0) hW.pb [S k, S v] rfl rfl)
    (fun c L W hW hL h1 _ => ?r3) ?hend
  case r1 =>
    have f3 : L 3 = false := no_of hW.dep hL
    have hTl := lt_of_row (hW.t0 f3)
    have hZl := lt_of_row hW.zb
    refine (lay74 T W).mono ?_
    rintro e w' ⟨c', rfl, hb, hL1, hs0, hs1⟩
    refine ⟨c', fun j hj => ?_, rfl, hW.lay hL hb ⟨W.heap.size, by omega, hTl, by have := lt_of_row hL1; omega, hL1, hs0, hs1⟩⟩
    match j, hj with
    | 0, _ => rfl
    | 1, hj => rw [hL] at hj; cases hj
    | 2, _ => rfl
    | 3, _ => rfl
    | (q + 4), _ => rfl
  case r3 =>
    refine (tk86 W1.heap.size T c W k v hk hv (hW.ly h1 hL) (hW.t0 hL)).mono ?_
    rintro e w' ⟨rfl, q1, q2⟩
    exact ⟨c, fun _ _ => rfl, rfl, hW.take h1 q2 (by omega) (by omega) (by omega) (by omega) (by omega) (q1.weaken (by have := lt_of_row hW.zb; omega))⟩
  case hend =>
    intro c L W hall hW
    have hrec := hW.fn (hall 3 (by decide))
    obtain ⟨va, vc, hTW, hown⟩ := rc86 hrec
    have HB := hide hW.bel
    have HPB := hide hW.pb
    have HRB := hide hW.rb
    have HZB := hide hW.zb
    have HTB := hide hTW
    have hsc := OwnS.sts hown
    have HOW := hide hown
    have HPr := hide (pr72 (fam_id k) (fam_cl v) (fam_su v) va vc (fam_sc v) (fam_cr v) (fam_us v) (fam_idl v) (fam_ab v) (fam_gr v) (fam_ge v) (fam_to v) (fam_st v) (fam_en v) (fam_co v) W h_cl h_su hsc hsl hln)
    have t0 : W.cell? ⟨T, 0, none⟩ = some (I (fam_id k)) := cellr hTW rfl
    have t1 : W.cell? ⟨T, 1, none⟩ = some (S (fam_cl v)) := cellr hTW rfl
    have t2 : W.cell? ⟨T, 2, none⟩ = some (S (fam_su v)) := cellr hTW rfl
    have t3 : W.cell? ⟨T, 3, none⟩ = some (.slice va (fam_sc v).length vc) := cellr hTW rfl
    have t4 : W.cell? ⟨T, 4, none⟩ = some (I (fam_cr v)) := cellr hTW rfl
    have t5 : W.cell? ⟨T, 5, none⟩ = some (I (fam_us v)) := cellr hTW rfl
    have t6 : W.cell? ⟨T, 6, none⟩ = some (I (fam_idl v)) := cellr hTW rfl
    have t7 : W.cell? ⟨T, 7, none⟩ = some (I (fam_ab v)) := cellr hTW rfl
    have t8 : W.cell? ⟨T, 8, none⟩ = some (I (fam_gr v)) := cellr hTW rfl
    have t9 : W.cell? ⟨T, 9, none⟩ = some (I (fam_ge v)) := cellr hTW rfl
    have t10 : W.cell? ⟨T, 10, none⟩ = some (I (fam_to v)) := cellr hTW rfl
    have t11 : W.cell? ⟨T, 11, none⟩ = some (I (fam_st v)) := cellr hTW rfl
    have t12 : W.cell? ⟨T, 12, none⟩ = some (I (fam_en v)) := cellr hTW rfl
    have t13 : W.cell? ⟨T, 13, none⟩ = some (I (fam_co v)) := cellr hTW rfl
    clear hW hall hrec hb0 hP hR hT hZ hk hv hTW hsc hown hsl hln hrgt h_cl h_su
    generalize famP (fam_id k) (fam_cl v) (fam_su v) (fam_sc v) (fam_cr v) (fam_us v) (fam_idl v) (fam_ab v) (fam_gr v) (fam_ge v) (fam_to v) (fam_st v) (fam_en v) (fam_co v) = Q at *
    obtain ⟨⟨q1, q2⟩, q3⟩ := Q
    simp only [Act.put, List.setIfInBounds_toArray, List.set_cons_succ, List.set_cons_zero]
    go_wp2_with fail
    refine (unhide HPr).mono ?_
    rintro e w3 ⟨rfl, hw3⟩
    have HB3 := hide ((unhide HB).trans (hw3.mono (unhide HB).size))
    have hP3 := (hw3.block _ (lt_of_row (unhide HPB))).trans (unhide HPB)
    have hR3 := (hw3.block _ (lt_of_row (unhide HRB))).trans (unhide HRB)
    have hZ3 := (hw3.block _ (lt_of_row (unhide HZB))).trans (unhide HZB)
    have hT3 := (hw3.block _ (lt_of_row (unhide HTB))).trans (unhide HTB)
    have HOW3 := hide (OwnS.below (unhide HOW) hw3 (Nat.le_refl _))
    have hb4 : Below w3.heap.size w3 (w3.alloc (.cells #[S q1, S q2] 30)) := (Below.refl _ _).alloc (Nat.le_refl _) _
    have hA0 : (w3.alloc (.cells #[S q1, S q2] 30)).cell? ⟨w3.heap.size, 0, none⟩ = some (S q1) := cell_new _ _ _ _ _ rfl
    have hA1 : (w3.alloc (.cells #[S q1, S q2] 30)).cell? ⟨w3.heap.size, 1, none⟩ = some (S q2) := cell_new _ _ _ _ _ rfl
    have HB4 := hide ((unhide HB3).trans (hb4.mono (unhide HB3).size))
    replace hP3 := (hb4.block _ (lt_of_row hP3)).trans hP3
    replace hR3 := (hb4.block _ (lt_of_row hR3)).trans hR3
    replace hZ3 := (hb4.block _ (lt_of_row hZ3)).trans hZ3
    replace hT3 := (hb4.block _ (lt_of_row hT3)).trans hT3
    have HOW4 := hide (OwnS.below (unhide HOW3) hb4 (Nat.le_refl _))
    have p0 : (w3.alloc (.cells #[S q1, S q2] 30)).cell? ⟨P, 0, none⟩ = some (S k) := cellr hP3 rfl
    have p1 : (w3.alloc (.cells #[S q1, S q2] 30)).cell? ⟨P, 1, none⟩ = some (S v) := cellr hP3 rfl
    have u0 : (w3.alloc (.cells #[S q1, S q2] 30)).cell? ⟨T, 0, none⟩ = some (I (fam_id k)) := cellr hT3 rfl
    have z0 : (w3.alloc (.cells #[S q1, S q2] 30)).cell? ⟨Z, 0, none⟩ = some (I 0) := cellr hZ3 rfl
    have u1 : (w3.alloc (.cells #[S q1, S q2] 30)).cell? ⟨T, 1, none⟩ = some (S (fam_cl v)) := cellr hT3 rfl
    have z1 : (w3.alloc (.cells #[S q1, S q2] 30)).cell? ⟨Z, 1, none⟩ = some (S []) := cellr hZ3 rfl
    have u2 : (w3.alloc (.cells #[S q1, S q2] 30)).cell? ⟨T, 2, none⟩ = some (S (fam_su v)) := cellr hT3 rfl
    have z2 : (w3.alloc (.cells #[S q1, S q2] 30)).cell? ⟨Z, 2, none⟩ = some (S []) := cellr hZ3 rfl
    have u3 : (w3.alloc (.cells #[S q1, S q2] 30)).cell? ⟨T, 3, none⟩ = some (.slice va (fam_sc v).length vc) := cellr hT3 rfl
    have z3 : (w3.alloc (.cells #[S q1, S q2] 30)).cell? ⟨Z, 3, none⟩ = some (.slice none 0 0) := cellr hZ3 rfl
    have u4 : (w3.alloc (.cells #[S q1, S q2] 30)).cell? ⟨T, 4, none⟩ = some (I (fam_cr v)) := cellr hT3 rfl
    have z4 : (w3.alloc (.cells #[S q1, S q2] 30)).cell? ⟨Z, 4, none⟩ = some (I 0) := cellr hZ3 rfl
    have u5 : (w3.alloc (.cells #[S q1, S q2] 30)).cell? ⟨T, 5, none⟩ = some (I (fam_us v)) := cellr hT3 rfl
    have z5 : (w3.alloc (.cells #[S q1, S q2] 30)).cell? ⟨Z, 5, none⟩ = some (I 0) := cellr hZ3 rfl
    have u6 : (w3.alloc (.cells #[S q1, S q2] 30)).cell? ⟨T, 6, none⟩ = some (I (fam_idl v)) := cellr hT3 rfl
    have z6 : (w3.alloc (.cells #[S q1, S q2] 30)).cell? ⟨Z, 6, none⟩ = some (I 0) := cellr hZ3 rfl
    have u7 : (w3.alloc (.cells #[S q1, S q2] 30)).cell? ⟨T, 7, none⟩ = some (I (fam_ab v)) := cellr hT3 rfl
    have z7 : (w3.alloc (.cells #[S q1, S q2] 30)).cell? ⟨Z, 7, none⟩ = some (I 0) := cellr hZ3 rfl
    have u8 : (w3.alloc (.cells #[S q1, S q2] 30)).cell? ⟨T, 8, none⟩ = some (I (fam_gr v)) := cellr hT3 rfl
    have z8 : (w3.alloc (.cells #[S q1, S q2] 30)).cell? ⟨Z, 8, none⟩ = some (I 0) := cellr hZ3 rfl
    have u9 : (w3.alloc (.cells #[S q1, S q2] 30)).cell? ⟨T, 9, none⟩ = some (I (fam_ge v)) := cellr hT3 rfl
    have z9 : (w3.alloc (.cells #[S q1, S q2] 30)).cell? ⟨Z, 9, none⟩ = some (I 0) := cellr hZ3 rfl
    have u10 : (w3.alloc (.cells #[S q1, S q2] 30)).cell? ⟨T, 10, none⟩ = some (I (fam_to v)) := cellr hT3 rfl
    have z10 : (w3.alloc (.cells #[S q1, S q2] 30)).cell? ⟨Z, 10, none⟩ = some (I 0) := cellr hZ3 rfl
    have u11 : (w3.alloc (.cells #[S q1, S q2] 30)).cell? ⟨T, 11, none⟩ = some (I (fam_st v)) := cellr hT3 rfl
    have z11 : (w3.alloc (.cells #[S q1, S q2] 30)).cell? ⟨Z, 11, none⟩ = some (I 0) := cellr hZ3 rfl
    have u12 : (w3.alloc (.cells #[S q1, S q2] 30)).cell? ⟨T, 12, none⟩ = some (I (fam_en v)) := cellr hT3 rfl
    have z12 : (w3.alloc (.cells #[S q1, S q2] 30)).cell? ⟨Z, 12, none⟩ = some (I 0) := cellr hZ3 rfl
    have u13 : (w3.alloc (.cells #[S q1, S q2] 30)).cell? ⟨T, 13, none⟩ = some (I (fam_co v)) := cellr hT3 rfl
    have z13 : (w3.alloc (.cells #[S q1, S q2] 30)).cell? ⟨Z, 13, none⟩ = some (I 0) := cellr hZ3 rfl
    have HR4 := hide hR3
    clear HPr hw3 HB HPB HRB HZB HTB HB3 hP3 hR3 hZ3 hT3 hb4 t0 t1 t2 t3 t4 t5 t6 t7 t8 t9 t10 t11 t12 t13 HOW HOW3
    have hn30 := ne30 q1 q2 k v
    by_cases e0 : q3 = 0
    · subst e0
      by_cases e1 : q1 = k ∧ q2 = v
      · have HGF : Hid (GG = true) := hide (by rw [unhide HG]; simp [e1])
        have hb1 : (q1 == k && q2 == v) = true := by simp [e1]
        rw [hb1] at hn30
        clear e1 hb1
        go_wp2_with (refine wp_stT (ty := 40) (n := 14) (by kernel_rfl) rfl (.tmp 6) (.tmp 31) rfl R (by rfl) #[I (fam_id k), S (fam_cl v), S (fam_su v), .slice va (fam_sc v).length vc, I (fam_cr v), I (fam_us v), I (fam_idl v), I (fam_ab v), I (fam_gr v), I (fam_ge v), I (fam_to v), I (fam_st v), I (fam_en v), I (fam_co v)] rfl (by simp [Value.oneCell']) (by rfl) #[I 0, S [], S [], .slice none 0 0, I 0, I 0, I 0, I 0, I 0, I 0, I 0, I 0, I 0, I 0] rfl (unhide HR4) ?_)
        refine out2c (T := 40) (n := 14) (p := 6) (q := 7) (cs := #[I (fam_id k), S (fam_cl v), S (fam_su v), .slice va (fam_sc v).length vc, I (fam_cr v), I (fam_us v), I (fam_idl v), I (fam_ab v), I (fam_gr v), I (fam_ge v), I (fam_to v), I (fam_st v), I (fam_en v), I (fam_co v)]) (fun _ => by kernel_rfl) (fun _ => by kernel_rfl) (Z := R) (by rfl) (by rfl) (by rfl) (by rfl) (setRow_row (unhide HR4)) (by rfl) ?_
        refine ⟨(setRow_Only (w3.alloc (.cells #[S q1, S q2] 30)) R #[I (fam_id k), S (fam_cl v), S (fam_su v), .slice va (fam_sc v).length vc, I (fam_cr v), I (fam_us v), I (fam_idl v), I (fam_ab v), I (fam_gr v), I (fam_ge v), I (fam_to v), I (fam_st v), I (fam_en v), I (fam_co v)]).below (unhide HB4) (unhide HB4).size (fun q e => by omega), .inl ⟨unhide HGF, va, vc, rfl, ?_⟩⟩
        exact OwnS.below (CtAt.keep (c := .l _) (unhide HOW4) _ (setRow_Only _ R _) (fun q e => by omega)) (Below.refl _ _) (by omega)
      · have HGF : Hid (GG = false) := hide (by rw [unhide HG]; simp; exact fun a b => e1 ⟨a, b⟩)
        have hb1 : (q1 == k && q2 == v) = false := by simp; exact fun a b => e1 ⟨a, b⟩
        rw [hb1] at hn30
        clear e1 hb1
        go_wp2_with (refine wp_stT (ty := 40) (n := 14) (by kernel_rfl) rfl (.tmp 6) (.tmp 30) rfl R (by rfl) #[I 0, S [], S [], .slice none 0 0, I 0, I 0, I 0, I 0, I 0, I 0, I 0, I 0, I 0, I 0] rfl (by simp [Value.oneCell']) (by rfl) #[I 0, S [], S [], .slice none 0 0, I 0, I 0, I 0, I 0, I 0, I 0, I 0, I 0, I 0, I 0] rfl (unhide HR4) ?_)
        refine out2c (T := 40) (n := 14) (p := 6) (q := 7) (cs := #[I 0, S [], S [], .slice none 0 0, I 0, I 0, I 0, I 0, I 0, I 0, I 0, I 0, I 0, I 0]) (fun _ => by kernel_rfl) (fun _ => by kernel_rfl) (Z := R) (by rfl) (by rfl) (by rfl) (by rfl) (setRow_row (unhide HR4)) (by rfl) ?_
        refine ⟨(setRow_Only (w3.alloc (.cells #[S q1, S q2] 30)) R #[I 0, S [], S [], .slice none 0 0, I 0, I 0, I 0, I 0, I 0, I 0, I 0, I 0, I 0, I 0]).below (unhide HB4) (unhide HB4).size (fun q e => by omega), .inr ⟨unhide HGF, rfl⟩⟩
    · have HGF : Hid (GG = false) := hide (by rw [unhide HG]; simp [e0])
      have e2 : ((q3 : Int) != 0) = true := by simp; exact e0
      go_wp2_with (refine wp_stT (ty := 40) (n := 14) (by kernel_rfl) rfl (.tmp 6) (.tmp 30) rfl R (by rfl) #[I 0, S [], S [], .slice none 0 0, I 0, I 0, I 0, I 0, I 0, I 0, I 0, I 0, I 0, I 0] rfl (by simp [Value.oneCell']) (by rfl) #[I 0, S [], S [], .slice none 0 0, I 0, I 0, I 0, I 0, I 0, I 0, I 0, I 0, I 0, I 0] rfl (unhide HR4) ?_)
      refine out2c (T := 40) (n := 14) (p := 6) (q := 7) (cs := #[I 0, S [], S [], .slice none 0 0, I 0, I 0, I 0, I 0, I 0, I 0, I 0, I 0, I 0, I 0]) (fun _ => by kernel_rfl) (fun _ => by kernel_rfl) (Z := R) (by rfl) (by rfl) (by rfl) (by rfl) (setRow_row (unhide HR4)) (by rfl) ?_
      refine ⟨(setRow_Only (w3.alloc (.cells #[S q1, S q2] 30)) R #[I 0, S [], S [], .slice none 0 0, I 0, I 0, I 0, I 0, I 0, I 0, I 0, I 0, I 0, I 0]).below (unhide HB4) (unhide HB4).size (fun q e => by omega), .inr ⟨unhide HGF, rfl⟩⟩
end Go.Proofs.YtpidmpefodnffaaGreatDoor
namespace Go.Proofs.YtpidmpefodnffaaGreatDoor
open Go.RowKit
set_option maxHeartbeats 4000000
set_option maxRecDepth 8000
theorem Print19 (id : Int) (cl : Bs) (su : Bs) (va : Option Addr) (vc : Nat) (sc : List Bs) (cr : Int) (us : Int) (idl : Int) (ab : Int) (gr : Int) (ge : Int) (to : Int) (st : Int) (en : Int) (co : Int) (w : World) (h_cl : cl.length ≤ 9223372036854775807) (h_su : su.length ≤ 9223372036854775807) (hsc : Sts w va sc.length sc) (hsl : sc.length ≤ 140737488355000) (hln : Lns sc) : Calls Tryz.prog 19 #[.agg #[I id, S cl, S su, .slice va sc.length vc, I cr, I us, I idl, I ab, I gr, I ge, I to, I st, I en, I co]] w fun e w' => e = .returned (.tuple #[.agg #[S (famP id cl su sc cr us idl ab gr ge to st en co).1.1, S (famP id cl su sc cr us idl ab gr ge to st en co).1.2], I (famP id cl su sc cr us idl ab gr ge to st en co).2]) ∧ Below w.heap.size w w' := by
  have hb0 : Below w.heap.size w ((w.alloc (.cells #[I id, S cl, S su, .slice va sc.length vc, I cr, I us, I idl, I ab, I gr, I ge, I to, I st, I en, I co] 40)).alloc (.cells #[S [], S []] 30)) := ((Below.refl _ w).alloc (Nat.le_refl _) _).alloc (by simp) _
  have hT : ((w.alloc (.cells #[I id, S cl, S su, .slice va sc.length vc, I cr, I us, I idl, I ab, I gr, I ge, I to, I st, I en, I co] 40)).alloc (.cells #[S [], S []] 30)).heap[w.heap.size]? = some (.cells #[I id, S cl, S su, .slice va sc.length vc, I cr, I us, I idl, I ab, I gr, I ge, I to, I st, I en, I co] 40 (0, 0)) := by
    rw [heap_alloc_old _ _ (by simp)]; exact heap_alloc_new _ _
  have hR : ((w.alloc (.cells #[I id, S cl, S su, .slice va sc.length vc, I cr, I us, I idl, I ab, I gr, I ge, I to, I st, I en, I co] 40)).alloc (.cells #[S [], S []] 30)).heap[w.heap.size + 1]? = some (.cells #[S [], S []] 30 (0, 0)) := by
    have e := heap_alloc_new (w.alloc (.cells #[I id, S cl, S su, .slice va sc.length vc, I cr, I us, I idl, I ab, I gr, I ge, I to, I st, I en, I co] 40)) (.cells #[S [], S []] 30)
    simpa using e
  have HPr := hide (pr72 id cl su va vc sc cr us idl ab gr ge to st en co ((w.alloc (.cells #[I id, S cl, S su, .slice va sc.length vc, I cr, I us, I idl, I ab, I gr, I ge, I to, I st, I en, I co] 40)).alloc (.cells #[S [], S []] 30)) h_cl h_su (Sts.bel hsc hb0) hsl hln)
  have c0 : ((w.alloc (.cells #[I id, S cl, S su, .slice va sc.length vc, I cr, I us, I idl, I ab, I gr, I ge, I to, I st, I en, I co] 40)).alloc (.cells #[S [], S []] 30)).cell? ⟨w.heap.size, 0, none⟩ = some (I id) := cellr hT rfl
  have c1 : ((w.alloc (.cells #[I id, S cl, S su, .slice va sc.length vc, I cr, I us, I idl, I ab, I gr, I ge, I to, I st, I en, I co] 40)).alloc (.cells #[S [], S []] 30)).cell? ⟨w.heap.size, 1, none⟩ = some (S cl) := cellr hT rfl
  have c2 : ((w.alloc (.cells #[I id, S cl, S su, .slice va sc.length vc, I cr, I us, I idl, I ab, I gr, I ge, I to, I st, I en, I co] 40)).alloc (.cells #[S [], S []] 30)).cell? ⟨w.heap.size, 2, none⟩ = some (S su) := cellr hT rfl
  have c3 : ((w.alloc (.cells #[I id, S cl, S su, .slice va sc.length vc, I cr, I us, I idl, I ab, I gr, I ge, I to, I st, I en, I co] 40)).alloc (.cells #[S [], S []] 30)).cell? ⟨w.heap.size, 3, none⟩ = some (.slice va sc.length vc) := cellr hT rfl
  have c4 : ((w.alloc (.cells #[I id, S cl, S su, .slice va sc.length vc, I cr, I us, I idl, I ab, I gr, I ge, I to, I st, I en, I co] 40)).alloc (.cells #[S [], S []] 30)).cell? ⟨w.heap.size, 4, none⟩ = some (I cr) := cellr hT rfl
  have c5 : ((w.alloc (.cells #[I id, S cl, S su, .slice va sc.length vc, I cr, I us, I idl, I ab, I gr, I ge, I to, I st, I en, I co] 40)).alloc (.cells #[S [], S []] 30)).cell? ⟨w.heap.size, 5, none⟩ = some (I us) := cellr hT rfl
  have c6 : ((w.alloc (.cells #[I id, S cl, S su, .slice va sc.length vc, I cr, I us, I idl, I ab, I gr, I ge, I to, I st, I en, I co] 40)).alloc (.cells #[S [], S []] 30)).cell? ⟨w.heap.size, 6, none⟩ = some (I idl) := cellr hT rfl
  have c7 : ((w.alloc (.cells #[I id, S cl, S su, .slice va sc.length vc, I cr, I us, I idl, I ab, I gr, I ge, I to, I st, I en, I co] 40)).alloc (.cells #[S [], S []] 30)).cell? ⟨w.heap.size, 7, none⟩ = some (I ab) := cellr hT rfl
  have c8 : ((w.alloc (.cells #[I id, S cl, S su, .slice va sc.length vc, I cr, I us, I idl, I ab, I gr, I ge, I to, I st, I en, I co] 40)).alloc (.cells #[S [], S []] 30)).cell? ⟨w.heap.size, 8, none⟩ = some (I gr) := cellr hT rfl
  have c9 : ((w.alloc (.cells #[I id, S cl, S su, .slice va sc.length vc, I cr, I us, I idl, I ab, I gr, I ge, I to, I st, I en, I co] 40)).alloc (.cells #[S [], S []] 30)).cell? ⟨w.heap.size, 9, none⟩ = some (I ge) := cellr hT rfl
  have c10 : ((w.alloc (.cells #[I id, S cl, S su, .slice va sc.length vc, I cr, I us, I idl, I ab, I gr, I ge, I to, I st, I en, I co] 40)).alloc (.cells #[S [], S []] 30)).cell? ⟨w.heap.size, 10, none⟩ = some (I to) := cellr hT rfl
  have c11 : ((w.alloc (.cells #[I id, S cl, S su, .slice va sc.length vc, I cr, I us, I idl, I ab, I gr, I ge, I to, I st, I en, I co] 40)).alloc (.cells #[S [], S []] 30)).cell? ⟨w.heap.size, 11, none⟩ = some (I st) := cellr hT rfl
  have c12 : ((w.alloc (.cells #[I id, S cl, S su, .slice va sc.length vc, I cr, I us, I idl, I ab, I gr, I ge, I to, I st, I en, I co] 40)).alloc (.cells #[S [], S []] 30)).cell? ⟨w.heap.size, 12, none⟩ = some (I en) := cellr hT rfl
  have c13 : ((w.alloc (.cells #[I id, S cl, S su, .slice va sc.length vc, I cr, I us, I idl, I ab, I gr, I ge, I to, I st, I en, I co] 40)).alloc (.cells #[S [], S []] 30)).cell? ⟨w.heap.size, 13, none⟩ = some (I co) := cellr hT rfl
  generalize hW1 : ((w.alloc (.cells #[I id, S cl, S su, .slice va sc.length vc, I cr, I us, I idl, I ab, I gr, I ge, I to, I st, I en, I co] 40)).alloc (.cells #[S [], S []] 30)) = W1 at *
  have HR := hide hR
  have HB := hide hb0
  clear hT hR hb0 hsc hsl hln
  generalize famP id cl su sc cr us idl ab gr ge to st en co = Q at *
  obtain ⟨⟨q1, q2⟩, q3⟩ := Q
  go_enter Tryz.func19, Tryz.ntmps19
  go_wp2_with fail
  refine (unhide HPr).mono ?_
  rintro e w2 ⟨rfl, hw2⟩
  have HB2 := hide ((unhide HB).trans (hw2.mono (unhide HB).size))
  have HR2 := hide ((hw2.block _ (lt_of_row (unhide HR))).trans (unhide HR))
  clear hw2 HPr HB HR c0 c1 c2 c3 c4 c5 c6 c7 c8 c9 c10 c11 c12 c13 hW1
  go_wp2_with (refine wp_st30 rfl (.tmp 2) (.tmp 6) rfl (w.heap.size + 1) (by rfl) q1 q2 (by rfl) #[S [], S []] rfl (unhide HR2) ?_)
  refine out2c (T := 30) (n := 2) (p := 2) (q := 3) (cs := #[S q1, S q2]) (fun _ => by kernel_rfl) (fun _ => by kernel_rfl) (Z := w.heap.size + 1) (by rfl) (by rfl) (by rfl) (by rfl) (setRow_row (unhide HR2)) (by rfl) ?_
  exact ⟨rfl, (setRow_Only w2 (w.heap.size + 1) #[S q1, S q2]).below (unhide HB2) (unhide HB2).size (fun k e => by omega)⟩
theorem Parse25 (k v : Bs) (w : World) (hk : k.length ≤ 9223372036854775807) (hv : v.length ≤ 9223372036854775807) : Calls Tryz.prog 25 #[.agg #[S k, S v]] w fun e w' => Below w.heap.size w w' ∧ ((famG k v = true ∧ ∃ va vc, e = .returned (.tuple #[.agg #[I (fam_id k), S (fam_cl v), S (fam_su v), .slice va (fam_sc v).length vc, I (fam_cr v), I (fam_us v), I (fam_idl v), I (fam_ab v), I (fam_gr v), I (fam_ge v), I (fam_to v), I (fam_st v), I (fam_en v), I (fam_co v)], I 0]) ∧ OwnS w.heap.size w' (.slice va (fam_sc v).length vc) (fam_sc v)) ∨ (famG k v = false ∧ e = .returned (.tuple #[.agg #[I 0, S [], S [], .slice none 0 0, I 0, I 0, I 0, I 0, I 0, I 0, I 0, I 0, I 0, I 0], I 141]))) := by
  have hb0 : Below w.heap.size w ((w.alloc (.cells #[S k, S v] 30)).alloc (.cells #[I 0, S [], S [], .slice none 0 0, I 0, I 0, I 0, I 0, I 0, I 0, I 0, I 0, I 0, I 0] 40)) := ((Below.refl _ w).alloc (Nat.le_refl _) _).alloc (by simp) _
  have hT : ((w.alloc (.cells #[S k, S v] 30)).alloc (.cells #[I 0, S [], S [], .slice none 0 0, I 0, I 0, I 0, I 0, I 0, I 0, I 0, I 0, I 0, I 0] 40)).heap[w.heap.size]? = some (.cells #[S k, S v] 30 (0, 0)) := by
    rw [heap_alloc_old _ _ (by simp)]; exact heap_alloc_new _ _
  have hR : ((w.alloc (.cells #[S k, S v] 30)).alloc (.cells #[I 0, S [], S [], .slice none 0 0, I 0, I 0, I 0, I 0, I 0, I 0, I 0, I 0, I 0, I 0] 40)).heap[w.heap.size + 1]? = some (.cells #[I 0, S [], S [], .slice none 0 0, I 0, I 0, I 0, I 0, I 0, I 0, I 0, I 0, I 0, I 0] 40 (0, 0)) := by
    have e := heap_alloc_new (w.alloc (.cells #[S k, S v] 30)) (.cells #[I 0, S [], S [], .slice none 0 0, I 0, I 0, I 0, I 0, I 0, I 0, I 0, I 0, I 0, I 0] 40)
    simpa using e
  have hsz : ((w.alloc (.cells #[S k, S v] 30)).alloc (.cells #[I 0, S [], S [], .slice none 0 0, I 0, I 0, I 0, I 0, I 0, I 0, I 0, I 0, I 0, I 0] 40)).heap.size = w.heap.size + 2 := by simp
  have HPr := hide (pa86 k v ((w.alloc (.cells #[S k, S v] 30)).alloc (.cells #[I 0, S [], S [], .slice none 0 0, I 0, I 0, I 0, I 0, I 0, I 0, I 0, I 0, I 0, I 0] 40)) hk hv)
  have c0 : ((w.alloc (.cells #[S k, S v] 30)).alloc (.cells #[I 0, S [], S [], .slice none 0 0, I 0, I 0, I 0, I 0, I 0, I 0, I 0, I 0, I 0, I 0] 40)).cell? ⟨w.heap.size, 0, none⟩ = some (S k) := cellr hT rfl
  have c1 : ((w.alloc (.cells #[S k, S v] 30)).alloc (.cells #[I 0, S [], S [], .slice none 0 0, I 0, I 0, I 0, I 0, I 0, I 0, I 0, I 0, I 0, I 0] 40)).cell? ⟨w.heap.size, 1, none⟩ = some (S v) := cellr hT rfl
  generalize hW1 : ((w.alloc (.cells #[S k, S v] 30)).alloc (.cells #[I 0, S [], S [], .slice none 0 0, I 0, I 0, I 0, I 0, I 0, I 0, I 0, I 0, I 0, I 0] 40)) = W1 at *
  have HR := hide hR
  have HB := hide hb0
  have HS := hide hsz
  clear hT hR hb0 hk hv hsz
  generalize famG k v = GG at *
  go_enter Tryz.func25, Tryz.ntmps25
  go_wp2_with fail
  refine (unhide HPr).mono ?_
  rintro e w2 ⟨hw2, hor⟩
  have HB2 := hide ((unhide HB).trans (hw2.mono (unhide HB).size))
  have HR2 := hide ((hw2.block _ (lt_of_row (unhide HR))).trans (unhide HR))
  clear hw2 HPr HB HR c0 c1 hW1
  rcases hor with ⟨hg, va, vc, rfl, hown⟩ | ⟨hg, rfl⟩
  · have HGF := hide hg
    have HOW := hide hown
    clear hown
    clear hg
    go_wp2_with (refine wp_stT (ty := 40) (n := 14) (by kernel_rfl) rfl (.tmp 2) (.tmp 6) rfl (w.heap.size + 1) (by rfl) #[I (fam_id k), S (fam_cl v), S (fam_su v), .slice va (fam_sc v).length vc, I (fam_cr v), I (fam_us v), I (fam_idl v), I (fam_ab v), I (fam_gr v), I (fam_ge v), I (fam_to v), I (fam_st v), I (fam_en v), I (fam_co v)] rfl (by simp [Value.oneCell']) (by rfl) #[I 0, S [], S [], .slice none 0 0, I 0, I 0, I 0, I 0, I 0, I 0, I 0, I 0, I 0, I 0] rfl (unhide HR2) ?_)
    refine out2c (T := 40) (n := 14) (p := 2) (q := 3) (cs := #[I (fam_id k), S (fam_cl v), S (fam_su v), .slice va (fam_sc v).length vc, I (fam_cr v), I (fam_us v), I (fam_idl v), I (fam_ab v), I (fam_gr v), I (fam_ge v), I (fam_to v), I (fam_st v), I (fam_en v), I (fam_co v)]) (fun _ => by kernel_rfl) (fun _ => by kernel_rfl) (Z := w.heap.size + 1) (by rfl) (by rfl) (by rfl) (by rfl) (setRow_row (unhide HR2)) (by rfl) ?_
    refine ⟨(setRow_Only w2 (w.heap.size + 1) #[I (fam_id k), S (fam_cl v), S (fam_su v), .slice va (fam_sc v).length vc, I (fam_cr v), I (fam_us v), I (fam_idl v), I (fam_ab v), I (fam_gr v), I (fam_ge v), I (fam_to v), I (fam_st v), I (fam_en v), I (fam_co v)]).below (unhide HB2) (unhide HB2).size (fun k e => by omega), .inl ⟨unhide HGF, va, vc, rfl, ?_⟩⟩
    exact OwnS.below (CtAt.keep (c := .l _) (unhide HOW) _ (setRow_Only _ (w.heap.size + 1) _) (fun q e => by have := unhide HS; omega)) (Below.refl _ _) (by have := unhide HS; omega)
  · have HGF := hide hg
    clear hg
    go_wp2_with (refine wp_stT (ty := 40) (n := 14) (by kernel_rfl) rfl (.tmp 2) (.tmp 6) rfl (w.heap.size + 1) (by rfl) #[I 0, S [], S [], .slice none 0 0, I 0, I 0, I 0, I 0, I 0, I 0, I 0, I 0, I 0, I 0] rfl (by simp [Value.oneCell']) (by rfl) #[I 0, S [], S [], .slice none 0 0, I 0, I 0, I 0, I 0, I 0, I 0, I 0, I 0, I 0, I 0] rfl (unhide HR2) ?_)
    refine out2c (T := 40) (n := 14) (p := 2) (q := 3) (cs := #[I 0, S [], S [], .slice none 0 0, I 0, I 0, I 0, I 0, I 0, I 0, I 0, I 0, I 0, I 0]) (fun _ => by kernel_rfl) (fun _ => by kernel_rfl) (Z := w.heap.size + 1) (by rfl) (by rfl) (by rfl) (by rfl) (setRow_row (unhide HR2)) (by rfl) ?_
    refine ⟨(setRow_Only w2 (w.heap.size + 1) #[I 0, S [], S [], .slice none 0 0, I 0, I 0, I 0, I 0, I 0, I 0, I 0, I 0, I 0, I 0]).below (unhide HB2) (unhide HB2).size (fun k e => by omega), .inr ⟨unhide HGF, rfl⟩⟩
end Go.Proofs.YtpidmpefodnffaaGreatDoor
