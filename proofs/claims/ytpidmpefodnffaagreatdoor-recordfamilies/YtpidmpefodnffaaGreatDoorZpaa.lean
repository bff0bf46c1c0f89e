import Derived.Test.YtpidmpefodnffaaGreatDoorPra
import Derived.Test.YtpidmpefodnffaaGreatDoorZfdj
import Derived.Test.YtpidmpefodnffaaGreatDoorZfde
namespace Go.Proofs.YtpidmpefodnffaaGreatDoor
open Go.RowKit
set_option maxHeartbeats 4000000
set_option maxRecDepth 8000
def keyK0 (k : Bs) : Bs × Nat := (k, 0)
def keyK1 (k : Bs) : Bs × Nat := rr2 1 (keyK0 k)
def key_nu (k : Bs) : Int := rv 4 (keyK1 k)
def keyV0 (v : Bs) : Bs × Nat := (v, 0)
def key_se (v : Bs) : Bs := ra 24 (keyV0 v)
def keyV1 (v : Bs) : Bs × Nat := rr2 24 (keyV0 v)
def key_fr (v : Bs) : Int := rv 6 (keyV1 v)
def keyV2 (v : Bs) : Bs × Nat := rs 6 (keyV1 v)
def key_un (v : Bs) : Int := rv 6 (keyV2 v)
def keystk : Nat → Bs × Nat → List Ct → (Bs × Nat) × List Ct := fun i => match i with
  | 0 => fun s cs => (rr2 1 s, cs)
  | 1 => fun s cs => (rs 4 s, cs.set 0 (.n (rv 4 s)))
  | _ => fun s cs => (s, cs)
def keystv : Nat → Bs × Nat → List Ct → (Bs × Nat) × List Ct := fun i => match i with
  | 0 => fun s cs => (rr2 24 s, cs.set 1 (.s (ra 24 s)))
  | 1 => fun s cs => (rs 6 s, cs.set 2 (.n (rv 6 s)))
  | 2 => fun s cs => (rs 6 s, cs.set 3 (.n (rv 6 s)))
  | _ => fun s cs => (s, cs)
def keyRd (k v : Bs) : List Ct := [.n (key_nu k), .s (key_se v), .n (key_fr v), .n (key_un v)]
theorem keyRd_eq (k v : Bs) : (runF keystv 3 (v, 0) (runF keystk 2 (k, 0) [.n 0, .s [], .n 0, .n 0]).2).2 = keyRd k v := by kernel_rfl
theorem keyRd_nl (k : Bs) : (runF keystk 2 (k, 0) [.n 0, .s [], .n 0, .n 0]).2.all Ct.nl = true := by kernel_rfl
def keyG (k v : Bs) : Bool := keyP (key_nu k) (key_se v) (key_fr v) (key_un v) == ((k, v), 0)
def vrpa105 (_T _P : Nat) (k v : Bs) (c : (Nat → Nat)) (i : Nat) : Value := match i with
  | 0 => (FN 103)
  | 1 => (.agg #[(.slice (some ⟨c 0, 0, none⟩) 2 2), (.slice (some ⟨c 1, 0, none⟩) 3 3)])
  | 2 => (.agg #[S k, S v])
  | 3 => (.tuple #[])
  | _ => undef
def rpa105T : List (Op × Option Tmp × Option (Nat × Bool)) := [
  (.move (.tmp 2), some 12, none),
  (.call { callee := .value (.tmp 12), args := #[(.tmp 8)], argTypes := #[208] }, some 13, none),
  (.load 30 (.tmp 3), some 14, none),
  (.call { callee := .value (.func 140), args := #[(.tmp 13), (.tmp 14)], argTypes := #[111, 30] }, some 15, none)]
def rpa105D : List (Nat × Nat) := [(1, 0), (3, 1), (3, 2)]
set_option maxHeartbeats 4000000 in
theorem rpa105 {ops : Array Oper} {id : Nat} {Q : Exit → Act → World → Prop} (T P : Nat) (k v : Bs) (htab : ops.toList.map (fun o => (o.op, o.dst, o.guard)) = rpa105T) (hdep : deplB rpa105D ops = true) (hac : acB ops = true)
    (a0 : Act) (w : World) (hsz : 16 ≤ a0.tmps.size) (o2 : a0.tmps[2]? = some (FN 103)) (o3 : a0.tmps[3]? = some (ptr P)) (o8 : a0.tmps[8]? = some (ptr T))
    (Wd : (Nat → Nat) → (Nat → Bool) → World → Prop) (h0 : ∃ c, Wd c (fun _ => false) w.drew) (hpure : ∀ i, i ∉ ([1, 3] : List Nat) → ∀ c L W, Wd c L W → Wd c (upd L i) W)
    (r1 : ∀ c L W, Wd c L W → L 1 = false → L 0 = true → Calls Tryz.prog 103 #[(ptr T)] W fun eg w' => ∃ c', (∀ j, L j = true → vrpa105 T P k v c' j = vrpa105 T P k v c j) ∧ eg = .returned (vrpa105 T P k v c' 1) ∧ Wd c' (upd L 1) w')
    (r2 : ∀ c L W, Wd c L W → L 2 = false → (Instr.loadAt 30 (ptr P)).run Tryz.prog W = .ok (.agg #[S k, S v]) W)
    (r3 : ∀ c L W, Wd c L W → L 3 = false → L 1 = true → L 2 = true → Calls Tryz.prog 140 #[(.agg #[(.slice (some ⟨c 0, 0, none⟩) 2 2), (.slice (some ⟨c 1, 0, none⟩) 3 3)]), (.agg #[S k, S v])] W fun eg w' => ∃ c', (∀ j, L j = true → vrpa105 T P k v c' j = vrpa105 T P k v c j) ∧ eg = .returned (vrpa105 T P k v c' 3) ∧ Wd c' (upd L 3) w')
    (hend : ∀ c L W, (∀ i, i < 4 → L i = true) → Wd c L W → Q .normal ((((a0.put (some 12) (FN 103)).put (some 13) (.agg #[(.slice (some ⟨c 0, 0, none⟩) 2 2), (.slice (some ⟨c 1, 0, none⟩) 3 3)])).put (some 14) (.agg #[S k, S v])).put (some 15) (.tuple #[])) W) : (Code.region id ops true).wp Tryz.prog Q a0 w := by
  let val : (Nat → Nat) → Nat → Value := vrpa105 T P k v
  have hosz : ops.size = 4 := by
    have := congrArg List.length htab
    simpa [rpa105T] using this
  have hds : ∀ i s, (rpa105T[i]?).bind (·.2.1) = some s → dstOf ops i = some s := fun i s hi => by rw [tab_dst htab, hi]
  have hdisB : disL rpa105T = true := by rfl
  have hdis := disL_of htab hdisB
  have hold : ∀ s, rpa105T.all (fun x => !(x.2.1 == some s)) = true → (List.range ops.size).all (fun j => !(dstOf ops j == some s)) = true := fun s h => holdL htab s h
  refine region_detX val Wd (hac_of hac) hdis h0 ?_ ?_
  rotate_left
  · intro c L W hall hW
    have := hend c L W (by rw [← hosz]; exact hall) hW
    have e : frm ops a0 (val c) (fun _ => true) ops.size = ((((a0.put (some 12) (FN 103)).put (some 13) (.agg #[(.slice (some ⟨c 0, 0, none⟩) 2 2), (.slice (some ⟨c 1, 0, none⟩) 3 3)])).put (some 14) (.agg #[S k, S v])).put (some 15) (.tuple #[])) := by
      rw [hosz]
      simp only [frm, if_true]
      rw [tab_dst htab 0, tab_dst htab 1, tab_dst htab 2, tab_dst htab 3]
      rfl
    rw [e]
    exact this
  intro i o ho c L a w' hL hd ha hW
  have hi : i < 4 := by rw [← hosz]; exact (Array.getElem?_eq_some_iff.1 ho).1
  have G : ∀ j s : Nat, (rpa105T[j]?).bind (·.2.1) = some s → s < 16 → (i, j) ∈ rpa105D → a.tmps[s]? = some (val c j) := fun j s h1 h2 h3 => frm_at hdis ha j s (hds j s h1) (by omega) (depl_of hdep i j h3 ho hd)
  match i, ho, hL, hi, G with
  | 0, ho, hL, _, G =>
    obtain ⟨hop, hgd⟩ := tab3 htab ho rfl
    have h0 := frm_old ha 2 _ (hold 2 rfl) o2
    exact (dXr ho hgd (hpure 0 (by decide) c L w' hW) (g_mov hop (eval_of h0)))
  | 1, ho, hL, _, G =>
    obtain ⟨hop, hgd⟩ := tab3 htab ho rfl
    have h0 := frm_old ha 8 _ (hold 8 rfl) o8
    have hf := G 0 12 rfl (by decide) (by decide)
    refine doesX_call ho (wanted_none hgd) 103 #[(ptr T)] ?_ (r1 c L w' hW hL (depl_of hdep 1 0 (by decide) ho hd))
    rw [run_callv Tryz.func103 (by kernel_rfl) rfl _ _ _ _ _ hop (eval_of hf)]
    simp only [List.map_toArray, List.map_cons, List.map_nil, eval_of h0]
    all_goals rfl
  | 2, ho, hL, _, G =>
    obtain ⟨hop, hgd⟩ := tab3 htab ho rfl
    have h0 := frm_old ha 3 _ (hold 3 rfl) o3
    exact (dXr ho hgd (hpure 2 (by decide) c L w' hW) (g_load hop (eval_of h0) (r2 c L w' hW hL)))
  | 3, ho, hL, _, G =>
    obtain ⟨hop, hgd⟩ := tab3 htab ho rfl
    have h0 := G 1 13 rfl (by decide) (by decide)
    have h1 := G 2 14 rfl (by decide) (by decide)
    refine doesX_call ho (wanted_none hgd) 140 #[(.agg #[(.slice (some ⟨c 0, 0, none⟩) 2 2), (.slice (some ⟨c 1, 0, none⟩) 3 3)]), (.agg #[S k, S v])] ?_ (r3 c L w' hW hL (depl_of hdep 3 1 (by decide) ho hd) (depl_of hdep 3 2 (by decide) ho hd))
    rw [run_calls Tryz.func140 (by kernel_rfl) rfl _ _ _ _ hop rfl]
    simp only [List.map_toArray, List.map_cons, List.map_nil, eval_of h0, eval_of h1]
    all_goals rfl
  | (i + 4), ho, hL, hi, _ => exact absurd hi (by omega)
def lyf105 (B0 T : Nat) (c : Nat → Nat) (W : World) : Prop := ∃ a, B0 ≤ a ∧ T < a ∧ a < W.heap.size ∧ W.heap[a + 1]? = some (.cells #[S [107]] 9 (0, 0)) ∧ (a + 2 ≤ c 0 ∧ W.heap[c 0]? = some (.cells #[(vW ⟨a + 1, 0, none⟩ 1), (vI ⟨T, 0, none⟩ 4)] 213 (0, 0))) ∧ (a + 2 ≤ c 1 ∧ W.heap[c 1]? = some (.cells #[(vW ⟨T, 1, none⟩ 24), (vI ⟨T, 2, none⟩ 6), (vI ⟨T, 3, none⟩ 6)] 213 (0, 0)))
theorem tk105 (B0 T : Nat) (c : Nat → Nat) (W : World) (k v : Bs) (hk : k.length ≤ 9223372036854775807) (hv : v.length ≤ 9223372036854775807) (h : lyf105 B0 T c W) (hT : W.heap[T]? = some (.cells #[I 0, S [], I 0, I 0] 60 (0, 0))) :
    Calls Tryz.prog 140 #[.agg #[(.slice (some ⟨c 0, 0, none⟩) 2 2), (.slice (some ⟨c 1, 0, none⟩) 3 3)], .agg #[S k, S v]] W fun e w' => e = .returned (.tuple #[]) ∧ Rec W.heap.size T 60 (keyRd k v) w' ∧ Only (fun q => q = T ∨ B0 < q) W w' := by
  obtain ⟨a, ha, hTa, haw, hL1, ⟨hk0, hc0⟩, ⟨hk1, hc1⟩⟩ := h
  have hls : ∀ l, l ∈ [a + 1] → l ≠ T ∧ ∃ y, W.heap[l]? = some (.cells #[S y] 9 (0, 0)) := by
    intro l hl
    simp only [List.mem_cons, List.not_mem_nil, or_false] at hl
    subst hl
    exact ⟨by omega, _, hL1⟩
  have hfx : ∀ q, q ∈ ([(c 0, .cells #[(vW ⟨a + 1, 0, none⟩ 1), (vI ⟨T, 0, none⟩ 4)] 213 (0, 0)), (c 1, .cells #[(vW ⟨T, 1, none⟩ 24), (vI ⟨T, 2, none⟩ 6), (vI ⟨T, 3, none⟩ 6)] 213 (0, 0))] : List (Nat × Obj)) → W.heap[q.1]? = some q.2 ∧ q.1 ≠ T ∧ ¬ q.1 ∈ [a + 1] := by
    intro q hq
    simp only [List.mem_cons, List.not_mem_nil, or_false] at hq
    rcases hq with rfl | rfl
    · exact ⟨hc0, by show c 0 ≠ T; omega, by simp; omega⟩
    · exact ⟨hc1, by show c 1 ≠ T; omega, by simp; omega⟩
  have r1 : Rw W (some ⟨c 0, 0, none⟩) 2 (fun i => (#[(vW ⟨a + 1, 0, none⟩ 1), (vI ⟨T, 0, none⟩ 4)] : Array Value).getD i undef) keystk T 60 [a + 1] [(c 0, .cells #[(vW ⟨a + 1, 0, none⟩ 1), (vI ⟨T, 0, none⟩ 4)] 213 (0, 0)), (c 1, .cells #[(vW ⟨T, 1, none⟩ 24), (vI ⟨T, 2, none⟩ 6), (vI ⟨T, 3, none⟩ 6)] 213 (0, 0))] 4 := ⟨by decide, fun _ => ⟨c 0, #[(vW ⟨a + 1, 0, none⟩ 1), (vI ⟨T, 0, none⟩ 4)], rfl, (List.Mem.head _), fun i hi => by match i, hi with | 0, _ => rfl | 1, _ => rfl | (q + 2), h => exact absurd h (by omega)⟩, fun i hi => by
      match i, hi with
      | 0, _ => exact Tf.let T 60 _ _ 4 (a + 1) (by simp) 1
      | 1, _ => exact Tf.nu T 60 _ _ 4 0 (by decide) 4
      | (q + 2), h => exact absurd h (by omega), hls, hfx⟩
  have r2 : Rw W (some ⟨c 1, 0, none⟩) 3 (fun i => (#[(vW ⟨T, 1, none⟩ 24), (vI ⟨T, 2, none⟩ 6), (vI ⟨T, 3, none⟩ 6)] : Array Value).getD i undef) keystv T 60 [a + 1] [(c 0, .cells #[(vW ⟨a + 1, 0, none⟩ 1), (vI ⟨T, 0, none⟩ 4)] 213 (0, 0)), (c 1, .cells #[(vW ⟨T, 1, none⟩ 24), (vI ⟨T, 2, none⟩ 6), (vI ⟨T, 3, none⟩ 6)] 213 (0, 0))] 4 := ⟨by decide, fun _ => ⟨c 1, #[(vW ⟨T, 1, none⟩ 24), (vI ⟨T, 2, none⟩ 6), (vI ⟨T, 3, none⟩ 6)], rfl, (List.Mem.tail _ (List.Mem.head _)), fun i hi => by match i, hi with | 0, _ => rfl | 1, _ => rfl | 2, _ => rfl | (q + 3), h => exact absurd h (by omega)⟩, fun i hi => by
      match i, hi with
      | 0, _ => exact Tf.wh T 60 _ _ 4 1 (by decide) 24
      | 1, _ => exact Tf.nu T 60 _ _ 4 2 (by decide) 6
      | 2, _ => exact Tf.nu T 60 _ _ 4 3 (by decide) 6
      | (q + 3), h => exact absurd h (by omega), hls, hfx⟩
  have hrc : Rec 0 T 60 [.n 0, .s [], .n 0, .n 0] W := ⟨#[I 0, S [], I 0, I 0].toList, hT, rfl, fun j q y h1 h2 => by
    match j, h1, h2 with
    | 0, h1, h2 => cases h1; cases h2; rfl
    | 1, h1, h2 => cases h1; cases h2; rfl
    | 2, h1, h2 => cases h1; cases h2; rfl
    | 3, h1, h2 => cases h1; cases h2; rfl
    | (j + 4), h1, h2 => cases h1⟩
  refine (ltake_any (some ⟨c 0, 0, none⟩) (some ⟨c 1, 0, none⟩) 2 3 _ _ keystk keystv T 60 _ _ 4 k v [.n 0, .s [], .n 0, .n 0] W rfl hk hv r1 r2 hrc rfl (keyRd_nl k)).mono ?_
  rintro e w' ⟨rfl, q1, q2⟩
  refine ⟨rfl, by rw [← keyRd_eq]; exact q1, q2.mono (fun q _ e => ?_)⟩
  rcases e with e | e
  · exact .inl e
  · simp only [List.mem_cons, List.not_mem_nil, or_false] at e
    exact .inr (by omega)
theorem rc105 {B T : Nat} {k v : Bs} {W : World} (h : Rec B T 60 (keyRd k v) W) : W.heap[T]? = some (.cells #[I (key_nu k), S (key_se v), I (key_fr v), I (key_un v)] 60 (0, 0)) := by
  obtain ⟨vs, g1, g2, g3⟩ := h
  match vs, g1, g2, g3 with
  | [v0, v1, v2, v3], g1, _, g3 =>
    have q0 : CtAt B W (.n (key_nu k)) v0 := g3 0 _ _ rfl rfl
    cases q0
    have q1 : CtAt B W (.s (key_se v)) v1 := g3 1 _ _ rfl rfl
    cases q1
    have q2 : CtAt B W (.n (key_fr v)) v2 := g3 2 _ _ rfl rfl
    cases q2
    have q3 : CtAt B W (.n (key_un v)) v3 := g3 3 _ _ rfl rfl
    cases q3
    exact g1
theorem pa105 (k v : Bs) (w : World) (hk : k.length ≤ 9223372036854775807) (hv : v.length ≤ 9223372036854775807) : Calls Tryz.prog 105 #[.agg #[S k, S v], FN 102, FN 103] w fun e w' => Below w.heap.size w w' ∧ ((keyG k v = true ∧ e = .returned (.tuple #[.agg #[I (key_nu k), S (key_se v), I (key_fr v), I (key_un v)], I 0])) ∨ (keyG k v = false ∧ e = .returned (.tuple #[.agg #[I 0, S [], I 0, I 0], I 141]))) := by
  have hb0 : Below w.heap.size w ((((w.alloc (.cells #[S k, S v] 30)).alloc (.cells #[I 0, S [], I 0, I 0] 60)).alloc (.cells #[I 0, S [], I 0, I 0] 60)).alloc (.cells #[I 0, S [], I 0, I 0] 60)) := ((((Below.refl _ w).alloc (Nat.le_refl _) _).alloc (by simp) _).alloc (by first | (simp; done) | (simp; omega)) _).alloc (by first | (simp; done) | (simp; omega)) _
  have hP : ((((w.alloc (.cells #[S k, S v] 30)).alloc (.cells #[I 0, S [], I 0, I 0] 60)).alloc (.cells #[I 0, S [], I 0, I 0] 60)).alloc (.cells #[I 0, S [], I 0, I 0] 60)).heap[w.heap.size]? = some (.cells #[S k, S v] 30 (0, 0)) := by
    rw [heap_alloc_old _ _ (by first | (simp; done) | (simp; omega))]; rw [heap_alloc_old _ _ (by first | (simp; done) | (simp; omega))]; rw [heap_alloc_old _ _ (by first | (simp; done) | (simp; omega))]; 
    have e := heap_alloc_new w (.cells #[S k, S v] 30)
    simpa using e
  have hR : ((((w.alloc (.cells #[S k, S v] 30)).alloc (.cells #[I 0, S [], I 0, I 0] 60)).alloc (.cells #[I 0, S [], I 0, I 0] 60)).alloc (.cells #[I 0, S [], I 0, I 0] 60)).heap[w.heap.size + 1]? = some (.cells #[I 0, S [], I 0, I 0] 60 (0, 0)) := by
    rw [heap_alloc_old _ _ (by first | (simp; done) | (simp; omega))]; rw [heap_alloc_old _ _ (by first | (simp; done) | (simp; omega))]; 
    have e := heap_alloc_new (w.alloc (.cells #[S k, S v] 30)) (.cells #[I 0, S [], I 0, I 0] 60)
    simpa using e
  have hT : ((((w.alloc (.cells #[S k, S v] 30)).alloc (.cells #[I 0, S [], I 0, I 0] 60)).alloc (.cells #[I 0, S [], I 0, I 0] 60)).alloc (.cells #[I 0, S [], I 0, I 0] 60)).heap[w.heap.size + 1 + 1]? = some (.cells #[I 0, S [], I 0, I 0] 60 (0, 0)) := by
    rw [heap_alloc_old _ _ (by first | (simp; done) | (simp; omega))]; 
    have e := heap_alloc_new ((w.alloc (.cells #[S k, S v] 30)).alloc (.cells #[I 0, S [], I 0, I 0] 60)) (.cells #[I 0, S [], I 0, I 0] 60)
    simpa using e
  have hZ : ((((w.alloc (.cells #[S k, S v] 30)).alloc (.cells #[I 0, S [], I 0, I 0] 60)).alloc (.cells #[I 0, S [], I 0, I 0] 60)).alloc (.cells #[I 0, S [], I 0, I 0] 60)).heap[w.heap.size + 1 + 1 + 1]? = some (.cells #[I 0, S [], I 0, I 0] 60 (0, 0)) := by
    
    have e := heap_alloc_new (((w.alloc (.cells #[S k, S v] 30)).alloc (.cells #[I 0, S [], I 0, I 0] 60)).alloc (.cells #[I 0, S [], I 0, I 0] 60)) (.cells #[I 0, S [], I 0, I 0] 60)
    simpa using e
  have hsz : ((((w.alloc (.cells #[S k, S v] 30)).alloc (.cells #[I 0, S [], I 0, I 0] 60)).alloc (.cells #[I 0, S [], I 0, I 0] 60)).alloc (.cells #[I 0, S [], I 0, I 0] 60)).heap.size = w.heap.size + 1 + 1 + 1 + 1 := by simp
  have HG : Hid (keyG k v = (keyP (key_nu k) (key_se v) (key_fr v) (key_un v) == ((k, v), 0))) := hide rfl
  generalize keyG k v = GG at *
  go_enter Tryz.func105, Tryz.ntmps105
  go_wp2_with fail
  generalize (((w.alloc (.cells #[S k, S v] 30)).alloc (.cells #[I 0, S [], I 0, I 0] 60)).alloc (.cells #[I 0, S [], I 0, I 0] 60)).alloc (.cells #[I 0, S [], I 0, I 0] 60) = W1 at *
  generalize hZe : w.heap.size + 1 + 1 + 1 = Z at *
  generalize hTe : w.heap.size + 1 + 1 = T at *
  generalize hRe : w.heap.size + 1 = R at *
  generalize hPe : w.heap.size = P at *
  refine rpa105 T P k v rfl (by rfl) (by rfl) _ W1 (by simp) rfl rfl rfl (Paq w T P R Z 60 #[I 0, S [], I 0, I 0] k v (lyf105 W1.heap.size T) (fun W => Rec W1.heap.size T 60 (keyRd k v) W))
    ⟨fun _ => 0, ⟨by rw [hPe]; exact hb0.drew, hP, hR, hZ, (fun e => by cases e), fun _ => hT, (fun e => by cases e), (fun e => by cases e)⟩⟩
    (fun i hi c L W hW => hW.pure i (fun e => hi (by simp [e])) (fun e => hi (by simp [e])))
    (fun c L W hW hL _ => ?r1)
    (fun c L W hW _ => s_ldr (T := 30) (n := 2) (fun _ => by kernel_rfl) (fun _ => by kernel_rfl) (o := 0) hW.pb [S k, S v] rfl rfl)
    (fun c L W hW hL h1 _ => ?r3) ?hend
  case r1 =>
    have f3 : L 3 = false := no_of hW.dep hL
    have hTl := lt_of_row (hW.t0 f3)
    have hZl := lt_of_row hW.zb
    refine (lay103 T W).mono ?_
    rintro e w' ⟨c', rfl, hb, hL1, hs0, hs1⟩
    refine ⟨c', fun j hj => ?_, rfl, hW.lay hL hb ⟨W.heap.size, by omega, hTl, by have := lt_of_row hL1; omega, hL1, hs0, hs1⟩⟩
    match j, hj with
    | 0, _ => rfl
    | 1, hj => rw [hL] at hj; cases hj
    | 2, _ => rfl
    | 3, _ => rfl
    | (q + 4), _ => rfl
  case r3 =>
    refine (tk105 W1.heap.size T c W k v hk hv (hW.ly h1 hL) (hW.t0 hL)).mono ?_
    rintro e w' ⟨rfl, q1, q2⟩
    exact ⟨c, fun _ _ => rfl, rfl, hW.take h1 q2 (by omega) (by omega) (by omega) (by omega) (by omega) (q1.weaken (by have := lt_of_row hW.zb; omega))⟩
  case hend =>
    intro c L W hall hW
    have hrec := hW.fn (hall 3 (by decide))
    obtain hTW := rc105 hrec
    have HB := hide hW.bel
    have HPB := hide hW.pb
    have HRB := hide hW.rb
    have HZB := hide hW.zb
    have HTB := hide hTW
    have HPr := hide (pr101 (key_nu k) (key_se v) (key_fr v) (key_un v) W )
    have t0 : W.cell? ⟨T, 0, none⟩ = some (I (key_nu k)) := cellr hTW rfl
    have t1 : W.cell? ⟨T, 1, none⟩ = some (S (key_se v)) := cellr hTW rfl
    have t2 : W.cell? ⟨T, 2, none⟩ = some (I (key_fr v)) := cellr hTW rfl
    have t3 : W.cell? ⟨T, 3, none⟩ = some (I (key_un v)) := cellr hTW rfl
    clear hW hall hrec hb0 hP hR hT hZ hk hv hTW 
    generalize keyP (key_nu k) (key_se v) (key_fr v) (key_un v) = Q at *
    obtain ⟨⟨q1, q2⟩, q3⟩ := Q
    simp only [Act.put, List.setIfInBounds_toArray, List.set_cons_succ, List.set_cons_zero]
    go_wp2_with fail
    refine (unhide HPr).mono ?_
    rintro e w3 ⟨rfl, hw3⟩
    have HB3 := hide ((unhide HB).trans (hw3.mono (unhide HB).size))
    have hP3 := (hw3.block _ (lt_of_row (unhide HPB))).trans (unhide HPB)
    have hR3 := (hw3.block _ (lt_of_row (unhide HRB))).trans (unhide HRB)
    have hZ3 := (hw3.block _ (lt_of_row (unhide HZB))).trans (unhide HZB)
    have hT3 := (hw3.block _ (lt_of_row (unhide HTB))).trans (unhide HTB)
    have hb4 : Below w3.heap.size w3 (w3.alloc (.cells #[S q1, S q2] 30)) := (Below.refl _ _).alloc (Nat.le_refl _) _
    have hA0 : (w3.alloc (.cells #[S q1, S q2] 30)).cell? ⟨w3.heap.size, 0, none⟩ = some (S q1) := cell_new _ _ _ _ _ rfl
    have hA1 : (w3.alloc (.cells #[S q1, S q2] 30)).cell? ⟨w3.heap.size, 1, none⟩ = some (S q2) := cell_new _ _ _ _ _ rfl
    have HB4 := hide ((unhide HB3).trans (hb4.mono (unhide HB3).size))
    replace hP3 := (hb4.block _ (lt_of_row hP3)).trans hP3
    replace hR3 := (hb4.block _ (lt_of_row hR3)).trans hR3
    replace hZ3 := (hb4.block _ (lt_of_row hZ3)).trans hZ3
    replace hT3 := (hb4.block _ (lt_of_row hT3)).trans hT3
    have p0 : (w3.alloc (.cells #[S q1, S q2] 30)).cell? ⟨P, 0, none⟩ = some (S k) := cellr hP3 rfl
    have p1 : (w3.alloc (.cells #[S q1, S q2] 30)).cell? ⟨P, 1, none⟩ = some (S v) := cellr hP3 rfl
    have u0 : (w3.alloc (.cells #[S q1, S q2] 30)).cell? ⟨T, 0, none⟩ = some (I (key_nu k)) := cellr hT3 rfl
    have z0 : (w3.alloc (.cells #[S q1, S q2] 30)).cell? ⟨Z, 0, none⟩ = some (I 0) := cellr hZ3 rfl
    have u1 : (w3.alloc (.cells #[S q1, S q2] 30)).cell? ⟨T, 1, none⟩ = some (S (key_se v)) := cellr hT3 rfl
    have z1 : (w3.alloc (.cells #[S q1, S q2] 30)).cell? ⟨Z, 1, none⟩ = some (S []) := cellr hZ3 rfl
    have u2 : (w3.alloc (.cells #[S q1, S q2] 30)).cell? ⟨T, 2, none⟩ = some (I (key_fr v)) := cellr hT3 rfl
    have z2 : (w3.alloc (.cells #[S q1, S q2] 30)).cell? ⟨Z, 2, none⟩ = some (I 0) := cellr hZ3 rfl
    have u3 : (w3.alloc (.cells #[S q1, S q2] 30)).cell? ⟨T, 3, none⟩ = some (I (key_un v)) := cellr hT3 rfl
    have z3 : (w3.alloc (.cells #[S q1, S q2] 30)).cell? ⟨Z, 3, none⟩ = some (I 0) := cellr hZ3 rfl
    have HR4 := hide hR3
    clear HPr hw3 HB HPB HRB HZB HTB HB3 hP3 hR3 hZ3 hT3 hb4 t0 t1 t2 t3
    have hn30 := ne30 q1 q2 k v
    by_cases e0 : q3 = 0
    · subst e0
      by_cases e1 : q1 = k ∧ q2 = v
      · have HGF : Hid (GG = true) := hide (by rw [unhide HG]; simp [e1])
        have hb1 : (q1 == k && q2 == v) = true := by simp [e1]
        rw [hb1] at hn30
        clear e1 hb1
        go_wp2_with (refine wp_stT (ty := 60) (n := 4) (by kernel_rfl) rfl (.tmp 6) (.tmp 31) rfl R (by rfl) #[I (key_nu k), S (key_se v), I (key_fr v), I (key_un v)] rfl (by simp [Value.oneCell']) (by rfl) #[I 0, S [], I 0, I 0] rfl (unhide HR4) ?_)
        refine out2c (T := 60) (n := 4) (p := 6) (q := 7) (cs := #[I (key_nu k), S (key_se v), I (key_fr v), I (key_un v)]) (fun _ => by kernel_rfl) (fun _ => by kernel_rfl) (Z := R) (by rfl) (by rfl) (by rfl) (by rfl) (setRow_row (unhide HR4)) (by rfl) ?_
        refine ⟨(setRow_Only (w3.alloc (.cells #[S q1, S q2] 30)) R #[I (key_nu k), S (key_se v), I (key_fr v), I (key_un v)]).below (unhide HB4) (unhide HB4).size (fun q e => by omega), .inl ⟨unhide HGF, rfl⟩⟩
      · have HGF : Hid (GG = false) := hide (by rw [unhide HG]; simp; exact fun a b => e1 ⟨a, b⟩)
        have hb1 : (q1 == k && q2 == v) = false := by simp; exact fun a b => e1 ⟨a, b⟩
        rw [hb1] at hn30
        clear e1 hb1
        go_wp2_with (refine wp_stT (ty := 60) (n := 4) (by kernel_rfl) rfl (.tmp 6) (.tmp 30) rfl R (by rfl) #[I 0, S [], I 0, I 0] rfl (by simp [Value.oneCell']) (by rfl) #[I 0, S [], I 0, I 0] rfl (unhide HR4) ?_)
        refine out2c (T := 60) (n := 4) (p := 6) (q := 7) (cs := #[I 0, S [], I 0, I 0]) (fun _ => by kernel_rfl) (fun _ => by kernel_rfl) (Z := R) (by rfl) (by rfl) (by rfl) (by rfl) (setRow_row (unhide HR4)) (by rfl) ?_
        refine ⟨(setRow_Only (w3.alloc (.cells #[S q1, S q2] 30)) R #[I 0, S [], I 0, I 0]).below (unhide HB4) (unhide HB4).size (fun q e => by omega), .inr ⟨unhide HGF, rfl⟩⟩
    · have HGF : Hid (GG = false) := hide (by rw [unhide HG]; simp [e0])
      have e2 : ((q3 : Int) != 0) = true := by simp; exact e0
      go_wp2_with (refine wp_stT (ty := 60) (n := 4) (by kernel_rfl) rfl (.tmp 6) (.tmp 30) rfl R (by rfl) #[I 0, S [], I 0, I 0] rfl (by simp [Value.oneCell']) (by rfl) #[I 0, S [], I 0, I 0] rfl (unhide HR4) ?_)
      refine out2c (T := 60) (n := 4) (p := 6) (q := 7) (cs := #[I 0, S [], I 0, I 0]) (fun _ => by kernel_rfl) (fun _ => by kernel_rfl) (Z := R) (by rfl) (by rfl) (by rfl) (by rfl) (setRow_row (unhide HR4)) (by rfl) ?_
      refine ⟨(setRow_Only (w3.alloc (.cells #[S q1, S q2] 30)) R #[I 0, S [], I 0, I 0]).below (unhide HB4) (unhide HB4).size (fun q e => by omega), .inr ⟨unhide HGF, rfl⟩⟩
end Go.Proofs.YtpidmpefodnffaaGreatDoor
namespace Go.Proofs.YtpidmpefodnffaaGreatDoor
open Go.RowKit
set_option maxHeartbeats 4000000
set_option maxRecDepth 8000
theorem Print38 (nu : Int) (se : Bs) (fr : Int) (un : Int) (w : World)  : Calls Tryz.prog 38 #[.agg #[I nu, S se, I fr, I un]] w fun e w' => e = .returned (.tuple #[.agg #[S (keyP nu se fr un).1.1, S (keyP nu se fr un).1.2], I (keyP nu se fr un).2]) ∧ Below w.heap.size w w' := by
  have hb0 : Below w.heap.size w ((w.alloc (.cells #[I nu, S se, I fr, I un] 60)).alloc (.cells #[S [], S []] 30)) := ((Below.refl _ w).alloc (Nat.le_refl _) _).alloc (by simp) _
  have hT : ((w.alloc (.cells #[I nu, S se, I fr, I un] 60)).alloc (.cells #[S [], S []] 30)).heap[w.heap.size]? = some (.cells #[I nu, S se, I fr, I un] 60 (0, 0)) := by
    rw [heap_alloc_old _ _ (by simp)]; exact heap_alloc_new _ _
  have hR : ((w.alloc (.cells #[I nu, S se, I fr, I un] 60)).alloc (.cells #[S [], S []] 30)).heap[w.heap.size + 1]? = some (.cells #[S [], S []] 30 (0, 0)) := by
    have e := heap_alloc_new (w.alloc (.cells #[I nu, S se, I fr, I un] 60)) (.cells #[S [], S []] 30)
    simpa using e
  have HPr := hide (pr101 nu se fr un ((w.alloc (.cells #[I nu, S se, I fr, I un] 60)).alloc (.cells #[S [], S []] 30)) )
  have c0 : ((w.alloc (.cells #[I nu, S se, I fr, I un] 60)).alloc (.cells #[S [], S []] 30)).cell? ⟨w.heap.size, 0, none⟩ = some (I nu) := cellr hT rfl
  have c1 : ((w.alloc (.cells #[I nu, S se, I fr, I un] 60)).alloc (.cells #[S [], S []] 30)).cell? ⟨w.heap.size, 1, none⟩ = some (S se) := cellr hT rfl
  have c2 : ((w.alloc (.cells #[I nu, S se, I fr, I un] 60)).alloc (.cells #[S [], S []] 30)).cell? ⟨w.heap.size, 2, none⟩ = some (I fr) := cellr hT rfl
  have c3 : ((w.alloc (.cells #[I nu, S se, I fr, I un] 60)).alloc (.cells #[S [], S []] 30)).cell? ⟨w.heap.size, 3, none⟩ = some (I un) := cellr hT rfl
  generalize hW1 : ((w.alloc (.cells #[I nu, S se, I fr, I un] 60)).alloc (.cells #[S [], S []] 30)) = W1 at *
  have HR := hide hR
  have HB := hide hb0
  clear hT hR hb0
  generalize keyP nu se fr un = Q at *
  obtain ⟨⟨q1, q2⟩, q3⟩ := Q
  go_enter Tryz.func38, Tryz.ntmps38
  go_wp2_with fail
  refine (unhide HPr).mono ?_
  rintro e w2 ⟨rfl, hw2⟩
  have HB2 := hide ((unhide HB).trans (hw2.mono (unhide HB).size))
  have HR2 := hide ((hw2.block _ (lt_of_row (unhide HR))).trans (unhide HR))
  clear hw2 HPr HB HR c0 c1 c2 c3 hW1
  go_wp2_with (refine wp_st30 rfl (.tmp 2) (.tmp 6) rfl (w.heap.size + 1) (by rfl) q1 q2 (by rfl) #[S [], S []] rfl (unhide HR2) ?_)
  refine out2c (T := 30) (n := 2) (p := 2) (q := 3) (cs := #[S q1, S q2]) (fun _ => by kernel_rfl) (fun _ => by kernel_rfl) (Z := w.heap.size + 1) (by rfl) (by rfl) (by rfl) (by rfl) (setRow_row (unhide HR2)) (by rfl) ?_
  exact ⟨rfl, (setRow_Only w2 (w.heap.size + 1) #[S q1, S q2]).below (unhide HB2) (unhide HB2).size (fun k e => by omega)⟩
theorem Parse40 (k v : Bs) (w : World) (hk : k.length ≤ 9223372036854775807) (hv : v.length ≤ 9223372036854775807) : Calls Tryz.prog 40 #[.agg #[S k, S v]] w fun e w' => Below w.heap.size w w' ∧ ((keyG k v = true ∧ e = .returned (.tuple #[.agg #[I (key_nu k), S (key_se v), I (key_fr v), I (key_un v)], I 0])) ∨ (keyG k v = false ∧ e = .returned (.tuple #[.agg #[I 0, S [], I 0, I 0], I 141]))) := by
  have hb0 : Below w.heap.size w ((w.alloc (.cells #[S k, S v] 30)).alloc (.cells #[I 0, S [], I 0, I 0] 60)) := ((Below.refl _ w).alloc (Nat.le_refl _) _).alloc (by simp) _
  have hT : ((w.alloc (.cells #[S k, S v] 30)).alloc (.cells #[I 0, S [], I 0, I 0] 60)).heap[w.heap.size]? = some (.cells #[S k, S v] 30 (0, 0)) := by
    rw [heap_alloc_old _ _ (by simp)]; exact heap_alloc_new _ _
  have hR : ((w.alloc (.cells #[S k, S v] 30)).alloc (.cells #[I 0, S [], I 0, I 0] 60)).heap[w.heap.size + 1]? = some (.cells #[I 0, S [], I 0, I 0] 60 (0, 0)) := by
    have e := heap_alloc_new (w.alloc (.cells #[S k, S v] 30)) (.cells #[I 0, S [], I 0, I 0] 60)
    simpa using e
  have hsz : ((w.alloc (.cells #[S k, S v] 30)).alloc (.cells #[I 0, S [], I 0, I 0] 60)).heap.size = w.heap.size + 2 := by simp
  have HPr := hide (pa105 k v ((w.alloc (.cells #[S k, S v] 30)).alloc (.cells #[I 0, S [], I 0, I 0] 60)) hk hv)
  have c0 : ((w.alloc (.cells #[S k, S v] 30)).alloc (.cells #[I 0, S [], I 0, I 0] 60)).cell? ⟨w.heap.size, 0, none⟩ = some (S k) := cellr hT rfl
  have c1 : ((w.alloc (.cells #[S k, S v] 30)).alloc (.cells #[I 0, S [], I 0, I 0] 60)).cell? ⟨w.heap.size, 1, none⟩ = some (S v) := cellr hT rfl
  generalize hW1 : ((w.alloc (.cells #[S k, S v] 30)).alloc (.cells #[I 0, S [], I 0, I 0] 60)) = W1 at *
  have HR := hide hR
  have HB := hide hb0
  have HS := hide hsz
  clear hT hR hb0 hk hv hsz
  generalize keyG k v = GG at *
  go_enter Tryz.func40, Tryz.ntmps40
  go_wp2_with fail
  refine (unhide HPr).mono ?_
  rintro e w2 ⟨hw2, hor⟩
  have HB2 := hide ((unhide HB).trans (hw2.mono (unhide HB).size))
  have HR2 := hide ((hw2.block _ (lt_of_row (unhide HR))).trans (unhide HR))
  clear hw2 HPr HB HR c0 c1 hW1
  rcases hor with ⟨hg, rfl⟩ | ⟨hg, rfl⟩
  · have HGF := hide hg
    clear hg
    go_wp2_with (refine wp_stT (ty := 60) (n := 4) (by kernel_rfl) rfl (.tmp 2) (.tmp 6) rfl (w.heap.size + 1) (by rfl) #[I (key_nu k), S (key_se v), I (key_fr v), I (key_un v)] rfl (by simp [Value.oneCell']) (by rfl) #[I 0, S [], I 0, I 0] rfl (unhide HR2) ?_)
    refine out2c (T := 60) (n := 4) (p := 2) (q := 3) (cs := #[I (key_nu k), S (key_se v), I (key_fr v), I (key_un v)]) (fun _ => by kernel_rfl) (fun _ => by kernel_rfl) (Z := w.heap.size + 1) (by rfl) (by rfl) (by rfl) (by rfl) (setRow_row (unhide HR2)) (by rfl) ?_
    refine ⟨(setRow_Only w2 (w.heap.size + 1) #[I (key_nu k), S (key_se v), I (key_fr v), I (key_un v)]).below (unhide HB2) (unhide HB2).size (fun k e => by omega), .inl ⟨unhide HGF, rfl⟩⟩
  · have HGF := hide hg
    clear hg
    go_wp2_with (refine wp_stT (ty := 60) (n := 4) (by kernel_rfl) rfl (.tmp 2) (.tmp 6) rfl (w.heap.size + 1) (by rfl) #[I 0, S [], I 0, I 0] rfl (by simp [Value.oneCell']) (by rfl) #[I 0, S [], I 0, I 0] rfl (unhide HR2) ?_)
    refine out2c (T := 60) (n := 4) (p := 2) (q := 3) (cs := #[I 0, S [], I 0, I 0]) (fun _ => by kernel_rfl) (fun _ => by kernel_rfl) (Z := w.heap.size + 1) (by rfl) (by rfl) (by rfl) (by rfl) (setRow_row (unhide HR2)) (by rfl) ?_
    refine ⟨(setRow_Only w2 (w.heap.size + 1) #[I 0, S [], I 0, I 0]).below (unhide HB2) (unhide HB2).size (fun k e => by omega), .inr ⟨unhide HGF, rfl⟩⟩
end Go.Proofs.YtpidmpefodnffaaGreatDoor
