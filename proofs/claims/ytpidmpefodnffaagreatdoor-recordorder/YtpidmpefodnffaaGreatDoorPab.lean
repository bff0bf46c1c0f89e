import Derived.Test.YtpidmpefodnffaaGreatDoorPrc
import Derived.Test.YtpidmpefodnffaaGreatDoorZfdj
import Derived.Test.YtpidmpefodnffaaGreatDoorLyb
namespace Go.Proofs.YtpidmpefodnffaaGreatDoor
open Go.RowKit
set_option maxHeartbeats 4000000
set_option maxRecDepth 8000
def memK0 (k : Bs) : Bs × Nat := (k, 0)
def memK1 (k : Bs) : Bs × Nat := rr2 1 (memK0 k)
def mem_fa (k : Bs) : Int := rv 8 (memK1 k)
def memK2 (k : Bs) : Bs × Nat := rs 8 (memK1 k)
def mem_ge (k : Bs) : Int := rv 4 (memK2 k)
def memV0 (v : Bs) : Bs × Nat := (v, 0)
def mem_id (v : Bs) : Int := rv 8 (memV0 v)
def memstk : Nat → Bs × Nat → List Ct → (Bs × Nat) × List Ct := fun i => match i with
  | 0 => fun s cs => (rr2 1 s, cs)
  | 1 => fun s cs => (rs 8 s, cs.set 0 (.n (rv 8 s)))
  | 2 => fun s cs => (rs 4 s, cs.set 1 (.n (rv 4 s)))
  | _ => fun s cs => (s, cs)
def memstv : Nat → Bs × Nat → List Ct → (Bs × Nat) × List Ct := fun i => match i with
  | 0 => fun s cs => (rs 8 s, cs.set 2 (.n (rv 8 s)))
  | _ => fun s cs => (s, cs)
def memRd (k v : Bs) : List Ct := [.n (mem_fa k), .n (mem_ge k), .n (mem_id v)]
theorem memRd_eq (k v : Bs) : (runF memstv 1 (v, 0) (runF memstk 3 (k, 0) [.n 0, .n 0, .n 0]).2).2 = memRd k v := by kernel_rfl
theorem memRd_nl (k : Bs) : (runF memstk 3 (k, 0) [.n 0, .n 0, .n 0]).2.all Ct.nl = true := by kernel_rfl
def memG (k v : Bs) : Bool := memP (mem_fa k) (mem_ge k) (mem_id v) == ((k, v), 0)
def vrpa120 (_T _P : Nat) (k v : Bs) (c : (Nat → Nat)) (i : Nat) : Value := match i with
  | 0 => (FN 99)
  | 1 => (.agg #[(.slice (some ⟨c 0, 0, none⟩) 3 3), (.slice (some ⟨c 1, 0, none⟩) 1 1)])
  | 2 => (.agg #[S k, S v])
  | 3 => (.tuple #[])
  | _ => undef
def rpa120T : List (Op × Option Tmp × Option (Nat × Bool)) := [
  (.move (.tmp 2), some 12, none),
  (.call { callee := .value (.tmp 12), args := #[(.tmp 8)], argTypes := #[137] }, some 13, none),
  (.load 30 (.tmp 3), some 14, none),
  (.call { callee := .value (.func 140), args := #[(.tmp 13), (.tmp 14)], argTypes := #[111, 30] }, some 15, none)]
def rpa120D : List (Nat × Nat) := [(1, 0), (3, 1), (3, 2)]
set_option maxHeartbeats 4000000 in
theorem rpa120 {ops : Array Oper} {id : Nat} {Q : Exit → Act → World → Prop} (T P : Nat) (k v : Bs) (htab : ops.toList.map (fun o => (o.op, o.dst, o.guard)) = rpa120T) (hdep : deplB rpa120D ops = true) (hac : acB ops = true)
    (a0 : Act) (w : World) (hsz : 16 ≤ a0.tmps.size) (o2 : a0.tmps[2]? = some (FN 99)) (o3 : a0.tmps[3]? = some (ptr P)) (o8 : a0.tmps[8]? = some (ptr T))
    (Wd : (Nat → Nat) → (Nat → Bool) → World → Prop) (h0 : ∃ c, Wd c (fun _ => false) w.drew) (hpure : ∀ i, i ∉ ([1, 3] : List Nat) → ∀ c L W, Wd c L W → Wd c (upd L i) W)
    (r1 : ∀ c L W, Wd c L W → L 1 = false → L 0 = true → Calls Tryz.prog 99 #[(ptr T)] W fun eg w' => ∃ c', (∀ j, L j = true → vrpa120 T P k v c' j = vrpa120 T P k v c j) ∧ eg = .returned (vrpa120 T P k v c' 1) ∧ Wd c' (upd L 1) w')
    (r2 : ∀ c L W, Wd c L W → L 2 = false → (Instr.loadAt 30 (ptr P)).run Tryz.prog W = .ok (.agg #[S k, S v]) W)
    (r3 : ∀ c L W, Wd c L W → L 3 = false → L 1 = true → L 2 = true → Calls Tryz.prog 140 #[(.agg #[(.slice (some ⟨c 0, 0, none⟩) 3 3), (.slice (some ⟨c 1, 0, none⟩) 1 1)]), (.agg #[S k, S v])] W fun eg w' => ∃ c', (∀ j, L j = true → vrpa120 T P k v c' j = vrpa120 T P k v c j) ∧ eg = .returned (vrpa120 T P k v c' 3) ∧ Wd c' (upd L 3) w')
    (hend : ∀ c L W, (∀ i, i < 4 → L i = true) → Wd c L W → Q .normal ((((a0.put (some 12) (FN 99)).put (some 13) (.agg #[(.slice (some ⟨c 0, 0, none⟩) 3 3), (.slice (some ⟨c 1, 0, none⟩) 1 1)])).put (some 14) (.agg #[S k, S v])).put (some 15) (.tuple #[])) W) : (Code.region id ops true).wp Tryz.prog Q a0 w := by
  let val : (Nat → Nat) → Nat → Value := vrpa120 T P k v
  have hosz : ops.size = 4 := by
    have := congrArg List.length htab
    simpa [rpa120T] using this
  have hds : ∀ i s, (rpa120T[i]?).bind (·.2.1) = some s → dstOf ops i = some s := fun i s hi => by rw [tab_dst htab, hi]
  have hdisB : disL rpa120T = true := by rfl
  have hdis := disL_of htab hdisB
  have hold : ∀ s, rpa120T.all (fun x => !(x.2.1 == some s)) = true → (List.range ops.size).all (fun j => !(dstOf ops j == some s)) = true := fun s h => holdL htab s h
  refine region_detX val Wd (hac_of hac) hdis h0 ?_ ?_
  rotate_left
  · intro c L W hall hW
    have := hend c L W (by rw [← hosz]; exact hall) hW
    have e : frm ops a0 (val c) (fun _ => true) ops.size = ((((a0.put (some 12) (FN 99)).put (some 13) (.agg #[(.slice (some ⟨c 0, 0, none⟩) 3 3), (.slice (some ⟨c 1, 0, none⟩) 1 1)])).put (some 14) (.agg #[S k, S v])).put (some 15) (.tuple #[])) := by
      rw [hosz]
      simp only [frm, if_true]
      rw [tab_dst htab 0, tab_dst htab 1, tab_dst htab 2, tab_dst htab 3]
      rfl
    rw [e]
    exact this
  intro i o ho c L a w' hL hd ha hW
  have hi : i < 4 := by rw [← hosz]; exact (Array.getElem?_eq_some_iff.1 ho).1
  have G : ∀ j s : Nat, (rpa120T[j]?).bind (·.2.1) = some s → s < 16 → (i, j) ∈ rpa120D → a.tmps[s]? = some (val c j) := fun j s h1 h2 h3 => frm_at hdis ha j s (hds j s h1) (by omega) (depl_of hdep i j h3 ho hd)
  match i, ho, hL, hi, G with
  | 0, ho, hL, _, G =>
    obtain ⟨hop, hgd⟩ := tab3 htab ho rfl
    have h0 := frm_old ha 2 _ (hold 2 rfl) o2
    exact (dXr ho hgd (hpure 0 (by decide) c L w' hW) (g_mov hop (eval_of h0)))
  | 1, ho, hL, _, G =>
    obtain ⟨hop, hgd⟩ := tab3 htab ho rfl
    have h0 := frm_old ha 8 _ (hold 8 rfl) o8
    have hf := G 0 12 rfl (by decide) (by decide)
    refine doesX_call ho (wanted_none hgd) 99 #[(ptr T)] ?_ (r1 c L w' hW hL (depl_of hdep 1 0 (by decide) ho hd))
    rw [run_callv Tryz.func99 (by kernel_rfl) rfl _ _ _ _ _ hop (eval_of hf)]
    simp only [List.map_toArray, List.map_cons, List.map_nil, eval_of h0]
    all_goals rfl
  | 2, ho, hL, _, G =>
    obtain ⟨hop, hgd⟩ := tab3 htab ho rfl
    have h0 := frm_old ha 3 _ (hold 3 rfl) o3
    exact (dXr ho hgd (hpure 2 (by decide) c L w' hW) (g_load hop (eval_of h0) (r2 c L w' hW hL)))
  | 3, ho, hL, _, G =>
    obtain ⟨hop, hgd⟩ := tab3 htab ho rfl
    have h0 := G 1 13 rfl (by decide) (by decide)
    have h1 := G 2 14 rfl (by decide) (by decide)
    refine doesX_call ho (wanted_none hgd) 140 #[(.agg #[(.slice (some ⟨c 0, 0, none⟩) 3 3), (.slice (some ⟨c 1, 0, none⟩) 1 1)]), (.agg #[S k, S v])] ?_ (r3 c L w' hW hL (depl_of hdep 3 1 (by decide) ho hd) (depl_of hdep 3 2 (by decide) ho hd))
    rw [run_calls Tryz.func140 (by kernel_rfl) rfl _ _ _ _ hop rfl]
    simp only [List.map_toArray, List.map_cons, List.map_nil, eval_of h0, eval_of h1]
    all_goals rfl
  | (i + 4), ho, hL, hi, _ => exact absurd hi (by omega)
def lyf120 (B0 T : Nat) (c : Nat → Nat) (W : World) : Prop := ∃ a, B0 ≤ a ∧ T < a ∧ a < W.heap.size ∧ W.heap[a + 1]? = some (.cells #[S [109]] 9 (0, 0)) ∧ (a + 2 ≤ c 0 ∧ W.heap[c 0]? = some (.cells #[(vW ⟨a + 1, 0, none⟩ 1), (vI ⟨T, 0, none⟩ 8), (vI ⟨T, 1, none⟩ 4)] 213 (0, 0))) ∧ (a + 2 ≤ c 1 ∧ W.heap[c 1]? = some (.cells #[(vI ⟨T, 2, none⟩ 8)] 213 (0, 0)))
theorem tk120 (B0 T : Nat) (c : Nat → Nat) (W : World) (k v : Bs) (hk : k.length ≤ 9223372036854775807) (hv : v.length ≤ 9223372036854775807) (h : lyf120 B0 T c W) (hT : W.heap[T]? = some (.cells #[I 0, I 0, I 0] 139 (0, 0))) :
    Calls Tryz.prog 140 #[.agg #[(.slice (some ⟨c 0, 0, none⟩) 3 3), (.slice (some ⟨c 1, 0, none⟩) 1 1)], .agg #[S k, S v]] W fun e w' => e = .returned (.tuple #[]) ∧ Rec W.heap.size T 139 (memRd k v) w' ∧ Only (fun q => q = T ∨ B0 < q) W w' := by
  obtain ⟨a, ha, hTa, haw, hL1, ⟨hk0, hc0⟩, ⟨hk1, hc1⟩⟩ := h
  have hls : ∀ l, l ∈ [a + 1] → l ≠ T ∧ ∃ y, W.heap[l]? = some (.cells #[S y] 9 (0, 0)) := by
    intro l hl
    simp only [List.mem_cons, List.not_mem_nil, or_false] at hl
    subst hl
    exact ⟨by omega, _, hL1⟩
  have hfx : ∀ q, q ∈ ([(c 0, .cells #[(vW ⟨a + 1, 0, none⟩ 1), (vI ⟨T, 0, none⟩ 8), (vI ⟨T, 1, none⟩ 4)] 213 (0, 0)), (c 1, .cells #[(vI ⟨T, 2, none⟩ 8)] 213 (0, 0))] : List (Nat × Obj)) → W.heap[q.1]? = some q.2 ∧ q.1 ≠ T ∧ ¬ q.1 ∈ [a + 1] := by
    intro q hq
    simp only [List.mem_cons, List.not_mem_nil, or_false] at hq
    rcases hq with rfl | rfl
    · exact ⟨hc0, by show c 0 ≠ T; omega, by simp; omega⟩
    · exact ⟨hc1, by show c 1 ≠ T; omega, by simp; omega⟩
  have r1 : Rw W (some ⟨c 0, 0, none⟩) 3 (fun i => (#[(vW ⟨a + 1, 0, none⟩ 1), (vI ⟨T, 0, none⟩ 8), (vI ⟨T, 1, none⟩ 4)] : Array Value).getD i undef) memstk T 139 [a + 1] [(c 0, .cells #[(vW ⟨a + 1, 0, none⟩ 1), (vI ⟨T, 0, none⟩ 8), (vI ⟨T, 1, none⟩ 4)] 213 (0, 0)), (c 1, .cells #[(vI ⟨T, 2, none⟩ 8)] 213 (0, 0))] 3 := ⟨by decide, fun _ => ⟨c 0, #[(vW ⟨a + 1, 0, none⟩ 1), (vI ⟨T, 0, none⟩ 8), (vI ⟨T, 1, none⟩ 4)], rfl, (List.Mem.head _), fun i hi => by match i, hi with | 0, _ => rfl | 1, _ => rfl | 2, _ => rfl | (q + 3), h => exact absurd h (by omega)⟩, fun i hi => by
      match i, hi with
      | 0, _ => exact Tf.let T 139 _ _ 3 (a + 1) (by simp) 1
      | 1, _ => exact Tf.nu T 139 _ _ 3 0 (by decide) 8
      | 2, _ => exact Tf.nu T 139 _ _ 3 1 (by decide) 4
      | (q + 3), h => exact absurd h (by omega), hls, hfx⟩
  have r2 : Rw W (some ⟨c 1, 0, none⟩) 1 (fun i => (#[(vI ⟨T, 2, none⟩ 8)] : Array Value).getD i undef) memstv T 139 [a + 1] [(c 0, .cells #[(vW ⟨a + 1, 0, none⟩ 1), (vI ⟨T, 0, none⟩ 8), (vI ⟨T, 1, none⟩ 4)] 213 (0, 0)), (c 1, .cells #[(vI ⟨T, 2, none⟩ 8)] 213 (0, 0))] 3 := ⟨by decide, fun _ => ⟨c 1, #[(vI ⟨T, 2, none⟩ 8)], rfl, (List.Mem.tail _ (List.Mem.head _)), fun i hi => by match i, hi with | 0, _ => rfl | (q + 1), h => exact absurd h (by omega)⟩, fun i hi => by
      match i, hi with
      | 0, _ => exact Tf.nu T 139 _ _ 3 2 (by decide) 8
      | (q + 1), h => exact absurd h (by omega), hls, hfx⟩
  have hrc : Rec 0 T 139 [.n 0, .n 0, .n 0] W := ⟨#[I 0, I 0, I 0].toList, hT, rfl, fun j q y h1 h2 => by
    match j, h1, h2 with
    | 0, h1, h2 => cases h1; cases h2; rfl
    | 1, h1, h2 => cases h1; cases h2; rfl
    | 2, h1, h2 => cases h1; cases h2; rfl
    | (j + 3), h1, h2 => cases h1⟩
  refine (ltake_any (some ⟨c 0, 0, none⟩) (some ⟨c 1, 0, none⟩) 3 1 _ _ memstk memstv T 139 _ _ 3 k v [.n 0, .n 0, .n 0] W rfl hk hv r1 r2 hrc rfl (memRd_nl k)).mono ?_
  rintro e w' ⟨rfl, q1, q2⟩
  refine ⟨rfl, by rw [← memRd_eq]; exact q1, q2.mono (fun q _ e => ?_)⟩
  rcases e with e | e
  · exact .inl e
  · simp only [List.mem_cons, List.not_mem_nil, or_false] at e
    exact .inr (by omega)
theorem rc120 {B T : Nat} {k v : Bs} {W : World} (h : Rec B T 139 (memRd k v) W) : W.heap[T]? = some (.cells #[I (mem_fa k), I (mem_ge k), I (mem_id v)] 139 (0, 0)) := by
  obtain ⟨vs, g1, g2, g3⟩ := h
  match vs, g1, g2, g3 with
  | [v0, v1, v2], g1, _, g3 =>
    have q0 : CtAt B W (.n (mem_fa k)) v0 := g3 0 _ _ rfl rfl
    cases q0
    have q1 : CtAt B W (.n (mem_ge k)) v1 := g3 1 _ _ rfl rfl
    cases q1
    have q2 : CtAt B W (.n (mem_id v)) v2 := g3 2 _ _ rfl rfl
    cases q2
    exact g1
theorem pa120 (k v : Bs) (w : World) (hk : k.length ≤ 9223372036854775807) (hv : v.length ≤ 9223372036854775807) : Calls Tryz.prog 120 #[.agg #[S k, S v], FN 121, FN 99] w fun e w' => Below w.heap.size w w' ∧ ((memG k v = true ∧ e = .returned (.tuple #[.agg #[I (mem_fa k), I (mem_ge k), I (mem_id v)], I 0])) ∨ (memG k v = false ∧ e = .returned (.tuple #[.agg #[I 0, I 0, I 0], I 141]))) := by
  have hb0 : Below w.heap.size w ((((w.alloc (.cells #[S k, S v] 30)).alloc (.cells #[I 0, I 0, I 0] 139)).alloc (.cells #[I 0, I 0, I 0] 139)).alloc (.cells #[I 0, I 0, I 0] 139)) := ((((Below.refl _ w).alloc (Nat.le_refl _) _).alloc (by simp) _).alloc (by first | (simp; done) | (simp; omega)) _).alloc (by first | (simp; done) | (simp; omega)) _
  have hP : ((((w.alloc (.cells #[S k, S v] 30)).alloc (.cells #[I 0, I 0, I 0] 139)).alloc (.cells #[I 0, I 0, I 0] 139)).alloc (.cells #[I 0, I 0, I 0] 139)).heap[w.heap.size]? = some (.cells #[S k, S v] 30 (0, 0)) := by
    rw [heap_alloc_old _ _ (by first | (simp; done) | (simp; omega))]; rw [heap_alloc_old _ _ (by first | (simp; done) | (simp; omega))]; rw [heap_alloc_old _ _ (by first | (simp; done) | (simp; omega))]; 
    have e := heap_alloc_new w (.cells #[S k, S v] 30)
    simpa using e
  have hR : ((((w.alloc (.cells #[S k, S v] 30)).alloc (.cells #[I 0, I 0, I 0] 139)).alloc (.cells #[I 0, I 0, I 0] 139)).alloc (.cells #[I 0, I 0, I 0] 139)).heap[w.heap.size + 1]? = some (.cells #[I 0, I 0, I 0] 139 (0, 0)) := by
    rw [heap_alloc_old _ _ (by first | (simp; done) | (simp; omega))]; rw [heap_alloc_old _ _ (by first | (simp; done) | (simp; omega))]; 
    have e := heap_alloc_new (w.alloc (.cells #[S k, S v] 30)) (.cells #[I 0, I 0, I 0] 139)
    simpa using e
  have hT : ((((w.alloc (.cells #[S k, S v] 30)).alloc (.cells #[I 0, I 0, I 0] 139)).alloc (.cells #[I 0, I 0, I 0] 139)).alloc (.cells #[I 0, I 0, I 0] 139)).heap[w.heap.size + 1 + 1]? = some (.cells #[I 0, I 0, I 0] 139 (0, 0)) := by
    rw [heap_alloc_old _ _ (by first | (simp; done) | (simp; omega))]; 
    have e := heap_alloc_new ((w.alloc (.cells #[S k, S v] 30)).alloc (.cells #[I 0, I 0, I 0] 139)) (.cells #[I 0, I 0, I 0] 139)
    simpa using e
  have hZ : ((((w.alloc (.cells #[S k, S v] 30)).alloc (.cells #[I 0, I 0, I 0] 139)).alloc (.cells #[I 0, I 0, I 0] 139)).alloc (.cells #[I 0, I 0, I 0] 139)).heap[w.heap.size + 1 + 1 + 1]? = some (.cells #[I 0, I 0, I 0] 139 (0, 0)) := by
    
    have e := heap_alloc_new (((w.alloc (.cells #[S k, S v] 30)).alloc (.cells #[I 0, I 0, I 0] 139)).alloc (.cells #[I 0, I 0, I 0] 139)) (.cells #[I 0, I 0, I 0] 139)
    simpa using e
  have hsz : ((((w.alloc (.cells #[S k, S v] 30)).alloc (.cells #[I 0, I 0, I 0] 139)).alloc (.cells #[I 0, I 0, I 0] 139)).alloc (.cells #[I 0, I 0, I 0] 139)).heap.size = w.heap.size + 1 + 1 + 1 + 1 := by simp
  have HG : Hid (memG k v = (memP (mem_fa k) (mem_ge k) (mem_id v) == ((k, v), 0))) := hide rfl
  generalize memG k v = GG at *
  go_enter Tryz.func120, Tryz.ntmps120
  go_wp2_with fail
  generalize (((w.alloc (.cells #[S k, S v] 30)).alloc (.cells #[I 0, I 0, I 0] 139)).alloc (.cells #[I 0, I 0, I 0] 139)).alloc (.cells #[I 0, I 0, I 0] 139) = W1 at *
  generalize hZe : w.heap.size + 1 + 1 + 1 = Z at *
  generalize hTe : w.heap.size + 1 + 1 = T at *
  generalize hRe : w.heap.size + 1 = R at *
  generalize hPe : w.heap.size = P at *
  refine rpa120 T P k v rfl (by rfl) (by rfl) _ W1 (by simp) rfl rfl rfl (Paq w T P R Z 139 #[I 0, I 0, I 0] k v (lyf120 W1.heap.size T) (fun W => Rec W1.heap.size T 139 (memRd k v) W))
    ⟨fun _ => 0, ⟨by rw [hPe]; exact hb0.drew, hP, hR, hZ, (fun e => by cases e), fun _ => hT, (fun e => by cases e), (fun e => by cases e)⟩⟩
    (fun i hi c L W hW => hW.pure i (fun e => hi (by simp [e])) (fun e => hi (by simp [e])))
    (fun c L W hW hL _ => ?r1)
    (fun c L W hW _ => s_ldr (T := 30) (n := 2) (fun _ => by kernel_rfl) (fun _ => by kernel_rfl) (o := 0) hW.pb [S k, S v] rfl rfl)
    (fun c L W hW hL h1 _ => ?r3) ?hend
  case r1 =>
    have f3 : L 3 = false := no_of hW.dep hL
    have hTl := lt_of_row (hW.t0 f3)
    have hZl := lt_of_row hW.zb
    refine (lay99 T W).mono ?_
    rintro e w' ⟨c', rfl, hb, hL1, hs0, hs1⟩
    refine ⟨c', fun j hj => ?_, rfl, hW.lay hL hb ⟨W.heap.size, by omega, hTl, by have := lt_of_row hL1; omega, hL1, hs0, hs1⟩⟩
    match j, hj with
    | 0, _ => rfl
    | 1, hj => rw [hL] at hj; cases hj
    | 2, _ => rfl
    | 3, _ => rfl
    | (q + 4), _ => rfl
  case r3 =>
    refine (tk120 W1.heap.size T c W k v hk hv (hW.ly h1 hL) (hW.t0 hL)).mono ?_
    rintro e w' ⟨rfl, q1, q2⟩
    exact ⟨c, fun _ _ => rfl, rfl, hW.take h1 q2 (by omega) (by omega) (by omega) (by omega) (by omega) (q1.weaken (by have := lt_of_row hW.zb; omega))⟩
  case hend =>
    intro c L W hall hW
    have hrec := hW.fn (hall 3 (by decide))
    obtain hTW := rc120 hrec
    have HB := hide hW.bel
    have HPB := hide hW.pb
    have HRB := hide hW.rb
    have HZB := hide hW.zb
    have HTB := hide hTW
    have HPr := hide (pr153 (mem_fa k) (mem_ge k) (mem_id v) W )
    have t0 : W.cell? ⟨T, 0, none⟩ = some (I (mem_fa k)) := cellr hTW rfl
    have t1 : W.cell? ⟨T, 1, none⟩ = some (I (mem_ge k)) := cellr hTW rfl
    have t2 : W.cell? ⟨T, 2, none⟩ = some (I (mem_id v)) := cellr hTW rfl
    clear hW hall hrec hb0 hP hR hT hZ hk hv hTW 
    generalize memP (mem_fa k) (mem_ge k) (mem_id v) = Q at *
    obtain ⟨⟨q1, q2⟩, q3⟩ := Q
    simp only [Act.put, List.setIfInBounds_toArray, List.set_cons_succ, List.set_cons_zero]
    go_wp2_with fail
    refine (unhide HPr).mono ?_
    rintro e w3 ⟨rfl, hw3⟩
    have HB3 := hide ((unhide HB).trans (hw3.mono (unhide HB).size))
    have hP3 := (hw3.block _ (lt_of_row (unhide HPB))).trans (unhide HPB)
    have hR3 := (hw3.block _ (lt_of_row (unhide HRB))).trans (unhide HRB)
    have hZ3 := (hw3.block _ (lt_of_row (unhide HZB))).trans (unhide HZB)
    have hT3 := (hw3.block _ (lt_of_row (unhide HTB))).trans (unhide HTB)
    have hb4 : Below w3.heap.size w3 (w3.alloc (.cells #[S q1, S q2] 30)) := (Below.refl _ _).alloc (Nat.le_refl _) _
    have hA0 : (w3.alloc (.cells #[S q1, S q2] 30)).cell? ⟨w3.heap.size, 0, none⟩ = some (S q1) := cell_new _ _ _ _ _ rfl
    have hA1 : (w3.alloc (.cells #[S q1, S q2] 30)).cell? ⟨w3.heap.size, 1, none⟩ = some (S q2) := cell_new _ _ _ _ _ rfl
    have HB4 := hide ((unhide HB3).trans (hb4.mono (unhide HB3).size))
    replace hP3 := (hb4.block _ (lt_of_row hP3)).trans hP3
    replace hR3 := (hb4.block _ (lt_of_row hR3)).trans hR3
    replace hZ3 := (hb4.block _ (lt_of_row hZ3)).trans hZ3
    replace hT3 := (hb4.block _ (lt_of_row hT3)).trans hT3
    have p0 : (w3.alloc (.cells #[S q1, S q2] 30)).cell? ⟨P, 0, none⟩ = some (S k) := cellr hP3 rfl
    have p1 : (w3.alloc (.cells #[S q1, S q2] 30)).cell? ⟨P, 1, none⟩ = some (S v) := cellr hP3 rfl
    have u0 : (w3.alloc (.cells #[S q1, S q2] 30)).cell? ⟨T, 0, none⟩ = some (I (mem_fa k)) := cellr hT3 rfl
    have z0 : (w3.alloc (.cells #[S q1, S q2] 30)).cell? ⟨Z, 0, none⟩ = some (I 0) := cellr hZ3 rfl
    have u1 : (w3.alloc (.cells #[S q1, S q2] 30)).cell? ⟨T, 1, none⟩ = some (I (mem_ge k)) := cellr hT3 rfl
    have z1 : (w3.alloc (.cells #[S q1, S q2] 30)).cell? ⟨Z, 1, none⟩ = some (I 0) := cellr hZ3 rfl
    have u2 : (w3.alloc (.cells #[S q1, S q2] 30)).cell? ⟨T, 2, none⟩ = some (I (mem_id v)) := cellr hT3 rfl
    have z2 : (w3.alloc (.cells #[S q1, S q2] 30)).cell? ⟨Z, 2, none⟩ = some (I 0) := cellr hZ3 rfl
    have HR4 := hide hR3
    clear HPr hw3 HB HPB HRB HZB HTB HB3 hP3 hR3 hZ3 hT3 hb4 t0 t1 t2
    have hn30 := ne30 q1 q2 k v
    by_cases e0 : q3 = 0
    · subst e0
      by_cases e1 : q1 = k ∧ q2 = v
      · have HGF : Hid (GG = true) := hide (by rw [unhide HG]; simp [e1])
        have hb1 : (q1 == k && q2 == v) = true := by simp [e1]
        rw [hb1] at hn30
        clear e1 hb1
        go_wp2_with (refine wp_stT (ty := 139) (n := 3) (by kernel_rfl) rfl (.tmp 6) (.tmp 31) rfl R (by rfl) #[I (mem_fa k), I (mem_ge k), I (mem_id v)] rfl (by simp [Value.oneCell']) (by rfl) #[I 0, I 0, I 0] rfl (unhide HR4) ?_)
        refine out2c (T := 139) (n := 3) (p := 6) (q := 7) (cs := #[I (mem_fa k), I (mem_ge k), I (mem_id v)]) (fun _ => by kernel_rfl) (fun _ => by kernel_rfl) (Z := R) (by rfl) (by rfl) (by rfl) (by rfl) (setRow_row (unhide HR4)) (by rfl) ?_
        refine ⟨(setRow_Only (w3.alloc (.cells #[S q1, S q2] 30)) R #[I (mem_fa k), I (mem_ge k), I (mem_id v)]).below (unhide HB4) (unhide HB4).size (fun q e => by omega), .inl ⟨unhide HGF, rfl⟩⟩
      · have HGF : Hid (GG = false) := hide (by rw [unhide HG]; simp; exact fun a b => e1 ⟨a, b⟩)
        have hb1 : (q1 == k && q2 == v) = false := by simp; exact fun a b => e1 ⟨a, b⟩
        rw [hb1] at hn30
        clear e1 hb1
        go_wp2_with (refine wp_stT (ty := 139) (n := 3) (by kernel_rfl) rfl (.tmp 6) (.tmp 30) rfl R (by rfl) #[I 0, I 0, I 0] rfl (by simp [Value.oneCell']) (by rfl) #[I 0, I 0, I 0] rfl (unhide HR4) ?_)
        refine out2c (T := 139) (n := 3) (p := 6) (q := 7) (cs := #[I 0, I 0, I 0]) (fun _ => by kernel_rfl) (fun _ => by kernel_rfl) (Z := R) (by rfl) (by rfl) (by rfl) (by rfl) (setRow_row (unhide HR4)) (by rfl) ?_
        refine ⟨(setRow_Only (w3.alloc (.cells #[S q1, S q2] 30)) R #[I 0, I 0, I 0]).below (unhide HB4) (unhide HB4).size (fun q e => by omega), .inr ⟨unhide HGF, rfl⟩⟩
    · have HGF : Hid (GG = false) := hide (by rw [unhide HG]; simp [e0])
      have e2 : ((q3 : Int) != 0) = true := by simp; exact e0
      go_wp2_with (refine wp_stT (ty := 139) (n := 3) (by kernel_rfl) rfl (.tmp 6) (.tmp 30) rfl R (by rfl) #[I 0, I 0, I 0] rfl (by simp [Value.oneCell']) (by rfl) #[I 0, I 0, I 0] rfl (unhide HR4) ?_)
      refine out2c (T := 139) (n := 3) (p := 6) (q := 7) (cs := #[I 0, I 0, I 0]) (fun _ => by kernel_rfl) (fun _ => by kernel_rfl) (Z := R) (by rfl) (by rfl) (by rfl) (by rfl) (setRow_row (unhide HR4)) (by rfl) ?_
      refine ⟨(setRow_Only (w3.alloc (.cells #[S q1, S q2] 30)) R #[I 0, I 0, I 0]).below (unhide HB4) (unhide HB4).size (fun q e => by omega), .inr ⟨unhide HGF, rfl⟩⟩
def endK0 (k : Bs) : Bs × Nat := (k, 0)
def endK1 (k : Bs) : Bs × Nat := rr2 1 (endK0 k)
def end_en (k : Bs) : Int := rv 6 (endK1 k)
def endK2 (k : Bs) : Bs × Nat := rs 6 (endK1 k)
def end_id (k : Bs) : Int := rv 8 (endK2 k)
def endstk : Nat → Bs × Nat → List Ct → (Bs × Nat) × List Ct := fun i => match i with
  | 0 => fun s cs => (rr2 1 s, cs)
  | 1 => fun s cs => (rs 6 s, cs.set 0 (.n (rv 6 s)))
  | 2 => fun s cs => (rs 8 s, cs.set 1 (.n (rv 8 s)))
  | _ => fun s cs => (s, cs)
def endstv : Nat → Bs × Nat → List Ct → (Bs × Nat) × List Ct := fun i => match i with
  | _ => fun s cs => (s, cs)
def endRd (k _v : Bs) : List Ct := [.n (end_en k), .n (end_id k)]
theorem endRd_eq (k v : Bs) : (runF endstv 0 (v, 0) (runF endstk 3 (k, 0) [.n 0, .n 0]).2).2 = endRd k v := by kernel_rfl
theorem endRd_nl (k : Bs) : (runF endstk 3 (k, 0) [.n 0, .n 0]).2.all Ct.nl = true := by kernel_rfl
def endG (k v : Bs) : Bool := endP (end_en k) (end_id k) == ((k, v), 0)
def vrpa123 (_T _P : Nat) (k v : Bs) (c : (Nat → Nat)) (i : Nat) : Value := match i with
  | 0 => (FN 76)
  | 1 => (.agg #[(.slice (some ⟨c 0, 0, none⟩) 3 3), (.slice none 0 0)])
  | 2 => (.agg #[S k, S v])
  | 3 => (.tuple #[])
  | _ => undef
def rpa123T : List (Op × Option Tmp × Option (Nat × Bool)) := [
  (.move (.tmp 2), some 12, none),
  (.call { callee := .value (.tmp 12), args := #[(.tmp 8)], argTypes := #[113] }, some 13, none),
  (.load 30 (.tmp 3), some 14, none),
  (.call { callee := .value (.func 140), args := #[(.tmp 13), (.tmp 14)], argTypes := #[111, 30] }, some 15, none)]
def rpa123D : List (Nat × Nat) := [(1, 0), (3, 1), (3, 2)]
set_option maxHeartbeats 4000000 in
theorem rpa123 {ops : Array Oper} {id : Nat} {Q : Exit → Act → World → Prop} (T P : Nat) (k v : Bs) (htab : ops.toList.map (fun o => (o.op, o.dst, o.guard)) = rpa123T) (hdep : deplB rpa123D ops = true) (hac : acB ops = true)
    (a0 : Act) (w : World) (hsz : 16 ≤ a0.tmps.size) (o2 : a0.tmps[2]? = some (FN 76)) (o3 : a0.tmps[3]? = some (ptr P)) (o8 : a0.tmps[8]? = some (ptr T))
    (Wd : (Nat → Nat) → (Nat → Bool) → World → Prop) (h0 : ∃ c, Wd c (fun _ => false) w.drew) (hpure : ∀ i, i ∉ ([1, 3] : List Nat) → ∀ c L W, Wd c L W → Wd c (upd L i) W)
    (r1 : ∀ c L W, Wd c L W → L 1 = false → L 0 = true → Calls Tryz.prog 76 #[(ptr T)] W fun eg w' => ∃ c', (∀ j, L j = true → vrpa123 T P k v c' j = vrpa123 T P k v c j) ∧ eg = .returned (vrpa123 T P k v c' 1) ∧ Wd c' (upd L 1) w')
    (r2 : ∀ c L W, Wd c L W → L 2 = false → (Instr.loadAt 30 (ptr P)).run Tryz.prog W = .ok (.agg #[S k, S v]) W)
    (r3 : ∀ c L W, Wd c L W → L 3 = false → L 1 = true → L 2 = true → Calls Tryz.prog 140 #[(.agg #[(.slice (some ⟨c 0, 0, none⟩) 3 3), (.slice none 0 0)]), (.agg #[S k, S v])] W fun eg w' => ∃ c', (∀ j, L j = true → vrpa123 T P k v c' j = vrpa123 T P k v c j) ∧ eg = .returned (vrpa123 T P k v c' 3) ∧ Wd c' (upd L 3) w')
    (hend : ∀ c L W, (∀ i, i < 4 → L i = true) → Wd c L W → Q .normal ((((a0.put (some 12) (FN 76)).put (some 13) (.agg #[(.slice (some ⟨c 0, 0, none⟩) 3 3), (.slice none 0 0)])).put (some 14) (.agg #[S k, S v])).put (some 15) (.tuple #[])) W) : (Code.region id ops true).wp Tryz.prog Q a0 w := by
  let val : (Nat → Nat) → Nat → Value := vrpa123 T P k v
  have hosz : ops.size = 4 := by
    have := congrArg List.length htab
    simpa [rpa123T] using this
  have hds : ∀ i s, (rpa123T[i]?).bind (·.2.1) = some s → dstOf ops i = some s := fun i s hi => by rw [tab_dst htab, hi]
  have hdisB : disL rpa123T = true := by rfl
  have hdis := disL_of htab hdisB
  have hold : ∀ s, rpa123T.all (fun x => !(x.2.1 == some s)) = true → (List.range ops.size).all (fun j => !(dstOf ops j == some s)) = true := fun s h => holdL htab s h
  refine region_detX val Wd (hac_of hac) hdis h0 ?_ ?_
  rotate_left
  · intro c L W hall hW
    have := hend c L W (by rw [← hosz]; exact hall) hW
    have e : frm ops a0 (val c) (fun _ => true) ops.size = ((((a0.put (some 12) (FN 76)).put (some 13) (.agg #[(.slice (some ⟨c 0, 0, none⟩) 3 3), (.slice none 0 0)])).put (some 14) (.agg #[S k, S v])).put (some 15) (.tuple #[])) := by
      rw [hosz]
      simp only [frm, if_true]
      rw [tab_dst htab 0, tab_dst htab 1, tab_dst htab 2, tab_dst htab 3]
      rfl
    rw [e]
    exact this
  intro i o ho c L a w' hL hd ha hW
  have hi : i < 4 := by rw [← hosz]; exact (Array.getElem?_eq_some_iff.1 ho).1
  have G : ∀ j s : Nat, (rpa123T[j]?).bind (·.2.1) = some s → s < 16 → (i, j) ∈ rpa123D → a.tmps[s]? = some (val c j) := fun j s h1 h2 h3 => frm_at hdis ha j s (hds j s h1) (by omega) (depl_of hdep i j h3 ho hd)
  match i, ho, hL, hi, G with
  | 0, ho, hL, _, G =>
    obtain ⟨hop, hgd⟩ := tab3 htab ho rfl
    have h0 := frm_old ha 2 _ (hold 2 rfl) o2
    exact (dXr ho hgd (hpure 0 (by decide) c L w' hW) (g_mov hop (eval_of h0)))
  | 1, ho, hL, _, G =>
    obtain ⟨hop, hgd⟩ := tab3 htab ho rfl
    have h0 := frm_old ha 8 _ (hold 8 rfl) o8
    have hf := G 0 12 rfl (by decide) (by decide)
    refine doesX_call ho (wanted_none hgd) 76 #[(ptr T)] ?_ (r1 c L w' hW hL (depl_of hdep 1 0 (by decide) ho hd))
    rw [run_callv Tryz.func76 (by kernel_rfl) rfl _ _ _ _ _ hop (eval_of hf)]
    simp only [List.map_toArray, List.map_cons, List.map_nil, eval_of h0]
    all_goals rfl
  | 2, ho, hL, _, G =>
    obtain ⟨hop, hgd⟩ := tab3 htab ho rfl
    have h0 := frm_old ha 3 _ (hold 3 rfl) o3
    exact (dXr ho hgd (hpure 2 (by decide) c L w' hW) (g_load hop (eval_of h0) (r2 c L w' hW hL)))
  | 3, ho, hL, _, G =>
    obtain ⟨hop, hgd⟩ := tab3 htab ho rfl
    have h0 := G 1 13 rfl (by decide) (by decide)
    have h1 := G 2 14 rfl (by decide) (by decide)
    refine doesX_call ho (wanted_none hgd) 140 #[(.agg #[(.slice (some ⟨c 0, 0, none⟩) 3 3), (.slice none 0 0)]), (.agg #[S k, S v])] ?_ (r3 c L w' hW hL (depl_of hdep 3 1 (by decide) ho hd) (depl_of hdep 3 2 (by decide) ho hd))
    rw [run_calls Tryz.func140 (by kernel_rfl) rfl _ _ _ _ hop rfl]
    simp only [List.map_toArray, List.map_cons, List.map_nil, eval_of h0, eval_of h1]
    all_goals rfl
  | (i + 4), ho, hL, hi, _ => exact absurd hi (by omega)
def lyf123 (B0 T : Nat) (c : Nat → Nat) (W : World) : Prop := ∃ a, B0 ≤ a ∧ T < a ∧ a < W.heap.size ∧ W.heap[a + 1]? = some (.cells #[S [120]] 9 (0, 0)) ∧ (a + 2 ≤ c 0 ∧ W.heap[c 0]? = some (.cells #[(vW ⟨a + 1, 0, none⟩ 1), (vI ⟨T, 0, none⟩ 6), (vI ⟨T, 1, none⟩ 8)] 213 (0, 0)))
theorem tk123 (B0 T : Nat) (c : Nat → Nat) (W : World) (k v : Bs) (hk : k.length ≤ 9223372036854775807) (hv : v.length ≤ 9223372036854775807) (h : lyf123 B0 T c W) (hT : W.heap[T]? = some (.cells #[I 0, I 0] 115 (0, 0))) :
    Calls Tryz.prog 140 #[.agg #[(.slice (some ⟨c 0, 0, none⟩) 3 3), (.slice none 0 0)], .agg #[S k, S v]] W fun e w' => e = .returned (.tuple #[]) ∧ Rec W.heap.size T 115 (endRd k v) w' ∧ Only (fun q => q = T ∨ B0 < q) W w' := by
  obtain ⟨a, ha, hTa, haw, hL1, ⟨hk0, hc0⟩⟩ := h
  have hls : ∀ l, l ∈ [a + 1] → l ≠ T ∧ ∃ y, W.heap[l]? = some (.cells #[S y] 9 (0, 0)) := by
    intro l hl
    simp only [List.mem_cons, List.not_mem_nil, or_false] at hl
    subst hl
    exact ⟨by omega, _, hL1⟩
  have hfx : ∀ q, q ∈ ([(c 0, .cells #[(vW ⟨a + 1, 0, none⟩ 1), (vI ⟨T, 0, none⟩ 6), (vI ⟨T, 1, none⟩ 8)] 213 (0, 0))] : List (Nat × Obj)) → W.heap[q.1]? = some q.2 ∧ q.1 ≠ T ∧ ¬ q.1 ∈ [a + 1] := by
    intro q hq
    simp only [List.mem_cons, List.not_mem_nil, or_false] at hq
    subst hq
    exact ⟨hc0, by show c 0 ≠ T; omega, by simp; omega⟩
  have r1 : Rw W (some ⟨c 0, 0, none⟩) 3 (fun i => (#[(vW ⟨a + 1, 0, none⟩ 1), (vI ⟨T, 0, none⟩ 6), (vI ⟨T, 1, none⟩ 8)] : Array Value).getD i undef) endstk T 115 [a + 1] [(c 0, .cells #[(vW ⟨a + 1, 0, none⟩ 1), (vI ⟨T, 0, none⟩ 6), (vI ⟨T, 1, none⟩ 8)] 213 (0, 0))] 2 := ⟨by decide, fun _ => ⟨c 0, #[(vW ⟨a + 1, 0, none⟩ 1), (vI ⟨T, 0, none⟩ 6), (vI ⟨T, 1, none⟩ 8)], rfl, (List.Mem.head _), fun i hi => by match i, hi with | 0, _ => rfl | 1, _ => rfl | 2, _ => rfl | (q + 3), h => exact absurd h (by omega)⟩, fun i hi => by
      match i, hi with
      | 0, _ => exact Tf.let T 115 _ _ 2 (a + 1) (by simp) 1
      | 1, _ => exact Tf.nu T 115 _ _ 2 0 (by decide) 6
      | 2, _ => exact Tf.nu T 115 _ _ 2 1 (by decide) 8
      | (q + 3), h => exact absurd h (by omega), hls, hfx⟩
  have r2 : Rw W none 0 (fun _ => undef) endstv T 115 [a + 1] [(c 0, .cells #[(vW ⟨a + 1, 0, none⟩ 1), (vI ⟨T, 0, none⟩ 6), (vI ⟨T, 1, none⟩ 8)] 213 (0, 0))] 2 := ⟨by decide, fun h => absurd h (by decide), fun i hi => absurd hi (by omega), hls, hfx⟩
  have hrc : Rec 0 T 115 [.n 0, .n 0] W := ⟨#[I 0, I 0].toList, hT, rfl, fun j q y h1 h2 => by
    match j, h1, h2 with
    | 0, h1, h2 => cases h1; cases h2; rfl
    | 1, h1, h2 => cases h1; cases h2; rfl
    | (j + 2), h1, h2 => cases h1⟩
  refine (ltake_any (some ⟨c 0, 0, none⟩) none 3 0 _ _ endstk endstv T 115 _ _ 2 k v [.n 0, .n 0] W rfl hk hv r1 r2 hrc rfl (endRd_nl k)).mono ?_
  rintro e w' ⟨rfl, q1, q2⟩
  refine ⟨rfl, by rw [← endRd_eq]; exact q1, q2.mono (fun q _ e => ?_)⟩
  rcases e with e | e
  · exact .inl e
  · simp only [List.mem_cons, List.not_mem_nil, or_false] at e
    exact .inr (by omega)
theorem rc123 {B T : Nat} {k v : Bs} {W : World} (h : Rec B T 115 (endRd k v) W) : W.heap[T]? = some (.cells #[I (end_en k), I (end_id k)] 115 (0, 0)) := by
  obtain ⟨vs, g1, g2, g3⟩ := h
  match vs, g1, g2, g3 with
  | [v0, v1], g1, _, g3 =>
    have q0 : CtAt B W (.n (end_en k)) v0 := g3 0 _ _ rfl rfl
    cases q0
    have q1 : CtAt B W (.n (end_id k)) v1 := g3 1 _ _ rfl rfl
    cases q1
    exact g1
theorem pa123 (k v : Bs) (w : World) (hk : k.length ≤ 9223372036854775807) (hv : v.length ≤ 9223372036854775807) : Calls Tryz.prog 123 #[.agg #[S k, S v], FN 124, FN 76] w fun e w' => Below w.heap.size w w' ∧ ((endG k v = true ∧ e = .returned (.tuple #[.agg #[I (end_en k), I (end_id k)], I 0])) ∨ (endG k v = false ∧ e = .returned (.tuple #[.agg #[I 0, I 0], I 141]))) := by
  have hb0 : Below w.heap.size w ((((w.alloc (.cells #[S k, S v] 30)).alloc (.cells #[I 0, I 0] 115)).alloc (.cells #[I 0, I 0] 115)).alloc (.cells #[I 0, I 0] 115)) := ((((Below.refl _ w).alloc (Nat.le_refl _) _).alloc (by simp) _).alloc (by first | (simp; done) | (simp; omega)) _).alloc (by first | (simp; done) | (simp; omega)) _
  have hP : ((((w.alloc (.cells #[S k, S v] 30)).alloc (.cells #[I 0, I 0] 115)).alloc (.cells #[I 0, I 0] 115)).alloc (.cells #[I 0, I 0] 115)).heap[w.heap.size]? = some (.cells #[S k, S v] 30 (0, 0)) := by
    rw [heap_alloc_old _ _ (by first | (simp; done) | (simp; omega))]; rw [heap_alloc_old _ _ (by first | (simp; done) | (simp; omega))]; rw [heap_alloc_old _ _ (by first | (simp; done) | (simp; omega))]; 
    have e := heap_alloc_new w (.cells #[S k, S v] 30)
    simpa using e
  have hR : ((((w.alloc (.cells #[S k, S v] 30)).alloc (.cells #[I 0, I 0] 115)).alloc (.cells #[I 0, I 0] 115)).alloc (.cells #[I 0, I 0] 115)).heap[w.heap.size + 1]? = some (.cells #[I 0, I 0] 115 (0, 0)) := by
    rw [heap_alloc_old _ _ (by first | (simp; done) | (simp; omega))]; rw [heap_alloc_old _ _ (by first | (simp; done) | (simp; omega))]; 
    have e := heap_alloc_new (w.alloc (.cells #[S k, S v] 30)) (.cells #[I 0, I 0] 115)
    simpa using e
  have hT : ((((w.alloc (.cells #[S k, S v] 30)).alloc (.cells #[I 0, I 0] 115)).alloc (.cells #[I 0, I 0] 115)).alloc (.cells #[I 0, I 0] 115)).heap[w.heap.size + 1 + 1]? = some (.cells #[I 0, I 0] 115 (0, 0)) := by
    rw [heap_alloc_old _ _ (by first | (simp; done) | (simp; omega))]; 
    have e := heap_alloc_new ((w.alloc (.cells #[S k, S v] 30)).alloc (.cells #[I 0, I 0] 115)) (.cells #[I 0, I 0] 115)
    simpa using e
  have hZ : ((((w.alloc (.cells #[S k, S v] 30)).alloc (.cells #[I 0, I 0] 115)).alloc (.cells #[I 0, I 0] 115)).alloc (.cells #[I 0, I 0] 115)).heap[w.heap.size + 1 + 1 + 1]? = some (.cells #[I 0, I 0] 115 (0, 0)) := by
    
    have e := heap_alloc_new (((w.alloc (.cells #[S k, S v] 30)).alloc (.cells #[I 0, I 0] 115)).alloc (.cells #[I 0, I 0] 115)) (.cells #[I 0, I 0] 115)
    simpa using e
  have hsz : ((((w.alloc (.cells #[S k, S v] 30)).alloc (.cells #[I 0, I 0] 115)).alloc (.cells #[I 0, I 0] 115)).alloc (.cells #[I 0, I 0] 115)).heap.size = w.heap.size + 1 + 1 + 1 + 1 := by simp
  have HG : Hid (endG k v = (endP (end_en k) (end_id k) == ((k, v), 0))) := hide rfl
  generalize endG k v = GG at *
  go_enter Tryz.func123, Tryz.ntmps123
  go_wp2_with fail
  generalize (((w.alloc (.cells #[S k, S v] 30)).alloc (.cells #[I 0, I 0] 115)).alloc (.cells #[I 0, I 0] 115)).alloc (.cells #[I 0, I 0] 115) = W1 at *
  generalize hZe : w.heap.size + 1 + 1 + 1 = Z at *
  generalize hTe : w.heap.size + 1 + 1 = T at *
  generalize hRe : w.heap.size + 1 = R at *
  generalize hPe : w.heap.size = P at *
  refine rpa123 T P k v rfl (by rfl) (by rfl) _ W1 (by simp) rfl rfl rfl (Paq w T P R Z 115 #[I 0, I 0] k v (lyf123 W1.heap.size T) (fun W => Rec W1.heap.size T 115 (endRd k v) W))
    ⟨fun _ => 0, ⟨by rw [hPe]; exact hb0.drew, hP, hR, hZ, (fun e => by cases e), fun _ => hT, (fun e => by cases e), (fun e => by cases e)⟩⟩
    (fun i hi c L W hW => hW.pure i (fun e => hi (by simp [e])) (fun e => hi (by simp [e])))
    (fun c L W hW hL _ => ?r1)
    (fun c L W hW _ => s_ldr (T := 30) (n := 2) (fun _ => by kernel_rfl) (fun _ => by kernel_rfl) (o := 0) hW.pb [S k, S v] rfl rfl)
    (fun c L W hW hL h1 _ => ?r3) ?hend
  case r1 =>
    have f3 : L 3 = false := no_of hW.dep hL
    have hTl := lt_of_row (hW.t0 f3)
    have hZl := lt_of_row hW.zb
    refine (lay76 T W).mono ?_
    rintro e w' ⟨c', rfl, hb, hL1, hs0⟩
    refine ⟨c', fun j hj => ?_, rfl, hW.lay hL hb ⟨W.heap.size, by omega, hTl, by have := lt_of_row hL1; omega, hL1, hs0⟩⟩
    match j, hj with
    | 0, _ => rfl
    | 1, hj => rw [hL] at hj; cases hj
    | 2, _ => rfl
    | 3, _ => rfl
    | (q + 4), _ => rfl
  case r3 =>
    refine (tk123 W1.heap.size T c W k v hk hv (hW.ly h1 hL) (hW.t0 hL)).mono ?_
    rintro e w' ⟨rfl, q1, q2⟩
    exact ⟨c, fun _ _ => rfl, rfl, hW.take h1 q2 (by omega) (by omega) (by omega) (by omega) (by omega) (q1.weaken (by have := lt_of_row hW.zb; omega))⟩
  case hend =>
    intro c L W hall hW
    have hrec := hW.fn (hall 3 (by decide))
    obtain hTW := rc123 hrec
    have HB := hide hW.bel
    have HPB := hide hW.pb
    have HRB := hide hW.rb
    have HZB := hide hW.zb
    have HTB := hide hTW
    have HPr := hide (pr155 (end_en k) (end_id k) W )
    have t0 : W.cell? ⟨T, 0, none⟩ = some (I (end_en k)) := cellr hTW rfl
    have t1 : W.cell? ⟨T, 1, none⟩ = some (I (end_id k)) := cellr hTW rfl
    clear hW hall hrec hb0 hP hR hT hZ hk hv hTW 
    generalize endP (end_en k) (end_id k) = Q at *
    obtain ⟨⟨q1, q2⟩, q3⟩ := Q
    simp only [Act.put, List.setIfInBounds_toArray, List.set_cons_succ, List.set_cons_zero]
    go_wp2_with fail
    refine (unhide HPr).mono ?_
    rintro e w3 ⟨rfl, hw3⟩
    have HB3 := hide ((unhide HB).trans (hw3.mono (unhide HB).size))
    have hP3 := (hw3.block _ (lt_of_row (unhide HPB))).trans (unhide HPB)
    have hR3 := (hw3.block _ (lt_of_row (unhide HRB))).trans (unhide HRB)
    have hZ3 := (hw3.block _ (lt_of_row (unhide HZB))).trans (unhide HZB)
    have hT3 := (hw3.block _ (lt_of_row (unhide HTB))).trans (unhide HTB)
    have hb4 : Below w3.heap.size w3 (w3.alloc (.cells #[S q1, S q2] 30)) := (Below.refl _ _).alloc (Nat.le_refl _) _
    have hA0 : (w3.alloc (.cells #[S q1, S q2] 30)).cell? ⟨w3.heap.size, 0, none⟩ = some (S q1) := cell_new _ _ _ _ _ rfl
    have hA1 : (w3.alloc (.cells #[S q1, S q2] 30)).cell? ⟨w3.heap.size, 1, none⟩ = some (S q2) := cell_new _ _ _ _ _ rfl
    have HB4 := hide ((unhide HB3).trans (hb4.mono (unhide HB3).size))
    replace hP3 := (hb4.block _ (lt_of_row hP3)).trans hP3
    replace hR3 := (hb4.block _ (lt_of_row hR3)).trans hR3
    replace hZ3 := (hb4.block _ (lt_of_row hZ3)).trans hZ3
    replace hT3 := (hb4.block _ (lt_of_row hT3)).trans hT3
    have p0 : (w3.alloc (.cells #[S q1, S q2] 30)).cell? ⟨P, 0, none⟩ = some (S k) := cellr hP3 rfl
    have p1 : (w3.alloc (.cells #[S q1, S q2] 30)).cell? ⟨P, 1, none⟩ = some (S v) := cellr hP3 rfl
    have u0 : (w3.alloc (.cells #[S q1, S q2] 30)).cell? ⟨T, 0, none⟩ = some (I (end_en k)) := cellr hT3 rfl
    have z0 : (w3.alloc (.cells #[S q1, S q2] 30)).cell? ⟨Z, 0, none⟩ = some (I 0) := cellr hZ3 rfl
    have u1 : (w3.alloc (.cells #[S q1, S q2] 30)).cell? ⟨T, 1, none⟩ = some (I (end_id k)) := cellr hT3 rfl
    have z1 : (w3.alloc (.cells #[S q1, S q2] 30)).cell? ⟨Z, 1, none⟩ = some (I 0) := cellr hZ3 rfl
    have HR4 := hide hR3
    clear HPr hw3 HB HPB HRB HZB HTB HB3 hP3 hR3 hZ3 hT3 hb4 t0 t1
    have hn30 := ne30 q1 q2 k v
    by_cases e0 : q3 = 0
    · subst e0
      by_cases e1 : q1 = k ∧ q2 = v
      · have HGF : Hid (GG = true) := hide (by rw [unhide HG]; simp [e1])
        have hb1 : (q1 == k && q2 == v) = true := by simp [e1]
        rw [hb1] at hn30
        clear e1 hb1
        go_wp2_with (refine wp_stT (ty := 115) (n := 2) (by kernel_rfl) rfl (.tmp 6) (.tmp 31) rfl R (by rfl) #[I (end_en k), I (end_id k)] rfl (by simp [Value.oneCell']) (by rfl) #[I 0, I 0] rfl (unhide HR4) ?_)
        refine out2c (T := 115) (n := 2) (p := 6) (q := 7) (cs := #[I (end_en k), I (end_id k)]) (fun _ => by kernel_rfl) (fun _ => by kernel_rfl) (Z := R) (by rfl) (by rfl) (by rfl) (by rfl) (setRow_row (unhide HR4)) (by rfl) ?_
        refine ⟨(setRow_Only (w3.alloc (.cells #[S q1, S q2] 30)) R #[I (end_en k), I (end_id k)]).below (unhide HB4) (unhide HB4).size (fun q e => by omega), .inl ⟨unhide HGF, rfl⟩⟩
      · have HGF : Hid (GG = false) := hide (by rw [unhide HG]; simp; exact fun a b => e1 ⟨a, b⟩)
        have hb1 : (q1 == k && q2 == v) = false := by simp; exact fun a b => e1 ⟨a, b⟩
        rw [hb1] at hn30
        clear e1 hb1
        go_wp2_with (refine wp_stT (ty := 115) (n := 2) (by kernel_rfl) rfl (.tmp 6) (.tmp 30) rfl R (by rfl) #[I 0, I 0] rfl (by simp [Value.oneCell']) (by rfl) #[I 0, I 0] rfl (unhide HR4) ?_)
        refine out2c (T := 115) (n := 2) (p := 6) (q := 7) (cs := #[I 0, I 0]) (fun _ => by kernel_rfl) (fun _ => by kernel_rfl) (Z := R) (by rfl) (by rfl) (by rfl) (by rfl) (setRow_row (unhide HR4)) (by rfl) ?_
        refine ⟨(setRow_Only (w3.alloc (.cells #[S q1, S q2] 30)) R #[I 0, I 0]).below (unhide HB4) (unhide HB4).size (fun q e => by omega), .inr ⟨unhide HGF, rfl⟩⟩
    · have HGF : Hid (GG = false) := hide (by rw [unhide HG]; simp [e0])
      have e2 : ((q3 : Int) != 0) = true := by simp; exact e0
      go_wp2_with (refine wp_stT (ty := 115) (n := 2) (by kernel_rfl) rfl (.tmp 6) (.tmp 30) rfl R (by rfl) #[I 0, I 0] rfl (by simp [Value.oneCell']) (by rfl) #[I 0, I 0] rfl (unhide HR4) ?_)
      refine out2c (T := 115) (n := 2) (p := 6) (q := 7) (cs := #[I 0, I 0]) (fun _ => by kernel_rfl) (fun _ => by kernel_rfl) (Z := R) (by rfl) (by rfl) (by rfl) (by rfl) (setRow_row (unhide HR4)) (by rfl) ?_
      refine ⟨(setRow_Only (w3.alloc (.cells #[S q1, S q2] 30)) R #[I 0, I 0]).below (unhide HB4) (unhide HB4).size (fun q e => by omega), .inr ⟨unhide HGF, rfl⟩⟩
def subK0 (k : Bs) : Bs × Nat := (k, 0)
def subK1 (k : Bs) : Bs × Nat := rr2 1 (subK0 k)
def sub_su (k : Bs) : Bs := ra ((subK1 k).1.length - 9) (subK1 k)
def subK2 (k : Bs) : Bs × Nat := rr2 ((subK1 k).1.length - 9) (subK1 k)
def subK3 (k : Bs) : Bs × Nat := rr2 1 (subK2 k)
def sub_id (k : Bs) : Int := rv 8 (subK3 k)
def substk : Nat → Bs × Nat → List Ct → (Bs × Nat) × List Ct := fun i => match i with
  | 0 => fun s cs => (rr2 1 s, cs)
  | 1 => fun s cs => (rr2 (s.1.length - 9) s, cs.set 0 (.s (ra (s.1.length - 9) s)))
  | 2 => fun s cs => (rr2 1 s, cs)
  | 3 => fun s cs => (rs 8 s, cs.set 1 (.n (rv 8 s)))
  | _ => fun s cs => (s, cs)
def substv : Nat → Bs × Nat → List Ct → (Bs × Nat) × List Ct := fun i => match i with
  | _ => fun s cs => (s, cs)
def subRd (k _v : Bs) : List Ct := [.s (sub_su k), .n (sub_id k)]
theorem subRd_eq (k v : Bs) : (runF substv 0 (v, 0) (runF substk 4 (k, 0) [.s [], .n 0]).2).2 = subRd k v := by kernel_rfl
theorem subRd_nl (k : Bs) : (runF substk 4 (k, 0) [.s [], .n 0]).2.all Ct.nl = true := by kernel_rfl
def subG (k v : Bs) : Bool := subP (sub_su k) (sub_id k) == ((k, v), 0)
def vrpa125 (_T _P : Nat) (k v : Bs) (c : (Nat → Nat)) (i : Nat) : Value := match i with
  | 0 => (FN 78)
  | 1 => (.agg #[(.slice (some ⟨c 0, 0, none⟩) 4 4), (.slice none 0 0)])
  | 2 => (.agg #[S k, S v])
  | 3 => (.tuple #[])
  | _ => undef
def rpa125T : List (Op × Option Tmp × Option (Nat × Bool)) := [
  (.move (.tmp 2), some 12, none),
  (.call { callee := .value (.tmp 12), args := #[(.tmp 8)], argTypes := #[118] }, some 13, none),
  (.load 30 (.tmp 3), some 14, none),
  (.call { callee := .value (.func 140), args := #[(.tmp 13), (.tmp 14)], argTypes := #[111, 30] }, some 15, none)]
def rpa125D : List (Nat × Nat) := [(1, 0), (3, 1), (3, 2)]
set_option maxHeartbeats 4000000 in
theorem rpa125 {ops : Array Oper} {id : Nat} {Q : Exit → Act → World → Prop} (T P : Nat) (k v : Bs) (htab : ops.toList.map (fun o => (o.op, o.dst, o.guard)) = rpa125T) (hdep : deplB rpa125D ops = true) (hac : acB ops = true)
    (a0 : Act) (w : World) (hsz : 16 ≤ a0.tmps.size) (o2 : a0.tmps[2]? = some (FN 78)) (o3 : a0.tmps[3]? = some (ptr P)) (o8 : a0.tmps[8]? = some (ptr T))
    (Wd : (Nat → Nat) → (Nat → Bool) → World → Prop) (h0 : ∃ c, Wd c (fun _ => false) w.drew) (hpure : ∀ i, i ∉ ([1, 3] : List Nat) → ∀ c L W, Wd c L W → Wd c (upd L i) W)
    (r1 : ∀ c L W, Wd c L W → L 1 = false → L 0 = true → Calls Tryz.prog 78 #[(ptr T)] W fun eg w' => ∃ c', (∀ j, L j = true → vrpa125 T P k v c' j = vrpa125 T P k v c j) ∧ eg = .returned (vrpa125 T P k v c' 1) ∧ Wd c' (upd L 1) w')
    (r2 : ∀ c L W, Wd c L W → L 2 = false → (Instr.loadAt 30 (ptr P)).run Tryz.prog W = .ok (.agg #[S k, S v]) W)
    (r3 : ∀ c L W, Wd c L W → L 3 = false → L 1 = true → L 2 = true → Calls Tryz.prog 140 #[(.agg #[(.slice (some ⟨c 0, 0, none⟩) 4 4), (.slice none 0 0)]), (.agg #[S k, S v])] W fun eg w' => ∃ c', (∀ j, L j = true → vrpa125 T P k v c' j = vrpa125 T P k v c j) ∧ eg = .returned (vrpa125 T P k v c' 3) ∧ Wd c' (upd L 3) w')
    (hend : ∀ c L W, (∀ i, i < 4 → L i = true) → Wd c L W → Q .normal ((((a0.put (some 12) (FN 78)).put (some 13) (.agg #[(.slice (some ⟨c 0, 0, none⟩) 4 4), (.slice none 0 0)])).put (some 14) (.agg #[S k, S v])).put (some 15) (.tuple #[])) W) : (Code.region id ops true).wp Tryz.prog Q a0 w := by
  let val : (Nat → Nat) → Nat → Value := vrpa125 T P k v
  have hosz : ops.size = 4 := by
    have := congrArg List.length htab
    simpa [rpa125T] using this
  have hds : ∀ i s, (rpa125T[i]?).bind (·.2.1) = some s → dstOf ops i = some s := fun i s hi => by rw [tab_dst htab, hi]
  have hdisB : disL rpa125T = true := by rfl
  have hdis := disL_of htab hdisB
  have hold : ∀ s, rpa125T.all (fun x => !(x.2.1 == some s)) = true → (List.range ops.size).all (fun j => !(dstOf ops j == some s)) = true := fun s h => holdL htab s h
  refine region_detX val Wd (hac_of hac) hdis h0 ?_ ?_
  rotate_left
  · intro c L W hall hW
    have := hend c L W (by rw [← hosz]; exact hall) hW
    have e : frm ops a0 (val c) (fun _ => true) ops.size = ((((a0.put (some 12) (FN 78)).put (some 13) (.agg #[(.slice (some ⟨c 0, 0, none⟩) 4 4), (.slice none 0 0)])).put (some 14) (.agg #[S k, S v])).put (some 15) (.tuple #[])) := by
      rw [hosz]
      simp only [frm, if_true]
      rw [tab_dst htab 0, tab_dst htab 1, tab_dst htab 2, tab_dst htab 3]
      rfl
    rw [e]
    exact this
  intro i o ho c L a w' hL hd ha hW
  have hi : i < 4 := by rw [← hosz]; exact (Array.getElem?_eq_some_iff.1 ho).1
  have G : ∀ j s : Nat, (rpa125T[j]?).bind (·.2.1) = some s → s < 16 → (i, j) ∈ rpa125D → a.tmps[s]? = some (val c j) := fun j s h1 h2 h3 => frm_at hdis ha j s (hds j s h1) (by omega) (depl_of hdep i j h3 ho hd)
  match i, ho, hL, hi, G with
  | 0, ho, hL, _, G =>
    obtain ⟨hop, hgd⟩ := tab3 htab ho rfl
    have h0 := frm_old ha 2 _ (hold 2 rfl) o2
    exact (dXr ho hgd (hpure 0 (by decide) c L w' hW) (g_mov hop (eval_of h0)))
  | 1, ho, hL, _, G =>
    obtain ⟨hop, hgd⟩ := tab3 htab ho rfl
    have h0 := frm_old ha 8 _ (hold 8 rfl) o8
    have hf := G 0 12 rfl (by decide) (by decide)
    refine doesX_call ho (wanted_none hgd) 78 #[(ptr T)] ?_ (r1 c L w' hW hL (depl_of hdep 1 0 (by decide) ho hd))
    rw [run_callv Tryz.func78 (by kernel_rfl) rfl _ _ _ _ _ hop (eval_of hf)]
    simp only [List.map_toArray, List.map_cons, List.map_nil, eval_of h0]
    all_goals rfl
  | 2, ho, hL, _, G =>
    obtain ⟨hop, hgd⟩ := tab3 htab ho rfl
    have h0 := frm_old ha 3 _ (hold 3 rfl) o3
    exact (dXr ho hgd (hpure 2 (by decide) c L w' hW) (g_load hop (eval_of h0) (r2 c L w' hW hL)))
  | 3, ho, hL, _, G =>
    obtain ⟨hop, hgd⟩ := tab3 htab ho rfl
    have h0 := G 1 13 rfl (by decide) (by decide)
    have h1 := G 2 14 rfl (by decide) (by decide)
    refine doesX_call ho (wanted_none hgd) 140 #[(.agg #[(.slice (some ⟨c 0, 0, none⟩) 4 4), (.slice none 0 0)]), (.agg #[S k, S v])] ?_ (r3 c L w' hW hL (depl_of hdep 3 1 (by decide) ho hd) (depl_of hdep 3 2 (by decide) ho hd))
    rw [run_calls Tryz.func140 (by kernel_rfl) rfl _ _ _ _ hop rfl]
    simp only [List.map_toArray, List.map_cons, List.map_nil, eval_of h0, eval_of h1]
    all_goals rfl
  | (i + 4), ho, hL, hi, _ => exact absurd hi (by omega)
def lyf125 (B0 T : Nat) (c : Nat → Nat) (W : World) : Prop := ∃ a, B0 ≤ a ∧ T < a ∧ a < W.heap.size ∧ W.heap[a + 1]? = some (.cells #[S [115]] 9 (0, 0)) ∧ W.heap[a + 1 + 1]? = some (.cells #[S [0]] 9 (0, 0)) ∧ (a + 3 ≤ c 0 ∧ W.heap[c 0]? = some (.cells #[(vW ⟨a + 1, 0, none⟩ 1), (vR ⟨T, 0, none⟩ 9), (vW ⟨a + 1 + 1, 0, none⟩ 1), (vI ⟨T, 1, none⟩ 8)] 213 (0, 0)))
theorem tk125 (B0 T : Nat) (c : Nat → Nat) (W : World) (k v : Bs) (hk : k.length ≤ 9223372036854775807) (hv : v.length ≤ 9223372036854775807) (h : lyf125 B0 T c W) (hT : W.heap[T]? = some (.cells #[S [], I 0] 120 (0, 0))) :
    Calls Tryz.prog 140 #[.agg #[(.slice (some ⟨c 0, 0, none⟩) 4 4), (.slice none 0 0)], .agg #[S k, S v]] W fun e w' => e = .returned (.tuple #[]) ∧ Rec W.heap.size T 120 (subRd k v) w' ∧ Only (fun q => q = T ∨ B0 < q) W w' := by
  obtain ⟨a, ha, hTa, haw, hL1, hL2, ⟨hk0, hc0⟩⟩ := h
  have hls : ∀ l, l ∈ [a + 1, a + 1 + 1] → l ≠ T ∧ ∃ y, W.heap[l]? = some (.cells #[S y] 9 (0, 0)) := by
    intro l hl
    simp only [List.mem_cons, List.not_mem_nil, or_false] at hl
    rcases hl with rfl | rfl
    · exact ⟨by omega, _, hL1⟩
    · exact ⟨by omega, _, hL2⟩
  have hfx : ∀ q, q ∈ ([(c 0, .cells #[(vW ⟨a + 1, 0, none⟩ 1), (vR ⟨T, 0, none⟩ 9), (vW ⟨a + 1 + 1, 0, none⟩ 1), (vI ⟨T, 1, none⟩ 8)] 213 (0, 0))] : List (Nat × Obj)) → W.heap[q.1]? = some q.2 ∧ q.1 ≠ T ∧ ¬ q.1 ∈ [a + 1, a + 1 + 1] := by
    intro q hq
    simp only [List.mem_cons, List.not_mem_nil, or_false] at hq
    subst hq
    exact ⟨hc0, by show c 0 ≠ T; omega, by simp; omega⟩
  have r1 : Rw W (some ⟨c 0, 0, none⟩) 4 (fun i => (#[(vW ⟨a + 1, 0, none⟩ 1), (vR ⟨T, 0, none⟩ 9), (vW ⟨a + 1 + 1, 0, none⟩ 1), (vI ⟨T, 1, none⟩ 8)] : Array Value).getD i undef) substk T 120 [a + 1, a + 1 + 1] [(c 0, .cells #[(vW ⟨a + 1, 0, none⟩ 1), (vR ⟨T, 0, none⟩ 9), (vW ⟨a + 1 + 1, 0, none⟩ 1), (vI ⟨T, 1, none⟩ 8)] 213 (0, 0))] 2 := ⟨by decide, fun _ => ⟨c 0, #[(vW ⟨a + 1, 0, none⟩ 1), (vR ⟨T, 0, none⟩ 9), (vW ⟨a + 1 + 1, 0, none⟩ 1), (vI ⟨T, 1, none⟩ 8)], rfl, (List.Mem.head _), fun i hi => by match i, hi with | 0, _ => rfl | 1, _ => rfl | 2, _ => rfl | 3, _ => rfl | (q + 4), h => exact absurd h (by omega)⟩, fun i hi => by
      match i, hi with
      | 0, _ => exact Tf.let T 120 _ _ 2 (a + 1) (by simp) 1
      | 1, _ => exact Tf.re T 120 _ _ 2 0 (by decide) 9 (by decide)
      | 2, _ => exact Tf.let T 120 _ _ 2 (a + 1 + 1) (by simp) 1
      | 3, _ => exact Tf.nu T 120 _ _ 2 1 (by decide) 8
      | (q + 4), h => exact absurd h (by omega), hls, hfx⟩
  have r2 : Rw W none 0 (fun _ => undef) substv T 120 [a + 1, a + 1 + 1] [(c 0, .cells #[(vW ⟨a + 1, 0, none⟩ 1), (vR ⟨T, 0, none⟩ 9), (vW ⟨a + 1 + 1, 0, none⟩ 1), (vI ⟨T, 1, none⟩ 8)] 213 (0, 0))] 2 := ⟨by decide, fun h => absurd h (by decide), fun i hi => absurd hi (by omega), hls, hfx⟩
  have hrc : Rec 0 T 120 [.s [], .n 0] W := ⟨#[S [], I 0].toList, hT, rfl, fun j q y h1 h2 => by
    match j, h1, h2 with
    | 0, h1, h2 => cases h1; cases h2; rfl
    | 1, h1, h2 => cases h1; cases h2; rfl
    | (j + 2), h1, h2 => cases h1⟩
  refine (ltake_any (some ⟨c 0, 0, none⟩) none 4 0 _ _ substk substv T 120 _ _ 2 k v [.s [], .n 0] W rfl hk hv r1 r2 hrc rfl (subRd_nl k)).mono ?_
  rintro e w' ⟨rfl, q1, q2⟩
  refine ⟨rfl, by rw [← subRd_eq]; exact q1, q2.mono (fun q _ e => ?_)⟩
  rcases e with e | e
  · exact .inl e
  · simp only [List.mem_cons, List.not_mem_nil, or_false] at e
    exact .inr (by omega)
theorem rc125 {B T : Nat} {k v : Bs} {W : World} (h : Rec B T 120 (subRd k v) W) : W.heap[T]? = some (.cells #[S (sub_su k), I (sub_id k)] 120 (0, 0)) := by
  obtain ⟨vs, g1, g2, g3⟩ := h
  match vs, g1, g2, g3 with
  | [v0, v1], g1, _, g3 =>
    have q0 : CtAt B W (.s (sub_su k)) v0 := g3 0 _ _ rfl rfl
    cases q0
    have q1 : CtAt B W (.n (sub_id k)) v1 := g3 1 _ _ rfl rfl
    cases q1
    exact g1
theorem pa125 (k v : Bs) (w : World) (hk : k.length ≤ 9223372036854775807) (hv : v.length ≤ 9223372036854775807) : Calls Tryz.prog 125 #[.agg #[S k, S v], FN 126, FN 78] w fun e w' => Below w.heap.size w w' ∧ ((subG k v = true ∧ e = .returned (.tuple #[.agg #[S (sub_su k), I (sub_id k)], I 0])) ∨ (subG k v = false ∧ e = .returned (.tuple #[.agg #[S [], I 0], I 141]))) := by
  have hb0 : Below w.heap.size w ((((w.alloc (.cells #[S k, S v] 30)).alloc (.cells #[S [], I 0] 120)).alloc (.cells #[S [], I 0] 120)).alloc (.cells #[S [], I 0] 120)) := ((((Below.refl _ w).alloc (Nat.le_refl _) _).alloc (by simp) _).alloc (by first | (simp; done) | (simp; omega)) _).alloc (by first | (simp; done) | (simp; omega)) _
  have hP : ((((w.alloc (.cells #[S k, S v] 30)).alloc (.cells #[S [], I 0] 120)).alloc (.cells #[S [], I 0] 120)).alloc (.cells #[S [], I 0] 120)).heap[w.heap.size]? = some (.cells #[S k, S v] 30 (0, 0)) := by
    rw [heap_alloc_old _ _ (by first | (simp; done) | (simp; omega))]; rw [heap_alloc_old _ _ (by first | (simp; done) | (simp; omega))]; rw [heap_alloc_old _ _ (by first | (simp; done) | (simp; omega))]; 
    have e := heap_alloc_new w (.cells #[S k, S v] 30)
    simpa using e
  have hR : ((((w.alloc (.cells #[S k, S v] 30)).alloc (.cells #[S [], I 0] 120)).alloc (.cells #[S [], I 0] 120)).alloc (.cells #[S [], I 0] 120)).heap[w.heap.size + 1]? = some (.cells #[S [], I 0] 120 (0, 0)) := by
    rw [heap_alloc_old _ _ (by first | (simp; done) | (simp; omega))]; rw [heap_alloc_old _ _ (by first | (simp; done) | (simp; omega))]; 
    have e := heap_alloc_new (w.alloc (.cells #[S k, S v] 30)) (.cells #[S [], I 0] 120)
    simpa using e
  have hT : ((((w.alloc (.cells #[S k, S v] 30)).alloc (.cells #[S [], I 0] 120)).alloc (.cells #[S [], I 0] 120)).alloc (.cells #[S [], I 0] 120)).heap[w.heap.size + 1 + 1]? = some (.cells #[S [], I 0] 120 (0, 0)) := by
    rw [heap_alloc_old _ _ (by first | (simp; done) | (simp; omega))]; 
    have e := heap_alloc_new ((w.alloc (.cells #[S k, S v] 30)).alloc (.cells #[S [], I 0] 120)) (.cells #[S [], I 0] 120)
    simpa using e
  have hZ : ((((w.alloc (.cells #[S k, S v] 30)).alloc (.cells #[S [], I 0] 120)).alloc (.cells #[S [], I 0] 120)).alloc (.cells #[S [], I 0] 120)).heap[w.heap.size + 1 + 1 + 1]? = some (.cells #[S [], I 0] 120 (0, 0)) := by
    
    have e := heap_alloc_new (((w.alloc (.cells #[S k, S v] 30)).alloc (.cells #[S [], I 0] 120)).alloc (.cells #[S [], I 0] 120)) (.cells #[S [], I 0] 120)
    simpa using e
  have hsz : ((((w.alloc (.cells #[S k, S v] 30)).alloc (.cells #[S [], I 0] 120)).alloc (.cells #[S [], I 0] 120)).alloc (.cells #[S [], I 0] 120)).heap.size = w.heap.size + 1 + 1 + 1 + 1 := by simp
  have h_su : (sub_su k).length ≤ 9223372036854775807 := Nat.le_trans (Nat.le_trans (ra_len _ _) (show (subK1 k).1.length ≤ (subK0 k).1.length from rr2_len _ _)) (show (subK0 k).1.length ≤ 9223372036854775807 from hk)
  have HG : Hid (subG k v = (subP (sub_su k) (sub_id k) == ((k, v), 0))) := hide rfl
  generalize subG k v = GG at *
  go_enter Tryz.func125, Tryz.ntmps125
  go_wp2_with fail
  generalize (((w.alloc (.cells #[S k, S v] 30)).alloc (.cells #[S [], I 0] 120)).alloc (.cells #[S [], I 0] 120)).alloc (.cells #[S [], I 0] 120) = W1 at *
  generalize hZe : w.heap.size + 1 + 1 + 1 = Z at *
  generalize hTe : w.heap.size + 1 + 1 = T at *
  generalize hRe : w.heap.size + 1 = R at *
  generalize hPe : w.heap.size = P at *
  refine rpa125 T P k v rfl (by rfl) (by rfl) _ W1 (by simp) rfl rfl rfl (Paq w T P R Z 120 #[S [], I 0] k v (lyf125 W1.heap.size T) (fun W => Rec W1.heap.size T 120 (subRd k v) W))
    ⟨fun _ => 0, ⟨by rw [hPe]; exact hb0.drew, hP, hR, hZ, (fun e => by cases e), fun _ => hT, (fun e => by cases e), (fun e => by cases e)⟩⟩
    (fun i hi c L W hW => hW.pure i (fun e => hi (by simp [e])) (fun e => hi (by simp [e])))
    (fun c L W hW hL _ => ?r1)
    (fun c L W hW _ => s_ldr (T := 30) (n := 2) (fun _ => by kernel_rfl) (fun _ => by kernel_rfl) (o := 0) hW.pb [S k, S v] rfl rfl)
    (fun c L W hW hL h1 _ => ?r3) ?hend
  case r1 =>
    have f3 : L 3 = false := no_of hW.dep hL
    have hTl := lt_of_row (hW.t0 f3)
    have hZl := lt_of_row hW.zb
    refine (lay78 T W).mono ?_
    rintro e w' ⟨c', rfl, hb, hL1, hL2, hs0⟩
    refine ⟨c', fun j hj => ?_, rfl, hW.lay hL hb ⟨W.heap.size, by omega, hTl, by have := lt_of_row hL1; omega, hL1, hL2, hs0⟩⟩
    match j, hj with
    | 0, _ => rfl
    | 1, hj => rw [hL] at hj; cases hj
    | 2, _ => rfl
    | 3, _ => rfl
    | (q + 4), _ => rfl
  case r3 =>
    refine (tk125 W1.heap.size T c W k v hk hv (hW.ly h1 hL) (hW.t0 hL)).mono ?_
    rintro e w' ⟨rfl, q1, q2⟩
    exact ⟨c, fun _ _ => rfl, rfl, hW.take h1 q2 (by omega) (by omega) (by omega) (by omega) (by omega) (q1.weaken (by have := lt_of_row hW.zb; omega))⟩
  case hend =>
    intro c L W hall hW
    have hrec := hW.fn (hall 3 (by decide))
    obtain hTW := rc125 hrec
    have HB := hide hW.bel
    have HPB := hide hW.pb
    have HRB := hide hW.rb
    have HZB := hide hW.zb
    have HTB := hide hTW
    have HPr := hide (pr156 (sub_su k) (sub_id k) W h_su)
    have t0 : W.cell? ⟨T, 0, none⟩ = some (S (sub_su k)) := cellr hTW rfl
    have t1 : W.cell? ⟨T, 1, none⟩ = some (I (sub_id k)) := cellr hTW rfl
    clear hW hall hrec hb0 hP hR hT hZ hk hv hTW h_su
    generalize subP (sub_su k) (sub_id k) = Q at *
    obtain ⟨⟨q1, q2⟩, q3⟩ := Q
    simp only [Act.put, List.setIfInBounds_toArray, List.set_cons_succ, List.set_cons_zero]
    go_wp2_with fail
    refine (unhide HPr).mono ?_
    rintro e w3 ⟨rfl, hw3⟩
    have HB3 := hide ((unhide HB).trans (hw3.mono (unhide HB).size))
    have hP3 := (hw3.block _ (lt_of_row (unhide HPB))).trans (unhide HPB)
    have hR3 := (hw3.block _ (lt_of_row (unhide HRB))).trans (unhide HRB)
    have hZ3 := (hw3.block _ (lt_of_row (unhide HZB))).trans (unhide HZB)
    have hT3 := (hw3.block _ (lt_of_row (unhide HTB))).trans (unhide HTB)
    have hb4 : Below w3.heap.size w3 (w3.alloc (.cells #[S q1, S q2] 30)) := (Below.refl _ _).alloc (Nat.le_refl _) _
    have hA0 : (w3.alloc (.cells #[S q1, S q2] 30)).cell? ⟨w3.heap.size, 0, none⟩ = some (S q1) := cell_new _ _ _ _ _ rfl
    have hA1 : (w3.alloc (.cells #[S q1, S q2] 30)).cell? ⟨w3.heap.size, 1, none⟩ = some (S q2) := cell_new _ _ _ _ _ rfl
    have HB4 := hide ((unhide HB3).trans (hb4.mono (unhide HB3).size))
    replace hP3 := (hb4.block _ (lt_of_row hP3)).trans hP3
    replace hR3 := (hb4.block _ (lt_of_row hR3)).trans hR3
    replace hZ3 := (hb4.block _ (lt_of_row hZ3)).trans hZ3
    replace hT3 := (hb4.block _ (lt_of_row hT3)).trans hT3
    have p0 : (w3.alloc (.cells #[S q1, S q2] 30)).cell? ⟨P, 0, none⟩ = some (S k) := cellr hP3 rfl
    have p1 : (w3.alloc (.cells #[S q1, S q2] 30)).cell? ⟨P, 1, none⟩ = some (S v) := cellr hP3 rfl
    have u0 : (w3.alloc (.cells #[S q1, S q2] 30)).cell? ⟨T, 0, none⟩ = some (S (sub_su k)) := cellr hT3 rfl
    have z0 : (w3.alloc (.cells #[S q1, S q2] 30)).cell? ⟨Z, 0, none⟩ = some (S []) := cellr hZ3 rfl
    have u1 : (w3.alloc (.cells #[S q1, S q2] 30)).cell? ⟨T, 1, none⟩ = some (I (sub_id k)) := cellr hT3 rfl
    have z1 : (w3.alloc (.cells #[S q1, S q2] 30)).cell? ⟨Z, 1, none⟩ = some (I 0) := cellr hZ3 rfl
    have HR4 := hide hR3
    clear HPr hw3 HB HPB HRB HZB HTB HB3 hP3 hR3 hZ3 hT3 hb4 t0 t1
    have hn30 := ne30 q1 q2 k v
    by_cases e0 : q3 = 0
    · subst e0
      by_cases e1 : q1 = k ∧ q2 = v
      · have HGF : Hid (GG = true) := hide (by rw [unhide HG]; simp [e1])
        have hb1 : (q1 == k && q2 == v) = true := by simp [e1]
        rw [hb1] at hn30
        clear e1 hb1
        go_wp2_with (refine wp_stT (ty := 120) (n := 2) (by kernel_rfl) rfl (.tmp 6) (.tmp 31) rfl R (by rfl) #[S (sub_su k), I (sub_id k)] rfl (by simp [Value.oneCell']) (by rfl) #[S [], I 0] rfl (unhide HR4) ?_)
        refine out2c (T := 120) (n := 2) (p := 6) (q := 7) (cs := #[S (sub_su k), I (sub_id k)]) (fun _ => by kernel_rfl) (fun _ => by kernel_rfl) (Z := R) (by rfl) (by rfl) (by rfl) (by rfl) (setRow_row (unhide HR4)) (by rfl) ?_
        refine ⟨(setRow_Only (w3.alloc (.cells #[S q1, S q2] 30)) R #[S (sub_su k), I (sub_id k)]).below (unhide HB4) (unhide HB4).size (fun q e => by omega), .inl ⟨unhide HGF, rfl⟩⟩
      · have HGF : Hid (GG = false) := hide (by rw [unhide HG]; simp; exact fun a b => e1 ⟨a, b⟩)
        have hb1 : (q1 == k && q2 == v) = false := by simp; exact fun a b => e1 ⟨a, b⟩
        rw [hb1] at hn30
        clear e1 hb1
        go_wp2_with (refine wp_stT (ty := 120) (n := 2) (by kernel_rfl) rfl (.tmp 6) (.tmp 30) rfl R (by rfl) #[S [], I 0] rfl (by simp [Value.oneCell']) (by rfl) #[S [], I 0] rfl (unhide HR4) ?_)
        refine out2c (T := 120) (n := 2) (p := 6) (q := 7) (cs := #[S [], I 0]) (fun _ => by kernel_rfl) (fun _ => by kernel_rfl) (Z := R) (by rfl) (by rfl) (by rfl) (by rfl) (setRow_row (unhide HR4)) (by rfl) ?_
        refine ⟨(setRow_Only (w3.alloc (.cells #[S q1, S q2] 30)) R #[S [], I 0]).below (unhide HB4) (unhide HB4).size (fun q e => by omega), .inr ⟨unhide HGF, rfl⟩⟩
    · have HGF : Hid (GG = false) := hide (by rw [unhide HG]; simp [e0])
      have e2 : ((q3 : Int) != 0) = true := by simp; exact e0
      go_wp2_with (refine wp_stT (ty := 120) (n := 2) (by kernel_rfl) rfl (.tmp 6) (.tmp 30) rfl R (by rfl) #[S [], I 0] rfl (by simp [Value.oneCell']) (by rfl) #[S [], I 0] rfl (unhide HR4) ?_)
      refine out2c (T := 120) (n := 2) (p := 6) (q := 7) (cs := #[S [], I 0]) (fun _ => by kernel_rfl) (fun _ => by kernel_rfl) (Z := R) (by rfl) (by rfl) (by rfl) (by rfl) (setRow_row (unhide HR4)) (by rfl) ?_
      refine ⟨(setRow_Only (w3.alloc (.cells #[S q1, S q2] 30)) R #[S [], I 0]).below (unhide HB4) (unhide HB4).size (fun q e => by omega), .inr ⟨unhide HGF, rfl⟩⟩
end Go.Proofs.YtpidmpefodnffaaGreatDoor
