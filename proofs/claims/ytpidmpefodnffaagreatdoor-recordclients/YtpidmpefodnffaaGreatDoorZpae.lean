import Derived.Test.YtpidmpefodnffaaGreatDoorPrf
import Derived.Test.YtpidmpefodnffaaGreatDoorZfde
import Derived.Test.YtpidmpefodnffaaGreatDoorLye
namespace Go.Proofs.YtpidmpefodnffaaGreatDoor
open Go.RowKit
set_option maxHeartbeats 4000000
set_option maxRecDepth 8000
def cliK0 (k : Bs) : Bs × Nat := (k, 0)
def cliK1 (k : Bs) : Bs × Nat := rr2 1 (cliK0 k)
def cli_na (k : Bs) : Bs := ra ((cliK1 k).1.length - 0) (cliK1 k)
def cliV0 (v : Bs) : Bs × Nat := (v, 0)
def cli_pu (v : Bs) : Bool := fbit (rv 1 (cliV0 v)) 0
def cli_of9 (v : Bs) : Bool := fbit (rv 1 (cliV0 v)) 1
def cliV1 (v : Bs) : Bs × Nat := rs 1 (cliV0 v)
def cli_ha (v : Bs) : Bs := tv 32 (cliV1 v)
def cliV2 (v : Bs) : Bs × Nat := ts 32 (cliV1 v)
def cli_ol (v : Bs) : Bs := tv 32 (cliV2 v)
def cliV3 (v : Bs) : Bs × Nat := ts 32 (cliV2 v)
def cli_un (v : Bs) : Int := rv 6 (cliV3 v)
def cliV4 (v : Bs) : Bs × Nat := rs 6 (cliV3 v)
def cli_sc (v : Bs) : List Bs := (parse (tv 60 (cliV4 v))).1
def cliV5 (v : Bs) : Bs × Nat := ts 60 (cliV4 v)
def cli_idl (v : Bs) : Int := rv 6 (cliV5 v)
def cliV6 (v : Bs) : Bs × Nat := rs 6 (cliV5 v)
def cli_ab (v : Bs) : Int := rv 6 (cliV6 v)
def cliV7 (v : Bs) : Bs × Nat := rs 6 (cliV6 v)
def cli_gr (v : Bs) : Int := rv 6 (cliV7 v)
def cliV8 (v : Bs) : Bs × Nat := rs 6 (cliV7 v)
def cli_li (v : Bs) : Int := rv 6 (cliV8 v)
def clistk : Nat → Bs × Nat → List Ct → (Bs × Nat) × List Ct := fun i => match i with
  | 0 => fun s cs => (rr2 1 s, cs)
  | 1 => fun s cs => (rr2 (s.1.length - 0) s, cs.set 0 (.s (ra (s.1.length - 0) s)))
  | _ => fun s cs => (s, cs)
def clistv : Nat → Bs × Nat → List Ct → (Bs × Nat) × List Ct := fun i => match i with
  | 0 => fun s cs => (rs 1 s, setb (rv 1 s) 0 [1, 2] cs)
  | 1 => fun s cs => (ts 32 s, cs.set 3 (.s (tv 32 s)))
  | 2 => fun s cs => (ts 32 s, cs.set 4 (.s (tv 32 s)))
  | 3 => fun s cs => (rs 6 s, cs.set 5 (.n (rv 6 s)))
  | 4 => fun s cs => (ts 60 s, cs.set 6 (.l (parse (tv 60 s)).1))
  | 5 => fun s cs => (rs 6 s, cs.set 7 (.n (rv 6 s)))
  | 6 => fun s cs => (rs 6 s, cs.set 8 (.n (rv 6 s)))
  | 7 => fun s cs => (rs 6 s, cs.set 9 (.n (rv 6 s)))
  | 8 => fun s cs => (rs 6 s, cs.set 10 (.n (rv 6 s)))
  | _ => fun s cs => (s, cs)
def cliRd (k v : Bs) : List Ct := [.s (cli_na k), .b (cli_pu v), .b (cli_of9 v), .s (cli_ha v), .s (cli_ol v), .n (cli_un v), .l (cli_sc v), .n (cli_idl v), .n (cli_ab v), .n (cli_gr v), .n (cli_li v)]
theorem cliRd_eq (k v : Bs) : (runF clistv 9 (v, 0) (runF clistk 2 (k, 0) [.s [], .b false, .b false, .s [], .s [], .n 0, .z, .n 0, .n 0, .n 0, .n 0]).2).2 = cliRd k v := by kernel_rfl
theorem cliRd_nl (k : Bs) : (runF clistk 2 (k, 0) [.s [], .b false, .b false, .s [], .s [], .n 0, .z, .n 0, .n 0, .n 0, .n 0]).2.all Ct.nl = true := by kernel_rfl
def cliG (k v : Bs) : Bool := cliP (cli_na k) (cli_pu v) (cli_of9 v) (cli_ha v) (cli_ol v) (cli_un v) (cli_sc v) (cli_idl v) (cli_ab v) (cli_gr v) (cli_li v) == ((k, v), 0)
def vrpa67 (_T _P : Nat) (k v : Bs) (c : (Nat → Nat)) (i : Nat) : Value := match i with
  | 0 => (FN 60)
  | 1 => (.agg #[(.slice (some ⟨c 0, 0, none⟩) 2 2), (.slice (some ⟨c 1, 0, none⟩) 9 9)])
  | 2 => (.agg #[S k, S v])
  | 3 => (.tuple #[])
  | _ => undef
def rpa67T : List (Op × Option Tmp × Option (Nat × Bool)) := [
  (.move (.tmp 2), some 12, none),
  (.call { callee := .value (.tmp 12), args := #[(.tmp 8)], argTypes := #[170] }, some 13, none),
  (.load 30 (.tmp 3), some 14, none),
  (.call { callee := .value (.func 140), args := #[(.tmp 13), (.tmp 14)], argTypes := #[111, 30] }, some 15, none)]
def rpa67D : List (Nat × Nat) := [(1, 0), (3, 1), (3, 2)]
set_option maxHeartbeats 4000000 in
theorem rpa67 {ops : Array Oper} {id : Nat} {Q : Exit → Act → World → Prop} (T P : Nat) (k v : Bs) (htab : ops.toList.map (fun o => (o.op, o.dst, o.guard)) = rpa67T) (hdep : deplB rpa67D ops = true) (hac : acB ops = true)
    (a0 : Act) (w : World) (hsz : 16 ≤ a0.tmps.size) (o2 : a0.tmps[2]? = some (FN 60)) (o3 : a0.tmps[3]? = some (ptr P)) (o8 : a0.tmps[8]? = some (ptr T))
    (Wd : (Nat → Nat) → (Nat → Bool) → World → Prop) (h0 : ∃ c, Wd c (fun _ => false) w.drew) (hpure : ∀ i, i ∉ ([1, 3] : List Nat) → ∀ c L W, Wd c L W → Wd c (upd L i) W)
    (r1 : ∀ c L W, Wd c L W → L 1 = false → L 0 = true → Calls Tryz.prog 60 #[(ptr T)] W fun eg w' => ∃ c', (∀ j, L j = true → vrpa67 T P k v c' j = vrpa67 T P k v c j) ∧ eg = .returned (vrpa67 T P k v c' 1) ∧ Wd c' (upd L 1) w')
    (r2 : ∀ c L W, Wd c L W → L 2 = false → (Instr.loadAt 30 (ptr P)).run Tryz.prog W = .ok (.agg #[S k, S v]) W)
    (r3 : ∀ c L W, Wd c L W → L 3 = false → L 1 = true → L 2 = true → Calls Tryz.prog 140 #[(.agg #[(.slice (some ⟨c 0, 0, none⟩) 2 2), (.slice (some ⟨c 1, 0, none⟩) 9 9)]), (.agg #[S k, S v])] W fun eg w' => ∃ c', (∀ j, L j = true → vrpa67 T P k v c' j = vrpa67 T P k v c j) ∧ eg = .returned (vrpa67 T P k v c' 3) ∧ Wd c' (upd L 3) w')
    (hend : ∀ c L W, (∀ i, i < 4 → L i = true) → Wd c L W → Q .normal ((((a0.put (some 12) (FN 60)).put (some 13) (.agg #[(.slice (some ⟨c 0, 0, none⟩) 2 2), (.slice (some ⟨c 1, 0, none⟩) 9 9)])).put (some 14) (.agg #[S k, S v])).put (some 15) (.tuple #[])) W) : (Code.region id ops true).wp Tryz.prog Q a0 w := by
  let val : (Nat → Nat) → Nat → Value := vrpa67 T P k v
  have hosz : ops.size = 4 := by
    have := congrArg List.length htab
    simpa [rpa67T] using this
  have hds : ∀ i s, (rpa67T[i]?).bind (·.2.1) = some s → dstOf ops i = some s := fun i s hi => by rw [tab_dst htab, hi]
  have hdisB : disL rpa67T = true := by rfl
  have hdis := disL_of htab hdisB
  have hold : ∀ s, rpa67T.all (fun x => !(x.2.1 == some s)) = true → (List.range ops.size).all (fun j => !(dstOf ops j == some s)) = true := fun s h => holdL htab s h
  refine region_detX val Wd (hac_of hac) hdis h0 ?_ ?_
  rotate_left
  · intro c L W hall hW
    have := hend c L W (by rw [← hosz]; exact hall) hW
    have e : frm ops a0 (val c) (fun _ => true) ops.size = ((((a0.put (some 12) (FN 60)).put (some 13) (.agg #[(.slice (some ⟨c 0, 0, none⟩) 2 2), (.slice (some ⟨c 1, 0, none⟩) 9 9)])).put (some 14) (.agg #[S k, S v])).put (some 15) (.tuple #[])) := by
      rw [hosz]
      simp only [frm, if_true]
      rw [tab_dst htab 0, tab_dst htab 1, tab_dst htab 2, tab_dst htab 3]
      rfl
    rw [e]
    exact this
  intro i o ho c L a w' hL hd ha hW
  have hi : i < 4 := by rw [← hosz]; exact (Array.getElem?_eq_some_iff.1 ho).1
  have G : ∀ j s : Nat, (rpa67T[j]?).bind (·.2.1) = some s → s < 16 → (i, j) ∈ rpa67D → a.tmps[s]? = some (val c j) := fun j s h1 h2 h3 => frm_at hdis ha j s (hds j s h1) (by omega) (depl_of hdep i j h3 ho hd)
  match i, ho, hL, hi, G with
  | 0, ho, hL, _, G =>
    obtain ⟨hop, hgd⟩ := tab3 htab ho rfl
    have h0 := frm_old ha 2 _ (hold 2 rfl) o2
    exact (dXr ho hgd (hpure 0 (by decide) c L w' hW) (g_mov hop (eval_of h0)))
  | 1, ho, hL, _, G =>
    obtain ⟨hop, hgd⟩ := tab3 htab ho rfl
    have h0 := frm_old ha 8 _ (hold 8 rfl) o8
    have hf := G 0 12 rfl (by decide) (by decide)
    refine doesX_call ho (wanted_none hgd) 60 #[(ptr T)] ?_ (r1 c L w' hW hL (depl_of hdep 1 0 (by decide) ho hd))
    rw [run_callv Tryz.func60 (by kernel_rfl) rfl _ _ _ _ _ hop (eval_of hf)]
    simp only [List.map_toArray, List.map_cons, List.map_nil, eval_of h0]
    all_goals rfl
  | 2, ho, hL, _, G =>
    obtain ⟨hop, hgd⟩ := tab3 htab ho rfl
    have h0 := frm_old ha 3 _ (hold 3 rfl) o3
    exact (dXr ho hgd (hpure 2 (by decide) c L w' hW) (g_load hop (eval_of h0) (r2 c L w' hW hL)))
  | 3, ho, hL, _, G =>
    obtain ⟨hop, hgd⟩ := tab3 htab ho rfl
    have h0 := G 1 13 rfl (by decide) (by decide)
    have h1 := G 2 14 rfl (by decide) (by decide)
    refine doesX_call ho (wanted_none hgd) 140 #[(.agg #[(.slice (some ⟨c 0, 0, none⟩) 2 2), (.slice (some ⟨c 1, 0, none⟩) 9 9)]), (.agg #[S k, S v])] ?_ (r3 c L w' hW hL (depl_of hdep 3 1 (by decide) ho hd) (depl_of hdep 3 2 (by decide) ho hd))
    rw [run_calls Tryz.func140 (by kernel_rfl) rfl _ _ _ _ hop rfl]
    simp only [List.map_toArray, List.map_cons, List.map_nil, eval_of h0, eval_of h1]
    all_goals rfl
  | (i + 4), ho, hL, hi, _ => exact absurd hi (by omega)
def lyf67 (B0 T : Nat) (c : Nat → Nat) (W : World) : Prop := ∃ a, B0 ≤ a ∧ T < a ∧ a < W.heap.size ∧ W.heap[a + 1]? = some (.cells #[S [99]] 9 (0, 0)) ∧ (a + 2 ≤ c 0 ∧ W.heap[c 0]? = some (.cells #[(vW ⟨a + 1, 0, none⟩ 1), (vR ⟨T, 0, none⟩ 0)] 213 (0, 0))) ∧ (a + 2 ≤ c 2 ∧ W.heap[c 2]? = some (.cells #[(.pointer (some ⟨T, 1, none⟩)), (.pointer (some ⟨T, 2, none⟩))] 184 (0, 0))) ∧ (a + 2 ≤ c 1 ∧ W.heap[c 1]? = some (.cells #[(.iface 190 (.agg #[(.slice (some ⟨c 2, 0, none⟩) 2 2), (I 1), (FN 135), (FN 136)])), (vT ⟨T, 3, none⟩ 32), (vT ⟨T, 4, none⟩ 32), (vI ⟨T, 5, none⟩ 6), (vN ⟨T, 6, none⟩ 60), (vI ⟨T, 7, none⟩ 6), (vI ⟨T, 8, none⟩ 6), (vI ⟨T, 9, none⟩ 6), (vI ⟨T, 10, none⟩ 6)] 213 (0, 0)))
theorem tk67 (B0 T : Nat) (c : Nat → Nat) (W : World) (k v : Bs) (hk : k.length ≤ 9223372036854775807) (hv : v.length ≤ 9223372036854775807) (h : lyf67 B0 T c W) (hT : W.heap[T]? = some (.cells #[S [], .bool false, .bool false, S [], S [], I 0, .slice none 0 0, I 0, I 0, I 0, I 0] 24 (0, 0))) :
    Calls Tryz.prog 140 #[.agg #[(.slice (some ⟨c 0, 0, none⟩) 2 2), (.slice (some ⟨c 1, 0, none⟩) 9 9)], .agg #[S k, S v]] W fun e w' => e = .returned (.tuple #[]) ∧ Rec W.heap.size T 24 (cliRd k v) w' ∧ Only (fun q => q = T ∨ B0 < q) W w' := by
  obtain ⟨a, ha, hTa, haw, hL1, ⟨hk0, hc0⟩, ⟨hk2, hc2⟩, ⟨hk1, hc1⟩⟩ := h
  have hls : ∀ l, l ∈ [a + 1] → l ≠ T ∧ ∃ y, W.heap[l]? = some (.cells #[S y] 9 (0, 0)) := by
    intro l hl
    simp only [List.mem_cons, List.not_mem_nil, or_false] at hl
    subst hl
    exact ⟨by omega, _, hL1⟩
  have hfx : ∀ q, q ∈ ([(c 0, .cells #[(vW ⟨a + 1, 0, none⟩ 1), (vR ⟨T, 0, none⟩ 0)] 213 (0, 0)), (c 2, .cells #[(.pointer (some ⟨T, 1, none⟩)), (.pointer (some ⟨T, 2, none⟩))] 184 (0, 0)), (c 1, .cells #[(.iface 190 (.agg #[(.slice (some ⟨c 2, 0, none⟩) 2 2), (I 1), (FN 135), (FN 136)])), (vT ⟨T, 3, none⟩ 32), (vT ⟨T, 4, none⟩ 32), (vI ⟨T, 5, none⟩ 6), (vN ⟨T, 6, none⟩ 60), (vI ⟨T, 7, none⟩ 6), (vI ⟨T, 8, none⟩ 6), (vI ⟨T, 9, none⟩ 6), (vI ⟨T, 10, none⟩ 6)] 213 (0, 0))] : List (Nat × Obj)) → W.heap[q.1]? = some q.2 ∧ q.1 ≠ T ∧ ¬ q.1 ∈ [a + 1] := by
    intro q hq
    simp only [List.mem_cons, List.not_mem_nil, or_false] at hq
    rcases hq with rfl | rfl | rfl
    · exact ⟨hc0, by show c 0 ≠ T; omega, by simp; omega⟩
    · exact ⟨hc2, by show c 2 ≠ T; omega, by simp; omega⟩
    · exact ⟨hc1, by show c 1 ≠ T; omega, by simp; omega⟩
  have r1 : Rw W (some ⟨c 0, 0, none⟩) 2 (fun i => (#[(vW ⟨a + 1, 0, none⟩ 1), (vR ⟨T, 0, none⟩ 0)] : Array Value).getD i undef) clistk T 24 [a + 1] [(c 0, .cells #[(vW ⟨a + 1, 0, none⟩ 1), (vR ⟨T, 0, none⟩ 0)] 213 (0, 0)), (c 2, .cells #[(.pointer (some ⟨T, 1, none⟩)), (.pointer (some ⟨T, 2, none⟩))] 184 (0, 0)), (c 1, .cells #[(.iface 190 (.agg #[(.slice (some ⟨c 2, 0, none⟩) 2 2), (I 1), (FN 135), (FN 136)])), (vT ⟨T, 3, none⟩ 32), (vT ⟨T, 4, none⟩ 32), (vI ⟨T, 5, none⟩ 6), (vN ⟨T, 6, none⟩ 60), (vI ⟨T, 7, none⟩ 6), (vI ⟨T, 8, none⟩ 6), (vI ⟨T, 9, none⟩ 6), (vI ⟨T, 10, none⟩ 6)] 213 (0, 0))] 11 := ⟨by decide, fun _ => ⟨c 0, #[(vW ⟨a + 1, 0, none⟩ 1), (vR ⟨T, 0, none⟩ 0)], rfl, (List.Mem.head _), fun i hi => by match i, hi with | 0, _ => rfl | 1, _ => rfl | (q + 2), h => exact absurd h (by omega)⟩, fun i hi => by
      match i, hi with
      | 0, _ => exact Tf.let T 24 _ _ 11 (a + 1) (by simp) 1
      | 1, _ => exact Tf.re T 24 _ _ 11 0 (by decide) 0 (by decide)
      | (q + 2), h => exact absurd h (by omega), hls, hfx⟩
  have r2 : Rw W (some ⟨c 1, 0, none⟩) 9 (fun i => (#[(.iface 190 (.agg #[(.slice (some ⟨c 2, 0, none⟩) 2 2), (I 1), (FN 135), (FN 136)])), (vT ⟨T, 3, none⟩ 32), (vT ⟨T, 4, none⟩ 32), (vI ⟨T, 5, none⟩ 6), (vN ⟨T, 6, none⟩ 60), (vI ⟨T, 7, none⟩ 6), (vI ⟨T, 8, none⟩ 6), (vI ⟨T, 9, none⟩ 6), (vI ⟨T, 10, none⟩ 6)] : Array Value).getD i undef) clistv T 24 [a + 1] [(c 0, .cells #[(vW ⟨a + 1, 0, none⟩ 1), (vR ⟨T, 0, none⟩ 0)] 213 (0, 0)), (c 2, .cells #[(.pointer (some ⟨T, 1, none⟩)), (.pointer (some ⟨T, 2, none⟩))] 184 (0, 0)), (c 1, .cells #[(.iface 190 (.agg #[(.slice (some ⟨c 2, 0, none⟩) 2 2), (I 1), (FN 135), (FN 136)])), (vT ⟨T, 3, none⟩ 32), (vT ⟨T, 4, none⟩ 32), (vI ⟨T, 5, none⟩ 6), (vN ⟨T, 6, none⟩ 60), (vI ⟨T, 7, none⟩ 6), (vI ⟨T, 8, none⟩ 6), (vI ⟨T, 9, none⟩ 6), (vI ⟨T, 10, none⟩ 6)] 213 (0, 0))] 11 := ⟨by decide, fun _ => ⟨c 1, #[(.iface 190 (.agg #[(.slice (some ⟨c 2, 0, none⟩) 2 2), (I 1), (FN 135), (FN 136)])), (vT ⟨T, 3, none⟩ 32), (vT ⟨T, 4, none⟩ 32), (vI ⟨T, 5, none⟩ 6), (vN ⟨T, 6, none⟩ 60), (vI ⟨T, 7, none⟩ 6), (vI ⟨T, 8, none⟩ 6), (vI ⟨T, 9, none⟩ 6), (vI ⟨T, 10, none⟩ 6)], rfl, (List.Mem.tail _ (List.Mem.tail _ (List.Mem.head _))), fun i hi => by match i, hi with | 0, _ => rfl | 1, _ => rfl | 2, _ => rfl | 3, _ => rfl | 4, _ => rfl | 5, _ => rfl | 6, _ => rfl | 7, _ => rfl | 8, _ => rfl | (q + 9), h => exact absurd h (by omega)⟩, fun i hi => by
      match i, hi with
      | 0, _ => exact Tf.fl T 24 _ _ 11 (c 2) [1, 2] (by decide) (by intro j hj; simp at hj; omega) (List.Mem.tail _ (List.Mem.head _))
      | 1, _ => exact Tf.tx T 24 _ _ 11 3 (by decide) 32
      | 2, _ => exact Tf.tx T 24 _ _ 11 4 (by decide) 32
      | 3, _ => exact Tf.nu T 24 _ _ 11 5 (by decide) 6
      | 4, _ => exact Tf.na T 24 _ _ 11 6 (by decide) 60 (by decide)
      | 5, _ => exact Tf.nu T 24 _ _ 11 7 (by decide) 6
      | 6, _ => exact Tf.nu T 24 _ _ 11 8 (by decide) 6
      | 7, _ => exact Tf.nu T 24 _ _ 11 9 (by decide) 6
      | 8, _ => exact Tf.nu T 24 _ _ 11 10 (by decide) 6
      | (q + 9), h => exact absurd h (by omega), hls, hfx⟩
  have hrc : Rec 0 T 24 [.s [], .b false, .b false, .s [], .s [], .n 0, .z, .n 0, .n 0, .n 0, .n 0] W := ⟨#[S [], .bool false, .bool false, S [], S [], I 0, .slice none 0 0, I 0, I 0, I 0, I 0].toList, hT, rfl, fun j q y h1 h2 => by
    match j, h1, h2 with
    | 0, h1, h2 => cases h1; cases h2; rfl
    | 1, h1, h2 => cases h1; cases h2; rfl
    | 2, h1, h2 => cases h1; cases h2; rfl
    | 3, h1, h2 => cases h1; cases h2; rfl
    | 4, h1, h2 => cases h1; cases h2; rfl
    | 5, h1, h2 => cases h1; cases h2; rfl
    | 6, h1, h2 => cases h1; cases h2; rfl
    | 7, h1, h2 => cases h1; cases h2; rfl
    | 8, h1, h2 => cases h1; cases h2; rfl
    | 9, h1, h2 => cases h1; cases h2; rfl
    | 10, h1, h2 => cases h1; cases h2; rfl
    | (j + 11), h1, h2 => cases h1⟩
  refine (ltake_any (some ⟨c 0, 0, none⟩) (some ⟨c 1, 0, none⟩) 2 9 _ _ clistk clistv T 24 _ _ 11 k v [.s [], .b false, .b false, .s [], .s [], .n 0, .z, .n 0, .n 0, .n 0, .n 0] W rfl hk hv r1 r2 hrc rfl (cliRd_nl k)).mono ?_
  rintro e w' ⟨rfl, q1, q2⟩
  refine ⟨rfl, by rw [← cliRd_eq]; exact q1, q2.mono (fun q _ e => ?_)⟩
  rcases e with e | e
  · exact .inl e
  · simp only [List.mem_cons, List.not_mem_nil, or_false] at e
    exact .inr (by omega)
theorem rc67 {B T : Nat} {k v : Bs} {W : World} (h : Rec B T 24 (cliRd k v) W) : ∃ va vc, W.heap[T]? = some (.cells #[S (cli_na k), .bool (cli_pu v), .bool (cli_of9 v), S (cli_ha v), S (cli_ol v), I (cli_un v), .slice va (cli_sc v).length vc, I (cli_idl v), I (cli_ab v), I (cli_gr v), I (cli_li v)] 24 (0, 0)) ∧ OwnS B W (.slice va (cli_sc v).length vc) (cli_sc v) := by
  obtain ⟨vs, g1, g2, g3⟩ := h
  match vs, g1, g2, g3 with
  | [v0, v1, v2, v3, v4, v5, v6, v7, v8, v9, v10], g1, _, g3 =>
    have q0 : CtAt B W (.s (cli_na k)) v0 := g3 0 _ _ rfl rfl
    cases q0
    have q1 : CtAt B W (.b (cli_pu v)) v1 := g3 1 _ _ rfl rfl
    cases q1
    have q2 : CtAt B W (.b (cli_of9 v)) v2 := g3 2 _ _ rfl rfl
    cases q2
    have q3 : CtAt B W (.s (cli_ha v)) v3 := g3 3 _ _ rfl rfl
    cases q3
    have q4 : CtAt B W (.s (cli_ol v)) v4 := g3 4 _ _ rfl rfl
    cases q4
    have q5 : CtAt B W (.n (cli_un v)) v5 := g3 5 _ _ rfl rfl
    cases q5
    have q6 : CtAt B W (.l (cli_sc v)) v6 := g3 6 _ _ rfl rfl
    obtain ⟨va, vc, e⟩ := OwnS.form q6
    subst e
    have q6' := q6
    have q7 : CtAt B W (.n (cli_idl v)) v7 := g3 7 _ _ rfl rfl
    cases q7
    have q8 : CtAt B W (.n (cli_ab v)) v8 := g3 8 _ _ rfl rfl
    cases q8
    have q9 : CtAt B W (.n (cli_gr v)) v9 := g3 9 _ _ rfl rfl
    cases q9
    have q10 : CtAt B W (.n (cli_li v)) v10 := g3 10 _ _ rfl rfl
    cases q10
    exact ⟨va, vc, g1, q6'⟩
theorem pa67 (k v : Bs) (w : World) (hk : k.length ≤ 9223372036854775807) (hv : v.length ≤ 9223372036854775807) : Calls Tryz.prog 67 #[.agg #[S k, S v], FN 59, FN 60] w fun e w' => Below w.heap.size w w' ∧ ((cliG k v = true ∧ ∃ va vc, e = .returned (.tuple #[.agg #[S (cli_na k), .bool (cli_pu v), .bool (cli_of9 v), S (cli_ha v), S (cli_ol v), I (cli_un v), .slice va (cli_sc v).length vc, I (cli_idl v), I (cli_ab v), I (cli_gr v), I (cli_li v)], I 0]) ∧ OwnS w.heap.size w' (.slice va (cli_sc v).length vc) (cli_sc v)) ∨ (cliG k v = false ∧ e = .returned (.tuple #[.agg #[S [], .bool false, .bool false, S [], S [], I 0, .slice none 0 0, I 0, I 0, I 0, I 0], I 141]))) := by
  have hb0 : Below w.heap.size w ((((w.alloc (.cells #[S k, S v] 30)).alloc (.cells #[S [], .bool false, .bool false, S [], S [], I 0, .slice none 0 0, I 0, I 0, I 0, I 0] 24)).alloc (.cells #[S [], .bool false, .bool false, S [], S [], I 0, .slice none 0 0, I 0, I 0, I 0, I 0] 24)).alloc (.cells #[S [], .bool false, .bool false, S [], S [], I 0, .slice none 0 0, I 0, I 0, I 0, I 0] 24)) := ((((Below.refl _ w).alloc (Nat.le_refl _) _).alloc (by simp) _).alloc (by first | (simp; done) | (simp; omega)) _).alloc (by first | (simp; done) | (simp; omega)) _
  have hP : ((((w.alloc (.cells #[S k, S v] 30)).alloc (.cells #[S [], .bool false, .bool false, S [], S [], I 0, .slice none 0 0, I 0, I 0, I 0, I 0] 24)).alloc (.cells #[S [], .bool false, .bool false, S [], S [], I 0, .slice none 0 0, I 0, I 0, I 0, I 0] 24)).alloc (.cells #[S [], .bool false, .bool false, S [], S [], I 0, .slice none 0 0, I 0, I 0, I 0, I 0] 24)).heap[w.heap.size]? = some (.cells #[S k, S v] 30 (0, 0)) := by
    rw [heap_alloc_old _ _ (by first | (simp; done) | (simp; omega))]; rw [heap_alloc_old _ _ (by first | (simp; done) | (simp; omega))]; rw [heap_alloc_old _ _ (by first | (simp; done) | (simp; omega))]; 
    have e := heap_alloc_new w (.cells #[S k, S v] 30)
    simpa using e
  have hR : ((((w.alloc (.cells #[S k, S v] 30)).alloc (.cells #[S [], .bool false, .bool false, S [], S [], I 0, .slice none 0 0, I 0, I 0, I 0, I 0] 24)).alloc (.cells #[S [], .bool false, .bool false, S [], S [], I 0, .slice none 0 0, I 0, I 0, I 0, I 0] 24)).alloc (.cells #[S [], .bool false, .bool false, S [], S [], I 0, .slice none 0 0, I 0, I 0, I 0, I 0] 24)).heap[w.heap.size + 1]? = some (.cells #[S [], .bool false, .bool false, S [], S [], I 0, .slice none 0 0, I 0, I 0, I 0, I 0] 24 (0, 0)) := by
    rw [heap_alloc_old _ _ (by first | (simp; done) | (simp; omega))]; rw [heap_alloc_old _ _ (by first | (simp; done) | (simp; omega))]; 
    have e := heap_alloc_new (w.alloc (.cells #[S k, S v] 30)) (.cells #[S [], .bool false, .bool false, S [], S [], I 0, .slice none 0 0, I 0, I 0, I 0, I 0] 24)
    simpa using e
  have hT : ((((w.alloc (.cells #[S k, S v] 30)).alloc (.cells #[S [], .bool false, .bool false, S [], S [], I 0, .slice none 0 0, I 0, I 0, I 0, I 0] 24)).alloc (.cells #[S [], .bool false, .bool false, S [], S [], I 0, .slice none 0 0, I 0, I 0, I 0, I 0] 24)).alloc (.cells #[S [], .bool false, .bool false, S [], S [], I 0, .slice none 0 0, I 0, I 0, I 0, I 0] 24)).heap[w.heap.size + 1 + 1]? = some (.cells #[S [], .bool false, .bool false, S [], S [], I 0, .slice none 0 0, I 0, I 0, I 0, I 0] 24 (0, 0)) := by
    rw [heap_alloc_old _ _ (by first | (simp; done) | (simp; omega))]; 
    have e := heap_alloc_new ((w.alloc (.cells #[S k, S v] 30)).alloc (.cells #[S [], .bool false, .bool false, S [], S [], I 0, .slice none 0 0, I 0, I 0, I 0, I 0] 24)) (.cells #[S [], .bool false, .bool false, S [], S [], I 0, .slice none 0 0, I 0, I 0, I 0, I 0] 24)
    simpa using e
  have hZ : ((((w.alloc (.cells #[S k, S v] 30)).alloc (.cells #[S [], .bool false, .bool false, S [], S [], I 0, .slice none 0 0, I 0, I 0, I 0, I 0] 24)).alloc (.cells #[S [], .bool false, .bool false, S [], S [], I 0, .slice none 0 0, I 0, I 0, I 0, I 0] 24)).alloc (.cells #[S [], .bool false, .bool false, S [], S [], I 0, .slice none 0 0, I 0, I 0, I 0, I 0] 24)).heap[w.heap.size + 1 + 1 + 1]? = some (.cells #[S [], .bool false, .bool false, S [], S [], I 0, .slice none 0 0, I 0, I 0, I 0, I 0] 24 (0, 0)) := by
    
    have e := heap_alloc_new (((w.alloc (.cells #[S k, S v] 30)).alloc (.cells #[S [], .bool false, .bool false, S [], S [], I 0, .slice none 0 0, I 0, I 0, I 0, I 0] 24)).alloc (.cells #[S [], .bool false, .bool false, S [], S [], I 0, .slice none 0 0, I 0, I 0, I 0, I 0] 24)) (.cells #[S [], .bool false, .bool false, S [], S [], I 0, .slice none 0 0, I 0, I 0, I 0, I 0] 24)
    simpa using e
  have hsz : ((((w.alloc (.cells #[S k, S v] 30)).alloc (.cells #[S [], .bool false, .bool false, S [], S [], I 0, .slice none 0 0, I 0, I 0, I 0, I 0] 24)).alloc (.cells #[S [], .bool false, .bool false, S [], S [], I 0, .slice none 0 0, I 0, I 0, I 0, I 0] 24)).alloc (.cells #[S [], .bool false, .bool false, S [], S [], I 0, .slice none 0 0, I 0, I 0, I 0, I 0] 24)).heap.size = w.heap.size + 1 + 1 + 1 + 1 := by simp
  have h_na : (cli_na k).length ≤ 9223372036854775807 := Nat.le_trans (Nat.le_trans (ra_len _ _) (show (cliK1 k).1.length ≤ (cliK0 k).1.length from rr2_len _ _)) (show (cliK0 k).1.length ≤ 9223372036854775807 from hk)
  have hrgt : right (cli_sc v) = true := parse_ok _
  have hsl : (cli_sc v).length ≤ 140737488355000 := by have := (right_small hrgt).1; omega
  have hln : Lns (cli_sc v) := lns_right hrgt
  have HG : Hid (cliG k v = (cliP (cli_na k) (cli_pu v) (cli_of9 v) (cli_ha v) (cli_ol v) (cli_un v) (cli_sc v) (cli_idl v) (cli_ab v) (cli_gr v) (cli_li v) == ((k, v), 0))) := hide rfl
  generalize cliG k v = GG at *
  go_enter Tryz.func67, Tryz.ntmps67
  go_wp2_with fail
  generalize (((w.alloc (.cells #[S k, S v] 30)).alloc (.cells #[S [], .bool false, .bool false, S [], S [], I 0, .slice none 0 0, I 0, I 0, I 0, I 0] 24)).alloc (.cells #[S [], .bool false, .bool false, S [], S [], I 0, .slice none 0 0, I 0, I 0, I 0, I 0] 24)).alloc (.cells #[S [], .bool false, .bool false, S [], S [], I 0, .slice none 0 0, I 0, I 0, I 0, I 0] 24) = W1 at *
  generalize hZe : w.heap.size + 1 + 1 + 1 = Z at *
  generalize hTe : w.heap.size + 1 + 1 = T at *
  generalize hRe : w.heap.size + 1 = R at *
  generalize hPe : w.heap.size = P at *
  refine rpa67 T P k v rfl (by rfl) (by rfl) _ W1 (by simp) rfl rfl rfl (Paq w T P R Z 24 #[S [], .bool false, .bool false, S [], S [], I 0, .slice none 0 0, I 0, I 0, I 0, I 0] k v (lyf67 W1.heap.size T) (fun W => Rec W1.heap.size T 24 (cliRd k v) W))
    ⟨fun _ => 0, ⟨by rw [hPe]; exact hb0.drew, hP, hR, hZ, (fun e => by cases e), fun _ => hT, (fun e => by cases e), (fun e => by cases e)⟩⟩
    (fun i hi c L W hW => hW.pure i (fun e => hi (by simp [e])) (fun e => hi (by simp [e])))
    (fun c L W hW hL _ => ?r1)
    (fun c L W hW _ => s_ldr (T := 30) (n := 2) (fun _ => by kernel_rfl) (fun _ => by kernel_rfl) (o := 0) hW.pb [S k, S v] rfl rfl)
    (fun c L W hW hL h1 _ => ?r3) ?hend
  case r1 =>
    have f3 : L 3 = false := no_of hW.dep hL
    have hTl := lt_of_row (hW.t0 f3)
    have hZl := lt_of_row hW.zb
    refine (lay60 T W).mono ?_
    rintro e w' ⟨c', rfl, hb, hL1, hs0, hs2, hs1⟩
    refine ⟨c', fun j hj => ?_, rfl, hW.lay hL hb ⟨W.heap.size, by omega, hTl, by have := lt_of_row hL1; omega, hL1, hs0, hs2, hs1⟩⟩
    match j, hj with
    | 0, _ => rfl
    | 1, hj => rw [hL] at hj; cases hj
    | 2, _ => rfl
    | 3, _ => rfl
    | (q + 4), _ => rfl
  case r3 =>
    refine (tk67 W1.heap.size T c W k v hk hv (hW.ly h1 hL) (hW.t0 hL)).mono ?_
    rintro e w' ⟨rfl, q1, q2⟩
    exact ⟨c, fun _ _ => rfl, rfl, hW.take h1 q2 (by omega) (by omega) (by omega) (by omega) (by omega) (q1.weaken (by have := lt_of_row hW.zb; omega))⟩
  case hend =>
    intro c L W hall hW
    have hrec := hW.fn (hall 3 (by decide))
    obtain ⟨va, vc, hTW, hown⟩ := rc67 hrec
    have HB := hide hW.bel
    have HPB := hide hW.pb
    have HRB := hide hW.rb
    have HZB := hide hW.zb
    have HTB := hide hTW
    have hsc := OwnS.sts hown
    have HOW := hide hown
    have HPr := hide (pr58 (cli_na k) (cli_pu v) (cli_of9 v) (cli_ha v) (cli_ol v) (cli_un v) va vc (cli_sc v) (cli_idl v) (cli_ab v) (cli_gr v) (cli_li v) W h_na hsc hsl hln)
    have t0 : W.cell? ⟨T, 0, none⟩ = some (S (cli_na k)) := cellr hTW rfl
    have t1 : W.cell? ⟨T, 1, none⟩ = some (.bool (cli_pu v)) := cellr hTW rfl
    have t2 : W.cell? ⟨T, 2, none⟩ = some (.bool (cli_of9 v)) := cellr hTW rfl
    have t3 : W.cell? ⟨T, 3, none⟩ = some (S (cli_ha v)) := cellr hTW rfl
    have t4 : W.cell? ⟨T, 4, none⟩ = some (S (cli_ol v)) := cellr hTW rfl
    have t5 : W.cell? ⟨T, 5, none⟩ = some (I (cli_un v)) := cellr hTW rfl
    have t6 : W.cell? ⟨T, 6, none⟩ = some (.slice va (cli_sc v).length vc) := cellr hTW rfl
    have t7 : W.cell? ⟨T, 7, none⟩ = some (I (cli_idl v)) := cellr hTW rfl
    have t8 : W.cell? ⟨T, 8, none⟩ = some (I (cli_ab v)) := cellr hTW rfl
    have t9 : W.cell? ⟨T, 9, none⟩ = some (I (cli_gr v)) := cellr hTW rfl
    have t10 : W.cell? ⟨T, 10, none⟩ = some (I (cli_li v)) := cellr hTW rfl
    clear hW hall hrec hb0 hP hR hT hZ hk hv hTW hsc hown hsl hln hrgt h_na
    generalize cliP (cli_na k) (cli_pu v) (cli_of9 v) (cli_ha v) (cli_ol v) (cli_un v) (cli_sc v) (cli_idl v) (cli_ab v) (cli_gr v) (cli_li v) = Q at *
    obtain ⟨⟨q1, q2⟩, q3⟩ := Q
    simp only [Act.put, List.setIfInBounds_toArray, List.set_cons_succ, List.set_cons_zero]
    go_wp2_with fail
    refine (unhide HPr).mono ?_
    rintro e w3 ⟨rfl, hw3⟩
    have HB3 := hide ((unhide HB).trans (hw3.mono (unhide HB).size))
    have hP3 := (hw3.block _ (lt_of_row (unhide HPB))).trans (unhide HPB)
    have hR3 := (hw3.block _ (lt_of_row (unhide HRB))).trans (unhide HRB)
    have hZ3 := (hw3.block _ (lt_of_row (unhide HZB))).trans (unhide HZB)
    have hT3 := (hw3.block _ (lt_of_row (unhide HTB))).trans (unhide HTB)
    have HOW3 := hide (OwnS.below (unhide HOW) hw3 (Nat.le_refl _))
    have hb4 : Below w3.heap.size w3 (w3.alloc (.cells #[S q1, S q2] 30)) := (Below.refl _ _).alloc (Nat.le_refl _) _
    have hA0 : (w3.alloc (.cells #[S q1, S q2] 30)).cell? ⟨w3.heap.size, 0, none⟩ = some (S q1) := cell_new _ _ _ _ _ rfl
    have hA1 : (w3.alloc (.cells #[S q1, S q2] 30)).cell? ⟨w3.heap.size, 1, none⟩ = some (S q2) := cell_new _ _ _ _ _ rfl
    have HB4 := hide ((unhide HB3).trans (hb4.mono (unhide HB3).size))
    replace hP3 := (hb4.block _ (lt_of_row hP3)).trans hP3
    replace hR3 := (hb4.block _ (lt_of_row hR3)).trans hR3
    replace hZ3 := (hb4.block _ (lt_of_row hZ3)).trans hZ3
    replace hT3 := (hb4.block _ (lt_of_row hT3)).trans hT3
    have HOW4 := hide (OwnS.below (unhide HOW3) hb4 (Nat.le_refl _))
    have p0 : (w3.alloc (.cells #[S q1, S q2] 30)).cell? ⟨P, 0, none⟩ = some (S k) := cellr hP3 rfl
    have p1 : (w3.alloc (.cells #[S q1, S q2] 30)).cell? ⟨P, 1, none⟩ = some (S v) := cellr hP3 rfl
    have u0 : (w3.alloc (.cells #[S q1, S q2] 30)).cell? ⟨T, 0, none⟩ = some (S (cli_na k)) := cellr hT3 rfl
    have z0 : (w3.alloc (.cells #[S q1, S q2] 30)).cell? ⟨Z, 0, none⟩ = some (S []) := cellr hZ3 rfl
    have u1 : (w3.alloc (.cells #[S q1, S q2] 30)).cell? ⟨T, 1, none⟩ = some (.bool (cli_pu v)) := cellr hT3 rfl
    have z1 : (w3.alloc (.cells #[S q1, S q2] 30)).cell? ⟨Z, 1, none⟩ = some (.bool false) := cellr hZ3 rfl
    have u2 : (w3.alloc (.cells #[S q1, S q2] 30)).cell? ⟨T, 2, none⟩ = some (.bool (cli_of9 v)) := cellr hT3 rfl
    have z2 : (w3.alloc (.cells #[S q1, S q2] 30)).cell? ⟨Z, 2, none⟩ = some (.bool false) := cellr hZ3 rfl
    have u3 : (w3.alloc (.cells #[S q1, S q2] 30)).cell? ⟨T, 3, none⟩ = some (S (cli_ha v)) := cellr hT3 rfl
    have z3 : (w3.alloc (.cells #[S q1, S q2] 30)).cell? ⟨Z, 3, none⟩ = some (S []) := cellr hZ3 rfl
    have u4 : (w3.alloc (.cells #[S q1, S q2] 30)).cell? ⟨T, 4, none⟩ = some (S (cli_ol v)) := cellr hT3 rfl
    have z4 : (w3.alloc (.cells #[S q1, S q2] 30)).cell? ⟨Z, 4, none⟩ = some (S []) := cellr hZ3 rfl
    have u5 : (w3.alloc (.cells #[S q1, S q2] 30)).cell? ⟨T, 5, none⟩ = some (I (cli_un v)) := cellr hT3 rfl
    have z5 : (w3.alloc (.cells #[S q1, S q2] 30)).cell? ⟨Z, 5, none⟩ = some (I 0) := cellr hZ3 rfl
    have u6 : (w3.alloc (.cells #[S q1, S q2] 30)).cell? ⟨T, 6, none⟩ = some (.slice va (cli_sc v).length vc) := cellr hT3 rfl
    have z6 : (w3.alloc (.cells #[S q1, S q2] 30)).cell? ⟨Z, 6, none⟩ = some (.slice none 0 0) := cellr hZ3 rfl
    have u7 : (w3.alloc (.cells #[S q1, S q2] 30)).cell? ⟨T, 7, none⟩ = some (I (cli_idl v)) := cellr hT3 rfl
    have z7 : (w3.alloc (.cells #[S q1, S q2] 30)).cell? ⟨Z, 7, none⟩ = some (I 0) := cellr hZ3 rfl
    have u8 : (w3.alloc (.cells #[S q1, S q2] 30)).cell? ⟨T, 8, none⟩ = some (I (cli_ab v)) := cellr hT3 rfl
    have z8 : (w3.alloc (.cells #[S q1, S q2] 30)).cell? ⟨Z, 8, none⟩ = some (I 0) := cellr hZ3 rfl
    have u9 : (w3.alloc (.cells #[S q1, S q2] 30)).cell? ⟨T, 9, none⟩ = some (I (cli_gr v)) := cellr hT3 rfl
    have z9 : (w3.alloc (.cells #[S q1, S q2] 30)).cell? ⟨Z, 9, none⟩ = some (I 0) := cellr hZ3 rfl
    have u10 : (w3.alloc (.cells #[S q1, S q2] 30)).cell? ⟨T, 10, none⟩ = some (I (cli_li v)) := cellr hT3 rfl
    have z10 : (w3.alloc (.cells #[S q1, S q2] 30)).cell? ⟨Z, 10, none⟩ = some (I 0) := cellr hZ3 rfl
    have HR4 := hide hR3
    clear HPr hw3 HB HPB HRB HZB HTB HB3 hP3 hR3 hZ3 hT3 hb4 t0 t1 t2 t3 t4 t5 t6 t7 t8 t9 t10 HOW HOW3
    have hn30 := ne30 q1 q2 k v
    by_cases e0 : q3 = 0
    · subst e0
      by_cases e1 : q1 = k ∧ q2 = v
      · have HGF : Hid (GG = true) := hide (by rw [unhide HG]; simp [e1])
        have hb1 : (q1 == k && q2 == v) = true := by simp [e1]
        rw [hb1] at hn30
        clear e1 hb1
        go_wp2_with (refine wp_stT (ty := 24) (n := 11) (by kernel_rfl) rfl (.tmp 6) (.tmp 31) rfl R (by rfl) #[S (cli_na k), .bool (cli_pu v), .bool (cli_of9 v), S (cli_ha v), S (cli_ol v), I (cli_un v), .slice va (cli_sc v).length vc, I (cli_idl v), I (cli_ab v), I (cli_gr v), I (cli_li v)] rfl (by simp [Value.oneCell']) (by rfl) #[S [], .bool false, .bool false, S [], S [], I 0, .slice none 0 0, I 0, I 0, I 0, I 0] rfl (unhide HR4) ?_)
        refine out2c (T := 24) (n := 11) (p := 6) (q := 7) (cs := #[S (cli_na k), .bool (cli_pu v), .bool (cli_of9 v), S (cli_ha v), S (cli_ol v), I (cli_un v), .slice va (cli_sc v).length vc, I (cli_idl v), I (cli_ab v), I (cli_gr v), I (cli_li v)]) (fun _ => by kernel_rfl) (fun _ => by kernel_rfl) (Z := R) (by rfl) (by rfl) (by rfl) (by rfl) (setRow_row (unhide HR4)) (by rfl) ?_
        refine ⟨(setRow_Only (w3.alloc (.cells #[S q1, S q2] 30)) R #[S (cli_na k), .bool (cli_pu v), .bool (cli_of9 v), S (cli_ha v), S (cli_ol v), I (cli_un v), .slice va (cli_sc v).length vc, I (cli_idl v), I (cli_ab v), I (cli_gr v), I (cli_li v)]).below (unhide HB4) (unhide HB4).size (fun q e => by omega), .inl ⟨unhide HGF, va, vc, rfl, ?_⟩⟩
        exact OwnS.below (CtAt.keep (c := .l _) (unhide HOW4) _ (setRow_Only _ R _) (fun q e => by omega)) (Below.refl _ _) (by omega)
      · have HGF : Hid (GG = false) := hide (by rw [unhide HG]; simp; exact fun a b => e1 ⟨a, b⟩)
        have hb1 : (q1 == k && q2 == v) = false := by simp; exact fun a b => e1 ⟨a, b⟩
        rw [hb1] at hn30
        clear e1 hb1
        go_wp2_with (refine wp_stT (ty := 24) (n := 11) (by kernel_rfl) rfl (.tmp 6) (.tmp 30) rfl R (by rfl) #[S [], .bool false, .bool false, S [], S [], I 0, .slice none 0 0, I 0, I 0, I 0, I 0] rfl (by simp [Value.oneCell']) (by rfl) #[S [], .bool false, .bool false, S [], S [], I 0, .slice none 0 0, I 0, I 0, I 0, I 0] rfl (unhide HR4) ?_)
        refine out2c (T := 24) (n := 11) (p := 6) (q := 7) (cs := #[S [], .bool false, .bool false, S [], S [], I 0, .slice none 0 0, I 0, I 0, I 0, I 0]) (fun _ => by kernel_rfl) (fun _ => by kernel_rfl) (Z := R) (by rfl) (by rfl) (by rfl) (by rfl) (setRow_row (unhide HR4)) (by rfl) ?_
        refine ⟨(setRow_Only (w3.alloc (.cells #[S q1, S q2] 30)) R #[S [], .bool false, .bool false, S [], S [], I 0, .slice none 0 0, I 0, I 0, I 0, I 0]).below (unhide HB4) (unhide HB4).size (fun q e => by omega), .inr ⟨unhide HGF, rfl⟩⟩
    · have HGF : Hid (GG = false) := hide (by rw [unhide HG]; simp [e0])
      have e2 : ((q3 : Int) != 0) = true := by simp; exact e0
      go_wp2_with (refine wp_stT (ty := 24) (n := 11) (by kernel_rfl) rfl (.tmp 6) (.tmp 30) rfl R (by rfl) #[S [], .bool false, .bool false, S [], S [], I 0, .slice none 0 0, I 0, I 0, I 0, I 0] rfl (by simp [Value.oneCell']) (by rfl) #[S [], .bool false, .bool false, S [], S [], I 0, .slice none 0 0, I 0, I 0, I 0, I 0] rfl (unhide HR4) ?_)
      refine out2c (T := 24) (n := 11) (p := 6) (q := 7) (cs := #[S [], .bool false, .bool false, S [], S [], I 0, .slice none 0 0, I 0, I 0, I 0, I 0]) (fun _ => by kernel_rfl) (fun _ => by kernel_rfl) (Z := R) (by rfl) (by rfl) (by rfl) (by rfl) (setRow_row (unhide HR4)) (by rfl) ?_
      refine ⟨(setRow_Only (w3.alloc (.cells #[S q1, S q2] 30)) R #[S [], .bool false, .bool false, S [], S [], I 0, .slice none 0 0, I 0, I 0, I 0, I 0]).below (unhide HB4) (unhide HB4).size (fun q e => by omega), .inr ⟨unhide HGF, rfl⟩⟩
end Go.Proofs.YtpidmpefodnffaaGreatDoor
namespace Go.Proofs.YtpidmpefodnffaaGreatDoor
open Go.RowKit
set_option maxHeartbeats 4000000
set_option maxRecDepth 8000
theorem Print12 (na : Bs) (pu : Bool) (of9 : Bool) (ha : Bs) (ol : Bs) (un : Int) (va : Option Addr) (vc : Nat) (sc : List Bs) (idl : Int) (ab : Int) (gr : Int) (li : Int) (w : World) (h_na : na.length ≤ 9223372036854775807) (hsc : Sts w va sc.length sc) (hsl : sc.length ≤ 140737488355000) (hln : Lns sc) : Calls Tryz.prog 12 #[.agg #[S na, .bool pu, .bool of9, S ha, S ol, I un, .slice va sc.length vc, I idl, I ab, I gr, I li]] w fun e w' => e = .returned (.tuple #[.agg #[S (cliP na pu of9 ha ol un sc idl ab gr li).1.1, S (cliP na pu of9 ha ol un sc idl ab gr li).1.2], I (cliP na pu of9 ha ol un sc idl ab gr li).2]) ∧ Below w.heap.size w w' := by
  have hb0 : Below w.heap.size w ((w.alloc (.cells #[S na, .bool pu, .bool of9, S ha, S ol, I un, .slice va sc.length vc, I idl, I ab, I gr, I li] 24)).alloc (.cells #[S [], S []] 30)) := ((Below.refl _ w).alloc (Nat.le_refl _) _).alloc (by simp) _
  have hT : ((w.alloc (.cells #[S na, .bool pu, .bool of9, S ha, S ol, I un, .slice va sc.length vc, I idl, I ab, I gr, I li] 24)).alloc (.cells #[S [], S []] 30)).heap[w.heap.size]? = some (.cells #[S na, .bool pu, .bool of9, S ha, S ol, I un, .slice va sc.length vc, I idl, I ab, I gr, I li] 24 (0, 0)) := by
    rw [heap_alloc_old _ _ (by simp)]; exact heap_alloc_new _ _
  have hR : ((w.alloc (.cells #[S na, .bool pu, .bool of9, S ha, S ol, I un, .slice va sc.length vc, I idl, I ab, I gr, I li] 24)).alloc (.cells #[S [], S []] 30)).heap[w.heap.size + 1]? = some (.cells #[S [], S []] 30 (0, 0)) := by
    have e := heap_alloc_new (w.alloc (.cells #[S na, .bool pu, .bool of9, S ha, S ol, I un, .slice va sc.length vc, I idl, I ab, I gr, I li] 24)) (.cells #[S [], S []] 30)
    simpa using e
  have HPr := hide (pr58 na pu of9 ha ol un va vc sc idl ab gr li ((w.alloc (.cells #[S na, .bool pu, .bool of9, S ha, S ol, I un, .slice va sc.length vc, I idl, I ab, I gr, I li] 24)).alloc (.cells #[S [], S []] 30)) h_na (Sts.bel hsc hb0) hsl hln)
  have c0 : ((w.alloc (.cells #[S na, .bool pu, .bool of9, S ha, S ol, I un, .slice va sc.length vc, I idl, I ab, I gr, I li] 24)).alloc (.cells #[S [], S []] 30)).cell? ⟨w.heap.size, 0, none⟩ = some (S na) := cellr hT rfl
  have c1 : ((w.alloc (.cells #[S na, .bool pu, .bool of9, S ha, S ol, I un, .slice va sc.length vc, I idl, I ab, I gr, I li] 24)).alloc (.cells #[S [], S []] 30)).cell? ⟨w.heap.size, 1, none⟩ = some (.bool pu) := cellr hT rfl
  have c2 : ((w.alloc (.cells #[S na, .bool pu, .bool of9, S ha, S ol, I un, .slice va sc.length vc, I idl, I ab, I gr, I li] 24)).alloc (.cells #[S [], S []] 30)).cell? ⟨w.heap.size, 2, none⟩ = some (.bool of9) := cellr hT rfl
  have c3 : ((w.alloc (.cells #[S na, .bool pu, .bool of9, S ha, S ol, I un, .slice va sc.length vc, I idl, I ab, I gr, I li] 24)).alloc (.cells #[S [], S []] 30)).cell? ⟨w.heap.size, 3, none⟩ = some (S ha) := cellr hT rfl
  have c4 : ((w.alloc (.cells #[S na, .bool pu, .bool of9, S ha, S ol, I un, .slice va sc.length vc, I idl, I ab, I gr, I li] 24)).alloc (.cells #[S [], S []] 30)).cell? ⟨w.heap.size, 4, none⟩ = some (S ol) := cellr hT rfl
  have c5 : ((w.alloc (.cells #[S na, .bool pu, .bool of9, S ha, S ol, I un, .slice va sc.length vc, I idl, I ab, I gr, I li] 24)).alloc (.cells #[S [], S []] 30)).cell? ⟨w.heap.size, 5, none⟩ = some (I un) := cellr hT rfl
  have c6 : ((w.alloc (.cells #[S na, .bool pu, .bool of9, S ha, S ol, I un, .slice va sc.length vc, I idl, I ab, I gr, I li] 24)).alloc (.cells #[S [], S []] 30)).cell? ⟨w.heap.size, 6, none⟩ = some (.slice va sc.length vc) := cellr hT rfl
  have c7 : ((w.alloc (.cells #[S na, .bool pu, .bool of9, S ha, S ol, I un, .slice va sc.length vc, I idl, I ab, I gr, I li] 24)).alloc (.cells #[S [], S []] 30)).cell? ⟨w.heap.size, 7, none⟩ = some (I idl) := cellr hT rfl
  have c8 : ((w.alloc (.cells #[S na, .bool pu, .bool of9, S ha, S ol, I un, .slice va sc.length vc, I idl, I ab, I gr, I li] 24)).alloc (.cells #[S [], S []] 30)).cell? ⟨w.heap.size, 8, none⟩ = some (I ab) := cellr hT rfl
  have c9 : ((w.alloc (.cells #[S na, .bool pu, .bool of9, S ha, S ol, I un, .slice va sc.length vc, I idl, I ab, I gr, I li] 24)).alloc (.cells #[S [], S []] 30)).cell? ⟨w.heap.size, 9, none⟩ = some (I gr) := cellr hT rfl
  have c10 : ((w.alloc (.cells #[S na, .bool pu, .bool of9, S ha, S ol, I un, .slice va sc.length vc, I idl, I ab, I gr, I li] 24)).alloc (.cells #[S [], S []] 30)).cell? ⟨w.heap.size, 10, none⟩ = some (I li) := cellr hT rfl
  generalize hW1 : ((w.alloc (.cells #[S na, .bool pu, .bool of9, S ha, S ol, I un, .slice va sc.length vc, I idl, I ab, I gr, I li] 24)).alloc (.cells #[S [], S []] 30)) = W1 at *
  have HR := hide hR
  have HB := hide hb0
  clear hT hR hb0 hsc hsl hln
  generalize cliP na pu of9 ha ol un sc idl ab gr li = Q at *
  obtain ⟨⟨q1, q2⟩, q3⟩ := Q
  go_enter Tryz.func12, Tryz.ntmps12
  go_wp2_with fail
  refine (unhide HPr).mono ?_
  rintro e w2 ⟨rfl, hw2⟩
  have HB2 := hide ((unhide HB).trans (hw2.mono (unhide HB).size))
  have HR2 := hide ((hw2.block _ (lt_of_row (unhide HR))).trans (unhide HR))
  clear hw2 HPr HB HR c0 c1 c2 c3 c4 c5 c6 c7 c8 c9 c10 hW1
  go_wp2_with (refine wp_st30 rfl (.tmp 2) (.tmp 6) rfl (w.heap.size + 1) (by rfl) q1 q2 (by rfl) #[S [], S []] rfl (unhide HR2) ?_)
  refine out2c (T := 30) (n := 2) (p := 2) (q := 3) (cs := #[S q1, S q2]) (fun _ => by kernel_rfl) (fun _ => by kernel_rfl) (Z := w.heap.size + 1) (by rfl) (by rfl) (by rfl) (by rfl) (setRow_row (unhide HR2)) (by rfl) ?_
  exact ⟨rfl, (setRow_Only w2 (w.heap.size + 1) #[S q1, S q2]).below (unhide HB2) (unhide HB2).size (fun k e => by omega)⟩
theorem Parse15 (k v : Bs) (w : World) (hk : k.length ≤ 9223372036854775807) (hv : v.length ≤ 9223372036854775807) : Calls Tryz.prog 15 #[.agg #[S k, S v]] w fun e w' => Below w.heap.size w w' ∧ ((cliG k v = true ∧ ∃ va vc, e = .returned (.tuple #[.agg #[S (cli_na k), .bool (cli_pu v), .bool (cli_of9 v), S (cli_ha v), S (cli_ol v), I (cli_un v), .slice va (cli_sc v).length vc, I (cli_idl v), I (cli_ab v), I (cli_gr v), I (cli_li v)], I 0]) ∧ OwnS w.heap.size w' (.slice va (cli_sc v).length vc) (cli_sc v)) ∨ (cliG k v = false ∧ e = .returned (.tuple #[.agg #[S [], .bool false, .bool false, S [], S [], I 0, .slice none 0 0, I 0, I 0, I 0, I 0], I 141]))) := by
  have hb0 : Below w.heap.size w ((w.alloc (.cells #[S k, S v] 30)).alloc (.cells #[S [], .bool false, .bool false, S [], S [], I 0, .slice none 0 0, I 0, I 0, I 0, I 0] 24)) := ((Below.refl _ w).alloc (Nat.le_refl _) _).alloc (by simp) _
  have hT : ((w.alloc (.cells #[S k, S v] 30)).alloc (.cells #[S [], .bool false, .bool false, S [], S [], I 0, .slice none 0 0, I 0, I 0, I 0, I 0] 24)).heap[w.heap.size]? = some (.cells #[S k, S v] 30 (0, 0)) := by
    rw [heap_alloc_old _ _ (by simp)]; exact heap_alloc_new _ _
  have hR : ((w.alloc (.cells #[S k, S v] 30)).alloc (.cells #[S [], .bool false, .bool false, S [], S [], I 0, .slice none 0 0, I 0, I 0, I 0, I 0] 24)).heap[w.heap.size + 1]? = some (.cells #[S [], .bool false, .bool false, S [], S [], I 0, .slice none 0 0, I 0, I 0, I 0, I 0] 24 (0, 0)) := by
    have e := heap_alloc_new (w.alloc (.cells #[S k, S v] 30)) (.cells #[S [], .bool false, .bool false, S [], S [], I 0, .slice none 0 0, I 0, I 0, I 0, I 0] 24)
    simpa using e
  have hsz : ((w.alloc (.cells #[S k, S v] 30)).alloc (.cells #[S [], .bool false, .bool false, S [], S [], I 0, .slice none 0 0, I 0, I 0, I 0, I 0] 24)).heap.size = w.heap.size + 2 := by simp
  have HPr := hide (pa67 k v ((w.alloc (.cells #[S k, S v] 30)).alloc (.cells #[S [], .bool false, .bool false, S [], S [], I 0, .slice none 0 0, I 0, I 0, I 0, I 0] 24)) hk hv)
  have c0 : ((w.alloc (.cells #[S k, S v] 30)).alloc (.cells #[S [], .bool false, .bool false, S [], S [], I 0, .slice none 0 0, I 0, I 0, I 0, I 0] 24)).cell? ⟨w.heap.size, 0, none⟩ = some (S k) := cellr hT rfl
  have c1 : ((w.alloc (.cells #[S k, S v] 30)).alloc (.cells #[S [], .bool false, .bool false, S [], S [], I 0, .slice none 0 0, I 0, I 0, I 0, I 0] 24)).cell? ⟨w.heap.size, 1, none⟩ = some (S v) := cellr hT rfl
  generalize hW1 : ((w.alloc (.cells #[S k, S v] 30)).alloc (.cells #[S [], .bool false, .bool false, S [], S [], I 0, .slice none 0 0, I 0, I 0, I 0, I 0] 24)) = W1 at *
  have HR := hide hR
  have HB := hide hb0
  have HS := hide hsz
  clear hT hR hb0 hk hv hsz
  generalize cliG k v = GG at *
  go_enter Tryz.func15, Tryz.ntmps15
  go_wp2_with fail
  refine (unhide HPr).mono ?_
  rintro e w2 ⟨hw2, hor⟩
  have HB2 := hide ((unhide HB).trans (hw2.mono (unhide HB).size))
  have HR2 := hide ((hw2.block _ (lt_of_row (unhide HR))).trans (unhide HR))
  clear hw2 HPr HB HR c0 c1 hW1
  rcases hor with ⟨hg, va, vc, rfl, hown⟩ | ⟨hg, rfl⟩
  · have HGF := hide hg
    have HOW := hide hown
    clear hown
    clear hg
    go_wp2_with (refine wp_stT (ty := 24) (n := 11) (by kernel_rfl) rfl (.tmp 2) (.tmp 6) rfl (w.heap.size + 1) (by rfl) #[S (cli_na k), .bool (cli_pu v), .bool (cli_of9 v), S (cli_ha v), S (cli_ol v), I (cli_un v), .slice va (cli_sc v).length vc, I (cli_idl v), I (cli_ab v), I (cli_gr v), I (cli_li v)] rfl (by simp [Value.oneCell']) (by rfl) #[S [], .bool false, .bool false, S [], S [], I 0, .slice none 0 0, I 0, I 0, I 0, I 0] rfl (unhide HR2) ?_)
    refine out2c (T := 24) (n := 11) (p := 2) (q := 3) (cs := #[S (cli_na k), .bool (cli_pu v), .bool (cli_of9 v), S (cli_ha v), S (cli_ol v), I (cli_un v), .slice va (cli_sc v).length vc, I (cli_idl v), I (cli_ab v), I (cli_gr v), I (cli_li v)]) (fun _ => by kernel_rfl) (fun _ => by kernel_rfl) (Z := w.heap.size + 1) (by rfl) (by rfl) (by rfl) (by rfl) (setRow_row (unhide HR2)) (by rfl) ?_
    refine ⟨(setRow_Only w2 (w.heap.size + 1) #[S (cli_na k), .bool (cli_pu v), .bool (cli_of9 v), S (cli_ha v), S (cli_ol v), I (cli_un v), .slice va (cli_sc v).length vc, I (cli_idl v), I (cli_ab v), I (cli_gr v), I (cli_li v)]).below (unhide HB2) (unhide HB2).size (fun k e => by omega), .inl ⟨unhide HGF, va, vc, rfl, ?_⟩⟩
    exact OwnS.below (CtAt.keep (c := .l _) (unhide HOW) _ (setRow_Only _ (w.heap.size + 1) _) (fun q e => by have := unhide HS; omega)) (Below.refl _ _) (by have := unhide HS; omega)
  · have HGF := hide hg
    clear hg
    go_wp2_with (refine wp_stT (ty := 24) (n := 11) (by kernel_rfl) rfl (.tmp 2) (.tmp 6) rfl (w.heap.size + 1) (by rfl) #[S [], .bool false, .bool false, S [], S [], I 0, .slice none 0 0, I 0, I 0, I 0, I 0] rfl (by simp [Value.oneCell']) (by rfl) #[S [], .bool false, .bool false, S [], S [], I 0, .slice none 0 0, I 0, I 0, I 0, I 0] rfl (unhide HR2) ?_)
    refine out2c (T := 24) (n := 11) (p := 2) (q := 3) (cs := #[S [], .bool false, .bool false, S [], S [], I 0, .slice none 0 0, I 0, I 0, I 0, I 0]) (fun _ => by kernel_rfl) (fun _ => by kernel_rfl) (Z := w.heap.size + 1) (by rfl) (by rfl) (by rfl) (by rfl) (setRow_row (unhide HR2)) (by rfl) ?_
    refine ⟨(setRow_Only w2 (w.heap.size + 1) #[S [], .bool false, .bool false, S [], S [], I 0, .slice none 0 0, I 0, I 0, I 0, I 0]).below (unhide HB2) (unhide HB2).size (fun k e => by omega), .inr ⟨unhide HGF, rfl⟩⟩
end Go.Proofs.YtpidmpefodnffaaGreatDoor
