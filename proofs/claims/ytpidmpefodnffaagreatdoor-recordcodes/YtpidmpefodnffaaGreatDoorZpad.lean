import Derived.Test.YtpidmpefodnffaaGreatDoorPre
import Derived.Test.YtpidmpefodnffaaGreatDoorZpah
import Derived.Test.YtpidmpefodnffaaGreatDoorZfde
namespace Go.Proofs.YtpidmpefodnffaaGreatDoor
open Go.RowKit
set_option maxHeartbeats 4000000
set_option maxRecDepth 8000
def codK0 (k : Bs) : Bs × Nat := (k, 0)
def codK1 (k : Bs) : Bs × Nat := rr2 1 (codK0 k)
def cod_id (k : Bs) : Int := rv 8 (codK1 k)
def codV0 (v : Bs) : Bs × Nat := (v, 0)
def cod_cl (v : Bs) : Bs := tv 16 (codV0 v)
def codV1 (v : Bs) : Bs × Nat := ts 16 (codV0 v)
def cod_su (v : Bs) : Bs := tv 16 (codV1 v)
def codV2 (v : Bs) : Bs × Nat := ts 16 (codV1 v)
def cod_sc (v : Bs) : List Bs := (parse (tv 60 (codV2 v))).1
def codV3 (v : Bs) : Bs × Nat := ts 60 (codV2 v)
def cod_ha (v : Bs) : Bs := ra 32 (codV3 v)
def codV4 (v : Bs) : Bs × Nat := rr2 32 (codV3 v)
def cod_ch (v : Bs) : Bs := ra 32 (codV4 v)
def codV5 (v : Bs) : Bs × Nat := rr2 32 (codV4 v)
def cod_un (v : Bs) : Int := rv 6 (codV5 v)
def codV6 (v : Bs) : Bs × Nat := rs 6 (codV5 v)
def cod_st (v : Bs) : Int := rv 1 (codV6 v)
def codV7 (v : Bs) : Bs × Nat := rs 1 (codV6 v)
def cod_fa (v : Bs) : Int := rv 8 (codV7 v)
def codstk : Nat → Bs × Nat → List Ct → (Bs × Nat) × List Ct := fun i => match i with
  | 0 => fun s cs => (rr2 1 s, cs)
  | 1 => fun s cs => (rs 8 s, cs.set 0 (.n (rv 8 s)))
  | _ => fun s cs => (s, cs)
def codstv : Nat → Bs × Nat → List Ct → (Bs × Nat) × List Ct := fun i => match i with
  | 0 => fun s cs => (ts 16 s, cs.set 1 (.s (tv 16 s)))
  | 1 => fun s cs => (ts 16 s, cs.set 2 (.s (tv 16 s)))
  | 2 => fun s cs => (ts 60 s, cs.set 3 (.l (parse (tv 60 s)).1))
  | 3 => fun s cs => (rr2 32 s, cs.set 4 (.s (ra 32 s)))
  | 4 => fun s cs => (rr2 32 s, cs.set 5 (.s (ra 32 s)))
  | 5 => fun s cs => (rs 6 s, cs.set 6 (.n (rv 6 s)))
  | 6 => fun s cs => (rs 1 s, cs.set 7 (.n (rv 1 s)))
  | 7 => fun s cs => (rs 8 s, cs.set 8 (.n (rv 8 s)))
  | _ => fun s cs => (s, cs)
def codRd (k v : Bs) : List Ct := [.n (cod_id k), .s (cod_cl v), .s (cod_su v), .l (cod_sc v), .s (cod_ha v), .s (cod_ch v), .n (cod_un v), .n (cod_st v), .n (cod_fa v)]
theorem codRd_eq (k v : Bs) : (runF codstv 8 (v, 0) (runF codstk 2 (k, 0) [.n 0, .s [], .s [], .z, .s [], .s [], .n 0, .n 0, .n 0]).2).2 = codRd k v := by kernel_rfl
theorem codRd_nl (k : Bs) : (runF codstk 2 (k, 0) [.n 0, .s [], .s [], .z, .s [], .s [], .n 0, .n 0, .n 0]).2.all Ct.nl = true := by kernel_rfl
def codG (k v : Bs) : Bool := codP (cod_id k) (cod_cl v) (cod_su v) (cod_sc v) (cod_ha v) (cod_ch v) (cod_un v) (cod_st v) (cod_fa v) == ((k, v), 0)
def vrpa92 (_T _P : Nat) (k v : Bs) (c : (Nat → Nat)) (i : Nat) : Value := match i with
  | 0 => (FN 90)
  | 1 => (.agg #[(.slice (some ⟨c 0, 0, none⟩) 2 2), (.slice (some ⟨c 1, 0, none⟩) 8 8)])
  | 2 => (.agg #[S k, S v])
  | 3 => (.tuple #[])
  | _ => undef
def rpa92T : List (Op × Option Tmp × Option (Nat × Bool)) := [
  (.move (.tmp 2), some 12, none),
  (.call { callee := .value (.tmp 12), args := #[(.tmp 8)], argTypes := #[206] }, some 13, none),
  (.load 30 (.tmp 3), some 14, none),
  (.call { callee := .value (.func 140), args := #[(.tmp 13), (.tmp 14)], argTypes := #[111, 30] }, some 15, none)]
def rpa92D : List (Nat × Nat) := [(1, 0), (3, 1), (3, 2)]
set_option maxHeartbeats 4000000 in
theorem rpa92 {ops : Array Oper} {id : Nat} {Q : Exit → Act → World → Prop} (T P : Nat) (k v : Bs) (htab : ops.toList.map (fun o => (o.op, o.dst, o.guard)) = rpa92T) (hdep : deplB rpa92D ops = true) (hac : acB ops = true)
    (a0 : Act) (w : World) (hsz : 16 ≤ a0.tmps.size) (o2 : a0.tmps[2]? = some (FN 90)) (o3 : a0.tmps[3]? = some (ptr P)) (o8 : a0.tmps[8]? = some (ptr T))
    (Wd : (Nat → Nat) → (Nat → Bool) → World → Prop) (h0 : ∃ c, Wd c (fun _ => false) w.drew) (hpure : ∀ i, i ∉ ([1, 3] : List Nat) → ∀ c L W, Wd c L W → Wd c (upd L i) W)
    (r1 : ∀ c L W, Wd c L W → L 1 = false → L 0 = true → Calls Tryz.prog 90 #[(ptr T)] W fun eg w' => ∃ c', (∀ j, L j = true → vrpa92 T P k v c' j = vrpa92 T P k v c j) ∧ eg = .returned (vrpa92 T P k v c' 1) ∧ Wd c' (upd L 1) w')
    (r2 : ∀ c L W, Wd c L W → L 2 = false → (Instr.loadAt 30 (ptr P)).run Tryz.prog W = .ok (.agg #[S k, S v]) W)
    (r3 : ∀ c L W, Wd c L W → L 3 = false → L 1 = true → L 2 = true → Calls Tryz.prog 140 #[(.agg #[(.slice (some ⟨c 0, 0, none⟩) 2 2), (.slice (some ⟨c 1, 0, none⟩) 8 8)]), (.agg #[S k, S v])] W fun eg w' => ∃ c', (∀ j, L j = true → vrpa92 T P k v c' j = vrpa92 T P k v c j) ∧ eg = .returned (vrpa92 T P k v c' 3) ∧ Wd c' (upd L 3) w')
    (hend : ∀ c L W, (∀ i, i < 4 → L i = true) → Wd c L W → Q .normal ((((a0.put (some 12) (FN 90)).put (some 13) (.agg #[(.slice (some ⟨c 0, 0, none⟩) 2 2), (.slice (some ⟨c 1, 0, none⟩) 8 8)])).put (some 14) (.agg #[S k, S v])).put (some 15) (.tuple #[])) W) : (Code.region id ops true).wp Tryz.prog Q a0 w := by
  let val : (Nat → Nat) → Nat → Value := vrpa92 T P k v
  have hosz : ops.size = 4 := by
    have := congrArg List.length htab
    simpa [rpa92T] using this
  have hds : ∀ i s, (rpa92T[i]?).bind (·.2.1) = some s → dstOf ops i = some s := fun i s hi => by rw [tab_dst htab, hi]
  have hdisB : disL rpa92T = true := by rfl
  have hdis := disL_of htab hdisB
  have hold : ∀ s, rpa92T.all (fun x => !(x.2.1 == some s)) = true → (List.range ops.size).all (fun j => !(dstOf ops j == some s)) = true := fun s h => holdL htab s h
  refine region_detX val Wd (hac_of hac) hdis h0 ?_ ?_
  rotate_left
  · intro c L W hall hW
    have := hend c L W (by rw [← hosz]; exact hall) hW
    have e : frm ops a0 (val c) (fun _ => true) ops.size = ((((a0.put (some 12) (FN 90)).put (some 13) (.agg #[(.slice (some ⟨c 0, 0, none⟩) 2 2), (.slice (some ⟨c 1, 0, none⟩) 8 8)])).put (some 14) (.agg #[S k, S v])).put (some 15) (.tuple #[])) := by
      rw [hosz]
      simp only [frm, if_true]
      rw [tab_dst htab 0, tab_dst htab 1, tab_dst htab 2, tab_dst htab 3]
      rfl
    rw [e]
    exact this
  intro i o ho c L a w' hL hd ha hW
  have hi : i < 4 := by rw [← hosz]; exact (Array.getElem?_eq_some_iff.1 ho).1
  have G : ∀ j s : Nat, (rpa92T[j]?).bind (·.2.1) = some s → s < 16 → (i, j) ∈ rpa92D → a.tmps[s]? = some (val c j) := fun j s h1 h2 h3 => frm_at hdis ha j s (hds j s h1) (by omega) (depl_of hdep i j h3 ho hd)
  match i, ho, hL, hi, G with
  | 0, ho, hL, _, G =>
    obtain ⟨hop, hgd⟩ := tab3 htab ho rfl
    have h0 := frm_old ha 2 _ (hold 2 rfl) o2
    exact (dXr ho hgd (hpure 0 (by decide) c L w' hW) (g_mov hop (eval_of h0)))
  | 1, ho, hL, _, G =>
    obtain ⟨hop, hgd⟩ := tab3 htab ho rfl
    have h0 := frm_old ha 8 _ (hold 8 rfl) o8
    have hf := G 0 12 rfl (by decide) (by decide)
    refine doesX_call ho (wanted_none hgd) 90 #[(ptr T)] ?_ (r1 c L w' hW hL (depl_of hdep 1 0 (by decide) ho hd))
    rw [run_callv Tryz.func90 (by kernel_rfl) rfl _ _ _ _ _ hop (eval_of hf)]
    simp only [List.map_toArray, List.map_cons, List.map_nil, eval_of h0]
    all_goals rfl
  | 2, ho, hL, _, G =>
    obtain ⟨hop, hgd⟩ := tab3 htab ho rfl
    have h0 := frm_old ha 3 _ (hold 3 rfl) o3
    exact (dXr ho hgd (hpure 2 (by decide) c L w' hW) (g_load hop (eval_of h0) (r2 c L w' hW hL)))
  | 3, ho, hL, _, G =>
    obtain ⟨hop, hgd⟩ := tab3 htab ho rfl
    have h0 := G 1 13 rfl (by decide) (by decide)
    have h1 := G 2 14 rfl (by decide) (by decide)
    refine doesX_call ho (wanted_none hgd) 140 #[(.agg #[(.slice (some ⟨c 0, 0, none⟩) 2 2), (.slice (some ⟨c 1, 0, none⟩) 8 8)]), (.agg #[S k, S v])] ?_ (r3 c L w' hW hL (depl_of hdep 3 1 (by decide) ho hd) (depl_of hdep 3 2 (by decide) ho hd))
    rw [run_calls Tryz.func140 (by kernel_rfl) rfl _ _ _ _ hop rfl]
    simp only [List.map_toArray, List.map_cons, List.map_nil, eval_of h0, eval_of h1]
    all_goals rfl
  | (i + 4), ho, hL, hi, _ => exact absurd hi (by omega)
def lyf92 (B0 T : Nat) (c : Nat → Nat) (W : World) : Prop := ∃ a, B0 ≤ a ∧ T < a ∧ a < W.heap.size ∧ W.heap[a + 1]? = some (.cells #[S [97]] 9 (0, 0)) ∧ (a + 2 ≤ c 0 ∧ W.heap[c 0]? = some (.cells #[(vW ⟨a + 1, 0, none⟩ 1), (vI ⟨T, 0, none⟩ 8)] 213 (0, 0))) ∧ (a + 2 ≤ c 1 ∧ W.heap[c 1]? = some (.cells #[(vT ⟨T, 1, none⟩ 16), (vT ⟨T, 2, none⟩ 16), (vN ⟨T, 3, none⟩ 60), (vW ⟨T, 4, none⟩ 32), (vW ⟨T, 5, none⟩ 32), (vI ⟨T, 6, none⟩ 6), (vI ⟨T, 7, none⟩ 1), (vI ⟨T, 8, none⟩ 8)] 213 (0, 0)))
theorem tk92 (B0 T : Nat) (c : Nat → Nat) (W : World) (k v : Bs) (hk : k.length ≤ 9223372036854775807) (hv : v.length ≤ 9223372036854775807) (h : lyf92 B0 T c W) (hT : W.heap[T]? = some (.cells #[I 0, S [], S [], .slice none 0 0, S [], S [], I 0, I 0, I 0] 51 (0, 0))) :
    Calls Tryz.prog 140 #[.agg #[(.slice (some ⟨c 0, 0, none⟩) 2 2), (.slice (some ⟨c 1, 0, none⟩) 8 8)], .agg #[S k, S v]] W fun e w' => e = .returned (.tuple #[]) ∧ Rec W.heap.size T 51 (codRd k v) w' ∧ Only (fun q => q = T ∨ B0 < q) W w' := by
  obtain ⟨a, ha, hTa, haw, hL1, ⟨hk0, hc0⟩, ⟨hk1, hc1⟩⟩ := h
  have hls : ∀ l, l ∈ [a + 1] → l ≠ T ∧ ∃ y, W.heap[l]? = some (.cells #[S y] 9 (0, 0)) := by
    intro l hl
    simp only [List.mem_cons, List.not_mem_nil, or_false] at hl
    subst hl
    exact ⟨by omega, _, hL1⟩
  have hfx : ∀ q, q ∈ ([(c 0, .cells #[(vW ⟨a + 1, 0, none⟩ 1), (vI ⟨T, 0, none⟩ 8)] 213 (0, 0)), (c 1, .cells #[(vT ⟨T, 1, none⟩ 16), (vT ⟨T, 2, none⟩ 16), (vN ⟨T, 3, none⟩ 60), (vW ⟨T, 4, none⟩ 32), (vW ⟨T, 5, none⟩ 32), (vI ⟨T, 6, none⟩ 6), (vI ⟨T, 7, none⟩ 1), (vI ⟨T, 8, none⟩ 8)] 213 (0, 0))] : List (Nat × Obj)) → W.heap[q.1]? = some q.2 ∧ q.1 ≠ T ∧ ¬ q.1 ∈ [a + 1] := by
    intro q hq
    simp only [List.mem_cons, List.not_mem_nil, or_false] at hq
    rcases hq with rfl | rfl
    · exact ⟨hc0, by show c 0 ≠ T; omega, by simp; omega⟩
    · exact ⟨hc1, by show c 1 ≠ T; omega, by simp; omega⟩
  have r1 : Rw W (some ⟨c 0, 0, none⟩) 2 (fun i => (#[(vW ⟨a + 1, 0, none⟩ 1), (vI ⟨T, 0, none⟩ 8)] : Array Value).getD i undef) codstk T 51 [a + 1] [(c 0, .cells #[(vW ⟨a + 1, 0, none⟩ 1), (vI ⟨T, 0, none⟩ 8)] 213 (0, 0)), (c 1, .cells #[(vT ⟨T, 1, none⟩ 16), (vT ⟨T, 2, none⟩ 16), (vN ⟨T, 3, none⟩ 60), (vW ⟨T, 4, none⟩ 32), (vW ⟨T, 5, none⟩ 32), (vI ⟨T, 6, none⟩ 6), (vI ⟨T, 7, none⟩ 1), (vI ⟨T, 8, none⟩ 8)] 213 (0, 0))] 9 := ⟨by decide, fun _ => ⟨c 0, #[(vW ⟨a + 1, 0, none⟩ 1), (vI ⟨T, 0, none⟩ 8)], rfl, (List.Mem.head _), fun i hi => by match i, hi with | 0, _ => rfl | 1, _ => rfl | (q + 2), h => exact absurd h (by omega)⟩, fun i hi => by
      match i, hi with
      | 0, _ => exact Tf.let T 51 _ _ 9 (a + 1) (by simp) 1
      | 1, _ => exact Tf.nu T 51 _ _ 9 0 (by decide) 8
      | (q + 2), h => exact absurd h (by omega), hls, hfx⟩
  have r2 : Rw W (some ⟨c 1, 0, none⟩) 8 (fun i => (#[(vT ⟨T, 1, none⟩ 16), (vT ⟨T, 2, none⟩ 16), (vN ⟨T, 3, none⟩ 60), (vW ⟨T, 4, none⟩ 32), (vW ⟨T, 5, none⟩ 32), (vI ⟨T, 6, none⟩ 6), (vI ⟨T, 7, none⟩ 1), (vI ⟨T, 8, none⟩ 8)] : Array Value).getD i undef) codstv T 51 [a + 1] [(c 0, .cells #[(vW ⟨a + 1, 0, none⟩ 1), (vI ⟨T, 0, none⟩ 8)] 213 (0, 0)), (c 1, .cells #[(vT ⟨T, 1, none⟩ 16), (vT ⟨T, 2, none⟩ 16), (vN ⟨T, 3, none⟩ 60), (vW ⟨T, 4, none⟩ 32), (vW ⟨T, 5, none⟩ 32), (vI ⟨T, 6, none⟩ 6), (vI ⟨T, 7, none⟩ 1), (vI ⟨T, 8, none⟩ 8)] 213 (0, 0))] 9 := ⟨by decide, fun _ => ⟨c 1, #[(vT ⟨T, 1, none⟩ 16), (vT ⟨T, 2, none⟩ 16), (vN ⟨T, 3, none⟩ 60), (vW ⟨T, 4, none⟩ 32), (vW ⟨T, 5, none⟩ 32), (vI ⟨T, 6, none⟩ 6), (vI ⟨T, 7, none⟩ 1), (vI ⟨T, 8, none⟩ 8)], rfl, (List.Mem.tail _ (List.Mem.head _)), fun i hi => by match i, hi with | 0, _ => rfl | 1, _ => rfl | 2, _ => rfl | 3, _ => rfl | 4, _ => rfl | 5, _ => rfl | 6, _ => rfl | 7, _ => rfl | (q + 8), h => exact absurd h (by omega)⟩, fun i hi => by
      match i, hi with
      | 0, _ => exact Tf.tx T 51 _ _ 9 1 (by decide) 16
      | 1, _ => exact Tf.tx T 51 _ _ 9 2 (by decide) 16
      | 2, _ => exact Tf.na T 51 _ _ 9 3 (by decide) 60 (by decide)
      | 3, _ => exact Tf.wh T 51 _ _ 9 4 (by decide) 32
      | 4, _ => exact Tf.wh T 51 _ _ 9 5 (by decide) 32
      | 5, _ => exact Tf.nu T 51 _ _ 9 6 (by decide) 6
      | 6, _ => exact Tf.nu T 51 _ _ 9 7 (by decide) 1
      | 7, _ => exact Tf.nu T 51 _ _ 9 8 (by decide) 8
      | (q + 8), h => exact absurd h (by omega), hls, hfx⟩
  have hrc : Rec 0 T 51 [.n 0, .s [], .s [], .z, .s [], .s [], .n 0, .n 0, .n 0] W := ⟨#[I 0, S [], S [], .slice none 0 0, S [], S [], I 0, I 0, I 0].toList, hT, rfl, fun j q y h1 h2 => by
    match j, h1, h2 with
    | 0, h1, h2 => cases h1; cases h2; rfl
    | 1, h1, h2 => cases h1; cases h2; rfl
    | 2, h1, h2 => cases h1; cases h2; rfl
    | 3, h1, h2 => cases h1; cases h2; rfl
    | 4, h1, h2 => cases h1; cases h2; rfl
    | 5, h1, h2 => cases h1; cases h2; rfl
    | 6, h1, h2 => cases h1; cases h2; rfl
    | 7, h1, h2 => cases h1; cases h2; rfl
    | 8, h1, h2 => cases h1; cases h2; rfl
    | (j + 9), h1, h2 => cases h1⟩
  refine (ltake_any (some ⟨c 0, 0, none⟩) (some ⟨c 1, 0, none⟩) 2 8 _ _ codstk codstv T 51 _ _ 9 k v [.n 0, .s [], .s [], .z, .s [], .s [], .n 0, .n 0, .n 0] W rfl hk hv r1 r2 hrc rfl (codRd_nl k)).mono ?_
  rintro e w' ⟨rfl, q1, q2⟩
  refine ⟨rfl, by rw [← codRd_eq]; exact q1, q2.mono (fun q _ e => ?_)⟩
  rcases e with e | e
  · exact .inl e
  · simp only [List.mem_cons, List.not_mem_nil, or_false] at e
    exact .inr (by omega)
theorem rc92 {B T : Nat} {k v : Bs} {W : World} (h : Rec B T 51 (codRd k v) W) : ∃ va vc, W.heap[T]? = some (.cells #[I (cod_id k), S (cod_cl v), S (cod_su v), .slice va (cod_sc v).length vc, S (cod_ha v), S (cod_ch v), I (cod_un v), I (cod_st v), I (cod_fa v)] 51 (0, 0)) ∧ OwnS B W (.slice va (cod_sc v).length vc) (cod_sc v) := by
  obtain ⟨vs, g1, g2, g3⟩ := h
  match vs, g1, g2, g3 with
  | [v0, v1, v2, v3, v4, v5, v6, v7, v8], g1, _, g3 =>
    have q0 : CtAt B W (.n (cod_id k)) v0 := g3 0 _ _ rfl rfl
    cases q0
    have q1 : CtAt B W (.s (cod_cl v)) v1 := g3 1 _ _ rfl rfl
    cases q1
    have q2 : CtAt B W (.s (cod_su v)) v2 := g3 2 _ _ rfl rfl
    cases q2
    have q3 : CtAt B W (.l (cod_sc v)) v3 := g3 3 _ _ rfl rfl
    obtain ⟨va, vc, e⟩ := OwnS.form q3
    subst e
    have q3' := q3
    have q4 : CtAt B W (.s (cod_ha v)) v4 := g3 4 _ _ rfl rfl
    cases q4
    have q5 : CtAt B W (.s (cod_ch v)) v5 := g3 5 _ _ rfl rfl
    cases q5
    have q6 : CtAt B W (.n (cod_un v)) v6 := g3 6 _ _ rfl rfl
    cases q6
    have q7 : CtAt B W (.n (cod_st v)) v7 := g3 7 _ _ rfl rfl
    cases q7
    have q8 : CtAt B W (.n (cod_fa v)) v8 := g3 8 _ _ rfl rfl
    cases q8
    exact ⟨va, vc, g1, q3'⟩
theorem pa92 (k v : Bs) (w : World) (hk : k.length ≤ 9223372036854775807) (hv : v.length ≤ 9223372036854775807) : Calls Tryz.prog 92 #[.agg #[S k, S v], FN 89, FN 90] w fun e w' => Below w.heap.size w w' ∧ ((codG k v = true ∧ ∃ va vc, e = .returned (.tuple #[.agg #[I (cod_id k), S (cod_cl v), S (cod_su v), .slice va (cod_sc v).length vc, S (cod_ha v), S (cod_ch v), I (cod_un v), I (cod_st v), I (cod_fa v)], I 0]) ∧ OwnS w.heap.size w' (.slice va (cod_sc v).length vc) (cod_sc v)) ∨ (codG k v = false ∧ e = .returned (.tuple #[.agg #[I 0, S [], S [], .slice none 0 0, S [], S [], I 0, I 0, I 0], I 141]))) := by
  have hb0 : Below w.heap.size w ((((w.alloc (.cells #[S k, S v] 30)).alloc (.cells #[I 0, S [], S [], .slice none 0 0, S [], S [], I 0, I 0, I 0] 51)).alloc (.cells #[I 0, S [], S [], .slice none 0 0, S [], S [], I 0, I 0, I 0] 51)).alloc (.cells #[I 0, S [], S [], .slice none 0 0, S [], S [], I 0, I 0, I 0] 51)) := ((((Below.refl _ w).alloc (Nat.le_refl _) _).alloc (by simp) _).alloc (by first | (simp; done) | (simp; omega)) _).alloc (by first | (simp; done) | (simp; omega)) _
  have hP : ((((w.alloc (.cells #[S k, S v] 30)).alloc (.cells #[I 0, S [], S [], .slice none 0 0, S [], S [], I 0, I 0, I 0] 51)).alloc (.cells #[I 0, S [], S [], .slice none 0 0, S [], S [], I 0, I 0, I 0] 51)).alloc (.cells #[I 0, S [], S [], .slice none 0 0, S [], S [], I 0, I 0, I 0] 51)).heap[w.heap.size]? = some (.cells #[S k, S v] 30 (0, 0)) := by
    rw [heap_alloc_old _ _ (by first | (simp; done) | (simp; omega))]; rw [heap_alloc_old _ _ (by first | (simp; done) | (simp; omega))]; rw [heap_alloc_old _ _ (by first | (simp; done) | (simp; omega))]; 
    have e := heap_alloc_new w (.cells #[S k, S v] 30)
    simpa using e
  have hR : ((((w.alloc (.cells #[S k, S v] 30)).alloc (.cells #[I 0, S [], S [], .slice none 0 0, S [], S [], I 0, I 0, I 0] 51)).alloc (.cells #[I 0, S [], S [], .slice none 0 0, S [], S [], I 0, I 0, I 0] 51)).alloc (.cells #[I 0, S [], S [], .slice none 0 0, S [], S [], I 0, I 0, I 0] 51)).heap[w.heap.size + 1]? = some (.cells #[I 0, S [], S [], .slice none 0 0, S [], S [], I 0, I 0, I 0] 51 (0, 0)) := by
    rw [heap_alloc_old _ _ (by first | (simp; done) | (simp; omega))]; rw [heap_alloc_old _ _ (by first | (simp; done) | (simp; omega))]; 
    have e := heap_alloc_new (w.alloc (.cells #[S k, S v] 30)) (.cells #[I 0, S [], S [], .slice none 0 0, S [], S [], I 0, I 0, I 0] 51)
    simpa using e
  have hT : ((((w.alloc (.cells #[S k, S v] 30)).alloc (.cells #[I 0, S [], S [], .slice none 0 0, S [], S [], I 0, I 0, I 0] 51)).alloc (.cells #[I 0, S [], S [], .slice none 0 0, S [], S [], I 0, I 0, I 0] 51)).alloc (.cells #[I 0, S [], S [], .slice none 0 0, S [], S [], I 0, I 0, I 0] 51)).heap[w.heap.size + 1 + 1]? = some (.cells #[I 0, S [], S [], .slice none 0 0, S [], S [], I 0, I 0, I 0] 51 (0, 0)) := by
    rw [heap_alloc_old _ _ (by first | (simp; done) | (simp; omega))]; 
    have e := heap_alloc_new ((w.alloc (.cells #[S k, S v] 30)).alloc (.cells #[I 0, S [], S [], .slice none 0 0, S [], S [], I 0, I 0, I 0] 51)) (.cells #[I 0, S [], S [], .slice none 0 0, S [], S [], I 0, I 0, I 0] 51)
    simpa using e
  have hZ : ((((w.alloc (.cells #[S k, S v] 30)).alloc (.cells #[I 0, S [], S [], .slice none 0 0, S [], S [], I 0, I 0, I 0] 51)).alloc (.cells #[I 0, S [], S [], .slice none 0 0, S [], S [], I 0, I 0, I 0] 51)).alloc (.cells #[I 0, S [], S [], .slice none 0 0, S [], S [], I 0, I 0, I 0] 51)).heap[w.heap.size + 1 + 1 + 1]? = some (.cells #[I 0, S [], S [], .slice none 0 0, S [], S [], I 0, I 0, I 0] 51 (0, 0)) := by
    
    have e := heap_alloc_new (((w.alloc (.cells #[S k, S v] 30)).alloc (.cells #[I 0, S [], S [], .slice none 0 0, S [], S [], I 0, I 0, I 0] 51)).alloc (.cells #[I 0, S [], S [], .slice none 0 0, S [], S [], I 0, I 0, I 0] 51)) (.cells #[I 0, S [], S [], .slice none 0 0, S [], S [], I 0, I 0, I 0] 51)
    simpa using e
  have hsz : ((((w.alloc (.cells #[S k, S v] 30)).alloc (.cells #[I 0, S [], S [], .slice none 0 0, S [], S [], I 0, I 0, I 0] 51)).alloc (.cells #[I 0, S [], S [], .slice none 0 0, S [], S [], I 0, I 0, I 0] 51)).alloc (.cells #[I 0, S [], S [], .slice none 0 0, S [], S [], I 0, I 0, I 0] 51)).heap.size = w.heap.size + 1 + 1 + 1 + 1 := by simp
  have h_cl : (cod_cl v).length ≤ 9223372036854775807 := Nat.le_trans (tv_len _ _) (by decide)
  have h_su : (cod_su v).length ≤ 9223372036854775807 := Nat.le_trans (tv_len _ _) (by decide)
  have hrgt : right (cod_sc v) = true := parse_ok _
  have hsl : (cod_sc v).length ≤ 140737488355000 := by have := (right_small hrgt).1; omega
  have hln : Lns (cod_sc v) := lns_right hrgt
  have HG : Hid (codG k v = (codP (cod_id k) (cod_cl v) (cod_su v) (cod_sc v) (cod_ha v) (cod_ch v) (cod_un v) (cod_st v) (cod_fa v) == ((k, v), 0))) := hide rfl
  generalize codG k v = GG at *
  go_enter Tryz.func92, Tryz.ntmps92
  go_wp2_with fail
  generalize (((w.alloc (.cells #[S k, S v] 30)).alloc (.cells #[I 0, S [], S [], .slice none 0 0, S [], S [], I 0, I 0, I 0] 51)).alloc (.cells #[I 0, S [], S [], .slice none 0 0, S [], S [], I 0, I 0, I 0] 51)).alloc (.cells #[I 0, S [], S [], .slice none 0 0, S [], S [], I 0, I 0, I 0] 51) = W1 at *
  generalize hZe : w.heap.size + 1 + 1 + 1 = Z at *
  generalize hTe : w.heap.size + 1 + 1 = T at *
  generalize hRe : w.heap.size + 1 = R at *
  generalize hPe : w.heap.size = P at *
  refine rpa92 T P k v rfl (by rfl) (by rfl) _ W1 (by simp) rfl rfl rfl (Paq w T P R Z 51 #[I 0, S [], S [], .slice none 0 0, S [], S [], I 0, I 0, I 0] k v (lyf92 W1.heap.size T) (fun W => Rec W1.heap.size T 51 (codRd k v) W))
    ⟨fun _ => 0, ⟨by rw [hPe]; exact hb0.drew, hP, hR, hZ, (fun e => by cases e), fun _ => hT, (fun e => by cases e), (fun e => by cases e)⟩⟩
    (fun i hi c L W hW => hW.pure i (fun e => hi (by simp [e])) (fun e => hi (by simp [e])))
    (fun c L W hW hL _ => ?r1)
    (fun c L W hW _ => s_ldr (T := 30) (n := 2) (fun _ => by kernel_rfl) (fun _ => by kernel_rfl) (o := 0) hW.pb [S k, S v] rfl rfl)
    (fun c L W hW hL h1 _ => ?r3) ?hend
  case r1 =>
    have f3 : L 3 = false := no_of hW.dep hL
    have hTl := lt_of_row (hW.t0 f3)
    have hZl := lt_of_row hW.zb
    refine (lay90 T W).mono ?_
    rintro e w' ⟨c', rfl, hb, hL1, hs0, hs1⟩
    refine ⟨c', fun j hj => ?_, rfl, hW.lay hL hb ⟨W.heap.size, by omega, hTl, by have := lt_of_row hL1; omega, hL1, hs0, hs1⟩⟩
    match j, hj with
    | 0, _ => rfl
    | 1, hj => rw [hL] at hj; cases hj
    | 2, _ => rfl
    | 3, _ => rfl
    | (q + 4), _ => rfl
  case r3 =>
    refine (tk92 W1.heap.size T c W k v hk hv (hW.ly h1 hL) (hW.t0 hL)).mono ?_
    rintro e w' ⟨rfl, q1, q2⟩
    exact ⟨c, fun _ _ => rfl, rfl, hW.take h1 q2 (by omega) (by omega) (by omega) (by omega) (by omega) (q1.weaken (by have := lt_of_row hW.zb; omega))⟩
  case hend =>
    intro c L W hall hW
    have hrec := hW.fn (hall 3 (by decide))
    obtain ⟨va, vc, hTW, hown⟩ := rc92 hrec
    have HB := hide hW.bel
    have HPB := hide hW.pb
    have HRB := hide hW.rb
    have HZB := hide hW.zb
    have HTB := hide hTW
    have hsc := OwnS.sts hown
    have HOW := hide hown
    have HPr := hide (pr88 (cod_id k) (cod_cl v) (cod_su v) va vc (cod_sc v) (cod_ha v) (cod_ch v) (cod_un v) (cod_st v) (cod_fa v) W h_cl h_su hsc hsl hln)
    have t0 : W.cell? ⟨T, 0, none⟩ = some (I (cod_id k)) := cellr hTW rfl
    have t1 : W.cell? ⟨T, 1, none⟩ = some (S (cod_cl v)) := cellr hTW rfl
    have t2 : W.cell? ⟨T, 2, none⟩ = some (S (cod_su v)) := cellr hTW rfl
    have t3 : W.cell? ⟨T, 3, none⟩ = some (.slice va (cod_sc v).length vc) := cellr hTW rfl
    have t4 : W.cell? ⟨T, 4, none⟩ = some (S (cod_ha v)) := cellr hTW rfl
    have t5 : W.cell? ⟨T, 5, none⟩ = some (S (cod_ch v)) := cellr hTW rfl
    have t6 : W.cell? ⟨T, 6, none⟩ = some (I (cod_un v)) := cellr hTW rfl
    have t7 : W.cell? ⟨T, 7, none⟩ = some (I (cod_st v)) := cellr hTW rfl
    have t8 : W.cell? ⟨T, 8, none⟩ = some (I (cod_fa v)) := cellr hTW rfl
    clear hW hall hrec hb0 hP hR hT hZ hk hv hTW hsc hown hsl hln hrgt h_cl h_su
    generalize codP (cod_id k) (cod_cl v) (cod_su v) (cod_sc v) (cod_ha v) (cod_ch v) (cod_un v) (cod_st v) (cod_fa v) = Q at *
    obtain ⟨⟨q1, q2⟩, q3⟩ := Q
    simp only [Act.put, List.setIfInBounds_toArray, List.set_cons_succ, List.set_cons_zero]
    go_wp2_with fail
    refine (unhide HPr).mono ?_
    rintro e w3 ⟨rfl, hw3⟩
    have HB3 := hide ((unhide HB).trans (hw3.mono (unhide HB).size))
    have hP3 := (hw3.block _ (lt_of_row (unhide HPB))).trans (unhide HPB)
    have hR3 := (hw3.block _ (lt_of_row (unhide HRB))).trans (unhide HRB)
    have hZ3 := (hw3.block _ (lt_of_row (unhide HZB))).trans (unhide HZB)
    have hT3 := (hw3.block _ (lt_of_row (unhide HTB))).trans (unhide HTB)
    have HOW3 := hide (OwnS.below (unhide HOW) hw3 (Nat.le_refl _))
    have hb4 : Below w3.heap.size w3 (w3.alloc (.cells #[S q1, S q2] 30)) := (Below.refl _ _).alloc (Nat.le_refl _) _
    have hA0 : (w3.alloc (.cells #[S q1, S q2] 30)).cell? ⟨w3.heap.size, 0, none⟩ = some (S q1) := cell_new _ _ _ _ _ rfl
    have hA1 : (w3.alloc (.cells #[S q1, S q2] 30)).cell? ⟨w3.heap.size, 1, none⟩ = some (S q2) := cell_new _ _ _ _ _ rfl
    have HB4 := hide ((unhide HB3).trans (hb4.mono (unhide HB3).size))
    replace hP3 := (hb4.block _ (lt_of_row hP3)).trans hP3
    replace hR3 := (hb4.block _ (lt_of_row hR3)).trans hR3
    replace hZ3 := (hb4.block _ (lt_of_row hZ3)).trans hZ3
    replace hT3 := (hb4.block _ (lt_of_row hT3)).trans hT3
    have HOW4 := hide (OwnS.below (unhide HOW3) hb4 (Nat.le_refl _))
    have p0 : (w3.alloc (.cells #[S q1, S q2] 30)).cell? ⟨P, 0, none⟩ = some (S k) := cellr hP3 rfl
    have p1 : (w3.alloc (.cells #[S q1, S q2] 30)).cell? ⟨P, 1, none⟩ = some (S v) := cellr hP3 rfl
    have u0 : (w3.alloc (.cells #[S q1, S q2] 30)).cell? ⟨T, 0, none⟩ = some (I (cod_id k)) := cellr hT3 rfl
    have z0 : (w3.alloc (.cells #[S q1, S q2] 30)).cell? ⟨Z, 0, none⟩ = some (I 0) := cellr hZ3 rfl
    have u1 : (w3.alloc (.cells #[S q1, S q2] 30)).cell? ⟨T, 1, none⟩ = some (S (cod_cl v)) := cellr hT3 rfl
    have z1 : (w3.alloc (.cells #[S q1, S q2] 30)).cell? ⟨Z, 1, none⟩ = some (S []) := cellr hZ3 rfl
    have u2 : (w3.alloc (.cells #[S q1, S q2] 30)).cell? ⟨T, 2, none⟩ = some (S (cod_su v)) := cellr hT3 rfl
    have z2 : (w3.alloc (.cells #[S q1, S q2] 30)).cell? ⟨Z, 2, none⟩ = some (S []) := cellr hZ3 rfl
    have u3 : (w3.alloc (.cells #[S q1, S q2] 30)).cell? ⟨T, 3, none⟩ = some (.slice va (cod_sc v).length vc) := cellr hT3 rfl
    have z3 : (w3.alloc (.cells #[S q1, S q2] 30)).cell? ⟨Z, 3, none⟩ = some (.slice none 0 0) := cellr hZ3 rfl
    have u4 : (w3.alloc (.cells #[S q1, S q2] 30)).cell? ⟨T, 4, none⟩ = some (S (cod_ha v)) := cellr hT3 rfl
    have z4 : (w3.alloc (.cells #[S q1, S q2] 30)).cell? ⟨Z, 4, none⟩ = some (S []) := cellr hZ3 rfl
    have u5 : (w3.alloc (.cells #[S q1, S q2] 30)).cell? ⟨T, 5, none⟩ = some (S (cod_ch v)) := cellr hT3 rfl
    have z5 : (w3.alloc (.cells #[S q1, S q2] 30)).cell? ⟨Z, 5, none⟩ = some (S []) := cellr hZ3 rfl
    have u6 : (w3.alloc (.cells #[S q1, S q2] 30)).cell? ⟨T, 6, none⟩ = some (I (cod_un v)) := cellr hT3 rfl
    have z6 : (w3.alloc (.cells #[S q1, S q2] 30)).cell? ⟨Z, 6, none⟩ = some (I 0) := cellr hZ3 rfl
    have u7 : (w3.alloc (.cells #[S q1, S q2] 30)).cell? ⟨T, 7, none⟩ = some (I (cod_st v)) := cellr hT3 rfl
    have z7 : (w3.alloc (.cells #[S q1, S q2] 30)).cell? ⟨Z, 7, none⟩ = some (I 0) := cellr hZ3 rfl
    have u8 : (w3.alloc (.cells #[S q1, S q2] 30)).cell? ⟨T, 8, none⟩ = some (I (cod_fa v)) := cellr hT3 rfl
    have z8 : (w3.alloc (.cells #[S q1, S q2] 30)).cell? ⟨Z, 8, none⟩ = some (I 0) := cellr hZ3 rfl
    have HR4 := hide hR3
    clear HPr hw3 HB HPB HRB HZB HTB HB3 hP3 hR3 hZ3 hT3 hb4 t0 t1 t2 t3 t4 t5 t6 t7 t8 HOW HOW3
    have hn30 := ne30 q1 q2 k v
    by_cases e0 : q3 = 0
    · subst e0
      by_cases e1 : q1 = k ∧ q2 = v
      · have HGF : Hid (GG = true) := hide (by rw [unhide HG]; simp [e1])
        have hb1 : (q1 == k && q2 == v) = true := by simp [e1]
        rw [hb1] at hn30
        clear e1 hb1
        go_wp2_with (refine wp_stT (ty := 51) (n := 9) (by kernel_rfl) rfl (.tmp 6) (.tmp 31) rfl R (by rfl) #[I (cod_id k), S (cod_cl v), S (cod_su v), .slice va (cod_sc v).length vc, S (cod_ha v), S (cod_ch v), I (cod_un v), I (cod_st v), I (cod_fa v)] rfl (by simp [Value.oneCell']) (by rfl) #[I 0, S [], S [], .slice none 0 0, S [], S [], I 0, I 0, I 0] rfl (unhide HR4) ?_)
        refine out2c (T := 51) (n := 9) (p := 6) (q := 7) (cs := #[I (cod_id k), S (cod_cl v), S (cod_su v), .slice va (cod_sc v).length vc, S (cod_ha v), S (cod_ch v), I (cod_un v), I (cod_st v), I (cod_fa v)]) (fun _ => by kernel_rfl) (fun _ => by kernel_rfl) (Z := R) (by rfl) (by rfl) (by rfl) (by rfl) (setRow_row (unhide HR4)) (by rfl) ?_
        refine ⟨(setRow_Only (w3.alloc (.cells #[S q1, S q2] 30)) R #[I (cod_id k), S (cod_cl v), S (cod_su v), .slice va (cod_sc v).length vc, S (cod_ha v), S (cod_ch v), I (cod_un v), I (cod_st v), I (cod_fa v)]).below (unhide HB4) (unhide HB4).size (fun q e => by omega), .inl ⟨unhide HGF, va, vc, rfl, ?_⟩⟩
        exact OwnS.below (CtAt.keep (c := .l _) (unhide HOW4) _ (setRow_Only _ R _) (fun q e => by omega)) (Below.refl _ _) (by omega)
      · have HGF : Hid (GG = false) := hide (by rw [unhide HG]; simp; exact fun a b => e1 ⟨a, b⟩)
        have hb1 : (q1 == k && q2 == v) = false := by simp; exact fun a b => e1 ⟨a, b⟩
        rw [hb1] at hn30
        clear e1 hb1
        go_wp2_with (refine wp_stT (ty := 51) (n := 9) (by kernel_rfl) rfl (.tmp 6) (.tmp 30) rfl R (by rfl) #[I 0, S [], S [], .slice none 0 0, S [], S [], I 0, I 0, I 0] rfl (by simp [Value.oneCell']) (by rfl) #[I 0, S [], S [], .slice none 0 0, S [], S [], I 0, I 0, I 0] rfl (unhide HR4) ?_)
        refine out2c (T := 51) (n := 9) (p := 6) (q := 7) (cs := #[I 0, S [], S [], .slice none 0 0, S [], S [], I 0, I 0, I 0]) (fun _ => by kernel_rfl) (fun _ => by kernel_rfl) (Z := R) (by rfl) (by rfl) (by rfl) (by rfl) (setRow_row (unhide HR4)) (by rfl) ?_
        refine ⟨(setRow_Only (w3.alloc (.cells #[S q1, S q2] 30)) R #[I 0, S [], S [], .slice none 0 0, S [], S [], I 0, I 0, I 0]).below (unhide HB4) (unhide HB4).size (fun q e => by omega), .inr ⟨unhide HGF, rfl⟩⟩
    · have HGF : Hid (GG = false) := hide (by rw [unhide HG]; simp [e0])
      have e2 : ((q3 : Int) != 0) = true := by simp; exact e0
      go_wp2_with (refine wp_stT (ty := 51) (n := 9) (by kernel_rfl) rfl (.tmp 6) (.tmp 30) rfl R (by rfl) #[I 0, S [], S [], .slice none 0 0, S [], S [], I 0, I 0, I 0] rfl (by simp [Value.oneCell']) (by rfl) #[I 0, S [], S [], .slice none 0 0, S [], S [], I 0, I 0, I 0] rfl (unhide HR4) ?_)
      refine out2c (T := 51) (n := 9) (p := 6) (q := 7) (cs := #[I 0, S [], S [], .slice none 0 0, S [], S [], I 0, I 0, I 0]) (fun _ => by kernel_rfl) (fun _ => by kernel_rfl) (Z := R) (by rfl) (by rfl) (by rfl) (by rfl) (setRow_row (unhide HR4)) (by rfl) ?_
      refine ⟨(setRow_Only (w3.alloc (.cells #[S q1, S q2] 30)) R #[I 0, S [], S [], .slice none 0 0, S [], S [], I 0, I 0, I 0]).below (unhide HB4) (unhide HB4).size (fun q e => by omega), .inr ⟨unhide HGF, rfl⟩⟩
end Go.Proofs.YtpidmpefodnffaaGreatDoor
namespace Go.Proofs.YtpidmpefodnffaaGreatDoor
open Go.RowKit
set_option maxHeartbeats 4000000
set_option maxRecDepth 8000
theorem Print28 (id : Int) (cl : Bs) (su : Bs) (va : Option Addr) (vc : Nat) (sc : List Bs) (ha : Bs) (ch : Bs) (un : Int) (st : Int) (fa : Int) (w : World) (h_cl : cl.length ≤ 9223372036854775807) (h_su : su.length ≤ 9223372036854775807) (hsc : Sts w va sc.length sc) (hsl : sc.length ≤ 140737488355000) (hln : Lns sc) : Calls Tryz.prog 28 #[.agg #[I id, S cl, S su, .slice va sc.length vc, S ha, S ch, I un, I st, I fa]] w fun e w' => e = .returned (.tuple #[.agg #[S (codP id cl su sc ha ch un st fa).1.1, S (codP id cl su sc ha ch un st fa).1.2], I (codP id cl su sc ha ch un st fa).2]) ∧ Below w.heap.size w w' := by
  have hb0 : Below w.heap.size w ((w.alloc (.cells #[I id, S cl, S su, .slice va sc.length vc, S ha, S ch, I un, I st, I fa] 51)).alloc (.cells #[S [], S []] 30)) := ((Below.refl _ w).alloc (Nat.le_refl _) _).alloc (by simp) _
  have hT : ((w.alloc (.cells #[I id, S cl, S su, .slice va sc.length vc, S ha, S ch, I un, I st, I fa] 51)).alloc (.cells #[S [], S []] 30)).heap[w.heap.size]? = some (.cells #[I id, S cl, S su, .slice va sc.length vc, S ha, S ch, I un, I st, I fa] 51 (0, 0)) := by
    rw [heap_alloc_old _ _ (by simp)]; exact heap_alloc_new _ _
  have hR : ((w.alloc (.cells #[I id, S cl, S su, .slice va sc.length vc, S ha, S ch, I un, I st, I fa] 51)).alloc (.cells #[S [], S []] 30)).heap[w.heap.size + 1]? = some (.cells #[S [], S []] 30 (0, 0)) := by
    have e := heap_alloc_new (w.alloc (.cells #[I id, S cl, S su, .slice va sc.length vc, S ha, S ch, I un, I st, I fa] 51)) (.cells #[S [], S []] 30)
    simpa using e
  have HPr := hide (pr88 id cl su va vc sc ha ch un st fa ((w.alloc (.cells #[I id, S cl, S su, .slice va sc.length vc, S ha, S ch, I un, I st, I fa] 51)).alloc (.cells #[S [], S []] 30)) h_cl h_su (Sts.bel hsc hb0) hsl hln)
  have c0 : ((w.alloc (.cells #[I id, S cl, S su, .slice va sc.length vc, S ha, S ch, I un, I st, I fa] 51)).alloc (.cells #[S [], S []] 30)).cell? ⟨w.heap.size, 0, none⟩ = some (I id) := cellr hT rfl
  have c1 : ((w.alloc (.cells #[I id, S cl, S su, .slice va sc.length vc, S ha, S ch, I un, I st, I fa] 51)).alloc (.cells #[S [], S []] 30)).cell? ⟨w.heap.size, 1, none⟩ = some (S cl) := cellr hT rfl
  have c2 : ((w.alloc (.cells #[I id, S cl, S su, .slice va sc.length vc, S ha, S ch, I un, I st, I fa] 51)).alloc (.cells #[S [], S []] 30)).cell? ⟨w.heap.size, 2, none⟩ = some (S su) := cellr hT rfl
  have c3 : ((w.alloc (.cells #[I id, S cl, S su, .slice va sc.length vc, S ha, S ch, I un, I st, I fa] 51)).alloc (.cells #[S [], S []] 30)).cell? ⟨w.heap.size, 3, none⟩ = some (.slice va sc.length vc) := cellr hT rfl
  have c4 : ((w.alloc (.cells #[I id, S cl, S su, .slice va sc.length vc, S ha, S ch, I un, I st, I fa] 51)).alloc (.cells #[S [], S []] 30)).cell? ⟨w.heap.size, 4, none⟩ = some (S ha) := cellr hT rfl
  have c5 : ((w.alloc (.cells #[I id, S cl, S su, .slice va sc.length vc, S ha, S ch, I un, I st, I fa] 51)).alloc (.cells #[S [], S []] 30)).cell? ⟨w.heap.size, 5, none⟩ = some (S ch) := cellr hT rfl
  have c6 : ((w.alloc (.cells #[I id, S cl, S su, .slice va sc.length vc, S ha, S ch, I un, I st, I fa] 51)).alloc (.cells #[S [], S []] 30)).cell? ⟨w.heap.size, 6, none⟩ = some (I un) := cellr hT rfl
  have c7 : ((w.alloc (.cells #[I id, S cl, S su, .slice va sc.length vc, S ha, S ch, I un, I st, I fa] 51)).alloc (.cells #[S [], S []] 30)).cell? ⟨w.heap.size, 7, none⟩ = some (I st) := cellr hT rfl
  have c8 : ((w.alloc (.cells #[I id, S cl, S su, .slice va sc.length vc, S ha, S ch, I un, I st, I fa] 51)).alloc (.cells #[S [], S []] 30)).cell? ⟨w.heap.size, 8, none⟩ = some (I fa) := cellr hT rfl
  generalize hW1 : ((w.alloc (.cells #[I id, S cl, S su, .slice va sc.length vc, S ha, S ch, I un, I st, I fa] 51)).alloc (.cells #[S [], S []] 30)) = W1 at *
  have HR := hide hR
  have HB := hide hb0
  clear hT hR hb0 hsc hsl hln
  generalize codP id cl su sc ha ch un st fa = Q at *
  obtain ⟨⟨q1, q2⟩, q3⟩ := Q
  go_enter Tryz.func28, Tryz.ntmps28
  go_wp2_with fail
  refine (unhide HPr).mono ?_
  rintro e w2 ⟨rfl, hw2⟩
  have HB2 := hide ((unhide HB).trans (hw2.mono (unhide HB).size))
  have HR2 := hide ((hw2.block _ (lt_of_row (unhide HR))).trans (unhide HR))
  clear hw2 HPr HB HR c0 c1 c2 c3 c4 c5 c6 c7 c8 hW1
  go_wp2_with (refine wp_st30 rfl (.tmp 2) (.tmp 6) rfl (w.heap.size + 1) (by rfl) q1 q2 (by rfl) #[S [], S []] rfl (unhide HR2) ?_)
  refine out2c (T := 30) (n := 2) (p := 2) (q := 3) (cs := #[S q1, S q2]) (fun _ => by kernel_rfl) (fun _ => by kernel_rfl) (Z := w.heap.size + 1) (by rfl) (by rfl) (by rfl) (by rfl) (setRow_row (unhide HR2)) (by rfl) ?_
  exact ⟨rfl, (setRow_Only w2 (w.heap.size + 1) #[S q1, S q2]).below (unhide HB2) (unhide HB2).size (fun k e => by omega)⟩
theorem Parse30 (k v : Bs) (w : World) (hk : k.length ≤ 9223372036854775807) (hv : v.length ≤ 9223372036854775807) : Calls Tryz.prog 30 #[.agg #[S k, S v]] w fun e w' => Below w.heap.size w w' ∧ ((codG k v = true ∧ ∃ va vc, e = .returned (.tuple #[.agg #[I (cod_id k), S (cod_cl v), S (cod_su v), .slice va (cod_sc v).length vc, S (cod_ha v), S (cod_ch v), I (cod_un v), I (cod_st v), I (cod_fa v)], I 0]) ∧ OwnS w.heap.size w' (.slice va (cod_sc v).length vc) (cod_sc v)) ∨ (codG k v = false ∧ e = .returned (.tuple #[.agg #[I 0, S [], S [], .slice none 0 0, S [], S [], I 0, I 0, I 0], I 141]))) := by
  have hb0 : Below w.heap.size w ((w.alloc (.cells #[S k, S v] 30)).alloc (.cells #[I 0, S [], S [], .slice none 0 0, S [], S [], I 0, I 0, I 0] 51)) := ((Below.refl _ w).alloc (Nat.le_refl _) _).alloc (by simp) _
  have hT : ((w.alloc (.cells #[S k, S v] 30)).alloc (.cells #[I 0, S [], S [], .slice none 0 0, S [], S [], I 0, I 0, I 0] 51)).heap[w.heap.size]? = some (.cells #[S k, S v] 30 (0, 0)) := by
    rw [heap_alloc_old _ _ (by simp)]; exact heap_alloc_new _ _
  have hR : ((w.alloc (.cells #[S k, S v] 30)).alloc (.cells #[I 0, S [], S [], .slice none 0 0, S [], S [], I 0, I 0, I 0] 51)).heap[w.heap.size + 1]? = some (.cells #[I 0, S [], S [], .slice none 0 0, S [], S [], I 0, I 0, I 0] 51 (0, 0)) := by
    have e := heap_alloc_new (w.alloc (.cells #[S k, S v] 30)) (.cells #[I 0, S [], S [], .slice none 0 0, S [], S [], I 0, I 0, I 0] 51)
    simpa using e
  have hsz : ((w.alloc (.cells #[S k, S v] 30)).alloc (.cells #[I 0, S [], S [], .slice none 0 0, S [], S [], I 0, I 0, I 0] 51)).heap.size = w.heap.size + 2 := by simp
  have HPr := hide (pa92 k v ((w.alloc (.cells #[S k, S v] 30)).alloc (.cells #[I 0, S [], S [], .slice none 0 0, S [], S [], I 0, I 0, I 0] 51)) hk hv)
  have c0 : ((w.alloc (.cells #[S k, S v] 30)).alloc (.cells #[I 0, S [], S [], .slice none 0 0, S [], S [], I 0, I 0, I 0] 51)).cell? ⟨w.heap.size, 0, none⟩ = some (S k) := cellr hT rfl
  have c1 : ((w.alloc (.cells #[S k, S v] 30)).alloc (.cells #[I 0, S [], S [], .slice none 0 0, S [], S [], I 0, I 0, I 0] 51)).cell? ⟨w.heap.size, 1, none⟩ = some (S v) := cellr hT rfl
  generalize hW1 : ((w.alloc (.cells #[S k, S v] 30)).alloc (.cells #[I 0, S [], S [], .slice none 0 0, S [], S [], I 0, I 0, I 0] 51)) = W1 at *
  have HR := hide hR
  have HB := hide hb0
  have HS := hide hsz
  clear hT hR hb0 hk hv hsz
  generalize codG k v = GG at *
  go_enter Tryz.func30, Tryz.ntmps30
  go_wp2_with fail
  refine (unhide HPr).mono ?_
  rintro e w2 ⟨hw2, hor⟩
  have HB2 := hide ((unhide HB).trans (hw2.mono (unhide HB).size))
  have HR2 := hide ((hw2.block _ (lt_of_row (unhide HR))).trans (unhide HR))
  clear hw2 HPr HB HR c0 c1 hW1
  rcases hor with ⟨hg, va, vc, rfl, hown⟩ | ⟨hg, rfl⟩
  · have HGF := hide hg
    have HOW := hide hown
    clear hown
    clear hg
    go_wp2_with (refine wp_stT (ty := 51) (n := 9) (by kernel_rfl) rfl (.tmp 2) (.tmp 6) rfl (w.heap.size + 1) (by rfl) #[I (cod_id k), S (cod_cl v), S (cod_su v), .slice va (cod_sc v).length vc, S (cod_ha v), S (cod_ch v), I (cod_un v), I (cod_st v), I (cod_fa v)] rfl (by simp [Value.oneCell']) (by rfl) #[I 0, S [], S [], .slice none 0 0, S [], S [], I 0, I 0, I 0] rfl (unhide HR2) ?_)
    refine out2c (T := 51) (n := 9) (p := 2) (q := 3) (cs := #[I (cod_id k), S (cod_cl v), S (cod_su v), .slice va (cod_sc v).length vc, S (cod_ha v), S (cod_ch v), I (cod_un v), I (cod_st v), I (cod_fa v)]) (fun _ => by kernel_rfl) (fun _ => by kernel_rfl) (Z := w.heap.size + 1) (by rfl) (by rfl) (by rfl) (by rfl) (setRow_row (unhide HR2)) (by rfl) ?_
    refine ⟨(setRow_Only w2 (w.heap.size + 1) #[I (cod_id k), S (cod_cl v), S (cod_su v), .slice va (cod_sc v).length vc, S (cod_ha v), S (cod_ch v), I (cod_un v), I (cod_st v), I (cod_fa v)]).below (unhide HB2) (unhide HB2).size (fun k e => by omega), .inl ⟨unhide HGF, va, vc, rfl, ?_⟩⟩
    exact OwnS.below (CtAt.keep (c := .l _) (unhide HOW) _ (setRow_Only _ (w.heap.size + 1) _) (fun q e => by have := unhide HS; omega)) (Below.refl _ _) (by have := unhide HS; omega)
  · have HGF := hide hg
    clear hg
    go_wp2_with (refine wp_stT (ty := 51) (n := 9) (by kernel_rfl) rfl (.tmp 2) (.tmp 6) rfl (w.heap.size + 1) (by rfl) #[I 0, S [], S [], .slice none 0 0, S [], S [], I 0, I 0, I 0] rfl (by simp [Value.oneCell']) (by rfl) #[I 0, S [], S [], .slice none 0 0, S [], S [], I 0, I 0, I 0] rfl (unhide HR2) ?_)
    refine out2c (T := 51) (n := 9) (p := 2) (q := 3) (cs := #[I 0, S [], S [], .slice none 0 0, S [], S [], I 0, I 0, I 0]) (fun _ => by kernel_rfl) (fun _ => by kernel_rfl) (Z := w.heap.size + 1) (by rfl) (by rfl) (by rfl) (by rfl) (setRow_row (unhide HR2)) (by rfl) ?_
    refine ⟨(setRow_Only w2 (w.heap.size + 1) #[I 0, S [], S [], .slice none 0 0, S [], S [], I 0, I 0, I 0]).below (unhide HB2) (unhide HB2).size (fun k e => by omega), .inr ⟨unhide HGF, rfl⟩⟩
end Go.Proofs.YtpidmpefodnffaaGreatDoor
