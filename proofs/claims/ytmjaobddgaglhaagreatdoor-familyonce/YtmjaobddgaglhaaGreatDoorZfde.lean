import Derived.Test.YtmjaobddgaglhaaGreatDoorZfda
import Derived.Test.YtmjaobddgaglhaaGreatDoorZscf
namespace Go.Proofs.YtmjaobddgaglhaaGreatDoor
open Go.RowKit
set_option maxHeartbeats 4000000
set_option maxRecDepth 8000
theorem cell_new (w : World) (vs : Array Value) (t : TypeId) (j : Nat) (v : Value) (h : vs[j]? = some v) : (w.alloc (.cells vs t)).cell? ⟨w.heap.size, j, none⟩ = some v := by
  have e : (w.alloc (.cells vs t)).heap[w.heap.size]? = some (.cells vs t (0, 0)) := by
    show (w.heap.push _)[w.heap.size]? = _
    simp
  unfold World.cell?
  rw [e]
  exact h
theorem lns_right {u : List Bs} (hr : right u = true) : Lns u := by
  intro j
  by_cases hj : j < u.length
  · have h1 := (right_iff.1 hr).1 u[j] (List.getElem_mem hj)
    have : u.getD j [] = u[j] := by simp [hj]
    rw [this]
    simp [nm] at h1
    omega
  · simp [hj]
theorem Sts.bel {w0 w : World} {a : Option Addr} {n : Nat} {l : List Bs} (h : Sts w0 a n l) (hb : Below w0.heap.size w0 w) : Sts w a n l := h.below hb
theorem putN {w0 w : World} {b : Nat} {Y : Bs} (h : Wt w0 b Y w) (p : Addr) (n : Nat) (a : Option Addr) (cap : Nat) (u : List Bs) (hp : w0.cell? p = some (.slice a u.length cap)) (hu : Sts w0 a u.length u) (hr : right u = true) (hn : n ≤ 255) (h60 : 60 ≤ n) (hY : Y.length ≤ 1000000000) :
    Calls Tryz.prog 195 #[.agg #[PT p, I n, FN 111, FN 112], ptr b] w fun e w' => e = .returned (.tuple #[]) ∧ Wt w0 b (Y ++ (be 1 (tx u).length ++ tx u)) w' := by
  have hsm := right_small hr
  have hpr := print_right hr
  have hA := h.more (.cells #[PT p, I n, FN 111, FN 112] 139)
  have hc : (w.alloc (.cells #[PT p, I n, FN 111, FN 112] 139)).cell? p = some (.slice a u.length cap) := cell_below hp hA.below (cell_lt hp)
  have HP : Hid (Calls Tryz.prog 196 #[.slice a u.length cap] (w.alloc (.cells #[PT p, I n, FN 111, FN 112] 139)) fun e w' => e = .returned (.tuple #[S (tx u), I 0]) ∧ Below (w.alloc (.cells #[PT p, I n, FN 111, FN 112] 139)).heap.size (w.alloc (.cells #[PT p, I n, FN 111, FN 112] 139)) w') := hide (by
    have q := Print_any a u.length cap u (w.alloc (.cells #[PT p, I n, FN 111, FN 112] 139)) (Sts.bel hu hA.below) (by omega) (lns_right hr)
    rw [hpr] at q
    exact q)
  have HA := hide hA
  have HT := hide (fun (W : World) (q : Wt w0 b Y W) => q.text n (tx u) hn (by omega) hY)
  have hq : ∀ j v, (#[PT p, I n, FN 111, FN 112] : Array Value)[j]? = some v → (w.alloc (.cells #[PT p, I n, FN 111, FN 112] 139)).cell? ⟨w.heap.size, j, none⟩ = some v := fun j v e => cell_new _ _ _ _ _ e
  have HQ := hide hq
  clear hA hu hr hn h60 hY h hp hq
  generalize hZ : Y ++ (be 1 (tx u).length ++ tx u) = Z at *
  clear hZ
  generalize tx u = x at *
  generalize u.length = m at *
  go_enter Tryz.func195, Tryz.ntmps195
  go_wp2_with fail
  refine (unhide HP).mono ?_
  rintro e w2 ⟨rfl, hw2⟩
  have hlt : w.heap.size < (w.alloc (.cells #[PT p, I n, FN 111, FN 112] 139)).heap.size := by simp
  have c1 : w2.cell? ⟨w.heap.size, 1, none⟩ = some (I n) := cell_below (unhide HQ 1 _ rfl) hw2 hlt
  have c2 : w2.cell? ⟨w.heap.size, 2, none⟩ = some (FN 111) := cell_below (unhide HQ 2 _ rfl) hw2 hlt
  have HT2 := hide (unhide HT _ ((unhide HA).keep hw2))
  clear hw2 HQ HT HA HP hc hsm hpr hlt
  generalize w.heap.size = X at *
  go_wp2_with fail
  refine (unhide HT2).mono ?_
  rintro e w3 ⟨rfl, hw3⟩
  have HW3 := hide hw3
  clear hw3 HT2 c1 c2
  go_wp2
  go_end0
  exact ⟨rfl, unhide HW3⟩
theorem Pf.N {w0 : World} (p : Addr) (n : Nat) (a : Option Addr) (cap : Nat) (u : List Bs) (hp : w0.cell? p = some (.slice a u.length cap)) (hu : Sts w0 a u.length u) (hr : right u = true) (hn : n ≤ 255) (h60 : 60 ≤ n) : Pf w0 (.iface 139 (.agg #[PT p, .int .i64 n, FN 111, FN 112])) (be 1 (tx u).length ++ tx u) :=
  ⟨139, _, 195, rfl, mp200 _, cf Tryz.func195 (by kernel_rfl) rfl, fun _ _ _ h hY => putN h p n a cap u hp hu hr hn h60 (by omega)⟩
/-- Truths as a number. -/
def bv : List Bool → Nat
  | [] => 0
  | t :: r => (if t then 1 else 0) + 2 * bv r
theorem putB {w0 w : World} {b : Nat} {Y : Bs} (h : Wt w0 b Y w) (q : Nat) (ps : List Addr) (ts : List Bool) (hl : ts.length = ps.length) (hk : ps.length ≤ 2) (hq : ∀ j, j < ps.length → w0.cell? ⟨q, j, none⟩ = some (PT (ps.getD j default))) (hp : ∀ j, j < ps.length → w0.cell? (ps.getD j default) = some (.bool (ts.getD j false))) (hY : Y.length ≤ 1000000000) :
    Calls Tryz.prog 197 #[.agg #[.slice (some ⟨q, 0, none⟩) ps.length ps.length, I 1, FN 94, FN 110], ptr b] w fun e w' => e = .returned (.tuple #[]) ∧ Wt w0 b (Y ++ be 1 (bv ts)) w' := by
  generalize hkk : ps.length = k at *
  have hA := h.more (.cells #[.slice (some ⟨q, 0, none⟩) k k, I 1, FN 94, FN 110] 144)
  have hq' : ∀ j, j < k → (w.alloc (.cells #[.slice (some ⟨q, 0, none⟩) k k, I 1, FN 94, FN 110] 144)).cell? ⟨q, j, none⟩ = some (PT (ps.getD j default)) := fun j hj => cell_below (hq j hj) hA.below (cell_lt (hq j hj))
  have hp' : ∀ j, j < k → (w.alloc (.cells #[.slice (some ⟨q, 0, none⟩) k k, I 1, FN 94, FN 110] 144)).cell? (ps.getD j default) = some (.bool (ts.getD j false)) := fun j hj => cell_below (hp j hj) hA.below (cell_lt (hp j hj))
  have hbv : bv ts ≤ 3 ∧ ((k = 0 → bv ts = 0) ∧ (k = 1 → bv ts = if ts.getD 0 false then 1 else 0) ∧ (k = 2 → bv ts = (if ts.getD 0 false then 1 else 0) + if ts.getD 1 false then 2 else 0)) := by
    match ts, hl with
    | [], e => simp at e; subst e; simp [bv]
    | [t0], e => simp at e; subst e; cases t0 <;> simp [bv]
    | [t0, t1], e => simp at e; subst e; cases t0 <;> cases t1 <;> simp [bv]
    | _ :: _ :: _ :: _, e => simp at e; omega
  have HN := hide (hA.num 1 (bv ts) (by omega) (by omega) (by omega) (by omega) (by omega) hY)
  have HV := hide hbv.2
  have HQ := hide hq'
  have HP := hide hp'
  rw [Int.toNat_natCast] at HN
  clear hA hq hp hq' hp' h hY hbv hl hkk
  generalize bv ts = B at *
  go_enter Tryz.func197, Tryz.ntmps197
  go_wp2_with fail
  generalize hW : w.alloc (.cells #[.slice (some ⟨q, 0, none⟩) k k, I 1, FN 94, FN 110] 144) = W1 at *
  have hc : ∀ j v, (#[.slice (some ⟨q, 0, none⟩) k k, I 1, FN 94, FN 110] : Array Value)[j]? = some v → W1.cell? ⟨w.heap.size, j, none⟩ = some v := fun j v e => by rw [← hW]; exact cell_new _ _ _ _ _ e
  have c0 : W1.cell? ⟨w.heap.size, 0, none⟩ = some (.slice (some ⟨q, 0, none⟩) k k) := hc 0 _ rfl
  have c1 : W1.cell? ⟨w.heap.size, 1, none⟩ = some (I 1) := hc 1 _ rfl
  have c2 : W1.cell? ⟨w.heap.size, 2, none⟩ = some (FN 94) := hc 2 _ rfl
  clear hc hW
  generalize w.heap.size = X at *
  go_wp2_with fail
  go_loop [10, 4, 5, 6] (fun i m _ _ => ∃ j : Nat, j ≤ k ∧ i = I j ∧ (j = 0 → m = I 0) ∧ (j = 1 → m = I (if ts.getD 0 false then 1 else 0)) ∧ (j = 2 → m = I ((if ts.getD 0 false then 1 else 0) + if ts.getD 1 false then 2 else 0))) (fun i _ _ _ => k - (Go.RowKit.intOf i).toNat)
  case atStart => exact ⟨0, Nat.zero_le _, rfl, fun _ => rfl, fun e => absurd e (by decide), fun e => absurd e (by decide)⟩
  case round =>
    obtain ⟨j, hj, rfl, m0, m1, m2⟩ := hrel
    by_cases hlt : j < k
    · have q0 := unhide HQ j hlt
      have q1 := unhide HP j hlt
      generalize ps.getD j default = A at *
      have h01 : j = 0 ∨ j = 1 := by omega
      rcases h01 with rfl | rfl
      · have e := m0 rfl
        subst e
        have hlt' : (0 : Int) < (k : Int) := by omega
        clear HN HV HQ HP m0 m1 m2 c0 c1 c2
        cases ht : ts.getD 0 false <;> rw [ht] at q1
        · go_wp2
          refine ⟨⟨1, by omega, by go_num, fun e => absurd e (by decide), fun _ => rfl, fun e => absurd e (by decide)⟩, ?_⟩
          simp [Go.RowKit.intOf]; omega
        · go_wp2
          refine ⟨⟨1, by omega, by go_num, fun e => absurd e (by decide), fun _ => rfl, fun e => absurd e (by decide)⟩, ?_⟩
          simp [Go.RowKit.intOf]; omega
      · have e := m1 rfl
        subst e
        have hlt' : (1 : Int) < (k : Int) := by omega
        clear HN HV HQ HP m0 m1 m2 c0 c1 c2
        cases ht : ts.getD 1 false <;> cases hs : ts.getD 0 false <;> rw [ht] at q1
        all_goals simp only [if_true, if_false, Bool.false_eq_true]
        all_goals go_wp2
        all_goals refine ⟨⟨2, by omega, by go_num, fun e => absurd e (by decide), fun e => absurd e (by decide), fun _ => rfl⟩, ?_⟩
        all_goals (simp [Go.RowKit.intOf]; omega)
    · have ek : j = k := by omega
      subst ek
      have hd : ¬ (j : Int) < (j : Int) := by omega
      have em : u4 = I B := by
        obtain ⟨v0, v1, v2⟩ := unhide HV
        have : j = 0 ∨ j = 1 ∨ j = 2 := by omega
        rcases this with e | e | e
        · rw [m0 e, v0 e]; rfl
        · rw [m1 e, v1 e]; split <;> rfl
        · rw [m2 e, v2 e]; split <;> split <;> rfl
      subst em
      clear HV HQ HP m0 m1 m2 c0
      go_wp2_with fail
      refine (unhide HN).mono ?_
      rintro e w3 ⟨rfl, hw3⟩
      have HW3 := hide hw3
      clear hw3 HN c1 c2
      go_wp2
      go_end0
      exact ⟨rfl, unhide HW3⟩
theorem Pf.B {w0 : World} (q : Nat) (ps : List Addr) (ts : List Bool) (hl : ts.length = ps.length) (hk : ps.length ≤ 2) (hq : ∀ j, j < ps.length → w0.cell? ⟨q, j, none⟩ = some (PT (ps.getD j default))) (hp : ∀ j, j < ps.length → w0.cell? (ps.getD j default) = some (.bool (ts.getD j false))) :
    Pf w0 (.iface 144 (.agg #[.slice (some ⟨q, 0, none⟩) ps.length ps.length, .int .i64 1, FN 94, FN 110])) (be 1 (bv ts)) :=
  ⟨144, _, 197, rfl, mp190 _, cf Tryz.func197 (by kernel_rfl) rfl, fun _ _ _ h hY => putB h q ps ts hl hk hq hp (by omega)⟩
end Go.Proofs.YtmjaobddgaglhaaGreatDoor
namespace Go.Proofs.YtmjaobddgaglhaaGreatDoor
open Go.RowKit
set_option maxHeartbeats 4000000
set_option maxRecDepth 8000
theorem upd_or {L : Nat → Bool} {i k : Nat} (h : upd L i k = true) : k = i ∨ L k = true := by
  by_cases q : k = i
  · exact .inl q
  · rw [upd_ne q] at h; exact .inr h
theorem upd_tr {L : Nat → Bool} {i k : Nat} (h : L k = true) : upd L i k = true := by
  by_cases q : k = i
  · subst q; simp [upd]
  · rw [upd_ne q]; exact h
section
variable {w : World} {b g : Nat} {s s' : Bs × Nat} {p : Addr} {u : List Bs} {x : Nat} {vs : Array Value} {t : TypeId} {c : Cnm} {L : Nat → Bool} {W : World}
end
end Go.Proofs.YtmjaobddgaglhaaGreatDoor
namespace Go.Proofs.YtmjaobddgaglhaaGreatDoor
open Go.RowKit
set_option maxHeartbeats 4000000
set_option maxRecDepth 8000
/-- What a field of a record holds. -/
inductive Ct
  | n (z : Int)
  | s (x : Bs)
  | b (t : Bool)
  | z
  | l (u : List Bs)
def CtAt (B : Nat) (w : World) : Ct → Value → Prop
  | .n z, v => v = I z
  | .s x, v => v = S x
  | .b t, v => v = .bool t
  | .z, v => v = .slice none 0 0
  | .l u, v => OwnS B w v u
theorem CtAt.keep {B : Nat} {w w' : World} {c : Ct} {v : Value} (h : CtAt B w c v) (P : Nat → Prop) (ho : Only P w w') (hp : ∀ k, P k → k < B) : CtAt B w' c v := by
  cases c with
  | n z => exact h
  | s x => exact h
  | b t => exact h
  | z => exact h
  | l u =>
    refine ⟨h.1, ?_⟩
    rcases h.2 with q | ⟨g, cap, cur, e1, e2, e3, e4⟩
    · exact .inl q
    · exact .inr ⟨g, cap, cur, e1, e2, (ho.block g (lt_of_row e3) (fun q => by have := hp g q; omega)).trans e3, e4⟩
section
variable {B T b g : Nat} {ty : TypeId} {Ls : List Nat} {Fx : List (Nat × Obj)} {s s' : Bs × Nat} {cs : List Ct} {w w2 : World}
end
end Go.Proofs.YtmjaobddgaglhaaGreatDoor
namespace Go.Proofs.YtmjaobddgaglhaaGreatDoor
open Go.RowKit
set_option maxHeartbeats 4000000
set_option maxRecDepth 8000
theorem setRow_row {w : World} {g : Nat} {cs vs : Array Value} {t : TypeId} {f : Nat × Nat} (h : w.heap[g]? = some (.cells cs t f)) : (w.setRow g vs).heap[g]? = some (.cells vs t f) := setRow_heap w g cs vs t f h
theorem setRow_Only (w : World) (g : Nat) (vs : Array Value) : Only (fun k => k = g) w (w.setRow g vs) := ⟨rfl, rfl, rfl, by simp, fun k _ hk => setRow_other w g k vs hk⟩
theorem lv_row {T : TypeId} {n : Nat} (hA : ∀ w, (isAgg T).run Tryz.prog w = .ok true w) (hs : ∀ w, (sizeOf T).run Tryz.prog w = .ok n w) {w : World} {g : Nat} {cs : Array Value} {t : TypeId} {f : Nat × Nat} (hg : w.heap[g]? = some (.cells cs t f)) (hn : cs.size = n) : (loadVar T ⟨g, 0, none⟩).run Tryz.prog w = .ok (.agg cs) w := by
  have h := s_ldr hA hs (o := 0) hg cs.toList (by simpa using hn) (by rw [List.drop_zero, List.take_of_length_le (by simp [hn])])
  have e : (Instr.loadAt T (.pointer (some ⟨g, 0, none⟩))).run Tryz.prog w = (loadVar T ⟨g, 0, none⟩).run Tryz.prog w := by simp [Instr.loadAt, Instr.sureAddr]
  rw [← e, h]
/-- A struct in its cell and a word come out. -/
theorem out2c {T : TypeId} {n : Nat} (hA : ∀ w, (isAgg T).run Tryz.prog w = .ok true w) (hs : ∀ w, (sizeOf T).run Tryz.prog w = .ok n w) {fn : Func} {p q : Tmp} {W : World} {a : Act} {Z : Nat} {cs : Array Value} {t : TypeId} {v : Value} {Post : Ending → World → Prop} (hf : fn.results = #[.cell p T, .tmp q]) (hd : a.defers = []) (ht : a.tmps.getD p undef = .pointer (some ⟨Z, 0, none⟩)) (hv : a.tmps.getD q undef = v) (h : W.heap[Z]? = some (.cells cs t (0, 0))) (hn : cs.size = n) (hp : Post (.returned (.tuple #[.agg cs, v])) W) : bodyPost Tryz.prog fn Post .ret a W := by
  subst hv
  refine bodyPost_ret ?_ hd hp
  have ht' : a.tmps[p]?.getD undef = .pointer (some ⟨Z, 0, none⟩) := by simpa using ht
  simp only [results, hf]
  simp [ht', asAddr, lv_row hA hs h hn]
theorem out1c {T : TypeId} {n : Nat} (hA : ∀ w, (isAgg T).run Tryz.prog w = .ok true w) (hs : ∀ w, (sizeOf T).run Tryz.prog w = .ok n w) {fn : Func} {p : Tmp} {W : World} {a : Act} {Z : Nat} {cs : Array Value} {t : TypeId} {Post : Ending → World → Prop} (hf : fn.results = #[.cell p T]) (hd : a.defers = []) (ht : a.tmps.getD p undef = .pointer (some ⟨Z, 0, none⟩)) (h : W.heap[Z]? = some (.cells cs t (0, 0))) (hn : cs.size = n) (hp : Post (.returned (.agg cs)) W) : bodyPost Tryz.prog fn Post .ret a W := by
  refine bodyPost_ret ?_ hd hp
  have ht' : a.tmps[p]?.getD undef = .pointer (some ⟨Z, 0, none⟩) := by simpa using ht
  simp only [results, hf]
  simp [ht', asAddr, lv_row hA hs h hn]
theorem no_of {L : Nat → Bool} {a b : Nat} (h : L a = true → L b = true) (hb : L b = false) : L a = false := by
  cases q : L a
  · rfl
  · rw [h q] at hb; exact hb
/-- A row of fields that is built: by which operation, its place, what it holds. -/
structure Sl where
  op : Nat
  ix : Nat
  con : (Nat → Nat) → Array Value
  ty : TypeId
def cset (c : Nat → Nat) (k v : Nat) : Nat → Nat := fun j => if j = k then v else c j
/-- Between two operations of a lay function. -/
structure Ly (w1 : World) (R : Nat) (z v : (Nat → Nat) → Array Value) (S : Nat) (SL : List Sl) (D : List (Nat × Nat)) (c : Nat → Nat) (L : Nat → Bool) (W : World) : Prop where
  only : Only (fun k => k = R) w1 W
  sl : ∀ s, s ∈ SL → L s.op = true → w1.heap.size ≤ c s.ix ∧ W.heap[c s.ix]? = some (.cells (s.con c) s.ty (0, 0))
  dep : ∀ d, d ∈ D → L d.1 = true → L d.2 = true
  box : W.heap[R]? = some (.cells (if L S = true then v c else z c) 119 (0, 0))
section
variable {w1 : World} {R : Nat} {z v : (Nat → Nat) → Array Value} {S : Nat} {SL : List Sl} {D : List (Nat × Nat)} {c : Nat → Nat} {L : Nat → Bool} {W : World}
theorem Ly.pure (h : Ly w1 R z v S SL D c L W) (i : Nat) (h1 : ∀ s, s ∈ SL → s.op ≠ i) (h2 : ∀ d, d ∈ D → d.1 = i → L d.2 = true) (h3 : i ≠ S) : Ly w1 R z v S SL D c (upd L i) W := by
  refine ⟨h.only, fun s hs e => ?_, fun d hd e => ?_, ?_⟩
  · rw [upd_ne (h1 s hs)] at e; exact h.sl s hs e
  · rcases upd_or e with q | q
    · exact upd_tr (h2 d hd q)
    · exact upd_tr (h.dep d hd q)
  · rw [upd_ne (fun e => h3 e.symm)]; exact h.box
theorem Ly.slice (h : Ly w1 R z v S SL D c L W) (s0 : Sl) (hS : L S = false) (hne : S ≠ s0.op) (hz : ∀ c', z c' = z c) (h2 : ∀ d, d ∈ D → d.1 = s0.op → L d.2 = true) (h3 : ∀ s, s ∈ SL → L s.op = true → s.ix ≠ s0.ix ∧ ∀ m, s.con (cset c s0.ix m) = s.con c) (h4 : ∀ s, s ∈ SL → s.op = s0.op → s = s0) (h5 : ∀ m, s0.con (cset c s0.ix m) = s0.con c) : Ly w1 R z v S SL D (cset c s0.ix W.heap.size) (upd L s0.op) (W.alloc (.cells (s0.con c) s0.ty)) := by
  have hb : Below W.heap.size W (W.alloc (.cells (s0.con c) s0.ty)) := (Below.refl _ _).alloc (Nat.le_refl _) _
  refine ⟨h.only.more _, fun s hs e => ?_, fun d hd e => ?_, ?_⟩
  · by_cases q : s.op = s0.op
    · have := h4 s hs q
      subst this
      refine ⟨?_, ?_⟩
      · simp only [cset, if_true]; exact h.only.size
      · rw [h5]
        simp only [cset, if_true]
        exact heap_alloc_new W _
    · rw [upd_ne q] at e
      obtain ⟨q1, q2⟩ := h.sl s hs e
      obtain ⟨q3, q4⟩ := h3 s hs e
      have e1 : cset c s0.ix W.heap.size s.ix = c s.ix := by simp [cset, q3]
      rw [e1, q4]
      exact ⟨q1, (hb.block _ (lt_of_row q2)).trans q2⟩
  · rcases upd_or e with q | q
    · exact upd_tr (h2 d hd q)
    · exact upd_tr (h.dep d hd q)
  · have hbx := h.box
    rw [hS] at hbx
    rw [upd_ne hne, hS, hz]
    exact (hb.block _ (lt_of_row hbx)).trans hbx
theorem Ly.store (h : Ly w1 R z v S SL D c L W) (h1 : ∀ s, s ∈ SL → s.op ≠ S ∧ (L s.op = true → c s.ix ≠ R)) (h2 : ∀ d, d ∈ D → d.1 = S → L d.2 = true) : Ly w1 R z v S SL D c (upd L S) (W.setRow R (v c)) := by
  have hbx := h.box
  refine ⟨h.only.trans (setRow_Only W R (v c)) (fun _ _ q => q), fun s hs e => ?_, fun d hd e => ?_, ?_⟩
  · rw [upd_ne (h1 s hs).1] at e
    obtain ⟨q1, q2⟩ := h.sl s hs e
    exact ⟨q1, ((setRow_Only W R (v c)).block _ (lt_of_row q2) ((h1 s hs).2 e)).trans q2⟩
  · rcases upd_or e with q | q
    · exact upd_tr (h2 d hd q)
    · exact upd_tr (h.dep d hd q)
  · have : upd L S S = true := by simp [upd]
    rw [this, if_pos rfl]
    exact setRow_row hbx
end
end Go.Proofs.YtmjaobddgaglhaaGreatDoor
namespace Go.Proofs.YtmjaobddgaglhaaGreatDoor
open Go.RowKit
set_option maxHeartbeats 4000000
set_option maxRecDepth 8000
def vrly96 (T _R L1 : Nat) (c : (Nat → Nat)) (i : Nat) : Value := match i with
  | 0 => (S [116])
  | 1 => (I 1)
  | 2 => (.agg #[(ptr L1), (I 1), (FN 93), (FN 109)])
  | 3 => (vW ⟨L1, 0, none⟩ 1)
  | 4 => (ptr T)
  | 5 => (ptr T)
  | 6 => (.pointer (some ⟨T, 0, none⟩))
  | 7 => (.agg #[(.pointer (some ⟨T, 0, none⟩)), (I 8), (FN 94), (FN 110)])
  | 8 => (vI ⟨T, 0, none⟩ 8)
  | 9 => (.slice (some ⟨c 0, 0, none⟩) 2 2)
  | 10 => (ptr T)
  | 11 => (ptr T)
  | 12 => (.pointer (some ⟨T, 1, none⟩))
  | 13 => (.agg #[(.pointer (some ⟨T, 1, none⟩)), (I 8), (FN 94), (FN 110)])
  | 14 => (vI ⟨T, 1, none⟩ 8)
  | 15 => (ptr T)
  | 16 => (ptr T)
  | 17 => (.pointer (some ⟨T, 2, none⟩))
  | 18 => (.agg #[(.pointer (some ⟨T, 2, none⟩)), (I 4), (FN 94), (FN 110)])
  | 19 => (vI ⟨T, 2, none⟩ 4)
  | 20 => (ptr T)
  | 21 => (ptr T)
  | 22 => (.pointer (some ⟨T, 3, none⟩))
  | 23 => (.agg #[(.pointer (some ⟨T, 3, none⟩)), (I 32), (FN 93), (FN 109)])
  | 24 => (vW ⟨T, 3, none⟩ 32)
  | 25 => (ptr T)
  | 26 => (ptr T)
  | 27 => (.pointer (some ⟨T, 4, none⟩))
  | 28 => (.agg #[(.pointer (some ⟨T, 4, none⟩)), (I 6), (FN 94), (FN 110)])
  | 29 => (vI ⟨T, 4, none⟩ 6)
  | 30 => (ptr T)
  | 31 => (ptr T)
  | 32 => (.pointer (some ⟨T, 5, none⟩))
  | 33 => (.slice (some ⟨c 2, 0, none⟩) 1 1)
  | 34 => (.agg #[(.slice (some ⟨c 2, 0, none⟩) 1 1), (I 1), (FN 94), (FN 110)])
  | 35 => (.iface 144 (.agg #[(.slice (some ⟨c 2, 0, none⟩) 1 1), (I 1), (FN 94), (FN 110)]))
  | 36 => (ptr T)
  | 37 => (ptr T)
  | 38 => (.pointer (some ⟨T, 6, none⟩))
  | 39 => (.agg #[(.pointer (some ⟨T, 6, none⟩)), (I 6), (FN 94), (FN 110)])
  | 40 => (vI ⟨T, 6, none⟩ 6)
  | 41 => (ptr T)
  | 42 => (ptr T)
  | 43 => (.pointer (some ⟨T, 7, none⟩))
  | 44 => (.agg #[(.pointer (some ⟨T, 7, none⟩)), (I 8), (FN 94), (FN 110)])
  | 45 => (vI ⟨T, 7, none⟩ 8)
  | 46 => (ptr T)
  | 47 => (ptr T)
  | 48 => (.pointer (some ⟨T, 8, none⟩))
  | 49 => (.agg #[(.pointer (some ⟨T, 8, none⟩)), (I 24), (FN 111), (FN 112)])
  | 50 => (vT ⟨T, 8, none⟩ 24)
  | 51 => (.slice (some ⟨c 1, 0, none⟩) 8 8)
  | 52 => (.agg #[(.slice (some ⟨c 0, 0, none⟩) 2 2), (.slice (some ⟨c 1, 0, none⟩) 8 8)])
  | 53 => undef
  | _ => undef
def rly96T : List (Op × Option Tmp × Option (Nat × Bool)) := [
  (.load 9 (.tmp 3), some 4, none),
  (.call { callee := .builtin .len, args := #[(.tmp 4)], argTypes := #[9] }, some 5, none),
  (.build 127 #[(0, (.tmp 3)), (1, (.tmp 5)), (2, (.func 93)), (3, (.func 109))], some 6, none),
  (.makeInterface 127 (.tmp 6), some 7, none),
  (.move (.tmp 0), some 8, none),
  (.nilCheck (.tmp 8), some 9, none),
  (.fieldAddr 26 (.tmp 9) 0, some 10, none),
  (.build 132 #[(0, (.tmp 10)), (1, (.const (I 8))), (2, (.func 94)), (3, (.func 110))], some 11, none),
  (.makeInterface 132 (.tmp 11), some 12, none),
  (.buildSlice 117 2 #[(0, (.tmp 7)), (1, (.tmp 12))], some 13, none),
  (.move (.tmp 0), some 14, none),
  (.nilCheck (.tmp 14), some 15, none),
  (.fieldAddr 26 (.tmp 15) 1, some 16, none),
  (.build 132 #[(0, (.tmp 16)), (1, (.const (I 8))), (2, (.func 94)), (3, (.func 110))], some 17, none),
  (.makeInterface 132 (.tmp 17), some 18, none),
  (.move (.tmp 0), some 19, none),
  (.nilCheck (.tmp 19), some 20, none),
  (.fieldAddr 26 (.tmp 20) 2, some 21, none),
  (.build 132 #[(0, (.tmp 21)), (1, (.const (I 4))), (2, (.func 94)), (3, (.func 110))], some 22, none),
  (.makeInterface 132 (.tmp 22), some 23, none),
  (.move (.tmp 0), some 24, none),
  (.nilCheck (.tmp 24), some 25, none),
  (.fieldAddr 26 (.tmp 25) 3, some 26, none),
  (.build 127 #[(0, (.tmp 26)), (1, (.const (I 32))), (2, (.func 93)), (3, (.func 109))], some 27, none),
  (.makeInterface 127 (.tmp 27), some 28, none),
  (.move (.tmp 0), some 29, none),
  (.nilCheck (.tmp 29), some 30, none),
  (.fieldAddr 26 (.tmp 30) 4, some 31, none),
  (.build 132 #[(0, (.tmp 31)), (1, (.const (I 6))), (2, (.func 94)), (3, (.func 110))], some 32, none),
  (.makeInterface 132 (.tmp 32), some 33, none),
  (.move (.tmp 0), some 34, none),
  (.nilCheck (.tmp 34), some 35, none),
  (.fieldAddr 26 (.tmp 35) 5, some 36, none),
  (.buildSlice 142 1 #[(0, (.tmp 36))], some 37, none),
  (.build 144 #[(0, (.tmp 37)), (1, (.const (I 1))), (2, (.func 94)), (3, (.func 110))], some 38, none),
  (.makeInterface 144 (.tmp 38), some 39, none),
  (.move (.tmp 0), some 40, none),
  (.nilCheck (.tmp 40), some 41, none),
  (.fieldAddr 26 (.tmp 41) 6, some 42, none),
  (.build 132 #[(0, (.tmp 42)), (1, (.const (I 6))), (2, (.func 94)), (3, (.func 110))], some 43, none),
  (.makeInterface 132 (.tmp 43), some 44, none),
  (.move (.tmp 0), some 45, none),
  (.nilCheck (.tmp 45), some 46, none),
  (.fieldAddr 26 (.tmp 46) 7, some 47, none),
  (.build 132 #[(0, (.tmp 47)), (1, (.const (I 8))), (2, (.func 94)), (3, (.func 110))], some 48, none),
  (.makeInterface 132 (.tmp 48), some 49, none),
  (.move (.tmp 0), some 50, none),
  (.nilCheck (.tmp 50), some 51, none),
  (.fieldAddr 26 (.tmp 51) 8, some 52, none),
  (.build 136 #[(0, (.tmp 52)), (1, (.const (I 24))), (2, (.func 111)), (3, (.func 112))], some 53, none),
  (.makeInterface 136 (.tmp 53), some 54, none),
  (.buildSlice 117 8 #[(0, (.tmp 18)), (1, (.tmp 23)), (2, (.tmp 28)), (3, (.tmp 33)), (4, (.tmp 39)), (5, (.tmp 44)), (6, (.tmp 49)), (7, (.tmp 54))], some 55, none),
  (.build 119 #[(0, (.tmp 13)), (1, (.tmp 55))], some 56, none),
  (.store 119 (.tmp 2) (.tmp 56), none, none)]
def crly96 (a0 : Act) (T _R L1 : Nat) (c : (Nat → Nat)) : Act := (((((((((((((((((((((((((((((((((((((((((((((((((((((a0.put (some 4) (S [116])).put (some 5) (I 1)).put (some 6) (.agg #[(ptr L1), (I 1), (FN 93), (FN 109)])).put (some 7) (vW ⟨L1, 0, none⟩ 1)).put (some 8) (ptr T)).put (some 9) (ptr T)).put (some 10) (.pointer (some ⟨T, 0, none⟩))).put (some 11) (.agg #[(.pointer (some ⟨T, 0, none⟩)), (I 8), (FN 94), (FN 110)])).put (some 12) (vI ⟨T, 0, none⟩ 8)).put (some 13) (.slice (some ⟨c 0, 0, none⟩) 2 2)).put (some 14) (ptr T)).put (some 15) (ptr T)).put (some 16) (.pointer (some ⟨T, 1, none⟩))).put (some 17) (.agg #[(.pointer (some ⟨T, 1, none⟩)), (I 8), (FN 94), (FN 110)])).put (some 18) (vI ⟨T, 1, none⟩ 8)).put (some 19) (ptr T)).put (some 20) (ptr T)).put (some 21) (.pointer (some ⟨T, 2, none⟩))).put (some 22) (.agg #[(.pointer (some ⟨T, 2, none⟩)), (I 4), (FN 94), (FN 110)])).put (some 23) (vI ⟨T, 2, none⟩ 4)).put (some 24) (ptr T)).put (some 25) (ptr T)).put (some 26) (.pointer (some ⟨T, 3, none⟩))).put (some 27) (.agg #[(.pointer (some ⟨T, 3, none⟩)), (I 32), (FN 93), (FN 109)])).put (some 28) (vW ⟨T, 3, none⟩ 32)).put (some 29) (ptr T)).put (some 30) (ptr T)).put (some 31) (.pointer (some ⟨T, 4, none⟩))).put (some 32) (.agg #[(.pointer (some ⟨T, 4, none⟩)), (I 6), (FN 94), (FN 110)])).put (some 33) (vI ⟨T, 4, none⟩ 6)).put (some 34) (ptr T)).put (some 35) (ptr T)).put (some 36) (.pointer (some ⟨T, 5, none⟩))).put (some 37) (.slice (some ⟨c 2, 0, none⟩) 1 1)).put (some 38) (.agg #[(.slice (some ⟨c 2, 0, none⟩) 1 1), (I 1), (FN 94), (FN 110)])).put (some 39) (.iface 144 (.agg #[(.slice (some ⟨c 2, 0, none⟩) 1 1), (I 1), (FN 94), (FN 110)]))).put (some 40) (ptr T)).put (some 41) (ptr T)).put (some 42) (.pointer (some ⟨T, 6, none⟩))).put (some 43) (.agg #[(.pointer (some ⟨T, 6, none⟩)), (I 6), (FN 94), (FN 110)])).put (some 44) (vI ⟨T, 6, none⟩ 6)).put (some 45) (ptr T)).put (some 46) (ptr T)).put (some 47) (.pointer (some ⟨T, 7, none⟩))).put (some 48) (.agg #[(.pointer (some ⟨T, 7, none⟩)), (I 8), (FN 94), (FN 110)])).put (some 49) (vI ⟨T, 7, none⟩ 8)).put (some 50) (ptr T)).put (some 51) (ptr T)).put (some 52) (.pointer (some ⟨T, 8, none⟩))).put (some 53) (.agg #[(.pointer (some ⟨T, 8, none⟩)), (I 24), (FN 111), (FN 112)])).put (some 54) (vT ⟨T, 8, none⟩ 24)).put (some 55) (.slice (some ⟨c 1, 0, none⟩) 8 8)).put (some 56) (.agg #[(.slice (some ⟨c 0, 0, none⟩) 2 2), (.slice (some ⟨c 1, 0, none⟩) 8 8)]))
def rly96D : List (Nat × Nat) := [(1, 0), (2, 1), (3, 2), (5, 4), (6, 5), (7, 6), (8, 7), (9, 3), (9, 8), (11, 10), (12, 11), (13, 12), (14, 13), (16, 15), (17, 16), (18, 17), (19, 18), (21, 20), (22, 21), (23, 22), (24, 23), (26, 25), (27, 26), (28, 27), (29, 28), (31, 30), (32, 31), (33, 32), (34, 33), (35, 34), (37, 36), (38, 37), (39, 38), (40, 39), (42, 41), (43, 42), (44, 43), (45, 44), (47, 46), (48, 47), (49, 48), (50, 49), (51, 14), (51, 19), (51, 24), (51, 29), (51, 35), (51, 40), (51, 45), (51, 50), (52, 9), (52, 51), (53, 52)]
set_option maxHeartbeats 4000000 in
theorem rly96 {ops : Array Oper} {id : Nat} {Q : Exit → Act → World → Prop} (T R L1 : Nat) (htab : ops.toList.map (fun o => (o.op, o.dst, o.guard)) = rly96T) (hdep : deplB rly96D ops = true) (hac : acB ops = true)
    (a0 : Act) (w : World) (hsz : 57 ≤ a0.tmps.size) (o0 : a0.tmps[0]? = some (ptr T)) (o2 : a0.tmps[2]? = some (ptr R)) (o3 : a0.tmps[3]? = some (ptr L1))
    (Wd : (Nat → Nat) → (Nat → Bool) → World → Prop) (h0 : ∃ c, Wd c (fun _ => false) w.drew) (hpure : ∀ i, i ∉ ([9, 33, 34, 35, 51, 52, 53] : List Nat) → ∀ c L W, Wd c L W → Wd c (upd L i) W)
    (r0 : ∀ c L W, Wd c L W → L 0 = false → (Instr.loadAt 9 (ptr L1)).run Tryz.prog W = .ok (S [116]) W)
    (r9 : ∀ c L W, Wd c L W → L 9 = false → L 3 = true → L 8 = true → ∃ c' W', (∀ j, L j = true → vrly96 T R L1 c' j = vrly96 T R L1 c j) ∧ (Instr.buildSlice 117 2 #[(0, (vW ⟨L1, 0, none⟩ 1)), (1, (vI ⟨T, 0, none⟩ 8))]).run Tryz.prog W = .ok (vrly96 T R L1 c' 9) W' ∧ Wd c' (upd L 9) W')
    (r33 : ∀ c L W, Wd c L W → L 33 = false → L 32 = true → ∃ c' W', (∀ j, L j = true → vrly96 T R L1 c' j = vrly96 T R L1 c j) ∧ (Instr.buildSlice 142 1 #[(0, (.pointer (some ⟨T, 5, none⟩)))]).run Tryz.prog W = .ok (vrly96 T R L1 c' 33) W' ∧ Wd c' (upd L 33) W')
    (e34 : ∀ c L W, Wd c L W → L 34 = false → L 33 = true → Wd c (upd L 34) W)
    (e35 : ∀ c L W, Wd c L W → L 35 = false → L 34 = true → Wd c (upd L 35) W)
    (r51 : ∀ c L W, Wd c L W → L 51 = false → L 14 = true → L 19 = true → L 24 = true → L 29 = true → L 35 = true → L 40 = true → L 45 = true → L 50 = true → ∃ c' W', (∀ j, L j = true → vrly96 T R L1 c' j = vrly96 T R L1 c j) ∧ (Instr.buildSlice 117 8 #[(0, (vI ⟨T, 1, none⟩ 8)), (1, (vI ⟨T, 2, none⟩ 4)), (2, (vW ⟨T, 3, none⟩ 32)), (3, (vI ⟨T, 4, none⟩ 6)), (4, (.iface 144 (.agg #[(.slice (some ⟨c 2, 0, none⟩) 1 1), (I 1), (FN 94), (FN 110)]))), (5, (vI ⟨T, 6, none⟩ 6)), (6, (vI ⟨T, 7, none⟩ 8)), (7, (vT ⟨T, 8, none⟩ 24))]).run Tryz.prog W = .ok (vrly96 T R L1 c' 51) W' ∧ Wd c' (upd L 51) W')
    (e52 : ∀ c L W, Wd c L W → L 52 = false → L 9 = true → L 51 = true → Wd c (upd L 52) W)
    (r53 : ∀ c L W, Wd c L W → L 53 = false → L 52 = true → ∃ W', (Instr.storeAt 119 (ptr R) (.agg #[(.slice (some ⟨c 0, 0, none⟩) 2 2), (.slice (some ⟨c 1, 0, none⟩) 8 8)])).run Tryz.prog W = .ok () W' ∧ Wd c (upd L 53) W')
    (hend : ∀ c L W, (∀ i, i < 54 → L i = true) → Wd c L W → Q .normal (crly96 a0 T R L1 c) W) : (Code.region id ops true).wp Tryz.prog Q a0 w := by
  let val : (Nat → Nat) → Nat → Value := vrly96 T R L1
  have hosz : ops.size = 54 := by
    have := congrArg List.length htab
    simpa [rly96T] using this
  have hds : ∀ i s, (rly96T[i]?).bind (·.2.1) = some s → dstOf ops i = some s := fun i s hi => by rw [tab_dst htab, hi]
  have hdisB : disL rly96T = true := by rfl
  have hdis := disL_of htab hdisB
  have hold : ∀ s, rly96T.all (fun x => !(x.2.1 == some s)) = true → (List.range ops.size).all (fun j => !(dstOf ops j == some s)) = true := fun s h => holdL htab s h
  refine region_detX val Wd (hac_of hac) hdis h0 ?_ ?_
  rotate_left
  · intro c L W hall hW
    have := hend c L W (by rw [← hosz]; exact hall) hW
    have e : frm ops a0 (val c) (fun _ => true) ops.size = (crly96 a0 T R L1 c) := by
      rw [hosz]
      simp only [crly96, frm, if_true]
      rw [tab_dst htab 0, tab_dst htab 1, tab_dst htab 2, tab_dst htab 3, tab_dst htab 4, tab_dst htab 5, tab_dst htab 6, tab_dst htab 7, tab_dst htab 8, tab_dst htab 9, tab_dst htab 10, tab_dst htab 11, tab_dst htab 12, tab_dst htab 13, tab_dst htab 14, tab_dst htab 15, tab_dst htab 16, tab_dst htab 17, tab_dst htab 18, tab_dst htab 19, tab_dst htab 20, tab_dst htab 21, tab_dst htab 22, tab_dst htab 23, tab_dst htab 24, tab_dst htab 25, tab_dst htab 26, tab_dst htab 27, tab_dst htab 28, tab_dst htab 29, tab_dst htab 30, tab_dst htab 31, tab_dst htab 32, tab_dst htab 33, tab_dst htab 34, tab_dst htab 35, tab_dst htab 36, tab_dst htab 37, tab_dst htab 38, tab_dst htab 39, tab_dst htab 40, tab_dst htab 41, tab_dst htab 42, tab_dst htab 43, tab_dst htab 44, tab_dst htab 45, tab_dst htab 46, tab_dst htab 47, tab_dst htab 48, tab_dst htab 49, tab_dst htab 50, tab_dst htab 51, tab_dst htab 52, (show dstOf ops 53 = none from (tab_dst htab 53).trans rfl), put_none]
      rfl
    rw [e]
    exact this
  intro i o ho c L a w' hL hd ha hW
  have hi : i < 54 := by rw [← hosz]; exact (Array.getElem?_eq_some_iff.1 ho).1
  have G : ∀ j s : Nat, (rly96T[j]?).bind (·.2.1) = some s → s < 57 → (i, j) ∈ rly96D → a.tmps[s]? = some (val c j) := fun j s h1 h2 h3 => frm_at hdis ha j s (hds j s h1) (by omega) (depl_of hdep i j h3 ho hd)
  match i, ho, hL, hi, G with
  | 0, ho, hL, _, G =>
    obtain ⟨hop, hgd⟩ := tab3 htab ho rfl
    have h0 := frm_old ha 3 _ (hold 3 rfl) o3
    exact (dXr ho hgd (hpure 0 (by decide) c L w' hW) (g_load hop (eval_of h0) (r0 c L w' hW hL)))
  | 1, ho, hL, _, G =>
    obtain ⟨hop, hgd⟩ := tab3 htab ho rfl
    have h0 := G 0 4 rfl (by decide) (by decide)
    exact (dXr ho hgd (hpure 1 (by decide) c L w' hW) (run_len _ _ _ hop _ (eval_of h0) _))
  | 2, ho, hL, _, G =>
    obtain ⟨hop, hgd⟩ := tab3 htab ho rfl
    have h0 := frm_old ha 3 _ (hold 3 rfl) o3
    have h1 := G 1 5 rfl (by decide) (by decide)
    exact (dXr ho hgd (hpure 2 (by decide) c L w' hW) (g_build hop (map4 (eval_of h0) (eval_of h1) rfl rfl) (by kernel_rfl)))
  | 3, ho, hL, _, G =>
    obtain ⟨hop, hgd⟩ := tab3 htab ho rfl
    have h0 := G 2 6 rfl (by decide) (by decide)
    exact (dXr ho hgd (hpure 3 (by decide) c L w' hW) (g_mki hop (eval_of h0) (by kernel_rfl)))
  | 4, ho, hL, _, G =>
    obtain ⟨hop, hgd⟩ := tab3 htab ho rfl
    have h0 := frm_old ha 0 _ (hold 0 rfl) o0
    exact (dXr ho hgd (hpure 4 (by decide) c L w' hW) (g_mov hop (eval_of h0)))
  | 5, ho, hL, _, G =>
    obtain ⟨hop, hgd⟩ := tab3 htab ho rfl
    have h0 := G 4 8 rfl (by decide) (by decide)
    exact (dXr ho hgd (hpure 5 (by decide) c L w' hW) (run_nil _ _ _ hop _ (eval_of h0) _))
  | 6, ho, hL, _, G =>
    obtain ⟨hop, hgd⟩ := tab3 htab ho rfl
    have h0 := G 5 9 rfl (by decide) (by decide)
    exact (dXr ho hgd (hpure 6 (by decide) c L w' hW) (g_field hop (eval_of h0) (by kernel_rfl)))
  | 7, ho, hL, _, G =>
    obtain ⟨hop, hgd⟩ := tab3 htab ho rfl
    have h0 := G 6 10 rfl (by decide) (by decide)
    exact (dXr ho hgd (hpure 7 (by decide) c L w' hW) (g_build hop (map4 (eval_of h0) rfl rfl rfl) (by kernel_rfl)))
  | 8, ho, hL, _, G =>
    obtain ⟨hop, hgd⟩ := tab3 htab ho rfl
    have h0 := G 7 11 rfl (by decide) (by decide)
    exact (dXr ho hgd (hpure 8 (by decide) c L w' hW) (g_mki hop (eval_of h0) (by kernel_rfl)))
  | 9, ho, hL, _, G =>
    obtain ⟨hop, hgd⟩ := tab3 htab ho rfl
    have h0 := G 3 7 rfl (by decide) (by decide)
    have h1 := G 8 12 rfl (by decide) (by decide)
    obtain ⟨c', W', q0, q1, q2⟩ := r9 c L w' hW hL (depl_of hdep 9 3 (by decide) ho hd) (depl_of hdep 9 8 (by decide) ho hd)
    exact doesX_runw ho (wanted_none hgd) c' q0 q2 (g_bs hop (by simp only [List.map_toArray, List.map_cons, List.map_nil, eval_of h0, eval_of h1]; first | done | rfl) q1)
  | 10, ho, hL, _, G =>
    obtain ⟨hop, hgd⟩ := tab3 htab ho rfl
    have h0 := frm_old ha 0 _ (hold 0 rfl) o0
    exact (dXr ho hgd (hpure 10 (by decide) c L w' hW) (g_mov hop (eval_of h0)))
  | 11, ho, hL, _, G =>
    obtain ⟨hop, hgd⟩ := tab3 htab ho rfl
    have h0 := G 10 14 rfl (by decide) (by decide)
    exact (dXr ho hgd (hpure 11 (by decide) c L w' hW) (run_nil _ _ _ hop _ (eval_of h0) _))
  | 12, ho, hL, _, G =>
    obtain ⟨hop, hgd⟩ := tab3 htab ho rfl
    have h0 := G 11 15 rfl (by decide) (by decide)
    exact (dXr ho hgd (hpure 12 (by decide) c L w' hW) (g_field hop (eval_of h0) (by kernel_rfl)))
  | 13, ho, hL, _, G =>
    obtain ⟨hop, hgd⟩ := tab3 htab ho rfl
    have h0 := G 12 16 rfl (by decide) (by decide)
    exact (dXr ho hgd (hpure 13 (by decide) c L w' hW) (g_build hop (map4 (eval_of h0) rfl rfl rfl) (by kernel_rfl)))
  | 14, ho, hL, _, G =>
    obtain ⟨hop, hgd⟩ := tab3 htab ho rfl
    have h0 := G 13 17 rfl (by decide) (by decide)
    exact (dXr ho hgd (hpure 14 (by decide) c L w' hW) (g_mki hop (eval_of h0) (by kernel_rfl)))
  | 15, ho, hL, _, G =>
    obtain ⟨hop, hgd⟩ := tab3 htab ho rfl
    have h0 := frm_old ha 0 _ (hold 0 rfl) o0
    exact (dXr ho hgd (hpure 15 (by decide) c L w' hW) (g_mov hop (eval_of h0)))
  | 16, ho, hL, _, G =>
    obtain ⟨hop, hgd⟩ := tab3 htab ho rfl
    have h0 := G 15 19 rfl (by decide) (by decide)
    exact (dXr ho hgd (hpure 16 (by decide) c L w' hW) (run_nil _ _ _ hop _ (eval_of h0) _))
  | 17, ho, hL, _, G =>
    obtain ⟨hop, hgd⟩ := tab3 htab ho rfl
    have h0 := G 16 20 rfl (by decide) (by decide)
    exact (dXr ho hgd (hpure 17 (by decide) c L w' hW) (g_field hop (eval_of h0) (by kernel_rfl)))
  | 18, ho, hL, _, G =>
    obtain ⟨hop, hgd⟩ := tab3 htab ho rfl
    have h0 := G 17 21 rfl (by decide) (by decide)
    exact (dXr ho hgd (hpure 18 (by decide) c L w' hW) (g_build hop (map4 (eval_of h0) rfl rfl rfl) (by kernel_rfl)))
  | 19, ho, hL, _, G =>
    obtain ⟨hop, hgd⟩ := tab3 htab ho rfl
    have h0 := G 18 22 rfl (by decide) (by decide)
    exact (dXr ho hgd (hpure 19 (by decide) c L w' hW) (g_mki hop (eval_of h0) (by kernel_rfl)))
  | 20, ho, hL, _, G =>
    obtain ⟨hop, hgd⟩ := tab3 htab ho rfl
    have h0 := frm_old ha 0 _ (hold 0 rfl) o0
    exact (dXr ho hgd (hpure 20 (by decide) c L w' hW) (g_mov hop (eval_of h0)))
  | 21, ho, hL, _, G =>
    obtain ⟨hop, hgd⟩ := tab3 htab ho rfl
    have h0 := G 20 24 rfl (by decide) (by decide)
    exact (dXr ho hgd (hpure 21 (by decide) c L w' hW) (run_nil _ _ _ hop _ (eval_of h0) _))
  | 22, ho, hL, _, G =>
    obtain ⟨hop, hgd⟩ := tab3 htab ho rfl
    have h0 := G 21 25 rfl (by decide) (by decide)
    exact (dXr ho hgd (hpure 22 (by decide) c L w' hW) (g_field hop (eval_of h0) (by kernel_rfl)))
  | 23, ho, hL, _, G =>
    obtain ⟨hop, hgd⟩ := tab3 htab ho rfl
    have h0 := G 22 26 rfl (by decide) (by decide)
    exact (dXr ho hgd (hpure 23 (by decide) c L w' hW) (g_build hop (map4 (eval_of h0) rfl rfl rfl) (by kernel_rfl)))
  | 24, ho, hL, _, G =>
    obtain ⟨hop, hgd⟩ := tab3 htab ho rfl
    have h0 := G 23 27 rfl (by decide) (by decide)
    exact (dXr ho hgd (hpure 24 (by decide) c L w' hW) (g_mki hop (eval_of h0) (by kernel_rfl)))
  | 25, ho, hL, _, G =>
    obtain ⟨hop, hgd⟩ := tab3 htab ho rfl
    have h0 := frm_old ha 0 _ (hold 0 rfl) o0
    exact (dXr ho hgd (hpure 25 (by decide) c L w' hW) (g_mov hop (eval_of h0)))
  | 26, ho, hL, _, G =>
    obtain ⟨hop, hgd⟩ := tab3 htab ho rfl
    have h0 := G 25 29 rfl (by decide) (by decide)
    exact (dXr ho hgd (hpure 26 (by decide) c L w' hW) (run_nil _ _ _ hop _ (eval_of h0) _))
  | 27, ho, hL, _, G =>
    obtain ⟨hop, hgd⟩ := tab3 htab ho rfl
    have h0 := G 26 30 rfl (by decide) (by decide)
    exact (dXr ho hgd (hpure 27 (by decide) c L w' hW) (g_field hop (eval_of h0) (by kernel_rfl)))
  | 28, ho, hL, _, G =>
    obtain ⟨hop, hgd⟩ := tab3 htab ho rfl
    have h0 := G 27 31 rfl (by decide) (by decide)
    exact (dXr ho hgd (hpure 28 (by decide) c L w' hW) (g_build hop (map4 (eval_of h0) rfl rfl rfl) (by kernel_rfl)))
  | 29, ho, hL, _, G =>
    obtain ⟨hop, hgd⟩ := tab3 htab ho rfl
    have h0 := G 28 32 rfl (by decide) (by decide)
    exact (dXr ho hgd (hpure 29 (by decide) c L w' hW) (g_mki hop (eval_of h0) (by kernel_rfl)))
  | 30, ho, hL, _, G =>
    obtain ⟨hop, hgd⟩ := tab3 htab ho rfl
    have h0 := frm_old ha 0 _ (hold 0 rfl) o0
    exact (dXr ho hgd (hpure 30 (by decide) c L w' hW) (g_mov hop (eval_of h0)))
  | 31, ho, hL, _, G =>
    obtain ⟨hop, hgd⟩ := tab3 htab ho rfl
    have h0 := G 30 34 rfl (by decide) (by decide)
    exact (dXr ho hgd (hpure 31 (by decide) c L w' hW) (run_nil _ _ _ hop _ (eval_of h0) _))
  | 32, ho, hL, _, G =>
    obtain ⟨hop, hgd⟩ := tab3 htab ho rfl
    have h0 := G 31 35 rfl (by decide) (by decide)
    exact (dXr ho hgd (hpure 32 (by decide) c L w' hW) (g_field hop (eval_of h0) (by kernel_rfl)))
  | 33, ho, hL, _, G =>
    obtain ⟨hop, hgd⟩ := tab3 htab ho rfl
    have h0 := G 32 36 rfl (by decide) (by decide)
    obtain ⟨c', W', q0, q1, q2⟩ := r33 c L w' hW hL (depl_of hdep 33 32 (by decide) ho hd)
    exact doesX_runw ho (wanted_none hgd) c' q0 q2 (g_bs hop (by simp only [List.map_toArray, List.map_cons, List.map_nil, eval_of h0]; first | done | rfl) q1)
  | 34, ho, hL, _, G =>
    obtain ⟨hop, hgd⟩ := tab3 htab ho rfl
    have h0 := G 33 37 rfl (by decide) (by decide)
    exact (dXr ho hgd (e34 c L w' hW hL (depl_of hdep 34 33 (by decide) ho hd)) (g_build hop (map4 (eval_of h0) rfl rfl rfl) (by kernel_rfl)))
  | 35, ho, hL, _, G =>
    obtain ⟨hop, hgd⟩ := tab3 htab ho rfl
    have h0 := G 34 38 rfl (by decide) (by decide)
    exact (dXr ho hgd (e35 c L w' hW hL (depl_of hdep 35 34 (by decide) ho hd)) (g_mki hop (eval_of h0) (by kernel_rfl)))
  | 36, ho, hL, _, G =>
    obtain ⟨hop, hgd⟩ := tab3 htab ho rfl
    have h0 := frm_old ha 0 _ (hold 0 rfl) o0
    exact (dXr ho hgd (hpure 36 (by decide) c L w' hW) (g_mov hop (eval_of h0)))
  | 37, ho, hL, _, G =>
    obtain ⟨hop, hgd⟩ := tab3 htab ho rfl
    have h0 := G 36 40 rfl (by decide) (by decide)
    exact (dXr ho hgd (hpure 37 (by decide) c L w' hW) (run_nil _ _ _ hop _ (eval_of h0) _))
  | 38, ho, hL, _, G =>
    obtain ⟨hop, hgd⟩ := tab3 htab ho rfl
    have h0 := G 37 41 rfl (by decide) (by decide)
    exact (dXr ho hgd (hpure 38 (by decide) c L w' hW) (g_field hop (eval_of h0) (by kernel_rfl)))
  | 39, ho, hL, _, G =>
    obtain ⟨hop, hgd⟩ := tab3 htab ho rfl
    have h0 := G 38 42 rfl (by decide) (by decide)
    exact (dXr ho hgd (hpure 39 (by decide) c L w' hW) (g_build hop (map4 (eval_of h0) rfl rfl rfl) (by kernel_rfl)))
  | 40, ho, hL, _, G =>
    obtain ⟨hop, hgd⟩ := tab3 htab ho rfl
    have h0 := G 39 43 rfl (by decide) (by decide)
    exact (dXr ho hgd (hpure 40 (by decide) c L w' hW) (g_mki hop (eval_of h0) (by kernel_rfl)))
  | 41, ho, hL, _, G =>
    obtain ⟨hop, hgd⟩ := tab3 htab ho rfl
    have h0 := frm_old ha 0 _ (hold 0 rfl) o0
    exact (dXr ho hgd (hpure 41 (by decide) c L w' hW) (g_mov hop (eval_of h0)))
  | 42, ho, hL, _, G =>
    obtain ⟨hop, hgd⟩ := tab3 htab ho rfl
    have h0 := G 41 45 rfl (by decide) (by decide)
    exact (dXr ho hgd (hpure 42 (by decide) c L w' hW) (run_nil _ _ _ hop _ (eval_of h0) _))
  | 43, ho, hL, _, G =>
    obtain ⟨hop, hgd⟩ := tab3 htab ho rfl
    have h0 := G 42 46 rfl (by decide) (by decide)
    exact (dXr ho hgd (hpure 43 (by decide) c L w' hW) (g_field hop (eval_of h0) (by kernel_rfl)))
  | 44, ho, hL, _, G =>
    obtain ⟨hop, hgd⟩ := tab3 htab ho rfl
    have h0 := G 43 47 rfl (by decide) (by decide)
    exact (dXr ho hgd (hpure 44 (by decide) c L w' hW) (g_build hop (map4 (eval_of h0) rfl rfl rfl) (by kernel_rfl)))
  | 45, ho, hL, _, G =>
    obtain ⟨hop, hgd⟩ := tab3 htab ho rfl
    have h0 := G 44 48 rfl (by decide) (by decide)
    exact (dXr ho hgd (hpure 45 (by decide) c L w' hW) (g_mki hop (eval_of h0) (by kernel_rfl)))
  | 46, ho, hL, _, G =>
    obtain ⟨hop, hgd⟩ := tab3 htab ho rfl
    have h0 := frm_old ha 0 _ (hold 0 rfl) o0
    exact (dXr ho hgd (hpure 46 (by decide) c L w' hW) (g_mov hop (eval_of h0)))
  | 47, ho, hL, _, G =>
    obtain ⟨hop, hgd⟩ := tab3 htab ho rfl
    have h0 := G 46 50 rfl (by decide) (by decide)
    exact (dXr ho hgd (hpure 47 (by decide) c L w' hW) (run_nil _ _ _ hop _ (eval_of h0) _))
  | 48, ho, hL, _, G =>
    obtain ⟨hop, hgd⟩ := tab3 htab ho rfl
    have h0 := G 47 51 rfl (by decide) (by decide)
    exact (dXr ho hgd (hpure 48 (by decide) c L w' hW) (g_field hop (eval_of h0) (by kernel_rfl)))
  | 49, ho, hL, _, G =>
    obtain ⟨hop, hgd⟩ := tab3 htab ho rfl
    have h0 := G 48 52 rfl (by decide) (by decide)
    exact (dXr ho hgd (hpure 49 (by decide) c L w' hW) (g_build hop (map4 (eval_of h0) rfl rfl rfl) (by kernel_rfl)))
  | 50, ho, hL, _, G =>
    obtain ⟨hop, hgd⟩ := tab3 htab ho rfl
    have h0 := G 49 53 rfl (by decide) (by decide)
    exact (dXr ho hgd (hpure 50 (by decide) c L w' hW) (g_mki hop (eval_of h0) (by kernel_rfl)))
  | 51, ho, hL, _, G =>
    obtain ⟨hop, hgd⟩ := tab3 htab ho rfl
    have h0 := G 14 18 rfl (by decide) (by decide)
    have h1 := G 19 23 rfl (by decide) (by decide)
    have h2 := G 24 28 rfl (by decide) (by decide)
    have h3 := G 29 33 rfl (by decide) (by decide)
    have h4 := G 35 39 rfl (by decide) (by decide)
    have h5 := G 40 44 rfl (by decide) (by decide)
    have h6 := G 45 49 rfl (by decide) (by decide)
    have h7 := G 50 54 rfl (by decide) (by decide)
    obtain ⟨c', W', q0, q1, q2⟩ := r51 c L w' hW hL (depl_of hdep 51 14 (by decide) ho hd) (depl_of hdep 51 19 (by decide) ho hd) (depl_of hdep 51 24 (by decide) ho hd) (depl_of hdep 51 29 (by decide) ho hd) (depl_of hdep 51 35 (by decide) ho hd) (depl_of hdep 51 40 (by decide) ho hd) (depl_of hdep 51 45 (by decide) ho hd) (depl_of hdep 51 50 (by decide) ho hd)
    exact doesX_runw ho (wanted_none hgd) c' q0 q2 (g_bs hop (by simp only [List.map_toArray, List.map_cons, List.map_nil, eval_of h0, eval_of h1, eval_of h2, eval_of h3, eval_of h4, eval_of h5, eval_of h6, eval_of h7]; first | done | rfl) q1)
  | 52, ho, hL, _, G =>
    obtain ⟨hop, hgd⟩ := tab3 htab ho rfl
    have h0 := G 9 13 rfl (by decide) (by decide)
    have h1 := G 51 55 rfl (by decide) (by decide)
    exact (dXr ho hgd (e52 c L w' hW hL (depl_of hdep 52 9 (by decide) ho hd) (depl_of hdep 52 51 (by decide) ho hd)) (g_build hop (by simp only [List.map_toArray, List.map_cons, List.map_nil, eval_of h0, eval_of h1]; first | done | rfl) (by kernel_rfl)))
  | 53, ho, hL, _, G =>
    obtain ⟨hop, hgd⟩ := tab3 htab ho rfl
    have h0 := frm_old ha 2 _ (hold 2 rfl) o2
    have h1 := G 52 56 rfl (by decide) (by decide)
    obtain ⟨W', q1, q2⟩ := r53 c L w' hW hL (depl_of hdep 53 52 (by decide) ho hd)
    exact doesX_of (doesL_skp ho (wanted_none hgd) rfl q2 (g_store hop (eval_of h0) (eval_of h1) q1))
  | (i + 54), ho, hL, hi, _ => exact absurd hi (by omega)
def sly96 (T : Nat) (L1 : Nat) : List Sl := [⟨9, 0, fun _ => #[(vW ⟨L1, 0, none⟩ 1), (vI ⟨T, 0, none⟩ 8)], 209⟩, ⟨33, 2, fun _ => #[(.pointer (some ⟨T, 5, none⟩))], 141⟩, ⟨51, 1, fun c => #[(vI ⟨T, 1, none⟩ 8), (vI ⟨T, 2, none⟩ 4), (vW ⟨T, 3, none⟩ 32), (vI ⟨T, 4, none⟩ 6), (.iface 144 (.agg #[(.slice (some ⟨c 2, 0, none⟩) 1 1), (I 1), (FN 94), (FN 110)])), (vI ⟨T, 6, none⟩ 6), (vI ⟨T, 7, none⟩ 8), (vT ⟨T, 8, none⟩ 24)], 209⟩]
def dly96 : List (Nat × Nat) := [(34, 33), (35, 33), (51, 33), (52, 9), (52, 51), (52, 33), (53, 52), (53, 9), (53, 33), (53, 51)]
theorem lay96 (T : Nat) (w : World) : Calls Tryz.prog 80 #[ptr T] w fun e w' => ∃ c : Nat → Nat, e = .returned (.agg (#[(.slice (some ⟨c 0, 0, none⟩) 2 2), (.slice (some ⟨c 1, 0, none⟩) 8 8)])) ∧ Below w.heap.size w w' ∧ w'.heap[w.heap.size + 1]? = some (.cells #[S [116]] 9 (0, 0)) ∧ (w.heap.size + 2 ≤ c 0 ∧ w'.heap[c 0]? = some (.cells #[(vW ⟨w.heap.size + 1, 0, none⟩ 1), (vI ⟨T, 0, none⟩ 8)] 209 (0, 0))) ∧ (w.heap.size + 2 ≤ c 2 ∧ w'.heap[c 2]? = some (.cells #[(.pointer (some ⟨T, 5, none⟩))] 141 (0, 0))) ∧ (w.heap.size + 2 ≤ c 1 ∧ w'.heap[c 1]? = some (.cells #[(vI ⟨T, 1, none⟩ 8), (vI ⟨T, 2, none⟩ 4), (vW ⟨T, 3, none⟩ 32), (vI ⟨T, 4, none⟩ 6), (.iface 144 (.agg #[(.slice (some ⟨c 2, 0, none⟩) 1 1), (I 1), (FN 94), (FN 110)])), (vI ⟨T, 6, none⟩ 6), (vI ⟨T, 7, none⟩ 8), (vT ⟨T, 8, none⟩ 24)] 209 (0, 0))) := by
  have hb0 : Below w.heap.size w ((w.alloc (.cells #[.slice none 0 0, .slice none 0 0] 119)).alloc (.cells #[S [116]] 9)) := by
    refine (((Below.refl _ w).alloc (Nat.le_refl _) _)).alloc (by first | (simp; done) | (simp; omega)) _
  have hR : ((w.alloc (.cells #[.slice none 0 0, .slice none 0 0] 119)).alloc (.cells #[S [116]] 9)).heap[w.heap.size]? = some (.cells #[.slice none 0 0, .slice none 0 0] 119 (0, 0)) := by
    rw [heap_alloc_old _ _ (by first | (simp; done) | (simp; omega))]; exact heap_alloc_new _ _
  have hL1 : ((w.alloc (.cells #[.slice none 0 0, .slice none 0 0] 119)).alloc (.cells #[S [116]] 9)).heap[w.heap.size + 1]? = some (.cells #[S [116]] 9 (0, 0)) := by
    have e := heap_alloc_new ((w.alloc (.cells #[.slice none 0 0, .slice none 0 0] 119))) (.cells #[S [116]] 9)
    simpa using e
  have hsz : ((w.alloc (.cells #[.slice none 0 0, .slice none 0 0] 119)).alloc (.cells #[S [116]] 9)).heap.size = w.heap.size + 2 := by simp
  go_enter Tryz.func80, Tryz.ntmps80
  go_wp2_with fail
  generalize ((w.alloc (.cells #[.slice none 0 0, .slice none 0 0] 119)).alloc (.cells #[S [116]] 9)) = W1 at *
  generalize hL1e : w.heap.size + 1 = L1 at *
  generalize hRe : w.heap.size = R at *
  have hw1 : ∃ w1s, w1s = W1.heap.size := ⟨_, rfl⟩
  obtain ⟨w1s, hw1⟩ := hw1
  rw [← hw1] at hsz
  refine rly96 T R L1 rfl (by rfl) (by rfl) _ W1 (by simp) rfl rfl rfl (Ly W1 R (fun _ => #[.slice none 0 0, .slice none 0 0]) (fun c => #[(.slice (some ⟨c 0, 0, none⟩) 2 2), (.slice (some ⟨c 1, 0, none⟩) 8 8)]) 53 (sly96 T L1) dly96) ⟨fun _ => 0, (Only.drew _ W1), (fun _ _ e => by cases e), (fun _ _ e => by cases e), hR⟩ (fun i hi c L W hW => hW.pure i ?hp1 ?hp2 (fun e => hi (by simp [e])))
    (fun c L W hW _ => s_ld (T := 9) (fun _ => by kernel_rfl) (cellr ((hW.only.block L1 (by omega) (by omega)).trans hL1) rfl))
    (fun c L W hW hL h3 h8 => by
      refine ⟨cset c 0 W.heap.size, W.alloc (.cells #[(vW ⟨L1, 0, none⟩ 1), (vI ⟨T, 0, none⟩ 8)] 209), fun j hj => ?_, by kernel_rfl, hW.slice ⟨9, 0, fun _ => #[(vW ⟨L1, 0, none⟩ 1), (vI ⟨T, 0, none⟩ 8)], 209⟩ (no_of (hW.dep (53, 9) (by decide)) hL) (by simp) (fun _ => rfl) (fun d hd hi => ?_) (fun q hq e => ?_) (fun q hq e => ?_) (fun m => rfl)⟩
      · match j, hj with
        | 0, _ => rfl
        | 1, _ => rfl
        | 2, _ => rfl
        | 3, _ => rfl
        | 4, _ => rfl
        | 5, _ => rfl
        | 6, _ => rfl
        | 7, _ => rfl
        | 8, _ => rfl
        | 9, hj => rw [hL] at hj; cases hj
        | 10, _ => rfl
        | 11, _ => rfl
        | 12, _ => rfl
        | 13, _ => rfl
        | 14, _ => rfl
        | 15, _ => rfl
        | 16, _ => rfl
        | 17, _ => rfl
        | 18, _ => rfl
        | 19, _ => rfl
        | 20, _ => rfl
        | 21, _ => rfl
        | 22, _ => rfl
        | 23, _ => rfl
        | 24, _ => rfl
        | 25, _ => rfl
        | 26, _ => rfl
        | 27, _ => rfl
        | 28, _ => rfl
        | 29, _ => rfl
        | 30, _ => rfl
        | 31, _ => rfl
        | 32, _ => rfl
        | 33, _ => rfl
        | 34, _ => rfl
        | 35, _ => rfl
        | 36, _ => rfl
        | 37, _ => rfl
        | 38, _ => rfl
        | 39, _ => rfl
        | 40, _ => rfl
        | 41, _ => rfl
        | 42, _ => rfl
        | 43, _ => rfl
        | 44, _ => rfl
        | 45, _ => rfl
        | 46, _ => rfl
        | 47, _ => rfl
        | 48, _ => rfl
        | 49, _ => rfl
        | 50, _ => rfl
        | 51, _ => rfl
        | 52, hj => rw [hW.dep (52, 9) (by decide) hj] at hL; cases hL
        | 53, _ => rfl
        | (k + 54), _ => rfl
      · simp only [dly96, List.mem_cons, List.not_mem_nil, or_false] at hd
        rcases hd with rfl | rfl | rfl | rfl | rfl | rfl | rfl | rfl | rfl | rfl
        · exact absurd hi (by simp)
        · exact absurd hi (by simp)
        · exact absurd hi (by simp)
        · exact absurd hi (by simp)
        · exact absurd hi (by simp)
        · exact absurd hi (by simp)
        · exact absurd hi (by simp)
        · exact absurd hi (by simp)
        · exact absurd hi (by simp)
        · exact absurd hi (by simp)
      · simp only [sly96, List.mem_cons, List.not_mem_nil, or_false] at hq
        rcases hq with rfl | rfl | rfl
        · rw [hL] at e; cases e
        · exact ⟨(by simp), fun m => rfl⟩
        · exact ⟨(by simp), fun m => rfl⟩
      · simp only [sly96, List.mem_cons, List.not_mem_nil, or_false] at hq
        rcases hq with rfl | rfl | rfl
        · rfl
        · exact absurd e (by simp)
        · exact absurd e (by simp))
    (fun c L W hW hL h32 => by
      refine ⟨cset c 2 W.heap.size, W.alloc (.cells #[(.pointer (some ⟨T, 5, none⟩))] 141), fun j hj => ?_, by kernel_rfl, hW.slice ⟨33, 2, fun _ => #[(.pointer (some ⟨T, 5, none⟩))], 141⟩ (no_of (hW.dep (53, 33) (by decide)) hL) (by simp) (fun _ => rfl) (fun d hd hi => ?_) (fun q hq e => ?_) (fun q hq e => ?_) (fun m => rfl)⟩
      · match j, hj with
        | 0, _ => rfl
        | 1, _ => rfl
        | 2, _ => rfl
        | 3, _ => rfl
        | 4, _ => rfl
        | 5, _ => rfl
        | 6, _ => rfl
        | 7, _ => rfl
        | 8, _ => rfl
        | 9, _ => rfl
        | 10, _ => rfl
        | 11, _ => rfl
        | 12, _ => rfl
        | 13, _ => rfl
        | 14, _ => rfl
        | 15, _ => rfl
        | 16, _ => rfl
        | 17, _ => rfl
        | 18, _ => rfl
        | 19, _ => rfl
        | 20, _ => rfl
        | 21, _ => rfl
        | 22, _ => rfl
        | 23, _ => rfl
        | 24, _ => rfl
        | 25, _ => rfl
        | 26, _ => rfl
        | 27, _ => rfl
        | 28, _ => rfl
        | 29, _ => rfl
        | 30, _ => rfl
        | 31, _ => rfl
        | 32, _ => rfl
        | 33, hj => rw [hL] at hj; cases hj
        | 34, hj => rw [hW.dep (34, 33) (by decide) hj] at hL; cases hL
        | 35, hj => rw [hW.dep (35, 33) (by decide) hj] at hL; cases hL
        | 36, _ => rfl
        | 37, _ => rfl
        | 38, _ => rfl
        | 39, _ => rfl
        | 40, _ => rfl
        | 41, _ => rfl
        | 42, _ => rfl
        | 43, _ => rfl
        | 44, _ => rfl
        | 45, _ => rfl
        | 46, _ => rfl
        | 47, _ => rfl
        | 48, _ => rfl
        | 49, _ => rfl
        | 50, _ => rfl
        | 51, _ => rfl
        | 52, _ => rfl
        | 53, _ => rfl
        | (k + 54), _ => rfl
      · simp only [dly96, List.mem_cons, List.not_mem_nil, or_false] at hd
        rcases hd with rfl | rfl | rfl | rfl | rfl | rfl | rfl | rfl | rfl | rfl
        · exact absurd hi (by simp)
        · exact absurd hi (by simp)
        · exact absurd hi (by simp)
        · exact absurd hi (by simp)
        · exact absurd hi (by simp)
        · exact absurd hi (by simp)
        · exact absurd hi (by simp)
        · exact absurd hi (by simp)
        · exact absurd hi (by simp)
        · exact absurd hi (by simp)
      · simp only [sly96, List.mem_cons, List.not_mem_nil, or_false] at hq
        rcases hq with rfl | rfl | rfl
        · exact ⟨(by simp), fun m => rfl⟩
        · rw [hL] at e; cases e
        · rw [hW.dep (51, 33) (by decide) e] at hL; cases hL
      · simp only [sly96, List.mem_cons, List.not_mem_nil, or_false] at hq
        rcases hq with rfl | rfl | rfl
        · exact absurd e (by simp)
        · rfl
        · exact absurd e (by simp))
    (fun c L W hW _ h33 => hW.pure 34 (fun s hs => by simp only [sly96, List.mem_cons, List.not_mem_nil, or_false] at hs; rcases hs with rfl | rfl | rfl <;> simp) (fun d hd hi => by
      simp only [dly96, List.mem_cons, List.not_mem_nil, or_false] at hd
      rcases hd with rfl | rfl | rfl | rfl | rfl | rfl | rfl | rfl | rfl | rfl
      · exact h33
      · exact absurd hi (by simp)
      · exact absurd hi (by simp)
      · exact absurd hi (by simp)
      · exact absurd hi (by simp)
      · exact absurd hi (by simp)
      · exact absurd hi (by simp)
      · exact absurd hi (by simp)
      · exact absurd hi (by simp)
      · exact absurd hi (by simp)) (by decide))
    (fun c L W hW _ h34 => hW.pure 35 (fun s hs => by simp only [sly96, List.mem_cons, List.not_mem_nil, or_false] at hs; rcases hs with rfl | rfl | rfl <;> simp) (fun d hd hi => by
      simp only [dly96, List.mem_cons, List.not_mem_nil, or_false] at hd
      rcases hd with rfl | rfl | rfl | rfl | rfl | rfl | rfl | rfl | rfl | rfl
      · exact absurd hi (by simp)
      · exact (hW.dep (34, 33) (by decide) h34)
      · exact absurd hi (by simp)
      · exact absurd hi (by simp)
      · exact absurd hi (by simp)
      · exact absurd hi (by simp)
      · exact absurd hi (by simp)
      · exact absurd hi (by simp)
      · exact absurd hi (by simp)
      · exact absurd hi (by simp)) (by decide))
    (fun c L W hW hL h14 h19 h24 h29 h35 h40 h45 h50 => by
      refine ⟨cset c 1 W.heap.size, W.alloc (.cells #[(vI ⟨T, 1, none⟩ 8), (vI ⟨T, 2, none⟩ 4), (vW ⟨T, 3, none⟩ 32), (vI ⟨T, 4, none⟩ 6), (.iface 144 (.agg #[(.slice (some ⟨c 2, 0, none⟩) 1 1), (I 1), (FN 94), (FN 110)])), (vI ⟨T, 6, none⟩ 6), (vI ⟨T, 7, none⟩ 8), (vT ⟨T, 8, none⟩ 24)] 209), fun j hj => ?_, by kernel_rfl, hW.slice ⟨51, 1, fun c => #[(vI ⟨T, 1, none⟩ 8), (vI ⟨T, 2, none⟩ 4), (vW ⟨T, 3, none⟩ 32), (vI ⟨T, 4, none⟩ 6), (.iface 144 (.agg #[(.slice (some ⟨c 2, 0, none⟩) 1 1), (I 1), (FN 94), (FN 110)])), (vI ⟨T, 6, none⟩ 6), (vI ⟨T, 7, none⟩ 8), (vT ⟨T, 8, none⟩ 24)], 209⟩ (no_of (hW.dep (53, 51) (by decide)) hL) (by simp) (fun _ => rfl) (fun d hd hi => ?_) (fun q hq e => ?_) (fun q hq e => ?_) (fun m => rfl)⟩
      · match j, hj with
        | 0, _ => rfl
        | 1, _ => rfl
        | 2, _ => rfl
        | 3, _ => rfl
        | 4, _ => rfl
        | 5, _ => rfl
        | 6, _ => rfl
        | 7, _ => rfl
        | 8, _ => rfl
        | 9, _ => rfl
        | 10, _ => rfl
        | 11, _ => rfl
        | 12, _ => rfl
        | 13, _ => rfl
        | 14, _ => rfl
        | 15, _ => rfl
        | 16, _ => rfl
        | 17, _ => rfl
        | 18, _ => rfl
        | 19, _ => rfl
        | 20, _ => rfl
        | 21, _ => rfl
        | 22, _ => rfl
        | 23, _ => rfl
        | 24, _ => rfl
        | 25, _ => rfl
        | 26, _ => rfl
        | 27, _ => rfl
        | 28, _ => rfl
        | 29, _ => rfl
        | 30, _ => rfl
        | 31, _ => rfl
        | 32, _ => rfl
        | 33, _ => rfl
        | 34, _ => rfl
        | 35, _ => rfl
        | 36, _ => rfl
        | 37, _ => rfl
        | 38, _ => rfl
        | 39, _ => rfl
        | 40, _ => rfl
        | 41, _ => rfl
        | 42, _ => rfl
        | 43, _ => rfl
        | 44, _ => rfl
        | 45, _ => rfl
        | 46, _ => rfl
        | 47, _ => rfl
        | 48, _ => rfl
        | 49, _ => rfl
        | 50, _ => rfl
        | 51, hj => rw [hL] at hj; cases hj
        | 52, hj => rw [hW.dep (52, 51) (by decide) hj] at hL; cases hL
        | 53, _ => rfl
        | (k + 54), _ => rfl
      · simp only [dly96, List.mem_cons, List.not_mem_nil, or_false] at hd
        rcases hd with rfl | rfl | rfl | rfl | rfl | rfl | rfl | rfl | rfl | rfl
        · exact absurd hi (by simp)
        · exact absurd hi (by simp)
        · exact (hW.dep (35, 33) (by decide) h35)
        · exact absurd hi (by simp)
        · exact absurd hi (by simp)
        · exact absurd hi (by simp)
        · exact absurd hi (by simp)
        · exact absurd hi (by simp)
        · exact absurd hi (by simp)
        · exact absurd hi (by simp)
      · simp only [sly96, List.mem_cons, List.not_mem_nil, or_false] at hq
        rcases hq with rfl | rfl | rfl
        · exact ⟨(by simp), fun m => rfl⟩
        · exact ⟨(by simp), fun m => rfl⟩
        · rw [hL] at e; cases e
      · simp only [sly96, List.mem_cons, List.not_mem_nil, or_false] at hq
        rcases hq with rfl | rfl | rfl
        · exact absurd e (by simp)
        · exact absurd e (by simp)
        · rfl)
    (fun c L W hW _ h9 h51 => hW.pure 52 (fun s hs => by simp only [sly96, List.mem_cons, List.not_mem_nil, or_false] at hs; rcases hs with rfl | rfl | rfl <;> simp) (fun d hd hi => by
      simp only [dly96, List.mem_cons, List.not_mem_nil, or_false] at hd
      rcases hd with rfl | rfl | rfl | rfl | rfl | rfl | rfl | rfl | rfl | rfl
      · exact absurd hi (by simp)
      · exact absurd hi (by simp)
      · exact absurd hi (by simp)
      · exact h9
      · exact h51
      · exact (hW.dep (51, 33) (by decide) h51)
      · exact absurd hi (by simp)
      · exact absurd hi (by simp)
      · exact absurd hi (by simp)
      · exact absurd hi (by simp)) (by decide))
    (fun c L W hW hL h52 => by
      have hbx := hW.box
      rw [hL, if_neg (by decide)] at hbx
      have e := s_sta (T := 119) (n := 2) (fun _ => by kernel_rfl) (o := 0) hbx (.agg #[(.slice (some ⟨c 0, 0, none⟩) 2 2), (.slice (some ⟨c 1, 0, none⟩) 8 8)]) rfl (by decide) (by intro x hx; simp only [Value.cells, List.mem_cons, List.not_mem_nil, or_false] at hx; rcases hx with rfl | rfl <;> rfl)
      refine ⟨_, e, ?_⟩
      refine hW.store (v := fun c => #[(.slice (some ⟨c 0, 0, none⟩) 2 2), (.slice (some ⟨c 1, 0, none⟩) 8 8)]) (fun q hq => ?_) (fun d hd hi => ?_)
      · simp only [sly96, List.mem_cons, List.not_mem_nil, or_false] at hq
        rcases hq with rfl | rfl | rfl
        · exact ⟨(by simp), fun e => by have h5 := (hW.sl ⟨9, 0, fun _ => #[(vW ⟨L1, 0, none⟩ 1), (vI ⟨T, 0, none⟩ 8)], 209⟩ (by simp [sly96]) e).1; have h6 : W1.heap.size ≤ c 0 := h5; show c 0 ≠ R; omega⟩
        · exact ⟨(by simp), fun e => by have h5 := (hW.sl ⟨33, 2, fun _ => #[(.pointer (some ⟨T, 5, none⟩))], 141⟩ (by simp [sly96]) e).1; have h6 : W1.heap.size ≤ c 2 := h5; show c 2 ≠ R; omega⟩
        · exact ⟨(by simp), fun e => by have h5 := (hW.sl ⟨51, 1, fun c => #[(vI ⟨T, 1, none⟩ 8), (vI ⟨T, 2, none⟩ 4), (vW ⟨T, 3, none⟩ 32), (vI ⟨T, 4, none⟩ 6), (.iface 144 (.agg #[(.slice (some ⟨c 2, 0, none⟩) 1 1), (I 1), (FN 94), (FN 110)])), (vI ⟨T, 6, none⟩ 6), (vI ⟨T, 7, none⟩ 8), (vT ⟨T, 8, none⟩ 24)], 209⟩ (by simp [sly96]) e).1; have h6 : W1.heap.size ≤ c 1 := h5; show c 1 ≠ R; omega⟩
      · simp only [dly96, List.mem_cons, List.not_mem_nil, or_false] at hd
        rcases hd with rfl | rfl | rfl | rfl | rfl | rfl | rfl | rfl | rfl | rfl
        · exact absurd hi (by simp)
        · exact absurd hi (by simp)
        · exact absurd hi (by simp)
        · exact absurd hi (by simp)
        · exact absurd hi (by simp)
        · exact absurd hi (by simp)
        · exact h52
        · exact hW.dep (52, 9) (by decide) h52
        · exact hW.dep (52, 33) (by decide) h52
        · exact hW.dep (52, 51) (by decide) h52) ?hend
  case hp1 =>
    intro q hq e
    simp only [sly96, List.mem_cons, List.not_mem_nil, or_false] at hq
    rcases hq with rfl | rfl | rfl <;> exact hi (by simp at e; simp [← e])
  case hp2 =>
    intro d hd e
    simp only [dly96, List.mem_cons, List.not_mem_nil, or_false] at hd
    rcases hd with rfl | rfl | rfl | rfl | rfl | rfl | rfl | rfl | rfl | rfl <;> exact absurd (by simp at e; simp [← e]) hi
  case hend =>
    intro c L W hall hW
    simp only [crly96, Act.put, List.setIfInBounds_toArray, List.set_cons_succ, List.set_cons_zero]
    have hbx := hW.box
    rw [hall 53 (by decide), if_pos rfl] at hbx
    have hO := hW.only
    have hs0 := hW.sl ⟨9, 0, fun _ => #[(vW ⟨L1, 0, none⟩ 1), (vI ⟨T, 0, none⟩ 8)], 209⟩ (by simp [sly96]) (hall 9 (by decide))
    have hs2 := hW.sl ⟨33, 2, fun _ => #[(.pointer (some ⟨T, 5, none⟩))], 141⟩ (by simp [sly96]) (hall 33 (by decide))
    have hs1 := hW.sl ⟨51, 1, fun c => #[(vI ⟨T, 1, none⟩ 8), (vI ⟨T, 2, none⟩ 4), (vW ⟨T, 3, none⟩ 32), (vI ⟨T, 4, none⟩ 6), (.iface 144 (.agg #[(.slice (some ⟨c 2, 0, none⟩) 1 1), (I 1), (FN 94), (FN 110)])), (vI ⟨T, 6, none⟩ 6), (vI ⟨T, 7, none⟩ 8), (vT ⟨T, 8, none⟩ 24)], 209⟩ (by simp [sly96]) (hall 51 (by decide))
    have HP : Hid (W.heap[R]? = some (.cells #[(.slice (some ⟨c 0, 0, none⟩) 2 2), (.slice (some ⟨c 1, 0, none⟩) 8 8)] 119 (0, 0)) ∧ Below R w W ∧ W.heap[L1]? = some (.cells #[S [116]] 9 (0, 0)) ∧ (R + 2 ≤ c 0 ∧ W.heap[c 0]? = some (.cells #[(vW ⟨L1, 0, none⟩ 1), (vI ⟨T, 0, none⟩ 8)] 209 (0, 0))) ∧ (R + 2 ≤ c 2 ∧ W.heap[c 2]? = some (.cells #[(.pointer (some ⟨T, 5, none⟩))] 141 (0, 0))) ∧ (R + 2 ≤ c 1 ∧ W.heap[c 1]? = some (.cells #[(vI ⟨T, 1, none⟩ 8), (vI ⟨T, 2, none⟩ 4), (vW ⟨T, 3, none⟩ 32), (vI ⟨T, 4, none⟩ 6), (.iface 144 (.agg #[(.slice (some ⟨c 2, 0, none⟩) 1 1), (I 1), (FN 94), (FN 110)])), (vI ⟨T, 6, none⟩ 6), (vI ⟨T, 7, none⟩ 8), (vT ⟨T, 8, none⟩ 24)] 209 (0, 0)))) := hide (⟨hbx, hO.below hb0 (by omega) (fun k e => by omega), (hO.block L1 (by omega) (by omega)).trans hL1, ⟨by have h5 : W1.heap.size ≤ c 0 := hs0.1; omega, hs0.2⟩, ⟨by have h5 : W1.heap.size ≤ c 2 := hs2.1; omega, hs2.2⟩, ⟨by have h5 : W1.heap.size ≤ c 1 := hs1.1; omega, hs1.2⟩⟩)
    clear hbx hO hW hall hs0 hs2 hs1
    go_wp2
    obtain ⟨hbx, hpp⟩ := unhide HP
    refine out1c (T := 119) (n := 2) (fun _ => by kernel_rfl) (fun _ => by kernel_rfl) (Z := R) rfl rfl rfl hbx rfl ?_
    subst hL1e; subst hRe
    exact ⟨c, rfl, hpp⟩
end Go.Proofs.YtmjaobddgaglhaaGreatDoor
namespace Go.Proofs.YtmjaobddgaglhaaGreatDoor
open Go.RowKit
set_option maxHeartbeats 4000000
set_option maxRecDepth 8000
def vrly60 (T _R L1 : Nat) (c : (Nat → Nat)) (i : Nat) : Value := match i with
  | 0 => (S [99])
  | 1 => (I 1)
  | 2 => (.agg #[(ptr L1), (I 1), (FN 93), (FN 109)])
  | 3 => (vW ⟨L1, 0, none⟩ 1)
  | 4 => (ptr T)
  | 5 => (ptr T)
  | 6 => (.pointer (some ⟨T, 0, none⟩))
  | 7 => (.agg #[(.pointer (some ⟨T, 0, none⟩)), (I 0), (FN 93), (FN 123), (FN 109)])
  | 8 => (vR ⟨T, 0, none⟩ 0)
  | 9 => (.slice (some ⟨c 0, 0, none⟩) 2 2)
  | 10 => (ptr T)
  | 11 => (ptr T)
  | 12 => (.pointer (some ⟨T, 1, none⟩))
  | 13 => (ptr T)
  | 14 => (ptr T)
  | 15 => (.pointer (some ⟨T, 2, none⟩))
  | 16 => (.slice (some ⟨c 2, 0, none⟩) 2 2)
  | 17 => (.agg #[(.slice (some ⟨c 2, 0, none⟩) 2 2), (I 1), (FN 94), (FN 110)])
  | 18 => (.iface 144 (.agg #[(.slice (some ⟨c 2, 0, none⟩) 2 2), (I 1), (FN 94), (FN 110)]))
  | 19 => (ptr T)
  | 20 => (ptr T)
  | 21 => (.pointer (some ⟨T, 3, none⟩))
  | 22 => (.agg #[(.pointer (some ⟨T, 3, none⟩)), (I 32), (FN 111), (FN 112)])
  | 23 => (vT ⟨T, 3, none⟩ 32)
  | 24 => (ptr T)
  | 25 => (ptr T)
  | 26 => (.pointer (some ⟨T, 4, none⟩))
  | 27 => (.agg #[(.pointer (some ⟨T, 4, none⟩)), (I 32), (FN 111), (FN 112)])
  | 28 => (vT ⟨T, 4, none⟩ 32)
  | 29 => (ptr T)
  | 30 => (ptr T)
  | 31 => (.pointer (some ⟨T, 5, none⟩))
  | 32 => (.agg #[(.pointer (some ⟨T, 5, none⟩)), (I 6), (FN 94), (FN 110)])
  | 33 => (vI ⟨T, 5, none⟩ 6)
  | 34 => (ptr T)
  | 35 => (ptr T)
  | 36 => (.pointer (some ⟨T, 6, none⟩))
  | 37 => (.agg #[(.pointer (some ⟨T, 6, none⟩)), (I 60), (FN 111), (FN 112)])
  | 38 => (vN ⟨T, 6, none⟩ 60)
  | 39 => (ptr T)
  | 40 => (ptr T)
  | 41 => (.pointer (some ⟨T, 7, none⟩))
  | 42 => (.agg #[(.pointer (some ⟨T, 7, none⟩)), (I 6), (FN 94), (FN 110)])
  | 43 => (vI ⟨T, 7, none⟩ 6)
  | 44 => (ptr T)
  | 45 => (ptr T)
  | 46 => (.pointer (some ⟨T, 8, none⟩))
  | 47 => (.agg #[(.pointer (some ⟨T, 8, none⟩)), (I 6), (FN 94), (FN 110)])
  | 48 => (vI ⟨T, 8, none⟩ 6)
  | 49 => (ptr T)
  | 50 => (ptr T)
  | 51 => (.pointer (some ⟨T, 9, none⟩))
  | 52 => (.agg #[(.pointer (some ⟨T, 9, none⟩)), (I 6), (FN 94), (FN 110)])
  | 53 => (vI ⟨T, 9, none⟩ 6)
  | 54 => (ptr T)
  | 55 => (ptr T)
  | 56 => (.pointer (some ⟨T, 10, none⟩))
  | 57 => (.agg #[(.pointer (some ⟨T, 10, none⟩)), (I 6), (FN 94), (FN 110)])
  | 58 => (vI ⟨T, 10, none⟩ 6)
  | 59 => (.slice (some ⟨c 1, 0, none⟩) 9 9)
  | 60 => (.agg #[(.slice (some ⟨c 0, 0, none⟩) 2 2), (.slice (some ⟨c 1, 0, none⟩) 9 9)])
  | 61 => undef
  | _ => undef
def rly60T : List (Op × Option Tmp × Option (Nat × Bool)) := [
  (.load 9 (.tmp 3), some 4, none),
  (.call { callee := .builtin .len, args := #[(.tmp 4)], argTypes := #[9] }, some 5, none),
  (.build 127 #[(0, (.tmp 3)), (1, (.tmp 5)), (2, (.func 93)), (3, (.func 109))], some 6, none),
  (.makeInterface 127 (.tmp 6), some 7, none),
  (.move (.tmp 0), some 8, none),
  (.nilCheck (.tmp 8), some 9, none),
  (.fieldAddr 48 (.tmp 9) 0, some 10, none),
  (.build 157 #[(0, (.tmp 10)), (1, (.const (I 0))), (2, (.func 93)), (3, (.func 123)), (4, (.func 109))], some 11, none),
  (.makeInterface 157 (.tmp 11), some 12, none),
  (.buildSlice 117 2 #[(0, (.tmp 7)), (1, (.tmp 12))], some 13, none),
  (.move (.tmp 0), some 14, none),
  (.nilCheck (.tmp 14), some 15, none),
  (.fieldAddr 48 (.tmp 15) 1, some 16, none),
  (.move (.tmp 0), some 17, none),
  (.nilCheck (.tmp 17), some 18, none),
  (.fieldAddr 48 (.tmp 18) 2, some 19, none),
  (.buildSlice 142 2 #[(0, (.tmp 16)), (1, (.tmp 19))], some 20, none),
  (.build 144 #[(0, (.tmp 20)), (1, (.const (I 1))), (2, (.func 94)), (3, (.func 110))], some 21, none),
  (.makeInterface 144 (.tmp 21), some 22, none),
  (.move (.tmp 0), some 23, none),
  (.nilCheck (.tmp 23), some 24, none),
  (.fieldAddr 48 (.tmp 24) 3, some 25, none),
  (.build 136 #[(0, (.tmp 25)), (1, (.const (I 32))), (2, (.func 111)), (3, (.func 112))], some 26, none),
  (.makeInterface 136 (.tmp 26), some 27, none),
  (.move (.tmp 0), some 28, none),
  (.nilCheck (.tmp 28), some 29, none),
  (.fieldAddr 48 (.tmp 29) 4, some 30, none),
  (.build 136 #[(0, (.tmp 30)), (1, (.const (I 32))), (2, (.func 111)), (3, (.func 112))], some 31, none),
  (.makeInterface 136 (.tmp 31), some 32, none),
  (.move (.tmp 0), some 33, none),
  (.nilCheck (.tmp 33), some 34, none),
  (.fieldAddr 48 (.tmp 34) 5, some 35, none),
  (.build 132 #[(0, (.tmp 35)), (1, (.const (I 6))), (2, (.func 94)), (3, (.func 110))], some 36, none),
  (.makeInterface 132 (.tmp 36), some 37, none),
  (.move (.tmp 0), some 38, none),
  (.nilCheck (.tmp 38), some 39, none),
  (.fieldAddr 48 (.tmp 39) 6, some 40, none),
  (.build 139 #[(0, (.tmp 40)), (1, (.const (I 60))), (2, (.func 111)), (3, (.func 112))], some 41, none),
  (.makeInterface 139 (.tmp 41), some 42, none),
  (.move (.tmp 0), some 43, none),
  (.nilCheck (.tmp 43), some 44, none),
  (.fieldAddr 48 (.tmp 44) 7, some 45, none),
  (.build 132 #[(0, (.tmp 45)), (1, (.const (I 6))), (2, (.func 94)), (3, (.func 110))], some 46, none),
  (.makeInterface 132 (.tmp 46), some 47, none),
  (.move (.tmp 0), some 48, none),
  (.nilCheck (.tmp 48), some 49, none),
  (.fieldAddr 48 (.tmp 49) 8, some 50, none),
  (.build 132 #[(0, (.tmp 50)), (1, (.const (I 6))), (2, (.func 94)), (3, (.func 110))], some 51, none),
  (.makeInterface 132 (.tmp 51), some 52, none),
  (.move (.tmp 0), some 53, none),
  (.nilCheck (.tmp 53), some 54, none),
  (.fieldAddr 48 (.tmp 54) 9, some 55, none),
  (.build 132 #[(0, (.tmp 55)), (1, (.const (I 6))), (2, (.func 94)), (3, (.func 110))], some 56, none),
  (.makeInterface 132 (.tmp 56), some 57, none),
  (.move (.tmp 0), some 58, none),
  (.nilCheck (.tmp 58), some 59, none),
  (.fieldAddr 48 (.tmp 59) 10, some 60, none),
  (.build 132 #[(0, (.tmp 60)), (1, (.const (I 6))), (2, (.func 94)), (3, (.func 110))], some 61, none),
  (.makeInterface 132 (.tmp 61), some 62, none),
  (.buildSlice 117 9 #[(0, (.tmp 22)), (1, (.tmp 27)), (2, (.tmp 32)), (3, (.tmp 37)), (4, (.tmp 42)), (5, (.tmp 47)), (6, (.tmp 52)), (7, (.tmp 57)), (8, (.tmp 62))], some 63, none),
  (.build 119 #[(0, (.tmp 13)), (1, (.tmp 63))], some 64, none),
  (.store 119 (.tmp 2) (.tmp 64), none, none)]
def crly60 (a0 : Act) (T _R L1 : Nat) (c : (Nat → Nat)) : Act := (((((((((((((((((((((((((((((((((((((((((((((((((((((((((((((a0.put (some 4) (S [99])).put (some 5) (I 1)).put (some 6) (.agg #[(ptr L1), (I 1), (FN 93), (FN 109)])).put (some 7) (vW ⟨L1, 0, none⟩ 1)).put (some 8) (ptr T)).put (some 9) (ptr T)).put (some 10) (.pointer (some ⟨T, 0, none⟩))).put (some 11) (.agg #[(.pointer (some ⟨T, 0, none⟩)), (I 0), (FN 93), (FN 123), (FN 109)])).put (some 12) (vR ⟨T, 0, none⟩ 0)).put (some 13) (.slice (some ⟨c 0, 0, none⟩) 2 2)).put (some 14) (ptr T)).put (some 15) (ptr T)).put (some 16) (.pointer (some ⟨T, 1, none⟩))).put (some 17) (ptr T)).put (some 18) (ptr T)).put (some 19) (.pointer (some ⟨T, 2, none⟩))).put (some 20) (.slice (some ⟨c 2, 0, none⟩) 2 2)).put (some 21) (.agg #[(.slice (some ⟨c 2, 0, none⟩) 2 2), (I 1), (FN 94), (FN 110)])).put (some 22) (.iface 144 (.agg #[(.slice (some ⟨c 2, 0, none⟩) 2 2), (I 1), (FN 94), (FN 110)]))).put (some 23) (ptr T)).put (some 24) (ptr T)).put (some 25) (.pointer (some ⟨T, 3, none⟩))).put (some 26) (.agg #[(.pointer (some ⟨T, 3, none⟩)), (I 32), (FN 111), (FN 112)])).put (some 27) (vT ⟨T, 3, none⟩ 32)).put (some 28) (ptr T)).put (some 29) (ptr T)).put (some 30) (.pointer (some ⟨T, 4, none⟩))).put (some 31) (.agg #[(.pointer (some ⟨T, 4, none⟩)), (I 32), (FN 111), (FN 112)])).put (some 32) (vT ⟨T, 4, none⟩ 32)).put (some 33) (ptr T)).put (some 34) (ptr T)).put (some 35) (.pointer (some ⟨T, 5, none⟩))).put (some 36) (.agg #[(.pointer (some ⟨T, 5, none⟩)), (I 6), (FN 94), (FN 110)])).put (some 37) (vI ⟨T, 5, none⟩ 6)).put (some 38) (ptr T)).put (some 39) (ptr T)).put (some 40) (.pointer (some ⟨T, 6, none⟩))).put (some 41) (.agg #[(.pointer (some ⟨T, 6, none⟩)), (I 60), (FN 111), (FN 112)])).put (some 42) (vN ⟨T, 6, none⟩ 60)).put (some 43) (ptr T)).put (some 44) (ptr T)).put (some 45) (.pointer (some ⟨T, 7, none⟩))).put (some 46) (.agg #[(.pointer (some ⟨T, 7, none⟩)), (I 6), (FN 94), (FN 110)])).put (some 47) (vI ⟨T, 7, none⟩ 6)).put (some 48) (ptr T)).put (some 49) (ptr T)).put (some 50) (.pointer (some ⟨T, 8, none⟩))).put (some 51) (.agg #[(.pointer (some ⟨T, 8, none⟩)), (I 6), (FN 94), (FN 110)])).put (some 52) (vI ⟨T, 8, none⟩ 6)).put (some 53) (ptr T)).put (some 54) (ptr T)).put (some 55) (.pointer (some ⟨T, 9, none⟩))).put (some 56) (.agg #[(.pointer (some ⟨T, 9, none⟩)), (I 6), (FN 94), (FN 110)])).put (some 57) (vI ⟨T, 9, none⟩ 6)).put (some 58) (ptr T)).put (some 59) (ptr T)).put (some 60) (.pointer (some ⟨T, 10, none⟩))).put (some 61) (.agg #[(.pointer (some ⟨T, 10, none⟩)), (I 6), (FN 94), (FN 110)])).put (some 62) (vI ⟨T, 10, none⟩ 6)).put (some 63) (.slice (some ⟨c 1, 0, none⟩) 9 9)).put (some 64) (.agg #[(.slice (some ⟨c 0, 0, none⟩) 2 2), (.slice (some ⟨c 1, 0, none⟩) 9 9)]))
def rly60D : List (Nat × Nat) := [(1, 0), (2, 1), (3, 2), (5, 4), (6, 5), (7, 6), (8, 7), (9, 3), (9, 8), (11, 10), (12, 11), (14, 13), (15, 14), (16, 12), (16, 15), (17, 16), (18, 17), (20, 19), (21, 20), (22, 21), (23, 22), (25, 24), (26, 25), (27, 26), (28, 27), (30, 29), (31, 30), (32, 31), (33, 32), (35, 34), (36, 35), (37, 36), (38, 37), (40, 39), (41, 40), (42, 41), (43, 42), (45, 44), (46, 45), (47, 46), (48, 47), (50, 49), (51, 50), (52, 51), (53, 52), (55, 54), (56, 55), (57, 56), (58, 57), (59, 18), (59, 23), (59, 28), (59, 33), (59, 38), (59, 43), (59, 48), (59, 53), (59, 58), (60, 9), (60, 59), (61, 60)]
set_option maxHeartbeats 4000000 in
theorem rly60 {ops : Array Oper} {id : Nat} {Q : Exit → Act → World → Prop} (T R L1 : Nat) (htab : ops.toList.map (fun o => (o.op, o.dst, o.guard)) = rly60T) (hdep : deplB rly60D ops = true) (hac : acB ops = true)
    (a0 : Act) (w : World) (hsz : 65 ≤ a0.tmps.size) (o0 : a0.tmps[0]? = some (ptr T)) (o2 : a0.tmps[2]? = some (ptr R)) (o3 : a0.tmps[3]? = some (ptr L1))
    (Wd : (Nat → Nat) → (Nat → Bool) → World → Prop) (h0 : ∃ c, Wd c (fun _ => false) w.drew) (hpure : ∀ i, i ∉ ([9, 16, 17, 18, 59, 60, 61] : List Nat) → ∀ c L W, Wd c L W → Wd c (upd L i) W)
    (r0 : ∀ c L W, Wd c L W → L 0 = false → (Instr.loadAt 9 (ptr L1)).run Tryz.prog W = .ok (S [99]) W)
    (r9 : ∀ c L W, Wd c L W → L 9 = false → L 3 = true → L 8 = true → ∃ c' W', (∀ j, L j = true → vrly60 T R L1 c' j = vrly60 T R L1 c j) ∧ (Instr.buildSlice 117 2 #[(0, (vW ⟨L1, 0, none⟩ 1)), (1, (vR ⟨T, 0, none⟩ 0))]).run Tryz.prog W = .ok (vrly60 T R L1 c' 9) W' ∧ Wd c' (upd L 9) W')
    (r16 : ∀ c L W, Wd c L W → L 16 = false → L 12 = true → L 15 = true → ∃ c' W', (∀ j, L j = true → vrly60 T R L1 c' j = vrly60 T R L1 c j) ∧ (Instr.buildSlice 142 2 #[(0, (.pointer (some ⟨T, 1, none⟩))), (1, (.pointer (some ⟨T, 2, none⟩)))]).run Tryz.prog W = .ok (vrly60 T R L1 c' 16) W' ∧ Wd c' (upd L 16) W')
    (e17 : ∀ c L W, Wd c L W → L 17 = false → L 16 = true → Wd c (upd L 17) W)
    (e18 : ∀ c L W, Wd c L W → L 18 = false → L 17 = true → Wd c (upd L 18) W)
    (r59 : ∀ c L W, Wd c L W → L 59 = false → L 18 = true → L 23 = true → L 28 = true → L 33 = true → L 38 = true → L 43 = true → L 48 = true → L 53 = true → L 58 = true → ∃ c' W', (∀ j, L j = true → vrly60 T R L1 c' j = vrly60 T R L1 c j) ∧ (Instr.buildSlice 117 9 #[(0, (.iface 144 (.agg #[(.slice (some ⟨c 2, 0, none⟩) 2 2), (I 1), (FN 94), (FN 110)]))), (1, (vT ⟨T, 3, none⟩ 32)), (2, (vT ⟨T, 4, none⟩ 32)), (3, (vI ⟨T, 5, none⟩ 6)), (4, (vN ⟨T, 6, none⟩ 60)), (5, (vI ⟨T, 7, none⟩ 6)), (6, (vI ⟨T, 8, none⟩ 6)), (7, (vI ⟨T, 9, none⟩ 6)), (8, (vI ⟨T, 10, none⟩ 6))]).run Tryz.prog W = .ok (vrly60 T R L1 c' 59) W' ∧ Wd c' (upd L 59) W')
    (e60 : ∀ c L W, Wd c L W → L 60 = false → L 9 = true → L 59 = true → Wd c (upd L 60) W)
    (r61 : ∀ c L W, Wd c L W → L 61 = false → L 60 = true → ∃ W', (Instr.storeAt 119 (ptr R) (.agg #[(.slice (some ⟨c 0, 0, none⟩) 2 2), (.slice (some ⟨c 1, 0, none⟩) 9 9)])).run Tryz.prog W = .ok () W' ∧ Wd c (upd L 61) W')
    (hend : ∀ c L W, (∀ i, i < 62 → L i = true) → Wd c L W → Q .normal (crly60 a0 T R L1 c) W) : (Code.region id ops true).wp Tryz.prog Q a0 w := by
  let val : (Nat → Nat) → Nat → Value := vrly60 T R L1
  have hosz : ops.size = 62 := by
    have := congrArg List.length htab
    simpa [rly60T] using this
  have hds : ∀ i s, (rly60T[i]?).bind (·.2.1) = some s → dstOf ops i = some s := fun i s hi => by rw [tab_dst htab, hi]
  have hdisB : disL rly60T = true := by rfl
  have hdis := disL_of htab hdisB
  have hold : ∀ s, rly60T.all (fun x => !(x.2.1 == some s)) = true → (List.range ops.size).all (fun j => !(dstOf ops j == some s)) = true := fun s h => holdL htab s h
  refine region_detX val Wd (hac_of hac) hdis h0 ?_ ?_
  rotate_left
  · intro c L W hall hW
    have := hend c L W (by rw [← hosz]; exact hall) hW
    have e : frm ops a0 (val c) (fun _ => true) ops.size = (crly60 a0 T R L1 c) := by
      rw [hosz]
      simp only [crly60, frm, if_true]
      rw [tab_dst htab 0, tab_dst htab 1, tab_dst htab 2, tab_dst htab 3, tab_dst htab 4, tab_dst htab 5, tab_dst htab 6, tab_dst htab 7, tab_dst htab 8, tab_dst htab 9, tab_dst htab 10, tab_dst htab 11, tab_dst htab 12, tab_dst htab 13, tab_dst htab 14, tab_dst htab 15, tab_dst htab 16, tab_dst htab 17, tab_dst htab 18, tab_dst htab 19, tab_dst htab 20, tab_dst htab 21, tab_dst htab 22, tab_dst htab 23, tab_dst htab 24, tab_dst htab 25, tab_dst htab 26, tab_dst htab 27, tab_dst htab 28, tab_dst htab 29, tab_dst htab 30, tab_dst htab 31, tab_dst htab 32, tab_dst htab 33, tab_dst htab 34, tab_dst htab 35, tab_dst htab 36, tab_dst htab 37, tab_dst htab 38, tab_dst htab 39, tab_dst htab 40, tab_dst htab 41, tab_dst htab 42, tab_dst htab 43, tab_dst htab 44, tab_dst htab 45, tab_dst htab 46, tab_dst htab 47, tab_dst htab 48, tab_dst htab 49, tab_dst htab 50, tab_dst htab 51, tab_dst htab 52, tab_dst htab 53, tab_dst htab 54, tab_dst htab 55, tab_dst htab 56, tab_dst htab 57, tab_dst htab 58, tab_dst htab 59, tab_dst htab 60, (show dstOf ops 61 = none from (tab_dst htab 61).trans rfl), put_none]
      rfl
    rw [e]
    exact this
  intro i o ho c L a w' hL hd ha hW
  have hi : i < 62 := by rw [← hosz]; exact (Array.getElem?_eq_some_iff.1 ho).1
  have G : ∀ j s : Nat, (rly60T[j]?).bind (·.2.1) = some s → s < 65 → (i, j) ∈ rly60D → a.tmps[s]? = some (val c j) := fun j s h1 h2 h3 => frm_at hdis ha j s (hds j s h1) (by omega) (depl_of hdep i j h3 ho hd)
  match i, ho, hL, hi, G with
  | 0, ho, hL, _, G =>
    obtain ⟨hop, hgd⟩ := tab3 htab ho rfl
    have h0 := frm_old ha 3 _ (hold 3 rfl) o3
    exact (dXr ho hgd (hpure 0 (by decide) c L w' hW) (g_load hop (eval_of h0) (r0 c L w' hW hL)))
  | 1, ho, hL, _, G =>
    obtain ⟨hop, hgd⟩ := tab3 htab ho rfl
    have h0 := G 0 4 rfl (by decide) (by decide)
    exact (dXr ho hgd (hpure 1 (by decide) c L w' hW) (run_len _ _ _ hop _ (eval_of h0) _))
  | 2, ho, hL, _, G =>
    obtain ⟨hop, hgd⟩ := tab3 htab ho rfl
    have h0 := frm_old ha 3 _ (hold 3 rfl) o3
    have h1 := G 1 5 rfl (by decide) (by decide)
    exact (dXr ho hgd (hpure 2 (by decide) c L w' hW) (g_build hop (map4 (eval_of h0) (eval_of h1) rfl rfl) (by kernel_rfl)))
  | 3, ho, hL, _, G =>
    obtain ⟨hop, hgd⟩ := tab3 htab ho rfl
    have h0 := G 2 6 rfl (by decide) (by decide)
    exact (dXr ho hgd (hpure 3 (by decide) c L w' hW) (g_mki hop (eval_of h0) (by kernel_rfl)))
  | 4, ho, hL, _, G =>
    obtain ⟨hop, hgd⟩ := tab3 htab ho rfl
    have h0 := frm_old ha 0 _ (hold 0 rfl) o0
    exact (dXr ho hgd (hpure 4 (by decide) c L w' hW) (g_mov hop (eval_of h0)))
  | 5, ho, hL, _, G =>
    obtain ⟨hop, hgd⟩ := tab3 htab ho rfl
    have h0 := G 4 8 rfl (by decide) (by decide)
    exact (dXr ho hgd (hpure 5 (by decide) c L w' hW) (run_nil _ _ _ hop _ (eval_of h0) _))
  | 6, ho, hL, _, G =>
    obtain ⟨hop, hgd⟩ := tab3 htab ho rfl
    have h0 := G 5 9 rfl (by decide) (by decide)
    exact (dXr ho hgd (hpure 6 (by decide) c L w' hW) (g_field hop (eval_of h0) (by kernel_rfl)))
  | 7, ho, hL, _, G =>
    obtain ⟨hop, hgd⟩ := tab3 htab ho rfl
    have h0 := G 6 10 rfl (by decide) (by decide)
    exact (dXr ho hgd (hpure 7 (by decide) c L w' hW) (g_build hop (map5 (eval_of h0) rfl rfl rfl rfl) (by kernel_rfl)))
  | 8, ho, hL, _, G =>
    obtain ⟨hop, hgd⟩ := tab3 htab ho rfl
    have h0 := G 7 11 rfl (by decide) (by decide)
    exact (dXr ho hgd (hpure 8 (by decide) c L w' hW) (g_mki hop (eval_of h0) (by kernel_rfl)))
  | 9, ho, hL, _, G =>
    obtain ⟨hop, hgd⟩ := tab3 htab ho rfl
    have h0 := G 3 7 rfl (by decide) (by decide)
    have h1 := G 8 12 rfl (by decide) (by decide)
    obtain ⟨c', W', q0, q1, q2⟩ := r9 c L w' hW hL (depl_of hdep 9 3 (by decide) ho hd) (depl_of hdep 9 8 (by decide) ho hd)
    exact doesX_runw ho (wanted_none hgd) c' q0 q2 (g_bs hop (by simp only [List.map_toArray, List.map_cons, List.map_nil, eval_of h0, eval_of h1]; first | done | rfl) q1)
  | 10, ho, hL, _, G =>
    obtain ⟨hop, hgd⟩ := tab3 htab ho rfl
    have h0 := frm_old ha 0 _ (hold 0 rfl) o0
    exact (dXr ho hgd (hpure 10 (by decide) c L w' hW) (g_mov hop (eval_of h0)))
  | 11, ho, hL, _, G =>
    obtain ⟨hop, hgd⟩ := tab3 htab ho rfl
    have h0 := G 10 14 rfl (by decide) (by decide)
    exact (dXr ho hgd (hpure 11 (by decide) c L w' hW) (run_nil _ _ _ hop _ (eval_of h0) _))
  | 12, ho, hL, _, G =>
    obtain ⟨hop, hgd⟩ := tab3 htab ho rfl
    have h0 := G 11 15 rfl (by decide) (by decide)
    exact (dXr ho hgd (hpure 12 (by decide) c L w' hW) (g_field hop (eval_of h0) (by kernel_rfl)))
  | 13, ho, hL, _, G =>
    obtain ⟨hop, hgd⟩ := tab3 htab ho rfl
    have h0 := frm_old ha 0 _ (hold 0 rfl) o0
    exact (dXr ho hgd (hpure 13 (by decide) c L w' hW) (g_mov hop (eval_of h0)))
  | 14, ho, hL, _, G =>
    obtain ⟨hop, hgd⟩ := tab3 htab ho rfl
    have h0 := G 13 17 rfl (by decide) (by decide)
    exact (dXr ho hgd (hpure 14 (by decide) c L w' hW) (run_nil _ _ _ hop _ (eval_of h0) _))
  | 15, ho, hL, _, G =>
    obtain ⟨hop, hgd⟩ := tab3 htab ho rfl
    have h0 := G 14 18 rfl (by decide) (by decide)
    exact (dXr ho hgd (hpure 15 (by decide) c L w' hW) (g_field hop (eval_of h0) (by kernel_rfl)))
  | 16, ho, hL, _, G =>
    obtain ⟨hop, hgd⟩ := tab3 htab ho rfl
    have h0 := G 12 16 rfl (by decide) (by decide)
    have h1 := G 15 19 rfl (by decide) (by decide)
    obtain ⟨c', W', q0, q1, q2⟩ := r16 c L w' hW hL (depl_of hdep 16 12 (by decide) ho hd) (depl_of hdep 16 15 (by decide) ho hd)
    exact doesX_runw ho (wanted_none hgd) c' q0 q2 (g_bs hop (by simp only [List.map_toArray, List.map_cons, List.map_nil, eval_of h0, eval_of h1]; first | done | rfl) q1)
  | 17, ho, hL, _, G =>
    obtain ⟨hop, hgd⟩ := tab3 htab ho rfl
    have h0 := G 16 20 rfl (by decide) (by decide)
    exact (dXr ho hgd (e17 c L w' hW hL (depl_of hdep 17 16 (by decide) ho hd)) (g_build hop (map4 (eval_of h0) rfl rfl rfl) (by kernel_rfl)))
  | 18, ho, hL, _, G =>
    obtain ⟨hop, hgd⟩ := tab3 htab ho rfl
    have h0 := G 17 21 rfl (by decide) (by decide)
    exact (dXr ho hgd (e18 c L w' hW hL (depl_of hdep 18 17 (by decide) ho hd)) (g_mki hop (eval_of h0) (by kernel_rfl)))
  | 19, ho, hL, _, G =>
    obtain ⟨hop, hgd⟩ := tab3 htab ho rfl
    have h0 := frm_old ha 0 _ (hold 0 rfl) o0
    exact (dXr ho hgd (hpure 19 (by decide) c L w' hW) (g_mov hop (eval_of h0)))
  | 20, ho, hL, _, G =>
    obtain ⟨hop, hgd⟩ := tab3 htab ho rfl
    have h0 := G 19 23 rfl (by decide) (by decide)
    exact (dXr ho hgd (hpure 20 (by decide) c L w' hW) (run_nil _ _ _ hop _ (eval_of h0) _))
  | 21, ho, hL, _, G =>
    obtain ⟨hop, hgd⟩ := tab3 htab ho rfl
    have h0 := G 20 24 rfl (by decide) (by decide)
    exact (dXr ho hgd (hpure 21 (by decide) c L w' hW) (g_field hop (eval_of h0) (by kernel_rfl)))
  | 22, ho, hL, _, G =>
    obtain ⟨hop, hgd⟩ := tab3 htab ho rfl
    have h0 := G 21 25 rfl (by decide) (by decide)
    exact (dXr ho hgd (hpure 22 (by decide) c L w' hW) (g_build hop (map4 (eval_of h0) rfl rfl rfl) (by kernel_rfl)))
  | 23, ho, hL, _, G =>
    obtain ⟨hop, hgd⟩ := tab3 htab ho rfl
    have h0 := G 22 26 rfl (by decide) (by decide)
    exact (dXr ho hgd (hpure 23 (by decide) c L w' hW) (g_mki hop (eval_of h0) (by kernel_rfl)))
  | 24, ho, hL, _, G =>
    obtain ⟨hop, hgd⟩ := tab3 htab ho rfl
    have h0 := frm_old ha 0 _ (hold 0 rfl) o0
    exact (dXr ho hgd (hpure 24 (by decide) c L w' hW) (g_mov hop (eval_of h0)))
  | 25, ho, hL, _, G =>
    obtain ⟨hop, hgd⟩ := tab3 htab ho rfl
    have h0 := G 24 28 rfl (by decide) (by decide)
    exact (dXr ho hgd (hpure 25 (by decide) c L w' hW) (run_nil _ _ _ hop _ (eval_of h0) _))
  | 26, ho, hL, _, G =>
    obtain ⟨hop, hgd⟩ := tab3 htab ho rfl
    have h0 := G 25 29 rfl (by decide) (by decide)
    exact (dXr ho hgd (hpure 26 (by decide) c L w' hW) (g_field hop (eval_of h0) (by kernel_rfl)))
  | 27, ho, hL, _, G =>
    obtain ⟨hop, hgd⟩ := tab3 htab ho rfl
    have h0 := G 26 30 rfl (by decide) (by decide)
    exact (dXr ho hgd (hpure 27 (by decide) c L w' hW) (g_build hop (map4 (eval_of h0) rfl rfl rfl) (by kernel_rfl)))
  | 28, ho, hL, _, G =>
    obtain ⟨hop, hgd⟩ := tab3 htab ho rfl
    have h0 := G 27 31 rfl (by decide) (by decide)
    exact (dXr ho hgd (hpure 28 (by decide) c L w' hW) (g_mki hop (eval_of h0) (by kernel_rfl)))
  | 29, ho, hL, _, G =>
    obtain ⟨hop, hgd⟩ := tab3 htab ho rfl
    have h0 := frm_old ha 0 _ (hold 0 rfl) o0
    exact (dXr ho hgd (hpure 29 (by decide) c L w' hW) (g_mov hop (eval_of h0)))
  | 30, ho, hL, _, G =>
    obtain ⟨hop, hgd⟩ := tab3 htab ho rfl
    have h0 := G 29 33 rfl (by decide) (by decide)
    exact (dXr ho hgd (hpure 30 (by decide) c L w' hW) (run_nil _ _ _ hop _ (eval_of h0) _))
  | 31, ho, hL, _, G =>
    obtain ⟨hop, hgd⟩ := tab3 htab ho rfl
    have h0 := G 30 34 rfl (by decide) (by decide)
    exact (dXr ho hgd (hpure 31 (by decide) c L w' hW) (g_field hop (eval_of h0) (by kernel_rfl)))
  | 32, ho, hL, _, G =>
    obtain ⟨hop, hgd⟩ := tab3 htab ho rfl
    have h0 := G 31 35 rfl (by decide) (by decide)
    exact (dXr ho hgd (hpure 32 (by decide) c L w' hW) (g_build hop (map4 (eval_of h0) rfl rfl rfl) (by kernel_rfl)))
  | 33, ho, hL, _, G =>
    obtain ⟨hop, hgd⟩ := tab3 htab ho rfl
    have h0 := G 32 36 rfl (by decide) (by decide)
    exact (dXr ho hgd (hpure 33 (by decide) c L w' hW) (g_mki hop (eval_of h0) (by kernel_rfl)))
  | 34, ho, hL, _, G =>
    obtain ⟨hop, hgd⟩ := tab3 htab ho rfl
    have h0 := frm_old ha 0 _ (hold 0 rfl) o0
    exact (dXr ho hgd (hpure 34 (by decide) c L w' hW) (g_mov hop (eval_of h0)))
  | 35, ho, hL, _, G =>
    obtain ⟨hop, hgd⟩ := tab3 htab ho rfl
    have h0 := G 34 38 rfl (by decide) (by decide)
    exact (dXr ho hgd (hpure 35 (by decide) c L w' hW) (run_nil _ _ _ hop _ (eval_of h0) _))
  | 36, ho, hL, _, G =>
    obtain ⟨hop, hgd⟩ := tab3 htab ho rfl
    have h0 := G 35 39 rfl (by decide) (by decide)
    exact (dXr ho hgd (hpure 36 (by decide) c L w' hW) (g_field hop (eval_of h0) (by kernel_rfl)))
  | 37, ho, hL, _, G =>
    obtain ⟨hop, hgd⟩ := tab3 htab ho rfl
    have h0 := G 36 40 rfl (by decide) (by decide)
    exact (dXr ho hgd (hpure 37 (by decide) c L w' hW) (g_build hop (map4 (eval_of h0) rfl rfl rfl) (by kernel_rfl)))
  | 38, ho, hL, _, G =>
    obtain ⟨hop, hgd⟩ := tab3 htab ho rfl
    have h0 := G 37 41 rfl (by decide) (by decide)
    exact (dXr ho hgd (hpure 38 (by decide) c L w' hW) (g_mki hop (eval_of h0) (by kernel_rfl)))
  | 39, ho, hL, _, G =>
    obtain ⟨hop, hgd⟩ := tab3 htab ho rfl
    have h0 := frm_old ha 0 _ (hold 0 rfl) o0
    exact (dXr ho hgd (hpure 39 (by decide) c L w' hW) (g_mov hop (eval_of h0)))
  | 40, ho, hL, _, G =>
    obtain ⟨hop, hgd⟩ := tab3 htab ho rfl
    have h0 := G 39 43 rfl (by decide) (by decide)
    exact (dXr ho hgd (hpure 40 (by decide) c L w' hW) (run_nil _ _ _ hop _ (eval_of h0) _))
  | 41, ho, hL, _, G =>
    obtain ⟨hop, hgd⟩ := tab3 htab ho rfl
    have h0 := G 40 44 rfl (by decide) (by decide)
    exact (dXr ho hgd (hpure 41 (by decide) c L w' hW) (g_field hop (eval_of h0) (by kernel_rfl)))
  | 42, ho, hL, _, G =>
    obtain ⟨hop, hgd⟩ := tab3 htab ho rfl
    have h0 := G 41 45 rfl (by decide) (by decide)
    exact (dXr ho hgd (hpure 42 (by decide) c L w' hW) (g_build hop (map4 (eval_of h0) rfl rfl rfl) (by kernel_rfl)))
  | 43, ho, hL, _, G =>
    obtain ⟨hop, hgd⟩ := tab3 htab ho rfl
    have h0 := G 42 46 rfl (by decide) (by decide)
    exact (dXr ho hgd (hpure 43 (by decide) c L w' hW) (g_mki hop (eval_of h0) (by kernel_rfl)))
  | 44, ho, hL, _, G =>
    obtain ⟨hop, hgd⟩ := tab3 htab ho rfl
    have h0 := frm_old ha 0 _ (hold 0 rfl) o0
    exact (dXr ho hgd (hpure 44 (by decide) c L w' hW) (g_mov hop (eval_of h0)))
  | 45, ho, hL, _, G =>
    obtain ⟨hop, hgd⟩ := tab3 htab ho rfl
    have h0 := G 44 48 rfl (by decide) (by decide)
    exact (dXr ho hgd (hpure 45 (by decide) c L w' hW) (run_nil _ _ _ hop _ (eval_of h0) _))
  | 46, ho, hL, _, G =>
    obtain ⟨hop, hgd⟩ := tab3 htab ho rfl
    have h0 := G 45 49 rfl (by decide) (by decide)
    exact (dXr ho hgd (hpure 46 (by decide) c L w' hW) (g_field hop (eval_of h0) (by kernel_rfl)))
  | 47, ho, hL, _, G =>
    obtain ⟨hop, hgd⟩ := tab3 htab ho rfl
    have h0 := G 46 50 rfl (by decide) (by decide)
    exact (dXr ho hgd (hpure 47 (by decide) c L w' hW) (g_build hop (map4 (eval_of h0) rfl rfl rfl) (by kernel_rfl)))
  | 48, ho, hL, _, G =>
    obtain ⟨hop, hgd⟩ := tab3 htab ho rfl
    have h0 := G 47 51 rfl (by decide) (by decide)
    exact (dXr ho hgd (hpure 48 (by decide) c L w' hW) (g_mki hop (eval_of h0) (by kernel_rfl)))
  | 49, ho, hL, _, G =>
    obtain ⟨hop, hgd⟩ := tab3 htab ho rfl
    have h0 := frm_old ha 0 _ (hold 0 rfl) o0
    exact (dXr ho hgd (hpure 49 (by decide) c L w' hW) (g_mov hop (eval_of h0)))
  | 50, ho, hL, _, G =>
    obtain ⟨hop, hgd⟩ := tab3 htab ho rfl
    have h0 := G 49 53 rfl (by decide) (by decide)
    exact (dXr ho hgd (hpure 50 (by decide) c L w' hW) (run_nil _ _ _ hop _ (eval_of h0) _))
  | 51, ho, hL, _, G =>
    obtain ⟨hop, hgd⟩ := tab3 htab ho rfl
    have h0 := G 50 54 rfl (by decide) (by decide)
    exact (dXr ho hgd (hpure 51 (by decide) c L w' hW) (g_field hop (eval_of h0) (by kernel_rfl)))
  | 52, ho, hL, _, G =>
    obtain ⟨hop, hgd⟩ := tab3 htab ho rfl
    have h0 := G 51 55 rfl (by decide) (by decide)
    exact (dXr ho hgd (hpure 52 (by decide) c L w' hW) (g_build hop (map4 (eval_of h0) rfl rfl rfl) (by kernel_rfl)))
  | 53, ho, hL, _, G =>
    obtain ⟨hop, hgd⟩ := tab3 htab ho rfl
    have h0 := G 52 56 rfl (by decide) (by decide)
    exact (dXr ho hgd (hpure 53 (by decide) c L w' hW) (g_mki hop (eval_of h0) (by kernel_rfl)))
  | 54, ho, hL, _, G =>
    obtain ⟨hop, hgd⟩ := tab3 htab ho rfl
    have h0 := frm_old ha 0 _ (hold 0 rfl) o0
    exact (dXr ho hgd (hpure 54 (by decide) c L w' hW) (g_mov hop (eval_of h0)))
  | 55, ho, hL, _, G =>
    obtain ⟨hop, hgd⟩ := tab3 htab ho rfl
    have h0 := G 54 58 rfl (by decide) (by decide)
    exact (dXr ho hgd (hpure 55 (by decide) c L w' hW) (run_nil _ _ _ hop _ (eval_of h0) _))
  | 56, ho, hL, _, G =>
    obtain ⟨hop, hgd⟩ := tab3 htab ho rfl
    have h0 := G 55 59 rfl (by decide) (by decide)
    exact (dXr ho hgd (hpure 56 (by decide) c L w' hW) (g_field hop (eval_of h0) (by kernel_rfl)))
  | 57, ho, hL, _, G =>
    obtain ⟨hop, hgd⟩ := tab3 htab ho rfl
    have h0 := G 56 60 rfl (by decide) (by decide)
    exact (dXr ho hgd (hpure 57 (by decide) c L w' hW) (g_build hop (map4 (eval_of h0) rfl rfl rfl) (by kernel_rfl)))
  | 58, ho, hL, _, G =>
    obtain ⟨hop, hgd⟩ := tab3 htab ho rfl
    have h0 := G 57 61 rfl (by decide) (by decide)
    exact (dXr ho hgd (hpure 58 (by decide) c L w' hW) (g_mki hop (eval_of h0) (by kernel_rfl)))
  | 59, ho, hL, _, G =>
    obtain ⟨hop, hgd⟩ := tab3 htab ho rfl
    have h0 := G 18 22 rfl (by decide) (by decide)
    have h1 := G 23 27 rfl (by decide) (by decide)
    have h2 := G 28 32 rfl (by decide) (by decide)
    have h3 := G 33 37 rfl (by decide) (by decide)
    have h4 := G 38 42 rfl (by decide) (by decide)
    have h5 := G 43 47 rfl (by decide) (by decide)
    have h6 := G 48 52 rfl (by decide) (by decide)
    have h7 := G 53 57 rfl (by decide) (by decide)
    have h8 := G 58 62 rfl (by decide) (by decide)
    obtain ⟨c', W', q0, q1, q2⟩ := r59 c L w' hW hL (depl_of hdep 59 18 (by decide) ho hd) (depl_of hdep 59 23 (by decide) ho hd) (depl_of hdep 59 28 (by decide) ho hd) (depl_of hdep 59 33 (by decide) ho hd) (depl_of hdep 59 38 (by decide) ho hd) (depl_of hdep 59 43 (by decide) ho hd) (depl_of hdep 59 48 (by decide) ho hd) (depl_of hdep 59 53 (by decide) ho hd) (depl_of hdep 59 58 (by decide) ho hd)
    exact doesX_runw ho (wanted_none hgd) c' q0 q2 (g_bs hop (by simp only [List.map_toArray, List.map_cons, List.map_nil, eval_of h0, eval_of h1, eval_of h2, eval_of h3, eval_of h4, eval_of h5, eval_of h6, eval_of h7, eval_of h8]; first | done | rfl) q1)
  | 60, ho, hL, _, G =>
    obtain ⟨hop, hgd⟩ := tab3 htab ho rfl
    have h0 := G 9 13 rfl (by decide) (by decide)
    have h1 := G 59 63 rfl (by decide) (by decide)
    exact (dXr ho hgd (e60 c L w' hW hL (depl_of hdep 60 9 (by decide) ho hd) (depl_of hdep 60 59 (by decide) ho hd)) (g_build hop (by simp only [List.map_toArray, List.map_cons, List.map_nil, eval_of h0, eval_of h1]; first | done | rfl) (by kernel_rfl)))
  | 61, ho, hL, _, G =>
    obtain ⟨hop, hgd⟩ := tab3 htab ho rfl
    have h0 := frm_old ha 2 _ (hold 2 rfl) o2
    have h1 := G 60 64 rfl (by decide) (by decide)
    obtain ⟨W', q1, q2⟩ := r61 c L w' hW hL (depl_of hdep 61 60 (by decide) ho hd)
    exact doesX_of (doesL_skp ho (wanted_none hgd) rfl q2 (g_store hop (eval_of h0) (eval_of h1) q1))
  | (i + 62), ho, hL, hi, _ => exact absurd hi (by omega)
def sly60 (T : Nat) (L1 : Nat) : List Sl := [⟨9, 0, fun _ => #[(vW ⟨L1, 0, none⟩ 1), (vR ⟨T, 0, none⟩ 0)], 209⟩, ⟨16, 2, fun _ => #[(.pointer (some ⟨T, 1, none⟩)), (.pointer (some ⟨T, 2, none⟩))], 141⟩, ⟨59, 1, fun c => #[(.iface 144 (.agg #[(.slice (some ⟨c 2, 0, none⟩) 2 2), (I 1), (FN 94), (FN 110)])), (vT ⟨T, 3, none⟩ 32), (vT ⟨T, 4, none⟩ 32), (vI ⟨T, 5, none⟩ 6), (vN ⟨T, 6, none⟩ 60), (vI ⟨T, 7, none⟩ 6), (vI ⟨T, 8, none⟩ 6), (vI ⟨T, 9, none⟩ 6), (vI ⟨T, 10, none⟩ 6)], 209⟩]
def dly60 : List (Nat × Nat) := [(17, 16), (18, 16), (59, 16), (60, 9), (60, 59), (60, 16), (61, 60), (61, 9), (61, 16), (61, 59)]
theorem lay60 (T : Nat) (w : World) : Calls Tryz.prog 89 #[ptr T] w fun e w' => ∃ c : Nat → Nat, e = .returned (.agg (#[(.slice (some ⟨c 0, 0, none⟩) 2 2), (.slice (some ⟨c 1, 0, none⟩) 9 9)])) ∧ Below w.heap.size w w' ∧ w'.heap[w.heap.size + 1]? = some (.cells #[S [99]] 9 (0, 0)) ∧ (w.heap.size + 2 ≤ c 0 ∧ w'.heap[c 0]? = some (.cells #[(vW ⟨w.heap.size + 1, 0, none⟩ 1), (vR ⟨T, 0, none⟩ 0)] 209 (0, 0))) ∧ (w.heap.size + 2 ≤ c 2 ∧ w'.heap[c 2]? = some (.cells #[(.pointer (some ⟨T, 1, none⟩)), (.pointer (some ⟨T, 2, none⟩))] 141 (0, 0))) ∧ (w.heap.size + 2 ≤ c 1 ∧ w'.heap[c 1]? = some (.cells #[(.iface 144 (.agg #[(.slice (some ⟨c 2, 0, none⟩) 2 2), (I 1), (FN 94), (FN 110)])), (vT ⟨T, 3, none⟩ 32), (vT ⟨T, 4, none⟩ 32), (vI ⟨T, 5, none⟩ 6), (vN ⟨T, 6, none⟩ 60), (vI ⟨T, 7, none⟩ 6), (vI ⟨T, 8, none⟩ 6), (vI ⟨T, 9, none⟩ 6), (vI ⟨T, 10, none⟩ 6)] 209 (0, 0))) := by
  have hb0 : Below w.heap.size w ((w.alloc (.cells #[.slice none 0 0, .slice none 0 0] 119)).alloc (.cells #[S [99]] 9)) := by
    refine (((Below.refl _ w).alloc (Nat.le_refl _) _)).alloc (by first | (simp; done) | (simp; omega)) _
  have hR : ((w.alloc (.cells #[.slice none 0 0, .slice none 0 0] 119)).alloc (.cells #[S [99]] 9)).heap[w.heap.size]? = some (.cells #[.slice none 0 0, .slice none 0 0] 119 (0, 0)) := by
    rw [heap_alloc_old _ _ (by first | (simp; done) | (simp; omega))]; exact heap_alloc_new _ _
  have hL1 : ((w.alloc (.cells #[.slice none 0 0, .slice none 0 0] 119)).alloc (.cells #[S [99]] 9)).heap[w.heap.size + 1]? = some (.cells #[S [99]] 9 (0, 0)) := by
    have e := heap_alloc_new ((w.alloc (.cells #[.slice none 0 0, .slice none 0 0] 119))) (.cells #[S [99]] 9)
    simpa using e
  have hsz : ((w.alloc (.cells #[.slice none 0 0, .slice none 0 0] 119)).alloc (.cells #[S [99]] 9)).heap.size = w.heap.size + 2 := by simp
  go_enter Tryz.func89, Tryz.ntmps89
  go_wp2_with fail
  generalize ((w.alloc (.cells #[.slice none 0 0, .slice none 0 0] 119)).alloc (.cells #[S [99]] 9)) = W1 at *
  generalize hL1e : w.heap.size + 1 = L1 at *
  generalize hRe : w.heap.size = R at *
  have hw1 : ∃ w1s, w1s = W1.heap.size := ⟨_, rfl⟩
  obtain ⟨w1s, hw1⟩ := hw1
  rw [← hw1] at hsz
  refine rly60 T R L1 rfl (by rfl) (by rfl) _ W1 (by simp) rfl rfl rfl (Ly W1 R (fun _ => #[.slice none 0 0, .slice none 0 0]) (fun c => #[(.slice (some ⟨c 0, 0, none⟩) 2 2), (.slice (some ⟨c 1, 0, none⟩) 9 9)]) 61 (sly60 T L1) dly60) ⟨fun _ => 0, (Only.drew _ W1), (fun _ _ e => by cases e), (fun _ _ e => by cases e), hR⟩ (fun i hi c L W hW => hW.pure i ?hp1 ?hp2 (fun e => hi (by simp [e])))
    (fun c L W hW _ => s_ld (T := 9) (fun _ => by kernel_rfl) (cellr ((hW.only.block L1 (by omega) (by omega)).trans hL1) rfl))
    (fun c L W hW hL h3 h8 => by
      refine ⟨cset c 0 W.heap.size, W.alloc (.cells #[(vW ⟨L1, 0, none⟩ 1), (vR ⟨T, 0, none⟩ 0)] 209), fun j hj => ?_, by kernel_rfl, hW.slice ⟨9, 0, fun _ => #[(vW ⟨L1, 0, none⟩ 1), (vR ⟨T, 0, none⟩ 0)], 209⟩ (no_of (hW.dep (61, 9) (by decide)) hL) (by simp) (fun _ => rfl) (fun d hd hi => ?_) (fun q hq e => ?_) (fun q hq e => ?_) (fun m => rfl)⟩
      · match j, hj with
        | 0, _ => rfl
        | 1, _ => rfl
        | 2, _ => rfl
        | 3, _ => rfl
        | 4, _ => rfl
        | 5, _ => rfl
        | 6, _ => rfl
        | 7, _ => rfl
        | 8, _ => rfl
        | 9, hj => rw [hL] at hj; cases hj
        | 10, _ => rfl
        | 11, _ => rfl
        | 12, _ => rfl
        | 13, _ => rfl
        | 14, _ => rfl
        | 15, _ => rfl
        | 16, _ => rfl
        | 17, _ => rfl
        | 18, _ => rfl
        | 19, _ => rfl
        | 20, _ => rfl
        | 21, _ => rfl
        | 22, _ => rfl
        | 23, _ => rfl
        | 24, _ => rfl
        | 25, _ => rfl
        | 26, _ => rfl
        | 27, _ => rfl
        | 28, _ => rfl
        | 29, _ => rfl
        | 30, _ => rfl
        | 31, _ => rfl
        | 32, _ => rfl
        | 33, _ => rfl
        | 34, _ => rfl
        | 35, _ => rfl
        | 36, _ => rfl
        | 37, _ => rfl
        | 38, _ => rfl
        | 39, _ => rfl
        | 40, _ => rfl
        | 41, _ => rfl
        | 42, _ => rfl
        | 43, _ => rfl
        | 44, _ => rfl
        | 45, _ => rfl
        | 46, _ => rfl
        | 47, _ => rfl
        | 48, _ => rfl
        | 49, _ => rfl
        | 50, _ => rfl
        | 51, _ => rfl
        | 52, _ => rfl
        | 53, _ => rfl
        | 54, _ => rfl
        | 55, _ => rfl
        | 56, _ => rfl
        | 57, _ => rfl
        | 58, _ => rfl
        | 59, _ => rfl
        | 60, hj => rw [hW.dep (60, 9) (by decide) hj] at hL; cases hL
        | 61, _ => rfl
        | (k + 62), _ => rfl
      · simp only [dly60, List.mem_cons, List.not_mem_nil, or_false] at hd
        rcases hd with rfl | rfl | rfl | rfl | rfl | rfl | rfl | rfl | rfl | rfl
        · exact absurd hi (by simp)
        · exact absurd hi (by simp)
        · exact absurd hi (by simp)
        · exact absurd hi (by simp)
        · exact absurd hi (by simp)
        · exact absurd hi (by simp)
        · exact absurd hi (by simp)
        · exact absurd hi (by simp)
        · exact absurd hi (by simp)
        · exact absurd hi (by simp)
      · simp only [sly60, List.mem_cons, List.not_mem_nil, or_false] at hq
        rcases hq with rfl | rfl | rfl
        · rw [hL] at e; cases e
        · exact ⟨(by simp), fun m => rfl⟩
        · exact ⟨(by simp), fun m => rfl⟩
      · simp only [sly60, List.mem_cons, List.not_mem_nil, or_false] at hq
        rcases hq with rfl | rfl | rfl
        · rfl
        · exact absurd e (by simp)
        · exact absurd e (by simp))
    (fun c L W hW hL h12 h15 => by
      refine ⟨cset c 2 W.heap.size, W.alloc (.cells #[(.pointer (some ⟨T, 1, none⟩)), (.pointer (some ⟨T, 2, none⟩))] 141), fun j hj => ?_, by kernel_rfl, hW.slice ⟨16, 2, fun _ => #[(.pointer (some ⟨T, 1, none⟩)), (.pointer (some ⟨T, 2, none⟩))], 141⟩ (no_of (hW.dep (61, 16) (by decide)) hL) (by simp) (fun _ => rfl) (fun d hd hi => ?_) (fun q hq e => ?_) (fun q hq e => ?_) (fun m => rfl)⟩
      · match j, hj with
        | 0, _ => rfl
        | 1, _ => rfl
        | 2, _ => rfl
        | 3, _ => rfl
        | 4, _ => rfl
        | 5, _ => rfl
        | 6, _ => rfl
        | 7, _ => rfl
        | 8, _ => rfl
        | 9, _ => rfl
        | 10, _ => rfl
        | 11, _ => rfl
        | 12, _ => rfl
        | 13, _ => rfl
        | 14, _ => rfl
        | 15, _ => rfl
        | 16, hj => rw [hL] at hj; cases hj
        | 17, hj => rw [hW.dep (17, 16) (by decide) hj] at hL; cases hL
        | 18, hj => rw [hW.dep (18, 16) (by decide) hj] at hL; cases hL
        | 19, _ => rfl
        | 20, _ => rfl
        | 21, _ => rfl
        | 22, _ => rfl
        | 23, _ => rfl
        | 24, _ => rfl
        | 25, _ => rfl
        | 26, _ => rfl
        | 27, _ => rfl
        | 28, _ => rfl
        | 29, _ => rfl
        | 30, _ => rfl
        | 31, _ => rfl
        | 32, _ => rfl
        | 33, _ => rfl
        | 34, _ => rfl
        | 35, _ => rfl
        | 36, _ => rfl
        | 37, _ => rfl
        | 38, _ => rfl
        | 39, _ => rfl
        | 40, _ => rfl
        | 41, _ => rfl
        | 42, _ => rfl
        | 43, _ => rfl
        | 44, _ => rfl
        | 45, _ => rfl
        | 46, _ => rfl
        | 47, _ => rfl
        | 48, _ => rfl
        | 49, _ => rfl
        | 50, _ => rfl
        | 51, _ => rfl
        | 52, _ => rfl
        | 53, _ => rfl
        | 54, _ => rfl
        | 55, _ => rfl
        | 56, _ => rfl
        | 57, _ => rfl
        | 58, _ => rfl
        | 59, _ => rfl
        | 60, _ => rfl
        | 61, _ => rfl
        | (k + 62), _ => rfl
      · simp only [dly60, List.mem_cons, List.not_mem_nil, or_false] at hd
        rcases hd with rfl | rfl | rfl | rfl | rfl | rfl | rfl | rfl | rfl | rfl
        · exact absurd hi (by simp)
        · exact absurd hi (by simp)
        · exact absurd hi (by simp)
        · exact absurd hi (by simp)
        · exact absurd hi (by simp)
        · exact absurd hi (by simp)
        · exact absurd hi (by simp)
        · exact absurd hi (by simp)
        · exact absurd hi (by simp)
        · exact absurd hi (by simp)
      · simp only [sly60, List.mem_cons, List.not_mem_nil, or_false] at hq
        rcases hq with rfl | rfl | rfl
        · exact ⟨(by simp), fun m => rfl⟩
        · rw [hL] at e; cases e
        · rw [hW.dep (59, 16) (by decide) e] at hL; cases hL
      · simp only [sly60, List.mem_cons, List.not_mem_nil, or_false] at hq
        rcases hq with rfl | rfl | rfl
        · exact absurd e (by simp)
        · rfl
        · exact absurd e (by simp))
    (fun c L W hW _ h16 => hW.pure 17 (fun s hs => by simp only [sly60, List.mem_cons, List.not_mem_nil, or_false] at hs; rcases hs with rfl | rfl | rfl <;> simp) (fun d hd hi => by
      simp only [dly60, List.mem_cons, List.not_mem_nil, or_false] at hd
      rcases hd with rfl | rfl | rfl | rfl | rfl | rfl | rfl | rfl | rfl | rfl
      · exact h16
      · exact absurd hi (by simp)
      · exact absurd hi (by simp)
      · exact absurd hi (by simp)
      · exact absurd hi (by simp)
      · exact absurd hi (by simp)
      · exact absurd hi (by simp)
      · exact absurd hi (by simp)
      · exact absurd hi (by simp)
      · exact absurd hi (by simp)) (by decide))
    (fun c L W hW _ h17 => hW.pure 18 (fun s hs => by simp only [sly60, List.mem_cons, List.not_mem_nil, or_false] at hs; rcases hs with rfl | rfl | rfl <;> simp) (fun d hd hi => by
      simp only [dly60, List.mem_cons, List.not_mem_nil, or_false] at hd
      rcases hd with rfl | rfl | rfl | rfl | rfl | rfl | rfl | rfl | rfl | rfl
      · exact absurd hi (by simp)
      · exact (hW.dep (17, 16) (by decide) h17)
      · exact absurd hi (by simp)
      · exact absurd hi (by simp)
      · exact absurd hi (by simp)
      · exact absurd hi (by simp)
      · exact absurd hi (by simp)
      · exact absurd hi (by simp)
      · exact absurd hi (by simp)
      · exact absurd hi (by simp)) (by decide))
    (fun c L W hW hL h18 h23 h28 h33 h38 h43 h48 h53 h58 => by
      refine ⟨cset c 1 W.heap.size, W.alloc (.cells #[(.iface 144 (.agg #[(.slice (some ⟨c 2, 0, none⟩) 2 2), (I 1), (FN 94), (FN 110)])), (vT ⟨T, 3, none⟩ 32), (vT ⟨T, 4, none⟩ 32), (vI ⟨T, 5, none⟩ 6), (vN ⟨T, 6, none⟩ 60), (vI ⟨T, 7, none⟩ 6), (vI ⟨T, 8, none⟩ 6), (vI ⟨T, 9, none⟩ 6), (vI ⟨T, 10, none⟩ 6)] 209), fun j hj => ?_, by kernel_rfl, hW.slice ⟨59, 1, fun c => #[(.iface 144 (.agg #[(.slice (some ⟨c 2, 0, none⟩) 2 2), (I 1), (FN 94), (FN 110)])), (vT ⟨T, 3, none⟩ 32), (vT ⟨T, 4, none⟩ 32), (vI ⟨T, 5, none⟩ 6), (vN ⟨T, 6, none⟩ 60), (vI ⟨T, 7, none⟩ 6), (vI ⟨T, 8, none⟩ 6), (vI ⟨T, 9, none⟩ 6), (vI ⟨T, 10, none⟩ 6)], 209⟩ (no_of (hW.dep (61, 59) (by decide)) hL) (by simp) (fun _ => rfl) (fun d hd hi => ?_) (fun q hq e => ?_) (fun q hq e => ?_) (fun m => rfl)⟩
      · match j, hj with
        | 0, _ => rfl
        | 1, _ => rfl
        | 2, _ => rfl
        | 3, _ => rfl
        | 4, _ => rfl
        | 5, _ => rfl
        | 6, _ => rfl
        | 7, _ => rfl
        | 8, _ => rfl
        | 9, _ => rfl
        | 10, _ => rfl
        | 11, _ => rfl
        | 12, _ => rfl
        | 13, _ => rfl
        | 14, _ => rfl
        | 15, _ => rfl
        | 16, _ => rfl
        | 17, _ => rfl
        | 18, _ => rfl
        | 19, _ => rfl
        | 20, _ => rfl
        | 21, _ => rfl
        | 22, _ => rfl
        | 23, _ => rfl
        | 24, _ => rfl
        | 25, _ => rfl
        | 26, _ => rfl
        | 27, _ => rfl
        | 28, _ => rfl
        | 29, _ => rfl
        | 30, _ => rfl
        | 31, _ => rfl
        | 32, _ => rfl
        | 33, _ => rfl
        | 34, _ => rfl
        | 35, _ => rfl
        | 36, _ => rfl
        | 37, _ => rfl
        | 38, _ => rfl
        | 39, _ => rfl
        | 40, _ => rfl
        | 41, _ => rfl
        | 42, _ => rfl
        | 43, _ => rfl
        | 44, _ => rfl
        | 45, _ => rfl
        | 46, _ => rfl
        | 47, _ => rfl
        | 48, _ => rfl
        | 49, _ => rfl
        | 50, _ => rfl
        | 51, _ => rfl
        | 52, _ => rfl
        | 53, _ => rfl
        | 54, _ => rfl
        | 55, _ => rfl
        | 56, _ => rfl
        | 57, _ => rfl
        | 58, _ => rfl
        | 59, hj => rw [hL] at hj; cases hj
        | 60, hj => rw [hW.dep (60, 59) (by decide) hj] at hL; cases hL
        | 61, _ => rfl
        | (k + 62), _ => rfl
      · simp only [dly60, List.mem_cons, List.not_mem_nil, or_false] at hd
        rcases hd with rfl | rfl | rfl | rfl | rfl | rfl | rfl | rfl | rfl | rfl
        · exact absurd hi (by simp)
        · exact absurd hi (by simp)
        · exact (hW.dep (18, 16) (by decide) h18)
        · exact absurd hi (by simp)
        · exact absurd hi (by simp)
        · exact absurd hi (by simp)
        · exact absurd hi (by simp)
        · exact absurd hi (by simp)
        · exact absurd hi (by simp)
        · exact absurd hi (by simp)
      · simp only [sly60, List.mem_cons, List.not_mem_nil, or_false] at hq
        rcases hq with rfl | rfl | rfl
        · exact ⟨(by simp), fun m => rfl⟩
        · exact ⟨(by simp), fun m => rfl⟩
        · rw [hL] at e; cases e
      · simp only [sly60, List.mem_cons, List.not_mem_nil, or_false] at hq
        rcases hq with rfl | rfl | rfl
        · exact absurd e (by simp)
        · exact absurd e (by simp)
        · rfl)
    (fun c L W hW _ h9 h59 => hW.pure 60 (fun s hs => by simp only [sly60, List.mem_cons, List.not_mem_nil, or_false] at hs; rcases hs with rfl | rfl | rfl <;> simp) (fun d hd hi => by
      simp only [dly60, List.mem_cons, List.not_mem_nil, or_false] at hd
      rcases hd with rfl | rfl | rfl | rfl | rfl | rfl | rfl | rfl | rfl | rfl
      · exact absurd hi (by simp)
      · exact absurd hi (by simp)
      · exact absurd hi (by simp)
      · exact h9
      · exact h59
      · exact (hW.dep (59, 16) (by decide) h59)
      · exact absurd hi (by simp)
      · exact absurd hi (by simp)
      · exact absurd hi (by simp)
      · exact absurd hi (by simp)) (by decide))
    (fun c L W hW hL h60 => by
      have hbx := hW.box
      rw [hL, if_neg (by decide)] at hbx
      have e := s_sta (T := 119) (n := 2) (fun _ => by kernel_rfl) (o := 0) hbx (.agg #[(.slice (some ⟨c 0, 0, none⟩) 2 2), (.slice (some ⟨c 1, 0, none⟩) 9 9)]) rfl (by decide) (by intro x hx; simp only [Value.cells, List.mem_cons, List.not_mem_nil, or_false] at hx; rcases hx with rfl | rfl <;> rfl)
      refine ⟨_, e, ?_⟩
      refine hW.store (v := fun c => #[(.slice (some ⟨c 0, 0, none⟩) 2 2), (.slice (some ⟨c 1, 0, none⟩) 9 9)]) (fun q hq => ?_) (fun d hd hi => ?_)
      · simp only [sly60, List.mem_cons, List.not_mem_nil, or_false] at hq
        rcases hq with rfl | rfl | rfl
        · exact ⟨(by simp), fun e => by have h5 := (hW.sl ⟨9, 0, fun _ => #[(vW ⟨L1, 0, none⟩ 1), (vR ⟨T, 0, none⟩ 0)], 209⟩ (by simp [sly60]) e).1; have h6 : W1.heap.size ≤ c 0 := h5; show c 0 ≠ R; omega⟩
        · exact ⟨(by simp), fun e => by have h5 := (hW.sl ⟨16, 2, fun _ => #[(.pointer (some ⟨T, 1, none⟩)), (.pointer (some ⟨T, 2, none⟩))], 141⟩ (by simp [sly60]) e).1; have h6 : W1.heap.size ≤ c 2 := h5; show c 2 ≠ R; omega⟩
        · exact ⟨(by simp), fun e => by have h5 := (hW.sl ⟨59, 1, fun c => #[(.iface 144 (.agg #[(.slice (some ⟨c 2, 0, none⟩) 2 2), (I 1), (FN 94), (FN 110)])), (vT ⟨T, 3, none⟩ 32), (vT ⟨T, 4, none⟩ 32), (vI ⟨T, 5, none⟩ 6), (vN ⟨T, 6, none⟩ 60), (vI ⟨T, 7, none⟩ 6), (vI ⟨T, 8, none⟩ 6), (vI ⟨T, 9, none⟩ 6), (vI ⟨T, 10, none⟩ 6)], 209⟩ (by simp [sly60]) e).1; have h6 : W1.heap.size ≤ c 1 := h5; show c 1 ≠ R; omega⟩
      · simp only [dly60, List.mem_cons, List.not_mem_nil, or_false] at hd
        rcases hd with rfl | rfl | rfl | rfl | rfl | rfl | rfl | rfl | rfl | rfl
        · exact absurd hi (by simp)
        · exact absurd hi (by simp)
        · exact absurd hi (by simp)
        · exact absurd hi (by simp)
        · exact absurd hi (by simp)
        · exact absurd hi (by simp)
        · exact h60
        · exact hW.dep (60, 9) (by decide) h60
        · exact hW.dep (60, 16) (by decide) h60
        · exact hW.dep (60, 59) (by decide) h60) ?hend
  case hp1 =>
    intro q hq e
    simp only [sly60, List.mem_cons, List.not_mem_nil, or_false] at hq
    rcases hq with rfl | rfl | rfl <;> exact hi (by simp at e; simp [← e])
  case hp2 =>
    intro d hd e
    simp only [dly60, List.mem_cons, List.not_mem_nil, or_false] at hd
    rcases hd with rfl | rfl | rfl | rfl | rfl | rfl | rfl | rfl | rfl | rfl <;> exact absurd (by simp at e; simp [← e]) hi
  case hend =>
    intro c L W hall hW
    simp only [crly60, Act.put, List.setIfInBounds_toArray, List.set_cons_succ, List.set_cons_zero]
    have hbx := hW.box
    rw [hall 61 (by decide), if_pos rfl] at hbx
    have hO := hW.only
    have hs0 := hW.sl ⟨9, 0, fun _ => #[(vW ⟨L1, 0, none⟩ 1), (vR ⟨T, 0, none⟩ 0)], 209⟩ (by simp [sly60]) (hall 9 (by decide))
    have hs2 := hW.sl ⟨16, 2, fun _ => #[(.pointer (some ⟨T, 1, none⟩)), (.pointer (some ⟨T, 2, none⟩))], 141⟩ (by simp [sly60]) (hall 16 (by decide))
    have hs1 := hW.sl ⟨59, 1, fun c => #[(.iface 144 (.agg #[(.slice (some ⟨c 2, 0, none⟩) 2 2), (I 1), (FN 94), (FN 110)])), (vT ⟨T, 3, none⟩ 32), (vT ⟨T, 4, none⟩ 32), (vI ⟨T, 5, none⟩ 6), (vN ⟨T, 6, none⟩ 60), (vI ⟨T, 7, none⟩ 6), (vI ⟨T, 8, none⟩ 6), (vI ⟨T, 9, none⟩ 6), (vI ⟨T, 10, none⟩ 6)], 209⟩ (by simp [sly60]) (hall 59 (by decide))
    have HP : Hid (W.heap[R]? = some (.cells #[(.slice (some ⟨c 0, 0, none⟩) 2 2), (.slice (some ⟨c 1, 0, none⟩) 9 9)] 119 (0, 0)) ∧ Below R w W ∧ W.heap[L1]? = some (.cells #[S [99]] 9 (0, 0)) ∧ (R + 2 ≤ c 0 ∧ W.heap[c 0]? = some (.cells #[(vW ⟨L1, 0, none⟩ 1), (vR ⟨T, 0, none⟩ 0)] 209 (0, 0))) ∧ (R + 2 ≤ c 2 ∧ W.heap[c 2]? = some (.cells #[(.pointer (some ⟨T, 1, none⟩)), (.pointer (some ⟨T, 2, none⟩))] 141 (0, 0))) ∧ (R + 2 ≤ c 1 ∧ W.heap[c 1]? = some (.cells #[(.iface 144 (.agg #[(.slice (some ⟨c 2, 0, none⟩) 2 2), (I 1), (FN 94), (FN 110)])), (vT ⟨T, 3, none⟩ 32), (vT ⟨T, 4, none⟩ 32), (vI ⟨T, 5, none⟩ 6), (vN ⟨T, 6, none⟩ 60), (vI ⟨T, 7, none⟩ 6), (vI ⟨T, 8, none⟩ 6), (vI ⟨T, 9, none⟩ 6), (vI ⟨T, 10, none⟩ 6)] 209 (0, 0)))) := hide (⟨hbx, hO.below hb0 (by omega) (fun k e => by omega), (hO.block L1 (by omega) (by omega)).trans hL1, ⟨by have h5 : W1.heap.size ≤ c 0 := hs0.1; omega, hs0.2⟩, ⟨by have h5 : W1.heap.size ≤ c 2 := hs2.1; omega, hs2.2⟩, ⟨by have h5 : W1.heap.size ≤ c 1 := hs1.1; omega, hs1.2⟩⟩)
    clear hbx hO hW hall hs0 hs2 hs1
    go_wp2
    obtain ⟨hbx, hpp⟩ := unhide HP
    refine out1c (T := 119) (n := 2) (fun _ => by kernel_rfl) (fun _ => by kernel_rfl) (Z := R) rfl rfl rfl hbx rfl ?_
    subst hL1e; subst hRe
    exact ⟨c, rfl, hpp⟩
end Go.Proofs.YtmjaobddgaglhaaGreatDoor
