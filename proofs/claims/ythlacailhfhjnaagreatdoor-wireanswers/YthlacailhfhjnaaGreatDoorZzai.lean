import Derived.Test.YthlacailhfhjnaaGreatDoorZzae
import Derived.Test.YthlacailhfhjnaaGreatDoorDetl
namespace Go.Proofs.YthlacailhfhjnaaGreatDoor
open Go.RowKit Go.Lib
def vp : Bs := [72, 84, 84, 80, 47, 49, 46, 49, 32]
theorem opA_eq (l : Bs) : opA l = if hasPrefix l vp && decide ((hd 32 (trimPrefix l vp)).length < (trimPrefix l vp).length) && num (hd 32 (trimPrefix l vp)) && (tl 32 (trimPrefix l vp)).all shn && decide (100 ≤ vl 0 (hd 32 (trimPrefix l vp)) ∧ vl 0 (hd 32 (trimPrefix l vp)) ≤ 599) then some ⟨[], [], vl 0 (hd 32 (trimPrefix l vp))⟩ else none := by
  have e : (vers ++ [32]).isPrefixOf l = hasPrefix l vp := rfl
  unfold opA
  rw [e]
  unfold trimPrefix
  cases hasPrefix l vp
  · simp
  · rfl
theorem trimPrefix_le (l p : Bs) : (trimPrefix l p).length ≤ l.length := by
  unfold trimPrefix
  split
  · rw [List.length_drop]; omega
  · exact Nat.le_refl _
set_option maxHeartbeats 8000000 in
set_option maxRecDepth 8000 in
theorem answerLine_any {B : Nat} (l : Bs) (w : World) (hl : l.length ≤ 1000000) (hE : Env B w) : Calls Tryz.prog 69 #[S l] w fun e w' => e = .returned (opv (opA l)) ∧ Below w.heap.size w w' := by
  have HO := hide (opA_eq l)
  have g0 := trimPrefix_le l vp
  have g1 := hd_le 32 (trimPrefix l vp)
  have g2 := tl_le 32 (trimPrefix l vp)
  have HP := hide (fun W => Tryz.strings_CutPrefix ⟨l.toArray⟩ ⟨vp.toArray⟩ W)
  have e1 : (ByteArray.mk vp.toArray).data.toList = vp := rfl
  rw [ba_list, e1] at HP
  clear e1
  generalize opA l = O at *
  generalize trimPrefix l vp = Z at *
  generalize hasPrefix l vp = I at *
  have HC := hide (fun W => cut_any Z 32 W (by omega))
  have HN := hide (fun W => isNumber_any (hd 32 Z) W (by omega))
  have HA := hide (fun W => all96_any (tl 32 Z) W (by omega))
  generalize decide ((hd 32 Z).length < Z.length) = d1 at *
  generalize tl 32 Z = T at *
  generalize hd 32 Z = D at *
  have h0 : Below w.heap.size w (w.alloc (.cells #[S [], S [], .int .i64 0] 89)) := (Below.refl _ _).alloc (Nat.le_refl _) _
  have h0s : w.heap.size < (w.alloc (.cells #[S [], S [], .int .i64 0] 89)).heap.size := by simp
  have HE0 := hide (hE.mono.below h0)
  have fin : ∀ n, Below w.heap.size w ((w.alloc (.cells #[S [], S [], .int .i64 0] 89)).drewN n) := fun n => below_dN h0 _
  generalize T.all shn = A at *
  cases I
  · have HO2 := hide (show O = none by rw [unhide HO]; simp)
    clear HO
    go_enter Tryz.func69, Tryz.ntmps69
    go_wp2_with fail
    refine (unhide HP _).mono ?_
    rintro e w1 ⟨rfl, rfl⟩
    go_wp2_with fail
    refine (unhide HC _).mono ?_
    rintro e w1 ⟨rfl, q1, rfl⟩
    go_wp2
    refine bodyPost_ret (v := .tuple #[.agg #[S [], S [], .int .i64 0], .bool false]) (by simp [results, Tryz.results69, go_sem]) rfl ⟨ret_of (by rw [unhide HO2]; rfl), ?_⟩
    exact (((fin _).setCell (Nat.le_refl _) _).setCell (Nat.le_refl _) _).setCell (Nat.le_refl _) _
  cases d1
  · have HO2 := hide (show O = none by rw [unhide HO]; simp)
    clear HO
    go_enter Tryz.func69, Tryz.ntmps69
    go_wp2_with fail
    refine (unhide HP _).mono ?_
    rintro e w1 ⟨rfl, rfl⟩
    go_wp2_with fail
    refine (unhide HC _).mono ?_
    rintro e w1 ⟨rfl, q1, rfl⟩
    go_wp2
    refine bodyPost_ret (v := .tuple #[.agg #[S [], S [], .int .i64 0], .bool false]) (by simp [results, Tryz.results69, go_sem]) rfl ⟨ret_of (by rw [unhide HO2]; rfl), ?_⟩
    exact (((fin _).setCell (Nat.le_refl _) _).setCell (Nat.le_refl _) _).setCell (Nat.le_refl _) _
  by_cases hn : num D = true
  case neg =>
    have hn' : num D = false := by simpa using hn
    rw [hn'] at HN
    have HO2 := hide (show O = none by rw [unhide HO, hn']; simp)
    clear HO
    go_enter Tryz.func69, Tryz.ntmps69
    go_wp2_with fail
    refine (unhide HP _).mono ?_
    rintro e w1 ⟨rfl, rfl⟩
    go_wp2_with fail
    refine (unhide HC _).mono ?_
    rintro e w1 ⟨rfl, q1, rfl⟩
    go_wp2_with (first | (go_at_call 95; refine (unhide HN _).mono ?_; rintro e w' ⟨rfl, rfl⟩))
    refine bodyPost_ret (v := .tuple #[.agg #[S [], S [], .int .i64 0], .bool false]) (by simp [results, Tryz.results69, go_sem]) rfl ⟨ret_of (by rw [unhide HO2]; rfl), ?_⟩
    exact (((fin _).setCell (Nat.le_refl _) _).setCell (Nat.le_refl _) _).setCell (Nat.le_refl _) _
  have HN' := HN
  rw [hn] at HN HO
  cases A
  · have HO2 := hide (show O = none by rw [unhide HO]; simp)
    clear HO
    go_enter Tryz.func69, Tryz.ntmps69
    go_wp2_with fail
    refine (unhide HP _).mono ?_
    rintro e w1 ⟨rfl, rfl⟩
    go_wp2_with fail
    refine (unhide HC _).mono ?_
    rintro e w1 ⟨rfl, q1, rfl⟩
    go_wp2_with (first | (go_at_call 95; refine (unhide HN _).mono ?_; rintro e w' ⟨rfl, rfl⟩) | (go_at_call 86; refine (unhide HA _).mono ?_; rintro e w' ⟨rfl, rfl⟩))
    refine bodyPost_ret (v := .tuple #[.agg #[S [], S [], .int .i64 0], .bool false]) (by simp [results, Tryz.results69, go_sem]) rfl ⟨ret_of (by rw [unhide HO2]; rfl), ?_⟩
    exact (((fin _).setCell (Nat.le_refl _) _).setCell (Nat.le_refl _) _).setCell (Nat.le_refl _) _
  by_cases hv : vl 0 D < 9223372036854775808
  · have HK := hide (fun W => atoi_ok D W (by omega) hn hv)
    have HS := hide (fun W => isStatus_any (vl 0 D : Int) W)
    have HO2 := hide (show O = if stat (vl 0 D : Int) then some ⟨[], [], vl 0 D⟩ else none by
      rw [unhide HO]
      unfold stat
      have : decide (100 ≤ vl 0 D ∧ vl 0 D ≤ 599) = decide (100 ≤ (vl 0 D : Int) ∧ (vl 0 D : Int) ≤ 599) := by
        rw [decide_eq_decide]; omega
      rw [this]
      simp)
    clear HO hn hv HN'
    generalize vl 0 D = V at *
    generalize stat (V : Int) = X at *
    go_enter Tryz.func69, Tryz.ntmps69
    go_wp2_with fail
    refine (unhide HP _).mono ?_
    rintro e w1 ⟨rfl, rfl⟩
    go_wp2_with fail
    refine (unhide HC _).mono ?_
    rintro e w1 ⟨rfl, q1, rfl⟩
    go_wp2_with (first | (go_at_call 95; refine (unhide HN _).mono ?_; rintro e w' ⟨rfl, rfl⟩) | (go_at_call 86; refine (unhide HA _).mono ?_; rintro e w' ⟨rfl, rfl⟩))
    have hblk : ((w.alloc (.cells #[S [], S [], .int .i64 0] 89)).drewN q1).heap[w.heap.size]? = some (.cells #[S [], S [], .int .i64 0] 89 (0, 0)) := by
      show (w.heap.push _)[w.heap.size]? = _
      simp
    have fin1 := hide (fin q1)
    have hs1 : w.heap.size < ((w.alloc (.cells #[S [], S [], .int .i64 0] 89)).drewN q1).heap.size := by simp
    clear fin h0 h0s
    generalize (w.alloc (.cells #[S [], S [], .int .i64 0] 89)).drewN q1 = W1 at *
    refine (unhide HK _).mono ?_
    rintro e w2 ⟨rfl, b2⟩
    have hblk2 := (b2.block w.heap.size hs1).trans hblk
    have c0 : w2.cell? ⟨w.heap.size, 0, none⟩ = some (S []) := by rw [cell_of_row w2 w.heap.size 0 _ 89 (0, 0) hblk2]; rfl
    have c1 : w2.cell? ⟨w.heap.size, 1, none⟩ = some (S []) := by rw [cell_of_row w2 w.heap.size 1 _ 89 (0, 0) hblk2]; rfl
    have c2 : w2.cell? ⟨w.heap.size, 2, none⟩ = some (.int .i64 0) := by rw [cell_of_row w2 w.heap.size 2 _ 89 (0, 0) hblk2]; rfl
    have z0 : ∀ j, w2.frozen? ⟨w.heap.size, j, none⟩ = false := fun j => frozen_of_row w2 w.heap.size j _ 89 hblk2
    have fin2 := hide ((unhide fin1).trans (b2.mono (by omega)))
    clear b2 hblk hblk2
    cases X
    · go_wp2_with (first | (go_at_call 66; refine (unhide HS _).mono ?_; rintro e w' ⟨rfl, rfl⟩))
      refine bodyPost_ret (v := .tuple #[.agg #[S [], S [], .int .i64 0], .bool false]) (by simp [results, Tryz.results69, go_sem, c0, c1, c2]) rfl ⟨ret_of (by rw [unhide HO2]; rfl), ?_⟩
      exact (((unhide fin2).setCell (Nat.le_refl _) _).setCell (Nat.le_refl _) _).setCell (Nat.le_refl _) _
    · go_wp2_with (first | (go_at_call 66; refine (unhide HS _).mono ?_; rintro e w' ⟨rfl, rfl⟩))
      refine bodyPost_ret (v := .tuple #[.agg #[S [], S [], .int .i64 V], .bool true]) (by simp [results, Tryz.results69, go_sem, c0, c1, c2]) rfl ⟨ret_of (by rw [unhide HO2]; rfl), ?_⟩
      exact (((unhide fin2).setCell (Nat.le_refl _) _).setCell (Nat.le_refl _) _).setCell (Nat.le_refl _) _
  · have HK := hide (fun W (hE : Env (w.alloc (.cells #[S [], S [], .int .i64 0] 89)).heap.size W) => atoi_no D W hE (by omega) hn hv)
    have HO2 := hide (show O = none by rw [unhide HO, if_neg (by simp; omega)])
    clear HO hn hv HN'
    have HE0 := hide (unhide HE0).mono
    go_enter Tryz.func69, Tryz.ntmps69
    go_wp2_with fail
    refine (unhide HP _).mono ?_
    rintro e w1 ⟨rfl, rfl⟩
    go_wp2_with fail
    refine (unhide HC _).mono ?_
    rintro e w1 ⟨rfl, q1, rfl⟩
    go_wp2_with (first | (go_at_call 95; refine (unhide HN _).mono ?_; rintro e w' ⟨rfl, rfl⟩) | (go_at_call 86; refine (unhide HA _).mono ?_; rintro e w' ⟨rfl, rfl⟩))
    have hblk : ((w.alloc (.cells #[S [], S [], .int .i64 0] 89)).drewN q1).heap[w.heap.size]? = some (.cells #[S [], S [], .int .i64 0] 89 (0, 0)) := by
      show (w.heap.push _)[w.heap.size]? = _
      simp
    have fin1 := hide (fin q1)
    have HE1 := hide ((unhide HE0).below (below_dN (Below.refl _ _) q1))
    have hs1 : w.heap.size < ((w.alloc (.cells #[S [], S [], .int .i64 0] 89)).drewN q1).heap.size := by simp
    clear fin h0 h0s HE0
    generalize (w.alloc (.cells #[S [], S [], .int .i64 0] 89)).drewN q1 = W1 at *
    refine (unhide HK _ (unhide HE1)).mono ?_
    rintro e w2 ⟨x, ty, pv, rfl, b2⟩
    have hblk2 := (b2.block w.heap.size hs1).trans hblk
    have c0 : w2.cell? ⟨w.heap.size, 0, none⟩ = some (S []) := by rw [cell_of_row w2 w.heap.size 0 _ 89 (0, 0) hblk2]; rfl
    have c1 : w2.cell? ⟨w.heap.size, 1, none⟩ = some (S []) := by rw [cell_of_row w2 w.heap.size 1 _ 89 (0, 0) hblk2]; rfl
    have c2 : w2.cell? ⟨w.heap.size, 2, none⟩ = some (.int .i64 0) := by rw [cell_of_row w2 w.heap.size 2 _ 89 (0, 0) hblk2]; rfl
    have z0 : ∀ j, w2.frozen? ⟨w.heap.size, j, none⟩ = false := fun j => frozen_of_row w2 w.heap.size j _ 89 hblk2
    have fin2 := hide ((unhide fin1).trans (b2.mono (by omega)))
    clear b2 hblk hblk2
    go_wp2
    refine bodyPost_ret (v := .tuple #[.agg #[S [], S [], .int .i64 0], .bool false]) (by simp [results, Tryz.results69, go_sem, c0, c1, c2]) rfl ⟨ret_of (by rw [unhide HO2]; rfl), ?_⟩
    exact (((unhide fin2).setCell (Nat.le_refl _) _).setCell (Nat.le_refl _) _).setCell (Nat.le_refl _) _
end Go.Proofs.YthlacailhfhjnaaGreatDoor
namespace Go.Proofs.YthlacailhfhjnaaGreatDoor
open Go.RowKit Go.Lib
/-- Of the old blocks none but these may have turned. -/
structure Only (P : Nat → Prop) (w w' : World) : Prop where
  os : w'.os = w.os
  tape : w'.tape = w.tape
  output : w'.output = w.output
  size : w.heap.size ≤ w'.heap.size
  block : ∀ k, k < w.heap.size → ¬ P k → w'.heap[k]? = w.heap[k]?
theorem Only.refl (P : Nat → Prop) (w : World) : Only P w w := ⟨rfl, rfl, rfl, Nat.le_refl _, fun _ _ _ => rfl⟩
theorem Only.trans {P Q : Nat → Prop} {a b c : World} (h1 : Only P a b) (h2 : Only Q b c) (hq : ∀ k, k < a.heap.size → Q k → P k) : Only P a c :=
  ⟨h2.os.trans h1.os, h2.tape.trans h1.tape, h2.output.trans h1.output, Nat.le_trans h1.size h2.size, fun k hk hp => (h2.block k (Nat.lt_of_lt_of_le hk h1.size) (fun q => hp (hq k hk q))).trans (h1.block k hk hp)⟩
theorem Only.mono {P Q : Nat → Prop} {a b : World} (h : Only P a b) (hq : ∀ k, k < a.heap.size → P k → Q k) : Only Q a b := ⟨h.os, h.tape, h.output, h.size, fun k hk hp => h.block k hk (fun q => hp (hq k hk q))⟩
theorem Only.of_below {P : Nat → Prop} {w w' : World} (h : Below w.heap.size w w') : Only P w w' := ⟨h.os, h.tape, h.output, h.size, fun k hk _ => h.block k hk⟩
theorem Only.below {P : Nat → Prop} {a w w' : World} {base : Nat} (h : Only P w w') (hb : Below base a w) (hle : base ≤ w.heap.size) (hp : ∀ k, P k → base ≤ k) : Below base a w' :=
  hb.trans ⟨h.os, h.tape, h.output, h.size, fun k hk => h.block k (by omega) (fun q => by have := hp k q; omega)⟩
theorem Only.of_grown {w w' : World} {row : Option Nat} (h : w.grownBy w' row) : Only (fun k => row = some k) w w' := ⟨h.os, h.tape, h.output, h.size, fun k hk hp => h.block k hk (fun e => hp e.symm)⟩
theorem Only.drew (P : Nat → Prop) (w : World) : Only P w w.drew := ⟨rfl, rfl, rfl, Nat.le_refl _, fun _ _ _ => rfl⟩
theorem Only.drewN (P : Nat → Prop) (w : World) (n : Nat) : Only P w (w.drewN n) := ⟨rfl, rfl, rfl, Nat.le_refl _, fun _ _ _ => rfl⟩
theorem Only.alloc (P : Nat → Prop) (w : World) (o : Obj) : Only P w (w.alloc o) := Only.of_below ((Below.refl _ _).alloc (Nat.le_refl _) o)
theorem Only.setCell (w : World) (a : Addr) (v : Value) : Only (fun k => k = a.block) w (w.setCell a v) :=
  ⟨rfl, rfl, rfl, by simp [World.setCell], fun k _ hp => heap_setCell_other w a k v hp⟩
/-- One more cell of a block that may turn, or of a new one. -/
theorem Only.put {P : Nat → Prop} {w w' : World} (h : Only P w w') (a : Addr) (v : Value) (ha : P a.block ∨ w.heap.size ≤ a.block) : Only P w (w'.setCell a v) :=
  h.trans (Only.setCell w' a v) (fun k hk e => by subst e; rcases ha with q | q; exact q; omega)
theorem Only.more {P : Nat → Prop} {w w' : World} (h : Only P w w') (o : Obj) : Only P w (w'.alloc o) := h.trans (Only.alloc P w' o) (fun _ _ q => q)
theorem Env.only {P : Nat → Prop} {B : Nat} {w w' : World} (h : Env B w) (ho : Only P w w') (hp : ∀ k, P k → B ≤ k) : Env B w' :=
  h.below (ho.below (Below.refl _ _) h.le hp)
theorem lt_of_row {w : World} {b : Nat} {o : Obj} (h : w.heap[b]? = some o) : b < w.heap.size := (Array.getElem?_eq_some_iff.1 h).1
theorem owns_same {e n m : Nat} {w w' : World} {v : Value} {xs : List Value} (h : w.ownsRow 0 e n v m xs) (hb : ∀ k, v.ownBlock = some k → w'.heap[k]? = w.heap[k]?) : w'.ownsRow 0 e n v m xs := by
  refine ⟨h.1, ?_⟩
  rcases h.2 with q | ⟨g, cap, cur, e1, e2, e3, e4⟩
  · exact .inl q
  · exact .inr ⟨g, cap, cur, e1, e2, (hb g (by rw [e1]; rfl)).trans e3, e4⟩
theorem owns_lt {e n m : Nat} {w : World} {v : Value} {xs : List Value} (h : w.ownsRow 0 e n v m xs) : ∀ k, v.ownBlock = some k → ∃ cs, w.heap[k]? = some (.cells cs e (0, 0)) := by
  intro k hk
  rcases h.2 with ⟨e1, _⟩ | ⟨g, cap, cur, e1, e2, e3, e4⟩
  · rw [e1] at hk; cases hk
  · rw [e1] at hk
    cases hk
    exact ⟨cur, e3⟩
theorem owns_form {e n m : Nat} {w : World} {v : Value} {xs : List Value} (h : w.ownsRow 0 e n v m xs) : ∃ p cap, v = .slice p m cap := by
  rcases h.2 with ⟨e, q⟩ | ⟨g, cap, cur, e1, e2⟩
  · exact ⟨none, 0, by rw [e, q]⟩
  · exact ⟨_, cap, e1⟩
def cellsF (fs : List Fl) : List Value := fs.flatMap fun f => [S f.1, S f.2]
theorem cellsF_len (fs : List Fl) : (cellsF fs).length = fs.length * 2 := by
  unfold cellsF
  induction fs with
  | nil => rfl
  | cons f l ih => simp at ih ⊢; omega
theorem cellsF_append (a b : List Fl) : cellsF (a ++ b) = cellsF a ++ cellsF b := by simp [cellsF]
abbrev ptr (b : Nat) : Value := .pointer (some ⟨b, 0, none⟩)
def bdv (p : Ps) : Bs := if p.st = 3 then p.bd else []
def cellsP (op : Nat) (p : Ps) (nx hv : Value) : Array Value :=
  #[.int .i64 p.st, nx, Fn1 op, .int .i64 p.rd, S p.fs.m, S p.fs.p, .int .i64 p.fs.s, hv, .int .i64 p.len, S (bdv p)]
/-- A parser: its block, and its headers. -/
structure PAt (op P : Nat) (p : Ps) (nx hv : Value) (w : World) : Prop where
  blk : w.heap[P]? = some (.cells (cellsP op p nx hv) 91 (0, 0))
  hrow : w.ownsRow 0 35 2 hv p.hs.length (cellsF p.hs)
theorem PAt.cell {op P : Nat} {p : Ps} {nx hv : Value} {w : World} (h : PAt op P p nx hv w) (j : Nat) : w.cell? ⟨P, j, none⟩ = (cellsP op p nx hv)[j]? := cell_of_row w P j _ 91 (0, 0) h.blk
theorem PAt.fz {op P : Nat} {p : Ps} {nx hv : Value} {w : World} (h : PAt op P p nx hv w) (j : Nat) : w.frozen? ⟨P, j, none⟩ = false := frozen_of_row w P j _ 91 h.blk
theorem PAt.lt {op P : Nat} {p : Ps} {nx hv : Value} {w : World} (h : PAt op P p nx hv w) : P < w.heap.size := lt_of_row h.blk
theorem PAt.ne {op P : Nat} {p : Ps} {nx hv : Value} {w : World} (h : PAt op P p nx hv w) : hv.ownBlock ≠ some P := by
  intro e
  obtain ⟨cs, q⟩ := owns_lt h.hrow P e
  have := h.blk.symm.trans q
  simp at this
theorem PAt.keep {op P : Nat} {p : Ps} {nx hv : Value} {w w' : World} {O : Nat → Prop} (h : PAt op P p nx hv w) (ho : Only O w w') (hp : ¬ O P) (hh : ∀ k, hv.ownBlock = some k → ¬ O k) : PAt op P p nx hv w' :=
  ⟨(ho.block P h.lt hp).trans h.blk, owns_same h.hrow (fun k hk => by
    obtain ⟨cs, q⟩ := owns_lt h.hrow k hk
    exact ho.block k (lt_of_row q) (hh k hk))⟩
theorem PAt.below {op P : Nat} {p : Ps} {nx hv : Value} {w w' : World} (h : PAt op P p nx hv w) (hb : Below w.heap.size w w') : PAt op P p nx hv w' :=
  h.keep (Only.of_below (P := fun _ => False) hb) (fun q => q) (fun _ _ q => q)
/-- A cell of its block is set. -/
theorem PAt.set {op op' P : Nat} {p p' : Ps} {nx nx' hv : Value} {w : World} (h : PAt op P p nx hv w) (j : Nat) (x : Value) (e : (cellsP op p nx hv).setIfInBounds j x = cellsP op' p' nx' hv) (eh : p'.hs = p.hs) : PAt op' P p' nx' hv (w.setCell ⟨P, j, none⟩ x) := by
  refine ⟨?_, ?_⟩
  · rw [heap_setCell_same w P j _ 91 x h.blk, e]
  · rw [eh]
    exact owns_same h.hrow (fun k hk => heap_setCell_other w ⟨P, j, none⟩ k x (fun q => h.ne (by rw [hk, q])))
/-- What an answer leaves: the new state, or the old one where something is wrong. -/
def jr (r : Ps × Nat) (p : Ps) : Ps := if r.2 = 0 then r.1 else p
end Go.Proofs.YthlacailhfhjnaaGreatDoor
namespace Go.Proofs.YthlacailhfhjnaaGreatDoor
open Go.RowKit Go.Lib
theorem run_ld24 (ρ : Operand → Value) (o : Oper) (x : Operand) (ho : o.op = .load 24 x) (g q : Nat) (a b c d : Value) (ha : ρ x = .pointer (some ⟨g, q, none⟩)) (w : World) (h0 : w.cell? ⟨g, q, none⟩ = some a) (h1 : w.cell? ⟨g, q + 1, none⟩ = some b) (h2 : w.cell? ⟨g, q + 2, none⟩ = some c) (h3 : w.cell? ⟨g, q + 3, none⟩ = some d) : (execOp ρ o).run Tryz.prog w = .ok (.value (.agg #[a, b, c, d])) w := by
  unfold execOp
  simp only [ho, ha]
  simp [Instr.loadAt, go_sem, h0, h1, h2, h3, Tryz.isAgg24]
theorem run_ia54 (ρ : Operand → Value) (o : Oper) (x y : Operand) (ho : o.op = .indexAddr 54 x y) (g q n cap k : Nat) (hk : k < n) (hx : ρ x = .slice (some ⟨g, q, none⟩) n cap) (hy : ρ y = .int .i64 (k : Int)) (w : World) : (execOp ρ o).run Tryz.prog w = .ok (.value (.pointer (some ⟨g, q + k * 4, none⟩))) w := by
  unfold execOp
  simp only [ho, hx, hy]
  have h1 : (k : Int) < (n : Int) := by omega
  have u := Tryz.underlying54
  have z := Tryz.sizeOf24
  simp [go_sem, u, z, h1]
def rmsT : List (Op × Option Tmp × Option (Nat × Bool)) := [
  (.move (.tmp 0), some 18, none),
  (.move (.tmp 5), some 19, none),
  (.indexAddr 54 (.tmp 18) (.tmp 19), some 20, none),
  (.load 24 (.tmp 20), some 21, none),
  (.move (.tmp 1), some 22, none),
  (.move (.tmp 5), some 23, none),
  (.indexAddr 54 (.tmp 22) (.tmp 23), some 24, none),
  (.load 24 (.tmp 24), some 25, none),
  (.call { callee := .value (.func 51), args := #[(.tmp 21), (.tmp 25)], argTypes := #[24, 24] }, some 26, none),
  (.assign (.tmp 26), some 6, none)]
def rmsD : List (Nat × Nat) := [(2, 0), (2, 1), (3, 2), (6, 4), (6, 5), (7, 6), (8, 3), (8, 7), (9, 8)]
set_option maxHeartbeats 2000000 in
theorem rms {ops : Array Oper} {id : Nat} {Q : Exit → Act → World → Prop} (p1 q1 p2 q2 n c1 c2 k h d1 d2 : Nat) (a1 a2 : Option Addr) (m p b : Bs) (htab : ops.toList.map (fun o => (o.op, o.dst, o.guard)) = rmsT) (hdep : deplB rmsD ops = true) (hac : acB ops = true)
    (a0 : Act) (w : World) (hsz : 27 ≤ a0.tmps.size) (o0 : a0.tmps[0]? = some (.slice (some ⟨p1, q1, none⟩) n c1)) (o1 : a0.tmps[1]? = some (.slice (some ⟨p2, q2, none⟩) n c2)) (o5 : a0.tmps[5]? = some (.int .i64 (k : Int)))
    (Wd : (Nat → Bool) → World → Prop) (h0 : Wd (fun _ => false) w.drew) (hpure : ∀ i, i ∉ ([8] : List Nat) → ∀ L W, Wd L W → Wd (upd L i) W)
    (i2 : k < n) (i6 : k < n) (l3 : ∀ L W, Wd L W → W.cell? ⟨p1, q1 + k * 4, none⟩ = some (S m) ∧ W.cell? ⟨p1, q1 + k * 4 + 1, none⟩ = some (S p) ∧ W.cell? ⟨p1, q1 + k * 4 + 2, none⟩ = some (.slice a1 h d1) ∧ W.cell? ⟨p1, q1 + k * 4 + 3, none⟩ = some (S b)) (l7 : ∀ L W, Wd L W → W.cell? ⟨p2, q2 + k * 4, none⟩ = some (S m) ∧ W.cell? ⟨p2, q2 + k * 4 + 1, none⟩ = some (S p) ∧ W.cell? ⟨p2, q2 + k * 4 + 2, none⟩ = some (.slice a2 h d2) ∧ W.cell? ⟨p2, q2 + k * 4 + 3, none⟩ = some (S b))
    (c8 : ∀ L W, Wd L W → L 8 = false → Calls Tryz.prog 51 #[.agg #[S m, S p, .slice a1 h d1, S b], .agg #[S m, S p, .slice a2 h d2, S b]] W fun e w' => e = .returned (.bool true) ∧ Wd (upd L 8) w')
    (hend : ∀ L W, (∀ i, i < 10 → L i = true) → Wd L W → Q .normal ((((((((((a0.put (some 18) (.slice (some ⟨p1, q1, none⟩) n c1)).put (some 19) (.int .i64 (k : Int))).put (some 20) (.pointer (some ⟨p1, q1 + k * 4, none⟩))).put (some 21) (.agg #[S m, S p, .slice a1 h d1, S b])).put (some 22) (.slice (some ⟨p2, q2, none⟩) n c2)).put (some 23) (.int .i64 (k : Int))).put (some 24) (.pointer (some ⟨p2, q2 + k * 4, none⟩))).put (some 25) (.agg #[S m, S p, .slice a2 h d2, S b])).put (some 26) (.bool true)).put (some 6) (.bool true)) W) : (Code.region id ops true).wp Tryz.prog Q a0 w := by
  let val : Nat → Value := fun i => match i with
    | 0 => (.slice (some ⟨p1, q1, none⟩) n c1)
    | 1 => (.int .i64 (k : Int))
    | 2 => (.pointer (some ⟨p1, q1 + k * 4, none⟩))
    | 3 => (.agg #[S m, S p, .slice a1 h d1, S b])
    | 4 => (.slice (some ⟨p2, q2, none⟩) n c2)
    | 5 => (.int .i64 (k : Int))
    | 6 => (.pointer (some ⟨p2, q2 + k * 4, none⟩))
    | 7 => (.agg #[S m, S p, .slice a2 h d2, S b])
    | 8 => (.bool true)
    | 9 => (.bool true)
    | _ => undef
  have hosz : ops.size = 10 := by
    have := congrArg List.length htab
    simpa [rmsT] using this
  have hds : ∀ i s, (rmsT[i]?).bind (·.2.1) = some s → dstOf ops i = some s := fun i s hi => by rw [tab_dst htab, hi]
  have hdisB : disL rmsT = true := by rfl
  have hdis := disL_of htab hdisB
  have hold : ∀ s, rmsT.all (fun x => !(x.2.1 == some s)) = true → (List.range ops.size).all (fun j => !(dstOf ops j == some s)) = true := fun s h => holdL htab s h
  refine region_detL val Wd (hac_of hac) hdis h0 ?_ ?_
  rotate_left
  · intro L W hall hW
    have := hend L W (by rw [← hosz]; exact hall) hW
    have e : frm ops a0 val (fun _ => true) ops.size = ((((((((((a0.put (some 18) (.slice (some ⟨p1, q1, none⟩) n c1)).put (some 19) (.int .i64 (k : Int))).put (some 20) (.pointer (some ⟨p1, q1 + k * 4, none⟩))).put (some 21) (.agg #[S m, S p, .slice a1 h d1, S b])).put (some 22) (.slice (some ⟨p2, q2, none⟩) n c2)).put (some 23) (.int .i64 (k : Int))).put (some 24) (.pointer (some ⟨p2, q2 + k * 4, none⟩))).put (some 25) (.agg #[S m, S p, .slice a2 h d2, S b])).put (some 26) (.bool true)).put (some 6) (.bool true)) := by
      rw [hosz]
      simp only [frm, if_true]
      rw [tab_dst htab 0, tab_dst htab 1, tab_dst htab 2, tab_dst htab 3, tab_dst htab 4, tab_dst htab 5, tab_dst htab 6, tab_dst htab 7, tab_dst htab 8, tab_dst htab 9]
      rfl
    rw [e]
    exact this
  intro i o ho L a w' hL hd ha hW
  have hi : i < 10 := by rw [← hosz]; exact (Array.getElem?_eq_some_iff.1 ho).1
  match i, ho, hL, hi with
  | 0, ho, hL, _ =>
    obtain ⟨hop, hdst, hgd⟩ := tab_at htab ho (show rmsT[0]? = _ from rfl)
    simp only at hop hgd
    have h0 := frm_old ha 0 _ (hold 0 rfl) o0
    exact doesL_run ho (wanted_none hgd) (hpure 0 (by decide) L w' hW) (by rw [run_move _ _ _ hop]; exact congrArg (fun v => Result.ok (Next.value v) w') (eval_of h0))
  | 1, ho, hL, _ =>
    obtain ⟨hop, hdst, hgd⟩ := tab_at htab ho (show rmsT[1]? = _ from rfl)
    simp only at hop hgd
    have h0 := frm_old ha 5 _ (hold 5 rfl) o5
    exact doesL_run ho (wanted_none hgd) (hpure 1 (by decide) L w' hW) (by rw [run_move _ _ _ hop]; exact congrArg (fun v => Result.ok (Next.value v) w') (eval_of h0))
  | 2, ho, hL, _ =>
    obtain ⟨hop, hdst, hgd⟩ := tab_at htab ho (show rmsT[2]? = _ from rfl)
    simp only at hop hgd
    have h0 := frm_at hdis ha 0 18 (hds 0 18 rfl) (by omega) (depl_of hdep 2 0 (by decide) ho hd)
    have h1 := frm_at hdis ha 1 19 (hds 1 19 rfl) (by omega) (depl_of hdep 2 1 (by decide) ho hd)
    exact doesL_run ho (wanted_none hgd) (hpure 2 (by decide) L w' hW) (run_ia54 _ _ _ _ hop _ _ _ _ _ i2 (eval_of h0) (eval_of h1) _)
  | 3, ho, hL, _ =>
    obtain ⟨hop, hdst, hgd⟩ := tab_at htab ho (show rmsT[3]? = _ from rfl)
    simp only at hop hgd
    have h0 := frm_at hdis ha 2 20 (hds 2 20 rfl) (by omega) (depl_of hdep 3 2 (by decide) ho hd)
    exact doesL_run ho (wanted_none hgd) (hpure 3 (by decide) L w' hW) (run_ld24 _ _ _ hop _ _ _ _ _ _ (eval_of h0) _ (l3 L w' hW).1 (l3 L w' hW).2.1 (l3 L w' hW).2.2.1 (l3 L w' hW).2.2.2)
  | 4, ho, hL, _ =>
    obtain ⟨hop, hdst, hgd⟩ := tab_at htab ho (show rmsT[4]? = _ from rfl)
    simp only at hop hgd
    have h0 := frm_old ha 1 _ (hold 1 rfl) o1
    exact doesL_run ho (wanted_none hgd) (hpure 4 (by decide) L w' hW) (by rw [run_move _ _ _ hop]; exact congrArg (fun v => Result.ok (Next.value v) w') (eval_of h0))
  | 5, ho, hL, _ =>
    obtain ⟨hop, hdst, hgd⟩ := tab_at htab ho (show rmsT[5]? = _ from rfl)
    simp only at hop hgd
    have h0 := frm_old ha 5 _ (hold 5 rfl) o5
    exact doesL_run ho (wanted_none hgd) (hpure 5 (by decide) L w' hW) (by rw [run_move _ _ _ hop]; exact congrArg (fun v => Result.ok (Next.value v) w') (eval_of h0))
  | 6, ho, hL, _ =>
    obtain ⟨hop, hdst, hgd⟩ := tab_at htab ho (show rmsT[6]? = _ from rfl)
    simp only at hop hgd
    have h0 := frm_at hdis ha 4 22 (hds 4 22 rfl) (by omega) (depl_of hdep 6 4 (by decide) ho hd)
    have h1 := frm_at hdis ha 5 23 (hds 5 23 rfl) (by omega) (depl_of hdep 6 5 (by decide) ho hd)
    exact doesL_run ho (wanted_none hgd) (hpure 6 (by decide) L w' hW) (run_ia54 _ _ _ _ hop _ _ _ _ _ i6 (eval_of h0) (eval_of h1) _)
  | 7, ho, hL, _ =>
    obtain ⟨hop, hdst, hgd⟩ := tab_at htab ho (show rmsT[7]? = _ from rfl)
    simp only at hop hgd
    have h0 := frm_at hdis ha 6 24 (hds 6 24 rfl) (by omega) (depl_of hdep 7 6 (by decide) ho hd)
    exact doesL_run ho (wanted_none hgd) (hpure 7 (by decide) L w' hW) (run_ld24 _ _ _ hop _ _ _ _ _ _ (eval_of h0) _ (l7 L w' hW).1 (l7 L w' hW).2.1 (l7 L w' hW).2.2.1 (l7 L w' hW).2.2.2)
  | 8, ho, hL, _ =>
    obtain ⟨hop, hdst, hgd⟩ := tab_at htab ho (show rmsT[8]? = _ from rfl)
    simp only at hop hgd
    have h0 := frm_at hdis ha 3 21 (hds 3 21 rfl) (by omega) (depl_of hdep 8 3 (by decide) ho hd)
    have h1 := frm_at hdis ha 7 25 (hds 7 25 rfl) (by omega) (depl_of hdep 8 7 (by decide) ho hd)
    refine doesL_call ho (wanted_none hgd) 51 #[.agg #[S m, S p, .slice a1 h d1, S b], .agg #[S m, S p, .slice a2 h d2, S b]] ?_ (c8 L w' hW hL)
    rw [run_calls Tryz.func51 (by kernel_rfl) rfl _ _ _ _ hop rfl]
    simp only [List.map_toArray, List.map_cons, List.map_nil, eval_of h0, eval_of h1]
    all_goals rfl
  | 9, ho, hL, _ =>
    obtain ⟨hop, hdst, hgd⟩ := tab_at htab ho (show rmsT[9]? = _ from rfl)
    simp only at hop hgd
    have h0 := frm_at hdis ha 8 26 (hds 8 26 rfl) (by omega) (depl_of hdep 9 8 (by decide) ho hd)
    exact doesL_run ho (wanted_none hgd) (hpure 9 (by decide) L w' hW) (by rw [run_assign _ _ _ hop]; exact congrArg (fun v => Result.ok (Next.value v) w') (eval_of h0))
  | (i + 10), ho, hL, hi => exact absurd hi (by omega)
end Go.Proofs.YthlacailhfhjnaaGreatDoor
