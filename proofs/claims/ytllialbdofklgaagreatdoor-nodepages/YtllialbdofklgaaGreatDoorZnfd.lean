import Derived.Test.YtllialbdofklgaaGreatDoorNfc
import Derived.Test.YtllialbdofklgaaGreatDoorZndg
namespace Go.Proofs.YtllialbdofklgaaGreatDoor
open Go.RowKit
set_option maxHeartbeats 16000000
set_option maxRecDepth 8000
theorem step_callsE {ops : Array Oper} {o : Oper} {a : Act} {w : World} {K : Act → World → Prop} {Q : Exit → Act → World → Prop} {R : Prop} {f : FuncId} {fn : Func} {c : Code} (hf : Tryz.prog.funcs[f]? = some fn) (hname : (fn.name == "runtime.NumGoroutine") = false) (hb : fn.body = some c) (hgd : o.guard = none) (xs : Array Operand) (ty : Array TypeId)
    (ho : o.op = .call { callee := .value (.func f), args := xs, argTypes := ty }) (args : Array Value) (hargs : xs.map a.eval = args) (Post : Value → World → Prop) (hc : Calls Tryz.prog f args w fun e w' => ∃ v, e = .returned v ∧ Post v w') (h : ∀ v w', Post v w' → K (a.put o.dst v) w') :
    if Region.wanted o (yielded ops a.tmps) = true then Oper.wp Tryz.prog o a w K Q else R := by
  have hw : Region.wanted o (yielded ops a.tmps) = true := by simp [Region.wanted, hgd]
  rw [if_pos hw]
  unfold Oper.wp
  rw [run_calls hf hname hb a.eval o xs ty ho rfl, Oper.upon_enter, hargs]
  refine hc.mono ?_
  rintro e w' ⟨v, rfl, hW⟩
  exact h v w' hW
theorem set5 {w : World} {Z : Nat} {old : Array Value} (h : w.heap[Z]? = some (.cells old 27 (0, 0))) (ho : old.size = 5) (a b c d e : Value) : (((((w.setCell ⟨Z, 0, none⟩ a).setCell ⟨Z, 1, none⟩ b).setCell ⟨Z, 2, none⟩ c).setCell ⟨Z, 3, none⟩ d).setCell ⟨Z, 4, none⟩ e).heap[Z]? = some (.cells #[a, b, c, d, e] 27 (0, 0)) := by
  rw [heap_setCell_same _ Z 4 _ 27 e (heap_setCell_same _ Z 3 _ 27 d (heap_setCell_same _ Z 2 _ 27 c (heap_setCell_same _ Z 1 _ 27 b (heap_setCell_same _ Z 0 _ 27 a h))))]
  match old, ho with
  | ⟨[x0, x1, x2, x3, x4]⟩, _ => rfl
theorem set5_only (w : World) (Z : Nat) (a b c d e : Value) : Only (fun k => k = Z) w (((((w.setCell ⟨Z, 0, none⟩ a).setCell ⟨Z, 1, none⟩ b).setCell ⟨Z, 2, none⟩ c).setCell ⟨Z, 3, none⟩ d).setCell ⟨Z, 4, none⟩ e) :=
  (((((Only.setCell w ⟨Z, 0, none⟩ a).put ⟨Z, 1, none⟩ b (.inl rfl)).put ⟨Z, 2, none⟩ c (.inl rfl)).put ⟨Z, 3, none⟩ d (.inl rfl)).put ⟨Z, 4, none⟩ e (.inl rfl))
theorem outP {fn : Func} {p q : Tmp} {W : World} {a : Act} {Z : Nat} {v0 v1 v2 v3 v4 v : Value} {Post : Ending → World → Prop} (hf : fn.results = #[.cell p 27, .tmp q]) (hd : a.defers = []) (ht : a.tmps.getD p undef = .pointer (some ⟨Z, 0, none⟩)) (hv : a.tmps.getD q undef = v) (h : W.heap[Z]? = some (.cells #[v0, v1, v2, v3, v4] 27 (0, 0))) (hp : Post (.returned (.tuple #[.agg #[v0, v1, v2, v3, v4], v])) W) : bodyPost Tryz.prog fn Post .ret a W := by
  obtain ⟨e0, e1, e2, e3, e4⟩ := box5 h (Below.refl _ _) (lt_of_row h)
  subst hv
  exact bodyPost_ret (results_p2 hf _ _ Z _ _ _ _ _ ht e0 e1 e2 e3 e4) hd hp
theorem alloc_old (w : World) (o : Obj) {r : Nat} (h : r < w.heap.size) : (w.alloc o).heap[r]? = w.heap[r]? := ((Below.refl w.heap.size w).alloc (Nat.le_refl _) o).block r h
theorem owns_base {B B' e n m : Nat} {w : World} {v : Value} {xs : List Value} (hB : B' ≤ B) (h : w.ownsRow B e n v m xs) : w.ownsRow B' e n v m xs := by
  refine ⟨h.1, ?_⟩
  rcases h.2 with q | ⟨g, cap, cur, e1, e2, e3⟩
  · exact .inl q
  · exact .inr ⟨g, cap, cur, e1, Nat.le_trans hB e2, e3⟩
theorem owns_sameB {B e n m : Nat} {w w' : World} {v : Value} {xs : List Value} (h : w.ownsRow B e n v m xs) (hb : ∀ k, v.ownBlock = some k → w'.heap[k]? = w.heap[k]?) : w'.ownsRow B e n v m xs := by
  refine ⟨h.1, ?_⟩
  rcases h.2 with q | ⟨g, cap, cur, e1, e2, e3, e4⟩
  · exact .inl q
  · exact .inr ⟨g, cap, cur, e1, e2, (hb g (by rw [e1]; rfl)).trans e3, e4⟩
theorem owns_belowB {B e n m : Nat} {w w' : World} {v : Value} {xs : List Value} (h : w.ownsRow B e n v m xs) (hb : Below w.heap.size w w') : w'.ownsRow B e n v m xs := owns_sameB h (fun k hk => hb.block k (owns_blk (owns_base (Nat.zero_le _) h) k hk))
theorem owns_onlyB {P : Nat → Prop} {B e n m : Nat} {w w' : World} {v : Value} {xs : List Value} (h : w.ownsRow B e n v m xs) (ho : Only P w w') (hp : ∀ k, v.ownBlock = some k → ¬ P k) : w'.ownsRow B e n v m xs := owns_sameB h (fun k hk => ho.block k (owns_blk (owns_base (Nat.zero_le _) h) k hk) (hp k hk))
theorem owns_ge {B e n m : Nat} {w : World} {v : Value} {xs : List Value} (h : w.ownsRow B e n v m xs) : ∀ k, v.ownBlock = some k → B ≤ k := by
  intro k hk
  rcases h.2 with ⟨e1, _⟩ | ⟨g, cap, cur, e1, e2, e3⟩
  · rw [e1] at hk; cases hk
  · rw [e1] at hk
    cases hk
    exact e2
theorem wrv_leaf {n : Nd} (hl : n.leaf = true) : wrv n = wrl n := by
  unfold wrv wrl hfv hfl agv
  rw [hl, if_pos rfl]
theorem wrv_ok {n : Nd} (h : wrv n = 0) : (∀ j, (n.keys.getD j []).length ≤ 36) ∧ (∀ j, (n.vals.getD j []).length ≤ 200) ∧ n.keys.length ≤ 255 ∧ (n.leaf = true → n.vals.length = n.keys.length) ∧ NB n := by
  cases hl : n.leaf
  · unfold wrv at h
    cases h1 : hfv n
    · rw [h1] at h; cases h
    cases h2 : kok n.keys
    · rw [h1, h2] at h; cases h
    rw [h1, h2, if_pos rfl, if_pos rfl] at h
    have h3 : ¬ 480 < n.siz := fun q => by rw [if_pos q] at h; cases h
    unfold hfv agv agi at h1
    rw [hl, if_neg (by simp)] at h1
    simp only [Bool.and_eq_true, decide_eq_true_eq, Bool.not_eq_true'] at h1
    unfold Nd.siz at h3
    rw [hl, if_neg (by simp)] at h3
    obtain ⟨h4, ⟨⟨h5, h6⟩, h7⟩, h8⟩ := h1
    have h9 : n.vals = [] := List.eq_nil_of_length_eq_zero h6
    refine ⟨key_at h2, fun j => by rw [h9]; simp, by omega, fun q => (by cases q), ⟨by omega, by omega, by omega, by omega, by rw [h9]; simp [tot]⟩⟩
  · have q := wrl_ok ((wrv_leaf hl).symm.trans h) hl
    refine ⟨q.1, q.2.1, q.2.2.1, fun _ => q.2.2.2 hl, ?_⟩
    have h' := (wrv_leaf hl).symm.trans h
    unfold wrl at h'
    cases h1 : hfl n
    · rw [h1] at h'; cases h'
    cases h2 : kok n.keys
    · rw [h1, h2] at h'; cases h'
    rw [h1, h2, if_pos rfl, if_pos rfl] at h'
    have h3 : ¬ 480 < n.siz := fun q => by rw [if_pos q] at h'; cases h'
    unfold Nd.siz at h3
    rw [hl, if_pos rfl] at h3
    unfold hfl agl at h1
    simp only [Bool.and_eq_true, decide_eq_true_eq, Bool.not_eq_true'] at h1
    exact ⟨by omega, by omega, by omega, by omega, by omega⟩
/-- What Page says of a node. -/
def pvk (n : Nd) : Int := if wrv n = 0 then (if n.leaf then 1 else 2) else 0
def pvb (n : Nd) : Bs := if wrv n = 0 then bdy n else []
def pvl (n : Nd) : List Int := if wrv n = 0 then (if n.leaf then [] else n.kids) else []
theorem page_inner (n : Nd) (ka va ia : Option Addr) (kc vc ic : Nat) (w : World) (h : NA n ka va ia w) (hb : NB n) (hl : n.leaf = false) :
    Calls Tryz.prog 33 #[nda n ka va ia kc vc ic] w fun e w' => ∃ p c, e = .returned (.tuple #[.agg #[I (pvk n), I 0, I 0, .slice p (pvl n).length c, S (pvb n)], I (wrv n)]) ∧ w'.ownsRow w.heap.size 3 1 (.slice p (pvl n).length c) (pvl n).length ((pvl n).map (Value.int .i64)) ∧ Below w.heap.size w w' := by
  have hA := (Below.refl w.heap.size w).alloc (Nat.le_refl _) (.cells #[.bool n.leaf, .slice ka n.keys.length kc, .slice va n.vals.length vc, .slice ia n.kids.length ic] 25)
  have hA2 := hA.alloc hA.size (.cells #[I 0, I 0, I 0, .slice none 0 0, S []] 27)
  have hg := heap_alloc_new w (.cells #[.bool n.leaf, .slice ka n.keys.length kc, .slice va n.vals.length vc, .slice ia n.kids.length ic] 25)
  have hz := lt_of_row hg
  generalize hW1 : w.alloc (.cells #[.bool n.leaf, .slice ka n.keys.length kc, .slice va n.vals.length vc, .slice ia n.kids.length ic] 25) = W1 at hA hA2 hg hz
  have hp := heap_alloc_new W1 (.cells #[I 0, I 0, I 0, .slice none 0 0, S []] 27)
  have hg2 := (alloc_old W1 (.cells #[I 0, I 0, I 0, .slice none 0 0, S []] 27) hz).trans hg
  have hs1 : W1.heap.size = w.heap.size + 1 := by rw [← hW1, size_alloc]
  have hz2 := lt_of_row hp
  generalize hW2 : W1.alloc (.cells #[I 0, I 0, I 0, .slice none 0 0, S []] 27) = W2 at hA2 hp hg2 hz2
  have hna := h.below hA2
  have H1 := hide (wrong_any n ka va ia kc vc ic W2 hna hb)
  have H2 := hide (fun W (b : Below W2.heap.size W2 W) (q : wrv n = 0) => body_any n ka va ia kc vc ic W (hna.below b) (wrv_ok q).1 (wrv_ok q).2.1 (wrv_ok q).2.2.1 (wrv_ok q).2.2.2.1)
  have H3 := hide (fun W (b : Below W2.heap.size W2 W) => cloneI_any ia n.kids.length ic n.kids W (hna.below b).is hb.i)
  have HA2 := hide hA2
  have HP := hide hp
  have HG := hide hg2
  unfold pvk pvb pvl
  have hle : wrv n ≤ 102 := by unfold wrv; split <;> (try split) <;> (try split) <;> omega
  generalize wrv n = er at *
  generalize bdy n = bd at *
  clear h hA hA2 hb hna hg hp hg2
  unfold nda at *
  rw [hl] at *
  generalize n.keys.length = kl at *
  generalize n.vals.length = vl at *
  generalize n.kids = is at *
  clear hl n
  have hz3 : w.heap.size < W2.heap.size := by omega
  obtain ⟨c0, c1, c2, c3⟩ := box4 (unhide HG) (Below.refl _ _) hz3
  generalize hil : is.length = il at *
  have HIL := hide hil
  clear hil
  go_enter Tryz.func33, Tryz.ntmps33
  go_wp2_with fail
  refine (unhide H1).mono ?_
  rintro e w1 ⟨rfl, b⟩
  clear c0 c1 c2 c3
  have HB := hide b
  obtain ⟨d0, d1, d2, d3⟩ := box4 (unhide HG) b hz3
  have hz4 : w.heap.size < w1.heap.size := Nat.lt_of_lt_of_le hz3 b.size
  have hp1 := (b.block _ hz2).trans (unhide HP)
  have HP1 := hide hp1
  have hz5 := lt_of_row hp1
  clear b hp1
  rw [hs1] at HP1 hz5 HP hz2
  by_cases h0 : er = 0
  · subst h0
    have h2 := hide (fun W (q : Below W2.heap.size W2 W) => unhide H2 W q rfl)
    clear H2
    have HB0 := hide ((unhide HB).drew)
    go_wp2
    go_region_law (first
      | (refine step_callsE (f := 61) Tryz.func61 (by kernel_rfl) rfl rfl _ _ rfl #[.slice ia il ic] (by simp [Act.eval]) (fun v w' => w'.ownsRow w1.drew.heap.size 3 1 v il (is.map (Value.int .i64)) ∧ Below w1.drew.heap.size w1.drew w') (unhide H3 _ (unhide HB0)) ?_; rintro v w2 ⟨r2, b2⟩; have hsz2 : W2.heap.size ≤ w1.drew.heap.size := (unhide HB0).size; obtain ⟨pL, cL, rfl⟩ := owns_form (owns_base (Nat.zero_le _) r2); have HR2 := hide (owns_base (Nat.le_trans (unhide HA2).size hsz2) r2); have HB1 := hide ((unhide HB0).trans (b2.mono hsz2)); clear r2 b2 hsz2 d0 d1 d2 d3; obtain ⟨d0, d1, d2, d3⟩ := box4 (unhide HG) (unhide HB1) hz3; have q4 : w.heap.size < w2.heap.size := Nat.lt_of_lt_of_le hz3 (unhide HB1).size)
      | (refine step_callsE (f := 61) Tryz.func61 (by kernel_rfl) rfl rfl _ _ rfl #[.slice ia il ic] (by simp [Act.eval]) (fun v w' => w'.ownsRow w2.heap.size 3 1 v il (is.map (Value.int .i64)) ∧ Below w2.heap.size w2 w') (unhide H3 _ (unhide HB1)) ?_; rintro v w3 ⟨r2, b2⟩; have hsz2 : W2.heap.size ≤ w2.heap.size := (unhide HB1).size; obtain ⟨pL, cL, rfl⟩ := owns_form (owns_base (Nat.zero_le _) r2); have HR3 := hide (owns_base (Nat.le_trans (unhide HA2).size hsz2) r2); have hb2 := (unhide HB1).trans (b2.mono hsz2); have HB2 := hide hb2; have hp2 := (hb2.block _ hz2).trans (unhide HP); have f2 := frz hp2; have f20 := f2 0; have f21 := f2 1; have f22 := f2 2; have f23 := f2 3; have f24 := f2 4; obtain ⟨g0, g1, g2, g3, g4⟩ := box5 hp2 (Below.refl _ _) (lt_of_row hp2); have HP2 := hide hp2; clear r2 b2 hsz2 hb2 hp2 f2)
      | (refine step_calls (f := 60) Tryz.func60 (by kernel_rfl) rfl rfl _ _ rfl #[.agg #[.bool false, .slice ka kl kc, .slice va vl vc, .slice ia il ic]] (by simp [Act.eval]) (S bd) (fun w' => Below w1.drew.heap.size w1.drew w') (unhide h2 _ (unhide HB0)) ?_; intro w2 b2; have HB1 := hide ((unhide HB0).trans (b2.mono (unhide HB0).size)); clear b2 d0 d1 d2 d3; obtain ⟨d0, d1, d2, d3⟩ := box4 (unhide HG) (unhide HB1) hz3; have q4 : w.heap.size < w2.heap.size := Nat.lt_of_lt_of_le hz3 (unhide HB1).size)
      | (refine step_calls (f := 60) Tryz.func60 (by kernel_rfl) rfl rfl _ _ rfl #[.agg #[.bool false, .slice ka kl kc, .slice va vl vc, .slice ia il ic]] (by simp [Act.eval]) (S bd) (fun w' => Below w2.heap.size w2 w') (unhide h2 _ (unhide HB1)) ?_; intro w3 b2; have HR3 := hide (owns_belowB (unhide HR2) b2); have hb2 := (unhide HB1).trans (b2.mono (unhide HB1).size); have HB2 := hide hb2; have hp2 := (hb2.block _ hz2).trans (unhide HP); have f2 := frz hp2; have f20 := f2 0; have f21 := f2 1; have f22 := f2 2; have f23 := f2 3; have f24 := f2 4; obtain ⟨g0, g1, g2, g3, g4⟩ := box5 hp2 (Below.refl _ _) (lt_of_row hp2); have HP2 := hide hp2; clear b2 hb2 hp2 f2))
    all_goals (
      go_wp2
      have h5 := set5 (unhide HP2) rfl (I 2) (I 0) (I 0) (.slice pL il cL) (S bd)
      have oF := set5_only w3 (w.heap.size + 1) (I 2) (I 0) (I 0) (.slice pL il cL) (S bd)
      refine outP (p := 2) (q := 3) rfl (by rfl) (by rfl) (by rfl) h5 ⟨pL, cL, ?_, ?_, ?_⟩
      · simp [unhide HIL]
      · try rw [unhide HIL]
        have hr := unhide HR3
        exact owns_onlyB hr oF (fun i hi e => by
          subst e
          obtain ⟨cs, q⟩ := owns_lt (owns_base (Nat.zero_le _) hr) _ hi
          rw [unhide HP2] at q
          injection q with q
          injection q with _ q
          cases q)
      · exact oF.below ((unhide HA2).trans ((unhide HB2).mono (unhide HA2).size)) (Nat.le_trans (unhide HA2).size (unhide HB2).size) (fun i e => by omega))
  · have h0' : ((er : Int) == 0) = false := by simp; omega
    clear H2
    go_wp2_with (refine wp_st27 rfl (.tmp 2) (.tmp 9) rfl (w.heap.size + 1) (by rfl) 0 0 0 none 0 0 [] (by rfl) _ rfl (unhide HP1) ?_)
    have hr := setRow_heap _ _ _ #[I 0, I 0, I 0, .slice none 0 0, S []] 27 _ (unhide HP1)
    have oF := setRow_only w1 (w.heap.size + 1) #[I 0, I 0, I 0, .slice none 0 0, S []]
    refine outP (p := 2) (q := 3) rfl (by rfl) (by rfl) (by rfl) hr ⟨none, 0, ?_, ?_, ?_⟩
    · simp
    · first | exact World.ownsRow_nil _ _ _ _ | (rw [if_neg h0]; exact World.ownsRow_nil _ _ _ _)
    · exact oF.below ((unhide HA2).trans ((unhide HB).mono (unhide HA2).size)) (Nat.le_trans (unhide HA2).size (unhide HB).size) (fun i e => by omega)
theorem page_any (n : Nd) (ka va ia : Option Addr) (kc vc ic : Nat) (w : World) (h : NA n ka va ia w) (hb : NB n) :
    Calls Tryz.prog 33 #[nda n ka va ia kc vc ic] w fun e w' => ∃ p c, e = .returned (.tuple #[.agg #[I (pvk n), I 0, I 0, .slice p (pvl n).length c, S (pvb n)], I (wrv n)]) ∧ w'.ownsRow w.heap.size 3 1 (.slice p (pvl n).length c) (pvl n).length ((pvl n).map (Value.int .i64)) ∧ Below w.heap.size w w' := by
  cases hl : n.leaf
  · exact page_inner n ka va ia kc vc ic w h hb hl
  · refine (page_leaf n ka va ia kc vc ic w h hb hl).mono ?_
    rintro e w' ⟨rfl, hb'⟩
    have e1 : pgk n = pvk n := by unfold pgk pvk; rw [wrv_leaf hl, hl, if_pos rfl]
    have e2 : pgb n = pvb n := by unfold pgb pvb; rw [wrv_leaf hl]
    have e3 : pvl n = [] := by unfold pvl; rw [hl, if_pos rfl]; split <;> rfl
    refine ⟨none, 0, ?_, ?_, hb'⟩
    · rw [e1, e2, e3, wrv_leaf hl]; rfl
    · rw [e3]; exact World.ownsRow_nil _ _ _ _
end Go.Proofs.YtllialbdofklgaaGreatDoor
namespace Go.Proofs.YtllialbdofklgaaGreatDoor
open Go.RowKit
set_option maxHeartbeats 16000000
set_option maxRecDepth 8000
/-- What is read of an inner node's body: keys, and where the Reader stands. -/
def iF : Nat → Bs × Nat → List Bs × (Bs × Nat)
  | 0, s => ([], s)
  | n + 1, s => ((iF n s).1 ++ [tv 36 (iF n s).2], ts 36 (iF n s).2)
theorem iF_short (n : Nat) (s : Bs × Nat) : (iF n s).2.1.length ≤ s.1.length := by
  induction n with
  | zero => exact Nat.le_refl _
  | succ n ih => exact Nat.le_trans (ts_len _ _) ih
theorem iF_len (n : Nat) (s : Bs × Nat) : (iF n s).1.length = n := by
  induction n with
  | zero => rfl
  | succ n ih => simp [iF, ih]
def iK (x : Bs) : List Bs := (iF (gN x) (rs 1 (x, 0))).1
def iE (x : Bs) : Nat := rDone (iF (gN x) (rs 1 (x, 0))).2.1 (iF (gN x) (rs 1 (x, 0))).2.2
theorem guess_inner (nu bi : Int) (la : Option Addr) (ln lc : Nat) (L : List Int) (x : Bs) (w : World) (hx : x.length ≤ 4294967296) (hL : Ins w la ln L) (hLn : ln ≤ 4294967296)
    (HD : ∀ b g off cap W, Below w.heap.size w W → RAt b g off cap (iF (gN x) (rs 1 (x, 0))).2.1 (iF (gN x) (rs 1 (x, 0))).2.2 W → Calls Tryz.prog 95 #[ptr b] W fun e w' => e = .returned (I (iE x)) ∧ Below W.heap.size W w') :
    Calls Tryz.prog 63 #[.agg #[I 2, I nu, I bi, .slice la ln lc, S x]] w fun e w' => ∃ vK vI, e = .returned (.tuple #[.agg #[.bool false, vK, .slice none 0 0, vI], .bool (decide (iE x = 0))]) ∧ w'.ownsRow 0 9 1 vK (iK x).length ((iK x).map S) ∧ w'.ownsRow 0 3 1 vI L.length (L.map fun z => I z) ∧ (∀ i, vK.ownBlock = some i → w.heap.size ≤ i) ∧ (∀ i, vI.ownBlock = some i → w.heap.size ≤ i) ∧ Below w.heap.size w w' := by
  have hn0 := rv_lo 1 (x, 0)
  have hn1 := rv_hi1 (x, 0)
  have hgn : rv 1 (x, 0) = ((gN x : Nat) : Int) := by unfold gN; omega
  have hn2 : gN x ≤ 255 := by omega
  have hlr : (rs 1 (x, 0)).1.length ≤ 4294967296 := Nat.le_trans (rGo_len _ _ _ _) hx
  have LF := hide (fun k => Nat.le_trans (iF_short k (rs 1 (x, 0))) hlr)
  have HK : Hid (iK x = (iF (gN x) (rs 1 (x, 0))).1) := rfl
  have HDD := hide HD
  clear HD
  generalize iK x = ik at *
  generalize iE x = ge at *
  have hA := (Below.refl w.heap.size w).alloc (Nat.le_refl _) (.cells #[I 2, I nu, I bi, .slice la ln lc, S x] 27)
  have hg := heap_alloc_new w (.cells #[I 2, I nu, I bi, .slice la ln lc, S x] 27)
  have hz := lt_of_row hg
  have hs1 := size_alloc w (.cells #[I 2, I nu, I bi, .slice la ln lc, S x] 27)
  generalize hW1 : w.alloc (.cells #[I 2, I nu, I bi, .slice la ln lc, S x] 27) = W1 at hA hg hz hs1
  have hA2 := hA.alloc hA.size (.cells #[.bool false, .slice none 0 0, .slice none 0 0, .slice none 0 0] 25)
  have hp := heap_alloc_new W1 (.cells #[.bool false, .slice none 0 0, .slice none 0 0, .slice none 0 0] 25)
  have hg2 := (alloc_old W1 (.cells #[.bool false, .slice none 0 0, .slice none 0 0, .slice none 0 0] 25) hz).trans hg
  have hs2 := size_alloc W1 (.cells #[.bool false, .slice none 0 0, .slice none 0 0, .slice none 0 0] 25)
  generalize hW2 : W1.alloc (.cells #[.bool false, .slice none 0 0, .slice none 0 0, .slice none 0 0] 25) = W2 at hA2 hp hg2 hs2
  have hq := heap_alloc_new W2 (.cells #[.bool false, .slice none 0 0, .slice none 0 0, .slice none 0 0] 25)
  have hb3 := (Below.refl W2.heap.size W2).alloc (Nat.le_refl _) (.cells #[.bool false, .slice none 0 0, .slice none 0 0, .slice none 0 0] 25)
  have ht := setRow_heap _ _ _ #[.bool false, .slice none 0 0, .slice none 0 0, .slice none 0 0] 25 _ hq
  have hb4 := (setRow_only (W2.alloc (.cells #[.bool false, .slice none 0 0, .slice none 0 0, .slice none 0 0] 25)) W2.heap.size #[.bool false, .slice none 0 0, .slice none 0 0, .slice none 0 0]).below hb3 hb3.size (fun k e => by omega)
  have HQ := hide hq
  clear hq hb3
  generalize hW3 : (W2.alloc (.cells #[.bool false, .slice none 0 0, .slice none 0 0, .slice none 0 0] 25)).setRow W2.heap.size #[.bool false, .slice none 0 0, .slice none 0 0, .slice none 0 0] = W3 at ht hb4
  obtain ⟨c0, c1, c2, c3, c4⟩ := box5 hg2 (Below.refl _ _) (lt_of_row hg2)
  have hzz : w.heap.size < W2.heap.size := by omega
  obtain ⟨d0, d1, d2, d3, d4⟩ := box5 hg2 hb4 hzz
  obtain ⟨e0, e1, e2, e3⟩ := box4 ht (Below.refl _ _) (lt_of_row ht)
  have hl3 := lt_of_row ht
  have hl3' : w.heap.size < W3.heap.size := by omega
  have HA2 := hide hA2
  have HG2 := hide hg2
  have HP := hide hp
  have HT3 := hide ht
  have HB4 := hide hb4
  have HCL := hide (cloneI_any la ln lc L W3 (hL.below (hA2.trans (hb4.mono hA2.size))) hLn)
  have H0 := hide (fun W => Rd.new x W)
  clear hL
  clear hA hg hz hA2 hp hg2 hb4 ht
  have HXS := hide (show W1.heap.size = w.heap.size + 1 ∧ W2.heap.size = W1.heap.size + 1 from ⟨hs1, hs2⟩)
  have HGN := hide hgn
  clear hgn hn0 hn1 hs1 hs2
  have HW3 := hide hW3
  clear hW3
  go_enter Tryz.func63, Tryz.ntmps63
  go_wp2_with (refine wp_st25 rfl (.tmp 4) (.tmp 9) rfl W2.heap.size (by rfl) false none none none 0 0 0 0 0 0 (by rfl) _ rfl (unhide HQ) ?_; rw [unhide HW3])
  refine (unhide HCL).mono ?_
  rintro e u1 ⟨vI, rfl, rI, bI⟩
  obtain ⟨pI, cI, rfl⟩ := owns_form (owns_base (Nat.zero_le _) rI)
  have tI := (bI.block _ hl3).trans (unhide HT3)
  have k3 := frz tI 3
  clear c0 c1 c2 c3 c4 d0 d1 d2 d3 d4 e0 e1 e2 e3
  obtain ⟨d0, d1, d2, d3, d4⟩ := box5 (unhide HG2) ((unhide HB4).trans (bI.mono (unhide HB4).size)) hzz
  obtain ⟨e0, e1, e2, e3⟩ := box4 tI (Below.refl _ _) (lt_of_row tI)
  have hl4 := lt_of_row tI
  have hl4' : w.heap.size < u1.heap.size := Nat.lt_of_lt_of_le hl3' bI.size
  have t4 := heap_setCell_same u1 W2.heap.size 3 _ 25 (.slice pI L.length cI) tI
  have o4 := Only.setCell u1 ⟨W2.heap.size, 3, none⟩ (.slice pI L.length cI)
  have b4 := o4.below ((unhide HB4).trans (bI.mono (unhide HB4).size)) (Nat.le_trans (unhide HB4).size bI.size) (fun k e => by rw [e]; exact Nat.le_refl _)
  have r4 : (u1.setCell ⟨W2.heap.size, 3, none⟩ (.slice pI L.length cI)).ownsRow W3.heap.size 3 1 (.slice pI L.length cI) L.length (L.map (Value.int .i64)) := owns_onlyB rI o4 (fun k hk e => by have := owns_ge rI k hk; rw [e] at this; simp only at this; omega)
  have hl5 := lt_of_row t4
  have hl5' : w.heap.size < (u1.setCell ⟨W2.heap.size, 3, none⟩ (.slice pI L.length cI)).heap.size := by omega
  have HT4 := hide t4
  have HB5 := hide b4
  have HR4 := hide r4
  have HXL : Hid (W2.heap.size < W3.heap.size) := hl3
  have h0 := hide (unhide H0 (u1.setCell ⟨W2.heap.size, 3, none⟩ (.slice pI L.length cI)))
  obtain ⟨d40, d41, d42, d43, d44⟩ := box5 (unhide HG2) b4 hzz
  clear rI bI tI t4 o4 b4 r4 H0 HCL
  have HU4 := hide (show ∃ U4, u1.setCell ⟨W2.heap.size, 3, none⟩ (.slice pI L.length cI) = U4 from ⟨_, rfl⟩)
  generalize hll : L.length = ll at *
  have HLL := hide hll
  clear hll
  go_wp2_with fail
  refine (unhide h0).mono ?_
  rintro e w1 ⟨b, g, rfl, h1⟩
  generalize hU : u1.setCell ⟨W2.heap.size, 3, none⟩ (.slice pI ll cI) = U4 at *
  clear hU k3 d40 d41 d42 d43 d44 hl4 hl4' HU4
  clear d0 d1 d2 d3 d4 e0 e1 e2 e3 hW1 hW2 HW3 HQ h0
  have hG : Ge W2 W2.heap.size b g false [] [] L (.slice none 0 0) (.slice none 0 0) (.slice pI ll cI) (x, 0) w1 := by
    have hr := h1.2.1
    obtain ⟨⟨off, cap, r1⟩, r2, r3, r4⟩ := h1
    have hrI := owns_belowB (unhide HR4) hr
    exact ⟨(hr.block _ hl5).trans (unhide HT4), owns_nil _ _ _, owns_nil _ _ _, by rw [unhide HLL]; exact owns_base (Nat.zero_le _) hrI, Rd.rebase ⟨⟨off, cap, r1⟩, r2, r3, r4⟩ (unhide HB5), Nat.le_refl _, (fun i hi => nomatch hi), (fun i hi => nomatch hi), (fun i hi => by
      have h1 := owns_ge hrI i hi
      have h2 := owns_blk (owns_base (Nat.zero_le _) (unhide HR4)) i hi
      have h3 := unhide HXL
      constructor <;> omega), by omega, (fun i hi => nomatch hi)⟩
  have H1 := hide (hG.rd.num' 1 hx)
  have HG := hide hG
  clear hG h1 hl3 hl3' hl5 hl5' HT3 HB4 HT4 HB5 HR4 HXL U4 W3
  have HT : Hid (W2.heap.size ≤ W2.heap.size) := Nat.le_refl _
  go_wp2_with fail
  refine (unhide H1).mono ?_
  rintro e w2 ⟨rfl, h2, o2⟩
  have G2 := hide ((unhide HG).read h2 o2)
  clear h2 o2 HG H1
  rw [unhide HGN]
  clear HGN
  generalize gN x = n at *
  generalize hs0 : rs 1 (x, 0) = s0 at *
  clear hs0
  go_wp2
  go_loopw [22] (fun i wr => ∃ k : Nat, k ≤ n ∧ i = .int .i64 k ∧ ∃ vK, Ge W2 W2.heap.size b g false (iF k s0).1 [] L vK (.slice none 0 0) (.slice pI ll cI) (iF k s0).2 wr) (fun i _ => n - (Go.RowKit.intOf i).toNat)
  case atStart => exact ⟨0, by omega, rfl, _, unhide G2⟩
  case round =>
    clear G2
    obtain ⟨k, hk, rfl, vK, hG⟩ := hrel
    by_cases hlt : k < n
    · have hlt' : (k : Int) < (n : Int) := by omega
      have HS := hide (show iF (k + 1) s0 = ((iF k s0).1 ++ [tv 36 (iF k s0).2], ts 36 (iF k s0).2) from rfl)
      have hl := iF_len k s0
      have hls := unhide LF k
      obtain ⟨K, hK⟩ : ∃ K, K = (iF k s0).1 := ⟨_, rfl⟩
      obtain ⟨st, hst⟩ : ∃ st, st = (iF k s0).2 := ⟨_, rfl⟩
      rw [← hK] at hl
      rw [← hst] at hls
      rw [← hK, ← hst] at hG HS
      clear hK hst
      have hlK := hl
      clear hl
      obtain ⟨pK, cK, rfl⟩ := owns_form hG.rK
      have hGd := hG.below (Below.refl _ _).drew
      have HGd := hide hGd
      have HN := hide (hGd.rd.text 36 hls)
      obtain ⟨c0, c1, c2, c3⟩ := hG.cells
      have hTl := lt_of_row hG.blk
      clear hG hGd
      generalize hT : W2.heap.size = T at c0 c1 c2 c3 hTl HGd ⊢
      generalize hz : tv 36 st = z at *
      generalize hs1 : ts 36 st = st1 at *
      have HLK := hide hlK
      rw [hlK] at c1
      rw [hlK] at HGd
      have hkb : K.length + 1 ≤ 1000000 := by omega
      clear hz hs1 hlK
      go_wp2
      go_region_law (first
        | (refine step_calls (f := 94) Tryz.func94 (by kernel_rfl) rfl rfl _ _ rfl #[ptr b, I 36] (by simp [Act.eval, Act.put]) (S z) (fun w' => Rd W2 b g st1 w' ∧ Only (fun k => k = b) wr.drew w') (unhide HN) ?_; rintro w2 ⟨r2, o2⟩; have G2 := (unhide HGd).read r2 o2; obtain ⟨-, c5, -, -⟩ := G2.cells; have t2 := lt_of_row G2.blk; have HG2 := hide G2; clear G2 r2 o2)
        | (refine step_pushS rfl (.tmp 25) (.tmp 28) rfl (.slice pK k cK) K.length (K.map S) (by rfl) w2 z (unhide HG2).rK (by rfl) (by omega) ?_; intro p3 cap3 w3 r3 o3 n3; have e3 := (o3.block T t2 (fun e => ((unhide HG2).nr (unhide HG2).rK (by decide) (by decide) T e).1 rfl)).trans (unhide HG2).blk; have c6 : w3.cell? ⟨T, 1, none⟩ = some (.slice pK k cK) := cell_of_row w3 _ 1 _ 25 (0, 0) e3; have f6 := frz e3 1; have HG3 := hide ((unhide HG2).pushK z r3 o3 n3); clear r3 o3 n3 e3))
      all_goals (
        have G4 := unhide HG3
        have hTl4 := lt_of_row G4.blk
        obtain ⟨d0, d1, d2, d3⟩ := G4.cells
        have HGe := hide G4
        clear HG2 HG3 G4 c6 f6 c5 c0 c1 c2 c3 hTl t2
        generalize w3.setCell ⟨T, 1, none⟩ (.slice p3 (K.length + 1) cap3) = w4 at *
        generalize K ++ [z] = K2 at *
        generalize hK3 : Value.slice p3 (K.length + 1) cap3 = vK at *
        clear hK3
        go_wp2
        go_roundw
        case rel => exact ⟨k + 1, by omega, by go_num, _, by rw [unhide HS]; exact (unhide HGe)⟩
        case measure => simp [Go.RowKit.intOf]; omega)
    · have hlt' : ¬ (k : Int) < (n : Int) := by omega
      obtain rfl : k = n := by omega
      have hbw : Below w.heap.size w wr.drew := ((unhide HA2).trans (hG.rd.2.1.mono (unhide HA2).size)).drew
      have hGd := hG.below (Below.refl _ _).drew
      obtain ⟨⟨off, cap, hra⟩, -, -, -⟩ := hGd.rd
      have HN := hide (unhide HDD b g off cap wr.drew hbw hra)
      obtain ⟨pK, cK, rfl⟩ := owns_form hG.rK
      have hXS := unhide HXS
      have hp := (hGd.rd.2.1.block _ (show W1.heap.size < W2.heap.size by omega)).trans (unhide HP)
      have HPd := hide hp
      have hpl := lt_of_row hp
      have HG := hide hGd
      have HBW := hide hbw
      obtain ⟨c0, c1, c2, c3⟩ := hGd.cells
      have hTl := lt_of_row hGd.blk
      have hlen := iF_len k s0
      rw [hlen] at c1
      have HLN := hide hlen
      clear hG hbw hGd hra hXS hp hlen
      generalize hT : W2.heap.size = T at c0 c1 c2 c3 hTl HG ⊢
      rw [unhide HLN] at HG
      go_wp2
      go_region_law (first
        | (refine step_calls (f := 95) Tryz.func95 (by kernel_rfl) rfl rfl _ _ rfl #[ptr b] (by simp [Act.eval, Act.put]) (I ge) (fun w' => Below wr.drew.heap.size wr.drew w') (unhide HN) ?_; intro w2 b2; have G2 := (unhide HG).below b2; obtain ⟨d0, d1, d2, d3⟩ := G2.cells; have t2 := lt_of_row G2.blk; have hp2 := (b2.block _ hpl).trans (unhide HPd); have f2 := frz hp2; have f20 := f2 0; have f21 := f2 1; have f22 := f2 2; have f23 := f2 3; obtain ⟨g0, g1, g2, g3⟩ := box4 hp2 (Below.refl _ _) (lt_of_row hp2); have HP2 := hide hp2; have HG2 := hide G2; have HB2 := hide b2; clear G2 b2 f2 hp2))
      all_goals (
        go_wp2
        have hXS := unhide HXS
        have G2 := unhide HG2
        have bb := (unhide HBW).trans ((unhide HB2).mono (unhide HBW).size)
        have o4 := set4_only w2 W1.heap.size (.bool false) (.slice pK k cK) (.slice none 0 0) (.slice pI ll cI)
        have h4 := set4 (unhide HP2) rfl (.bool false) (.slice pK k cK) (.slice none 0 0) (.slice pI ll cI)
        have b4 := o4.below bb bb.size (fun i e => by omega)
        refine outN (p := 2) (q := 3) rfl (by rfl) (by rfl) (by rfl) h4 ⟨.slice pK k cK, .slice pI ll cI, ?_, ?_, ?_, fun i hi => ?_, fun i hi => ?_, b4⟩
        · exact ret_nb ge
        · rw [unhide HK]
          exact owns_only G2.rK o4 (fun i hi e => by have := (G2.hK i hi).1; omega)
        · exact owns_only G2.rI o4 (fun i hi e => by have := (G2.hI i hi).1; omega)
        · have := (G2.hK i hi).1; omega
        · have := (G2.hI i hi).1; omega)
end Go.Proofs.YtllialbdofklgaaGreatDoor
