import PyProof.Rows.All
import Wide.All
import OpenK.AllK
import Wide.FinOn
import HandS.ForMost
import HandS.Wide
import HandS.Codes
import HandS.FStr
import HandS.IsInst
import KE.KExcSuper
import HandS.ExcInit
import HandS.Nested
import HandS.ExcValue
import HandS.ExcIs
import KE.KExcIs
import HandS.Walk
import PySem.Challenge.RW_leftproducts_k00_errors_of_all_parts
set_option Elab.async false
set_option linter.all false
set_option maxRecDepth 100000
set_option maxHeartbeats 4000000
namespace Lp
open PySem L2
def top (i : Nat) : Stmt := PySem.Challenge.pw_leftproducts_k00_errors_of_all_parts.main.body.getD i (.Pass ⟨0, 0, 0, 0⟩)
/-- readings, opened to plain logic -/
local macro_rules | `(tactic| walk_at "rd") => `(tactic| simp only [tSeq, tAsg, tYes, tTest, tOp, tCB, tCons, tNil, tVar, tC, rI0, rI, gName, wipe, tDisp, tPairs, tRet, tIf, tIfS, tPar, tLst, tTup, tDrop, tDGet, tCall, sDPut, L2.start,
  List.map_cons, List.map_nil, List.foldl_cons, List.foldl_nil, List.length_cons, List.length_nil, List.replicate_succ, List.replicate_zero, List.append_nil, List.cons_append, List.nil_append, List.set_cons_zero, List.set_cons_succ, List.getElem?_cons_zero, List.getElem?_cons_succ,
  Option.some.injEq, List.cons.injEq, V.int.injEq, V.bl.injEq, V.ref.injEq, V.str.injEq, exists_eq_left', exists_eq_left, exists_eq_right, and_true, true_and, exists_and_left, Nat.add_zero, Nat.reduceAdd, Nat.reduceSub, Nat.sub_zero, if_true, if_false])
/-- what stood stands, but at d and l -/
def But (d l : Addr) (H H' : Hp) : Prop := ∀ b o, H b = some o → b ≠ d → b ≠ l → H' b = some o
theorem But.refl {d l : Addr} {H : Hp} : But d l H H := fun _ _ h _ _ => h
theorem But.trans {d l : Addr} {H H1 H2 : Hp} (a : But d l H H1) (b : But d l H1 H2) : But d l H H2 := fun c o h n m => b c o (a c o h n m) n m
theorem But.of {d l : Addr} {H H' : Hp} (s : Same H H') : But d l H H' := fun b o h _ _ => s b o h
theorem But.new {d l p : Addr} {H H' : Hp} {o : HO} (a : But d l H H') (n : H' p = none) : But d l H (upd H' p o) := fun b u h x y => by
  rw [upd_ne (ne_of_none (a b u h x y) n)]
  exact a b u h x y
theorem But.d {d l : Addr} {H H' : Hp} {o : HO} (a : But d l H H') : But d l H (upd H' d o) := fun b u h x y => by
  rw [upd_ne x]
  exact a b u h x y
theorem But.l {d l : Addr} {H H' : Hp} {o : HO} (a : But d l H H') : But d l H (upd H' l o) := fun b u h x y => by
  rw [upd_ne y]
  exact a b u h x y
theorem same_new {H : Hp} {p : Addr} {o : HO} (h : H p = none) : Same H (upd H p o) := fun b u e => by
  rw [upd_ne (ne_of_none e h)]
  exact e
/-- the draw's dict -/
def dKv (l c : Addr) (rest turn : Int) : List (Key × V) :=
  [(.inr "large", .ref l), (.inr "rest", .int rest), (.inr "cells", .ref c), (.inr "turn", .int turn)]
theorem get_large {H : Hp} {d l c : Addr} {r t : Int} (h : H d = some (.dK (dKv l c r t))) : DGet H d (.str "large") (some (.ref l)) := DGet.k (k := .inr "large") h
theorem get_rest {H : Hp} {d l c : Addr} {r t : Int} (h : H d = some (.dK (dKv l c r t))) : DGet H d (.str "rest") (some (.int r)) := DGet.k (k := .inr "rest") h
theorem get_cells {H : Hp} {d l c : Addr} {r t : Int} (h : H d = some (.dK (dKv l c r t))) : DGet H d (.str "cells") (some (.ref c)) := DGet.k (k := .inr "cells") h
theorem get_turn {H : Hp} {d l c : Addr} {r t : Int} (h : H d = some (.dK (dKv l c r t))) : DGet H d (.str "turn") (some (.int t)) := DGet.k (k := .inr "turn") h
theorem put_rest {H : Hp} {d l c : Addr} {r t z : Int} (h : H d = some (.dK (dKv l c r t))) : DPut H d (.str "rest") (.int z) (upd H d (.dK (dKv l c z t))) := DPut.k (k := .inr "rest") h (by show 4 < sizeLine; decide)
theorem put_turn {H : Hp} {d l c : Addr} {r t z : Int} (h : H d = some (.dK (dKv l c r t))) : DPut H d (.str "turn") (.int z) (upd H d (.dK (dKv l c r z))) := DPut.k (k := .inr "turn") h (by show 4 < sizeLine; decide)
structure DrawIn (H : Hp) (d l c : Addr) : Prop where
  lc : l ≠ c
  dd : ∃ rest turn, H d = some (.dK (dKv l c rest turn))
  ll : ∃ ns : List Int, H l = some (.lst (ns.map V.int)) ∧ ns.length ≤ 63
  cc : ∃ ns : List Int, H c = some (.lst (ns.map V.int)) ∧ ns.length ≤ 63
theorem DrawIn.dl {H : Hp} {d l c : Addr} (D : DrawIn H d l c) : d ≠ l := by
  obtain ⟨r, t, h⟩ := D.dd
  obtain ⟨ns, h', _⟩ := D.ll
  exact ne_of h h' (fun z => nomatch z)
theorem DrawIn.dc {H : Hp} {d l c : Addr} (D : DrawIn H d l c) : d ≠ c := by
  obtain ⟨r, t, h⟩ := D.dd
  obtain ⟨ns, h', _⟩ := D.cc
  exact ne_of h h' (fun z => nomatch z)
theorem DrawIn.same {H H' : Hp} {d l c : Addr} (D : DrawIn H d l c) (s : Same H H') : DrawIn H' d l c := by
  obtain ⟨r, t, h⟩ := D.dd
  obtain ⟨ns, h1, z1⟩ := D.ll
  obtain ⟨ms, h2, z2⟩ := D.cc
  exact ⟨D.lc, ⟨r, t, s _ _ h⟩, ⟨ns, s _ _ h1, z1⟩, ⟨ms, s _ _ h2, z2⟩⟩
theorem int_at {ns : List Int} {i : Nat} {y : V} (h : (ns.map V.int)[i]? = some y) : ∃ z, ns[i]? = some z ∧ y = V.int z := by
  rw [List.getElem?_map] at h
  cases e : ns[i]? with
  | none => rw [e] at h; cases h
  | some z => rw [e] at h; exact ⟨z, rfl, (Option.some.inj h).symm⟩
/-! ### _law_begun -/
abbrev sBegun : Stmt := top 29
def spBegun (K : PySem.W.Frag) : Sp := fun vs H Q _ => ∃ (a : Addr) (ns : List Int), vs = [.ref a] ∧ SqL K H a (ns.map V.int) ∧ ns.length ≤ 63 ∧
  ∀ H' d l c, DrawIn H' d l c → Same H H' → H d = none → H l = none → H c = none → Q (.ref d) H'
section
variable {P : Program} {w : World} {K : PySem.W.Frag} {mg : Str → Option Value} {base : Heap}
theorem scBegun : FnScope ["script", "large", "grain"] ["script"] (defScope sBegun) := ⟨rfl, rfl, rfl, by decide +kernel, rfl, by decide +kernel, by decide +kernel⟩
theorem ok_begun {f : Addr} {fd : FuncData} (F : Fun K "_law_begun" "_law_begun" sBegun f fd) (mAbs : mg "abs" = none) : FnOk P w K mg base CX0 1 f fd ["script"] (spBegun K) := by
  refine F.ok scBegun (fun vs H Q E h => ?_) (fun cdv A outer s H vs Q E hr h => ?_)
  · obtain ⟨a, ns, rfl, _⟩ := h
    rfl
  · obtain ⟨a, ns, rfl, hS, hlen, k⟩ := h
    have hu := hu_of hr
    refine ⟨_, pss_cons (ps_setLc (i := 1) (own := [("grain", 2)]) (g := gName 2) rfl scBegun.nd rfl rfl (sw_true rfl rfl rfl (by decide +kernel)) (pi_list (pv 0)) (blkOk_by (N := ["script", "large", "grain"]) (sc := defScope sBegun) (by decide +kernel))
        (fun _ _ _ _ _ => pg_name (i := 2) scBegun.nd rfl (Or.inl rfl)) (fun _ _ _ _ _ => pts_one (pt_cmpR op_ge (pe_callB call_abs (by rfl) mAbs (by decide +kernel) (pa_cons (pv 2) pa_nil)) (pe_op op_pow pe_int pe_int) (nomark _)))
        (fun _ _ _ _ _ => pe_op op_sub (pe_callB call_abs (by rfl) mAbs (by decide +kernel) (pa_cons (pv 2) pa_nil)) (pe_op op_pow pe_int pe_int)))
      (pss_one (ps_ret (pe_disp (pps_cons pe_str (pv 1) (pps_cons pe_str pe_int (pps_cons pe_str (pe_lc (own := [("grain", 2)]) (g := gName 2) (tt := tYes) rfl scBegun.nd (pi_list (pv 0)) (blkOk_by (N := ["script", "large", "grain"]) (sc := defScope sBegun) (by decide +kernel)) (fun _ _ _ _ _ => pg_name (i := 2) scBegun.nd rfl (Or.inl rfl)) (fun _ _ _ _ _ => pts_nil) (fun _ _ _ _ _ => pe_callB call_abs (by rfl) mAbs (by decide +kernel) (pa_cons (pv 2) pa_nil))) (pps_cons pe_str pe_int pps_nil))))
        (by rfl) (by rfl) (by simp) (by decide)))), ?_⟩
    simp only [tSeq, tAsg, tLc, iList, tVar]
    refine ⟨_, rfl, a, rfl, ⟨_, hS⟩, fun l hl => lc_list (K := K) (a := a) (xs := ns.map V.int) (fun i H' => ∃ xs : List Int, H' = upd H l (.lst (xs.map V.int)) ∧ xs.length ≤ i)
      ⟨[], rfl, Nat.le_refl _⟩ ?_ ?_ ?_⟩
    · rintro i H' _ ⟨xs, rfl, _⟩
      exact (same_new hl).seq hS
    · rintro i y H' hi ⟨xs, rfl, hx⟩
      obtain ⟨z, hz, rfl⟩ := int_at hi
      have hil : i < ns.length := (List.getElem?_eq_some_iff.mp hz).1
      walk_at "rd"
      have cp : CPow 10 18 := ⟨by decide, by decide, by decide⟩
      refine ⟨cp, ite2 (fun _ => ⟨cp, _, upd_same, by rw [List.length_map]; exact small1000 (by omega), xs ++ [(if z < 0 then -z else z) - 10 ^ Int.toNat 18], ?_, by simp; omega⟩) fun _ => ⟨xs, rfl, by omega⟩⟩
      rw [upd_upd, List.map_append]
      rfl
    · rintro H1 ⟨xs, rfl, hx⟩
      rw [List.length_map] at hx
      walk_at "rd"
      intro d hd
      have s1 : Same H (upd (upd H l (.lst (xs.map V.int))) d (.dK [])) := (same_new hl).trans (same_new hd)
      simp only [tLc]
      refine ⟨_, rfl, a, rfl, ⟨_, s1.seq hS⟩, fun c hc => lc_list (K := K) (a := a) (xs := ns.map V.int) (fun i H' => ∃ ys : List Int, H' = upd (upd (upd H l (.lst (xs.map V.int))) d (.dK [])) c (.lst (ys.map V.int)) ∧ ys.length ≤ i)
        ⟨[], rfl, Nat.le_refl _⟩ ?_ ?_ ?_⟩
      · rintro i H' _ ⟨ys, rfl, _⟩
        exact (s1.trans (same_new hc)).seq hS
      · rintro i y H' hi ⟨ys, rfl, hy⟩
        obtain ⟨z, hz, rfl⟩ := int_at hi
        have hil : i < ns.length := (List.getElem?_eq_some_iff.mp hz).1
        walk_at "rd"
        refine ⟨_, upd_same, by rw [List.length_map]; exact small1000 (by omega), ys ++ [if z < 0 then -z else z], ?_, by simp; omega⟩
        rw [upd_upd, List.map_append]
        rfl
      · rintro H1 ⟨ys, rfl, hy⟩
        rw [List.length_map] at hy
        have ndl : d ≠ l := fun e => by rw [e, upd_same] at hd; cases hd
        have ncd : c ≠ d := fun e => by rw [e, upd_same] at hc; cases hc
        have ncl : c ≠ l := fun e => by rw [e, upd_ne (Ne.symm ndl), upd_same] at hc; cases hc
        rw [upd_ne ndl] at hd
        rw [upd_ne ncd, upd_ne ncl] at hc
        refine ⟨by rw [upd_ne (Ne.symm ncd)]; exact upd_same, dKv l c 0 0, rfl, by show 4 ≤ 15; decide, k _ d l c ⟨Ne.symm ncl, ⟨0, 0, ?_⟩, ⟨xs, ?_, by omega⟩, ⟨ys, ?_, by omega⟩⟩ ?_ hd hl hc⟩
        · rw [upd_same]
          rfl
        · rw [upd_ne (Ne.symm ndl), upd_ne (Ne.symm ncl), upd_ne (Ne.symm ndl)]
          exact upd_same
        · rw [upd_ne ncd]
          exact upd_same
        · intro b o e
          rw [upd_ne (ne_of_none e hd), upd_ne (ne_of_none e hc), upd_ne (ne_of_none e hd), upd_ne (ne_of_none e hl)]
          exact e
end
/-! ### _law_mixed -/
abbrev sMixed : Stmt := top 30
def spMixed : Sp := fun vs H Q _ => ∃ (d l c : Addr), vs = [.ref d] ∧ DrawIn H d l c ∧ ∀ H' v, DrawIn H' d l c → But d l H H' → (∀ x, H l = some x → H' l = some x) → Q (.int v) H'
theorem three_at {i : Nat} {x : V} (h : ([.int 2147483629, .int 2147483587, .int 2147483579] : List V)[i]? = some x) : ∃ g : Int, x = .int g ∧ 0 < g ∧ g < 2 ^ 31 := by
  match i, h with
  | 0, h => cases h; exact ⟨_, rfl, by decide, by decide⟩
  | 1, h => cases h; exact ⟨_, rfl, by decide, by decide⟩
  | 2, h => cases h; exact ⟨_, rfl, by decide, by decide⟩
  | n + 3, h => cases h
theorem fmod_in {a g : Int} (h : 0 < g) : 0 ≤ a.fmod g ∧ a.fmod g < g := ⟨Int.fmod_nonneg_of_pos a h, Int.fmod_lt_of_pos a h⟩
section
variable {P : Program} {w : World} {K : PySem.W.Frag} {mg : Str → Option Value} {base : Heap}
theorem scMixed : FnScope ["draw", "turn", "found", "great", "blend", "grain"] ["draw"] (defScope sMixed) := ⟨rfl, rfl, rfl, by decide +kernel, rfl, by decide +kernel, by decide +kernel⟩
theorem ok_mixed {f : Addr} {fd : FuncData} (F : Fun K "_law_mixed" "_law_mixed" sMixed f fd) (mInt : mg "int" = none) : FnOk P w K mg base CX0 1 f fd ["draw"] spMixed := by
  refine F.ok scMixed (fun vs H Q E h => ?_) (fun cdv A outer s H vs Q E hr h => ?_)
  · obtain ⟨d, l, c, rfl, _⟩ := h
    rfl
  · obtain ⟨d, l, c, rfl, D, k⟩ := h
    have hu := hu_of hr
    refine ⟨_, pss_cons (ps_dput hu (pv 0) pe_str (pe_op op_add (pe_dget hu (pv 0) pe_str (fun _ _ => rfl)) pe_int) rfl)
      (pss_cons (ps_par (i := 1) (j := 2) (by rfl) scMixed.nd rfl rfl (by decide) rfl rfl (pa_cons (pe_callTy call_int1 (by rfl) mInt (by decide +kernel) (pa_cons (pe_dget hu (pv 0) pe_str (fun _ _ => rfl)) pa_nil)) (pa_cons pe_int pa_nil)) (by rfl))
      (pss_cons (ps_for PassesOwn.never rfl (pi_list (pe_lst (pa_cons pe_int (pa_cons pe_int (pa_cons pe_int pa_nil))))) (pg_name (i := 3) scMixed.nd rfl (Or.inl rfl))
        (pss_cons (ps_set (i := 4) scMixed.nd rfl (Or.inl rfl) (pe_op op_modN (pe_op op_add (pe_op op_mul (pv 1) pe_int) (pe_op op_fdivN (pv 3) pe_int)) (pv 3)))
        (pss_cons (ps_for PassesOwn.never rfl (pi_list (pe_dget hu (pv 0) pe_str (fun _ _ => rfl))) (pg_name (i := 5) scMixed.nd rfl (Or.inl rfl))
          (pss_one (ps_set (i := 4) scMixed.nd rfl (Or.inl rfl) (pe_op op_modN (pe_op op_add (pe_op op_mul (pv 4) pe_int) (pe_callTy call_int1 (by rfl) mInt (by decide +kernel) (pa_cons (pv 5) pa_nil))) (pv 3)))))
        (pss_one (ps_set (i := 2) scMixed.nd rfl (Or.inl rfl) (pe_op op_add (pe_op op_mul (pv 2) pe_int) (pe_op op_modN (pe_op op_pow (pv 4) pe_int) (pv 3))))))))
      (pss_one (ps_ret (pv 2))))), ?_⟩
    obtain ⟨rest, turn, hd⟩ := D.dd
    obtain ⟨ls, hl, zl⟩ := D.ll
    obtain ⟨cs, hc, zc⟩ := D.cc
    have hd1 : (upd H d (.dK (dKv l c rest (turn + 1)))) d = some (.dK (dKv l c rest (turn + 1))) := upd_same
    refine ⟨_, rfl, d, _, rfl, get_turn hd, _, _, rfl, rfl, _, rfl, d, _, rfl, put_turn hd, ?_⟩
    refine ⟨_, rfl, d, _, rfl, get_turn hd1, .inl ⟨_, rfl, _, _, rfl, ?_⟩⟩
    refine ⟨by show 3 ≤ sizeLine; decide, fun p hp => ⟨p, rfl, ⟨_, SqL.of upd_same⟩, for_list (K := K) (a := p) (xs := [.int 2147483629, .int 2147483587, .int 2147483579])
      (fun i σ H' => ∃ (fo : Int) (v3 v4 v5 : Option V), σ = [some (.ref d), some (.int (turn + 1)), some (.int fo), v3, v4, v5] ∧ H' = upd (upd H d (.dK (dKv l c rest (turn + 1)))) p (.lst [.int 2147483629, .int 2147483587, .int 2147483579]))
      ⟨0, none, none, none, rfl, rfl⟩ (fun i σ H' _ ⟨_, _, _, _, _, e⟩ => by rw [e]; exact SqL.of upd_same) ?_ ?_⟩⟩
    · rintro i x σ H' hi ⟨fo, v3, v4, v5, rfl, rfl⟩
      obtain ⟨g, rfl, g0, g1⟩ := three_at hi
      have ne : g ≠ 0 := by omega
      have npd : p ≠ d := fun e => by rw [e, upd_same] at hp; cases hp
      rw [upd_ne npd] at hp
      have hcp : (upd (upd H d (.dK (dKv l c rest (turn + 1)))) p (.lst [.int 2147483629, .int 2147483587, .int 2147483579])) c = some (.lst (cs.map V.int)) := by
        rw [upd_ne (ne_of_none hc hp), upd_ne (Ne.symm D.dc)]
        exact hc
      have hdp : (upd (upd H d (.dK (dKv l c rest (turn + 1)))) p (.lst [.int 2147483629, .int 2147483587, .int 2147483579])) d = some (.dK (dKv l c rest (turn + 1))) := by
        rw [upd_ne (Ne.symm npd)]
        exact upd_same
      refine ⟨_, rfl, _, _, rfl, rfl, .inr ⟨by decide, by decide⟩, _, rfl, _, _, rfl, rfl, ⟨by decide, by decide⟩, _, _, rfl, rfl, _, rfl, _, _, rfl, rfl, ne, ?_⟩
      refine ⟨_, rfl, d, _, rfl, get_cells hdp, c, rfl, ⟨_, SqL.of hcp⟩, for_list (K := K) (a := c) (xs := cs.map V.int)
        (fun i σ H' => ∃ (b : Int) (v5 : Option V), σ = [some (.ref d), some (.int (turn + 1)), some (.int fo), some (.int g), some (.int b), v5] ∧ (0 ≤ b ∧ b < g) ∧ H' = upd (upd H d (.dK (dKv l c rest (turn + 1)))) p (.lst [.int 2147483629, .int 2147483587, .int 2147483579]))
        ⟨_, v5, rfl, fmod_in g0, rfl⟩ (fun i σ H' _ ⟨_, _, _, _, e⟩ => by rw [e]; exact SqL.of hcp) ?_ ?_⟩
      · rintro j y σ H' hj ⟨b, v5, rfl, hb, rfl⟩
        obtain ⟨z, _, rfl⟩ := int_at hj
        exact ⟨_, rfl, _, _, rfl, rfl, .inr ⟨by decide, by decide⟩, _, rfl, .inl ⟨_, rfl, _, _, rfl, rfl, _, rfl, _, _, rfl, rfl, ne, _, _, rfl, fmod_in g0, rfl⟩⟩
      · rintro σ H' ⟨b, v5, rfl, hb, rfl⟩
        exact ⟨_, rfl, _, _, rfl, rfl, .inr ⟨by decide, by decide⟩, _, rfl, _, _, rfl, rfl, ⟨by decide, by decide, by omega⟩, _, rfl, _, _, rfl, rfl, ne, _, _, rfl, rfl, _, _, _, _, rfl, rfl⟩
    · rintro σ H' ⟨fo, v3, v4, v5, rfl, rfl⟩
      have npd : p ≠ d := fun e => by rw [e, upd_same] at hp; cases hp
      rw [upd_ne npd] at hp
      have e1 : ∀ b o, H b = some o → b ≠ d → (upd (upd H d (.dK (dKv l c rest (turn + 1)))) p (.lst [.int 2147483629, .int 2147483587, .int 2147483579])) b = some o := fun b o h n => by
        rw [upd_ne (ne_of_none h hp), upd_ne n]
        exact h
      refine ⟨_, rfl, k _ fo ⟨D.lc, ⟨rest, turn + 1, by rw [upd_ne (Ne.symm npd)]; exact upd_same⟩, ⟨ls, e1 _ _ hl (Ne.symm D.dl), zl⟩, ⟨cs, e1 _ _ hc (Ne.symm D.dc), zc⟩⟩ (fun b o h n _ => e1 b o h n) (fun x h => e1 _ _ h (Ne.symm D.dl))⟩
end
end Lp
namespace Lp
open PySem L2
/-! ### _law_take -/
abbrev sTake : Stmt := top 31
def spTake : Sp := fun vs H Q _ => ∃ (d l c : Addr) (n : Int), vs = [.ref d, .int n] ∧ DrawIn H d l c ∧ (0 < n ∧ n < 2 ^ 30) ∧ ∀ H' v, (0 ≤ v ∧ v < n) → DrawIn H' d l c → But d l H H' → Q (.int v) H'
theorem dpInts {K : PySem.W.Frag} {H : Hp} : ∀ ns : List Int, DpAll K H (ns.map V.int) (ns.map PyData.int)
  | [] => .nil
  | n :: ns => .cons (.int n) (dpInts ns)
theorem canInts : ∀ ns : List Int, PyData.canLayAll0 (ns.map PyData.int) = true
  | [] => rfl
  | n :: ns => by
    have := canInts ns
    simp [PyData.canLayAll0, PyData.canLay0, this]
theorem depInts : ∀ ns : List Int, PyData.depthAll (ns.map PyData.int) = 0
  | [] => rfl
  | n :: ns => by
    have := depInts ns
    simp [PyData.depthAll, PyData.depth, this]
theorem shInts (ns : List Int) : SeqAt.shaped (.list (ns.map PyData.int)) = true := by
  simp [SeqAt.shaped, PyData.canLay0, PyData.depth, canInts, depInts]
section
variable {P : Program} {w : World} {K : PySem.W.Frag} {mg : Str → Option Value} {base : Heap}
theorem scTake : FnScope ["draw", "amount", "found"] ["draw", "amount"] (defScope sTake) := ⟨rfl, rfl, rfl, by decide +kernel, rfl, by decide +kernel, by decide +kernel⟩
theorem ok_take {f fm : Addr} {fd fdm : FuncData} (F : Fun K "_law_take" "_law_take" sTake f fd) (GM : FnOk P w K mg base CX0 1 fm fdm ["draw"] spMixed) (gM : mg "_law_mixed" = some (.ref fm)) (kM : PySem.W.keepIn K (.ref fm) = true) (bM : Binds K fdm ["draw"] [])
    (mInt : mg "int" = none) : FnOk P w K mg base CX0 2 f fd ["draw", "amount"] spTake := by
  refine F.ok scTake (fun vs H Q E h => ?_) (fun cdv A outer s H vs Q E hr h => ?_)
  · obtain ⟨d, l, c, n, rfl, _⟩ := h
    rfl
  · obtain ⟨d, l, c, n, rfl, D, ⟨n0, n1⟩, k⟩ := h
    have hu := hu_of hr
    refine ⟨_, C8.pss_cut (ps_if (pt_cmpR op_eq (pe_dget hu (pv 0) pe_str (fun _ _ => rfl)) pe_int (nomark _))
        (pss_one (ps_dput hu (pv 0) pe_str (pe_ifExp (pt_cmpR (op_neD hr.units) (pe_dget hu (pv 0) pe_str (fun _ _ => rfl)) (pe_lst pa_nil) (nomark _))
            (pe_bm PySem.F.plainAttrs_list PySem.F.slot_list_pop PySem.F.type_list_pop mt_popAt (pe_dget hu (pv 0) pe_str (fun _ _ => rfl)) (pa_cons pe_int pa_nil))
            (pe_call GM hr (by rfl) gM kM bM .nil pass0 (pa_cons (pv 0) pa_nil))) rfl)) pss_nil)
      (pss_cons (ps_set (i := 2) scTake.nd rfl (Or.inl rfl) (pe_op op_modN (pe_callTy call_int1 (by rfl) mInt (by decide +kernel) (pa_cons (pe_dget hu (pv 0) pe_str (fun _ _ => rfl)) pa_nil)) (pv 1)))
      (pss_cons (ps_dput hu (pv 0) pe_str (pe_op op_fdivN (pe_callTy call_int1 (by rfl) mInt (by decide +kernel) (pa_cons (pe_dget hu (pv 0) pe_str (fun _ _ => rfl)) pa_nil)) (pv 1)) rfl)
      (pss_one (ps_ret (pv 2))))), fun σ' H' => σ' = [some (.ref d), some (.int n), none] ∧ DrawIn H' d l c ∧ But d l H H', ?_, ?_⟩
    · obtain ⟨rest, turn, hd⟩ := D.dd
      obtain ⟨ls, hl, zl⟩ := D.ll
      refine ⟨_, rfl, d, _, rfl, get_rest hd, rfl, _, rfl, ite2 (fun _ => ?_) (fun _ => ⟨rfl, D, .refl⟩)⟩
      refine ⟨_, rfl, d, _, rfl, get_large hd, by show 0 ≤ sizeLine; decide, fun p hp => ?_⟩
      have s1 : Same H (upd H p (.lst [])) := same_new hp
      have D1 := D.same s1
      refine ⟨.list (ls.map PyData.int), .list [], .lst (SqL.of (s1 _ _ hl)) (dpInts ls), .lst (SqL.of upd_same) .nil, shInts ls, rfl, _, rfl, ?_⟩
      cases ls with
      | nil =>
        refine iteF ⟨_, rfl, d, l, c, rfl, D1, fun H2 v D2 b2 k2 => ?_⟩
        obtain ⟨r2, t2, hd2⟩ := D2.dd
        obtain ⟨ms, hl2, zl2⟩ := D2.ll
        obtain ⟨cs, hc2, zc2⟩ := D2.cc
        refine ⟨_, rfl, d, _, rfl, put_rest hd2, rfl, ⟨D.lc, ⟨_, _, upd_same⟩, ⟨ms, by rw [upd_ne (Ne.symm D.dl)]; exact hl2, zl2⟩, ⟨cs, by rw [upd_ne (Ne.symm D.dc)]; exact hc2, zc2⟩⟩, ((But.of s1).trans b2).d⟩
      | cons y ys =>
        obtain ⟨cs, hc, zc⟩ := D.cc
        refine iteT ⟨_, rfl, d, _, rfl, get_large (s1 _ _ hd), .inl ⟨rfl, _, SqL.of (s1 _ _ hl)⟩, l, _, 0, 0, _, rfl, rfl, s1 _ _ hl, by decide, by decide, ?_, rfl, ?_⟩
        · simp [seqIndex?]
        have hd2 : (upd (upd H p (.lst [])) l (.lst ((List.map V.int (y :: ys)).eraseIdx 0))) d = some (.dK (dKv l c rest turn)) := by
          rw [upd_ne D.dl]
          exact s1 _ _ hd
        refine ⟨_, rfl, d, _, rfl, put_rest hd2, rfl, ⟨D.lc, ⟨_, _, upd_same⟩, ⟨ys, ?_, by rw [List.length_cons] at zl; omega⟩, ⟨cs, ?_, zc⟩⟩, (But.of s1).l.d⟩
        · rw [upd_ne (Ne.symm D.dl), upd_same]
          rfl
        · rw [upd_ne (Ne.symm D.dc), upd_ne (Ne.symm D.lc)]
          exact s1 _ _ hc
    · rintro σ' H1 ⟨rfl, D1, b1⟩
      obtain ⟨rest, turn, hd⟩ := D1.dd
      obtain ⟨ls, hl, zl⟩ := D1.ll
      obtain ⟨cs, hc, zc⟩ := D1.cc
      have ne : n ≠ 0 := by omega
      refine ⟨_, rfl, d, _, rfl, get_rest hd, .inl ⟨_, rfl, _, rfl, _, _, rfl, rfl, ne, ?_⟩⟩
      refine ⟨_, rfl, d, _, rfl, get_rest hd, .inl ⟨_, rfl, _, rfl, _, _, rfl, rfl, ⟨ne, by omega⟩, ?_⟩⟩
      refine ⟨_, rfl, d, _, rfl, put_rest hd, _, rfl, k _ _ (fmod_in n0) ⟨D.lc, ⟨_, _, upd_same⟩, ⟨ls, by rw [upd_ne (Ne.symm D.dl)]; exact hl, zl⟩, ⟨cs, by rw [upd_ne (Ne.symm D.dc)]; exact hc, zc⟩⟩ b1.d⟩
/-! ### _law_pick -/
abbrev sPick : Stmt := top 32
def spPick : Sp := fun vs H Q _ => ∃ (d l c p : Addr) (xs : List V), vs = [.ref d, .ref p] ∧ DrawIn H d l c ∧ H p = some (.lst xs) ∧ p ≠ l ∧ (0 < xs.length ∧ xs.length < 2 ^ 30) ∧
  ∀ H' x, x ∈ xs → DrawIn H' d l c → But d l H H' → Q x H'
theorem scPick : FnScope ["draw", "some"] ["draw", "some"] (defScope sPick) := ⟨rfl, rfl, rfl, by decide +kernel, rfl, by decide +kernel, by decide +kernel⟩
theorem ok_pick {f fm : Addr} {fd fdm : FuncData} (F : Fun K "_law_pick" "_law_pick" sPick f fd) (GM : FnOk P w K mg base CX0 2 fm fdm ["draw", "amount"] spTake) (gM : mg "_law_take" = some (.ref fm)) (kM : PySem.W.keepIn K (.ref fm) = true) (bM : Binds K fdm ["draw", "amount"] [])
    (mLen : mg "len" = none) : FnOk P w K mg base CX0 3 f fd ["draw", "some"] spPick := by
  refine F.ok scPick (fun vs H Q E h => ?_) (fun cdv A outer s H vs Q E hr h => ?_)
  · obtain ⟨d, l, c, p, xs, rfl, _⟩ := h
    rfl
  · obtain ⟨d, l, c, p, xs, rfl, D, hp, pl, ⟨z0, z1⟩, k⟩ := h
    refine ⟨_, pss_one (ps_ret (pe_ix ix_list (pv 1) (pe_call GM hr (by rfl) gM kM bM .nil pass0 (pa_cons (pv 0) (pa_cons (pe_callB call_len_seq (by rfl) mLen PySem.boot_len (pa_cons (pv 1) pa_nil)) pa_nil))) (fun _ _ => rfl))), ?_⟩
    obtain ⟨rest, turn, hd⟩ := D.dd
    have pd : p ≠ d := ne_of hp hd (fun z => nomatch z)
    refine ⟨_, rfl, _, rfl, _, rfl, p, xs, rfl, .inl (SqL.of hp), ?_⟩
    refine ⟨d, l, c, _, rfl, D, ⟨by omega, by omega⟩, fun H' v hv D' b' => ?_⟩
    obtain ⟨v0, v1⟩ := hv
    have hj : v.toNat < xs.length := by omega
    refine ⟨p, xs, v, xs[v.toNat], rfl, rfl, SqL.of (b' _ _ hp pd pl), ?_, k H' _ (List.getElem_mem hj) D' b'⟩
    have e := atI_nat (xs := xs) (j := v.toNat) (List.getElem?_eq_getElem hj)
    rwa [Int.toNat_of_nonneg v0] at e
end
end Lp
namespace Lp
open PySem L2
/-! ### _law_any -/
abbrev sAny : Stmt := top 33
inductive EachOk (H : Hp) : V → Prop where
  | non : EachOk H .non
  | fls : EachOk H (.bl false)
  | num (i : Int) (h : i = -5 ∨ i = 10 ^ 45) : EachOk H (.int i)
  | txt (z : Str) (h : z = "" ∨ z = "wide" ∨ z = "two words") : EachOk H (.str z)
  | l0 {a : Addr} (h : H a = some (.lst [])) : EachOk H (.ref a)
  | l1 {a b : Addr} (h : H a = some (.lst [.ref b])) (g : H b = some (.tup [.int 0, .int 2])) : EachOk H (.ref a)
  | t0 {a : Addr} (h : H a = some (.tup [])) : EachOk H (.ref a)
  | t1 {a : Addr} (h : H a = some (.tup [.int 4])) : EachOk H (.ref a)
  | d0 {a : Addr} (h : H a = some (.dK [])) : EachOk H (.ref a)
  | d1 {a b : Addr} (h : H a = some (.dK [(.inr "a", .ref b)])) (g : H b = some (.tup [.int 1])) : EachOk H (.ref a)
  | l2 {a b : Addr} (h : H a = some (.lst [.ref b])) (g : H b = some (.lst [.non])) : EachOk H (.ref a)
theorem EachOk.same {H H' : Hp} {y : V} (e : EachOk H y) (s : Same H H') : EachOk H' y := by
  cases e with
  | non => exact .non
  | fls => exact .fls
  | num i h => exact .num i h
  | txt z h => exact .txt z h
  | l0 h => exact .l0 (s _ _ h)
  | l1 h g => exact .l1 (s _ _ h) (s _ _ g)
  | t0 h => exact .t0 (s _ _ h)
  | t1 h => exact .t1 (s _ _ h)
  | d0 h => exact .d0 (s _ _ h)
  | d1 h g => exact .d1 (s _ _ h) (s _ _ g)
  | l2 h g => exact .l2 (s _ _ h) (s _ _ g)
def spAny : Sp := fun vs H Q _ => ∃ (d l c : Addr), vs = [.ref d] ∧ DrawIn H d l c ∧ ∀ H' y, EachOk H' y → DrawIn H' d l c → But d l H H' → Q y H'
theorem lst_ref {x : Addr} {r : List V} {ls : List Int} : HO.lst (.ref x :: r) ≠ .lst (ls.map V.int) := fun z => by
  cases ls with
  | nil => cases z
  | cons y ys => cases z
theorem lst_non {r : List V} {ls : List Int} : HO.lst (.non :: r) ≠ .lst (ls.map V.int) := fun z => by
  cases ls with
  | nil => cases z
  | cons y ys => cases z
section
variable {P : Program} {w : World} {K : PySem.W.Frag} {mg : Str → Option Value} {base : Heap}
theorem scAny : FnScope ["draw", "some"] ["draw"] (defScope sAny) := ⟨rfl, rfl, rfl, by decide +kernel, rfl, by decide +kernel, by decide +kernel⟩
theorem ok_any {f fm : Addr} {fd fdm : FuncData} (F : Fun K "_law_any" "_law_any" sAny f fd) (GM : FnOk P w K mg base CX0 3 fm fdm ["draw", "some"] spPick) (gM : mg "_law_pick" = some (.ref fm)) (kM : PySem.W.keepIn K (.ref fm) = true) (bM : Binds K fdm ["draw", "some"] []) :
    FnOk P w K mg base CX0 4 f fd ["draw"] spAny := by
  refine F.ok scAny (fun vs H Q E h => ?_) (fun cdv A outer s H vs Q E hr h => ?_)
  · obtain ⟨d, l, c, rfl, _⟩ := h
    rfl
  · obtain ⟨d, l, c, rfl, D, k⟩ := h
    refine ⟨_, pss_cons (ps_set (i := 1) scAny.nd rfl (Or.inl rfl) (pe_lst (pa_cons pe_non (pa_cons pe_bl (pa_cons (pe_un un_neg pe_int) (pa_cons (pe_op op_pow pe_int pe_int) (pa_cons pe_str (pa_cons pe_str (pa_cons pe_str
        (pa_cons (pe_lst pa_nil) (pa_cons (pe_lst (pa_cons (pe_tup (pa_cons pe_int (pa_cons pe_int pa_nil))) pa_nil)) (pa_cons (pe_tup pa_nil) (pa_cons (pe_tup (pa_cons pe_int pa_nil)) (pa_cons pe_dnewK
        (pa_cons (pe_disp (pps_cons pe_str (pe_tup (pa_cons pe_int pa_nil)) pps_nil) (by rfl) (by rfl) (by simp) (by decide)) (pa_cons (pe_lst (pa_cons (pe_lst (pa_cons pe_non pa_nil)) pa_nil)) pa_nil))))))))))))))))
      (pss_one (ps_ret (pe_call GM hr (by rfl) gM kM bM .nil pass0 (pa_cons (pv 0) (pa_cons (pv 1) pa_nil))))), ?_⟩
    refine ⟨_, rfl, _, _, rfl, rfl, ⟨by decide, by decide, by decide⟩, ?_⟩
    refine ⟨by show 0 ≤ sizeLine; decide, fun p1 n1 => ⟨by show 2 ≤ sizeLine; decide, fun p2 n2 => ⟨by show 1 ≤ sizeLine; decide, fun p3 n3 => ⟨by show 0 ≤ sizeLine; decide, fun p4 n4 => ⟨by show 1 ≤ sizeLine; decide, fun p5 n5 => fun p6 n6 => fun p7 n7 => ?_⟩⟩⟩⟩⟩
    refine ⟨by show 1 ≤ sizeLine; decide, fun p8 n8 => ?_⟩
    have n87 : p8 ≠ p7 := fun e => by rw [e, upd_same] at n8; cases n8
    refine ⟨by rw [upd_ne (Ne.symm n87)]; exact upd_same, [(.inr "a", .ref p8)], rfl, by show 1 ≤ 15; decide, ?_⟩
    refine ⟨by show 1 ≤ sizeLine; decide, fun p9 n9 => ⟨by show 1 ≤ sizeLine; decide, fun p10 n10 => ⟨by show 14 ≤ sizeLine; decide, fun p11 n11 => ?_⟩⟩⟩
    have s1 := same_new (o := .lst []) n1
    have s2 := same_new (o := .tup [.int 0, .int 2]) n2
    have s3 := same_new (o := .lst [.ref p2]) n3
    have s4 := same_new (o := .tup []) n4
    have s5 := same_new (o := .tup [.int 4]) n5
    have s6 := same_new (o := .dK []) n6
    have s7 := same_new (o := .dK []) n7
    have s8 := same_new (o := .tup [.int 1]) n8
    have s9 := same_new (o := .lst [.non]) n9
    have s10 := same_new (o := .lst [.ref p9]) n10
    have s11 := same_new (o := .lst [.non, .bl false, .int (-5), .int (10 ^ Int.toNat 45), .str "", .str "wide", .str "two words", .ref p1, .ref p3, .ref p4, .ref p5, .ref p6, .ref p7, .ref p10]) n11
    have up : ∀ {b : Addr} {o : HO} {G : Hp}, G p7 = none → Same (upd G p7 (.dK [])) (upd (upd G p7 (.dK [])) p8 (.tup [.int 1])) → G b = some o → upd (upd (upd G p7 (.dK [])) p8 (.tup [.int 1])) p7 (.dK (mergeK [] [(.inr "a", .ref p8)])) b = some o := fun {b o G} n s h => by
      have nb : b ≠ p7 := ne_of_none h n
      rw [upd_ne nb]
      exact s _ _ (by rw [upd_ne nb]; exact h)
    have z9 := s9.trans (s10.trans s11)
    have z6 := fun {b : Addr} {o : HO} (h : _ = some o) => z9 b o (up n7 s8 h)
    have z5 := fun {b : Addr} {o : HO} (h : _ = some o) => z6 (s6 b o h)
    have z4 := fun {b : Addr} {o : HO} (h : _ = some o) => z5 (s5 b o h)
    have z3 := fun {b : Addr} {o : HO} (h : _ = some o) => z4 (s4 b o h)
    have z2 := fun {b : Addr} {o : HO} (h : _ = some o) => z3 (s3 b o h)
    have z1 := fun {b : Addr} {o : HO} (h : _ = some o) => z2 (s2 b o h)
    have z0 : Same H _ := fun b o h => z1 (s1 b o h)
    have f1 := z1 (upd_same)
    have f2 := z2 (upd_same)
    have f3 := z3 (upd_same)
    have f4 := z4 (upd_same)
    have f5 := z5 (upd_same)
    have f6 := z6 (upd_same)
    have f7 := z9 _ _ (upd_same)
    have f8 := z9 p8 _ (by rw [upd_ne n87]; exact upd_same)
    have f9 := (s10.trans s11) _ _ upd_same
    have f10 := s11 _ _ upd_same
    obtain ⟨rest, turn, hd⟩ := D.dd
    obtain ⟨ls, hl, zl⟩ := D.ll
    have hdF := z0 _ _ hd
    have hlF := z0 _ _ hl
    refine ⟨_, rfl, _, rfl, d, l, c, p11, _, rfl, D.same z0, upd_same, ?_, ⟨by show 0 < 14; decide, by show 14 < 2 ^ 30; decide⟩, fun H' x hx D' b' => k H' x ?_ D' ?_⟩
    · exact ne_of upd_same hlF lst_non
    · have g1 := b' _ _ f1 (ne_of_none hd n1 ∘ Eq.symm) (ne_of_none hl n1 ∘ Eq.symm)
      have g2 := b' _ _ f2 (ne_of f2 hdF (fun z => nomatch z)) (ne_of f2 hlF (fun z => nomatch z))
      have g3 := b' _ _ f3 (ne_of f3 hdF (fun z => nomatch z)) (ne_of f3 hlF lst_ref)
      have g4 := b' _ _ f4 (ne_of f4 hdF (fun z => nomatch z)) (ne_of f4 hlF (fun z => nomatch z))
      have g5 := b' _ _ f5 (ne_of f5 hdF (fun z => nomatch z)) (ne_of f5 hlF (fun z => nomatch z))
      have g6 := b' _ _ f6 (ne_of f6 hdF (fun z => nomatch z)) (ne_of f6 hlF (fun z => nomatch z))
      have g7 := b' _ _ f7 (ne_of f7 hdF (fun z => nomatch z)) (ne_of f7 hlF (fun z => nomatch z))
      have g8 := b' _ _ f8 (ne_of f8 hdF (fun z => nomatch z)) (ne_of f8 hlF (fun z => nomatch z))
      have g9 := b' _ _ f9 (ne_of f9 hdF (fun z => nomatch z)) (ne_of f9 hlF lst_non)
      have g10 := b' _ _ f10 (ne_of f10 hdF (fun z => nomatch z)) (ne_of f10 hlF lst_ref)
      simp only [List.mem_cons, List.not_mem_nil, or_false] at hx
      rcases hx with rfl | rfl | rfl | rfl | rfl | rfl | rfl | rfl | rfl | rfl | rfl | rfl | rfl | rfl
      · exact .non
      · exact .fls
      · exact .num _ (.inl rfl)
      · exact .num _ (.inr rfl)
      · exact .txt _ (.inl rfl)
      · exact .txt _ (.inr (.inl rfl))
      · exact .txt _ (.inr (.inr rfl))
      · exact .l0 g1
      · exact .l1 g3 g2
      · exact .t0 g4
      · exact .t1 g5
      · exact .d0 g6
      · exact .d1 g7 g8
      · exact .l2 g10 g9
    · exact (But.of z0).trans b'
end
end Lp
namespace Lp
open PySem PySem.Spec PySem.Calls PyProof.Rows L2
/-! ### abs of a bool, a bool in an f-string -/
section
variable {prog : Program} {w : World} {A : Around} {E : Value → Shared → Prop} {s : Shared} {b : Bool}
theorem self_bool {Q : Fin → Shared → Prop} (h : ∀ u tk, Q (.done (.ret (.int (if b then 1 else 0) u))) { s with toks := tk }) : wpAny (model prog w) A (Builtin.«int.__abs__» ⟨[.bool b], []⟩) Q E s := by
  unfold Builtin.«int.__abs__»
  cases b with
  | false =>
    have h' := h s.toks (s.toks + 1)
    wp_walk
    all_goals exact h'
  | true =>
    have h' := h s.toks (s.toks + 1)
    wp_walk
    all_goals exact h'
theorem abs_bool {Q : Value → Shared → Prop} (h : ∀ u tk, Q (.int (if b then 1 else 0) u) { s with toks := tk }) : wpAny (model prog w) A (call (.builtin "abs") [.bool b]) Q E s := by
  refine call_function_entry kind_abs plain_abs entry_abs (args_abs _) ?_
  unfold Builtin.«abs»
  refine wpAny_bind (m := oneArg "abs" _) (wpAny_pure ?_)
  refine wpAny_bind (m := callSpecial? (.bool b) (Str.ofString "__abs__")) (wpAny_callSpecial?_slot (T := "bool") (name := Str.ofString "__abs__") rfl PySem.F.slot_bool_abs
    (wpAny_call_entry PySem.F.slot_bool_abs rfl entry_int_abs ?_ (args_int_abs _)))
  exact self_bool fun u tk => ⟨_, rfl, by first | exact wpAny_pure (h u tk) | exact wpAny_pure ⟨_, rfl, h u tk⟩⟩
end
section
variable {X : Cx}
/-- abs of a whole number or of a bool -/
def rAbsB : List V → Hp → VK → Prop := fun xs H Q => (∃ i, xs = [.int i] ∧ Q (.int (if i < 0 then -i else i)) H) ∨ ∃ b : Bool, xs = [.bl b] ∧ Q (.int (if b then 1 else 0)) H
theorem call_absB : CallR X (.builtin "abs") rAbsB := by
  intro pins s σ H xs us Q I r h
  rcases h with ⟨i, rfl, q⟩ | ⟨b, rfl, q⟩
  · exact call_abs pins s σ H _ us Q I r ⟨i, rfl, q⟩
  · obtain ⟨u, rfl, r1⟩ := vals1 r
    cases (show u = Value.bool b from r1)
    exact abs_bool fun u tk => ⟨.int (if b then 1 else 0), H, I.tok _, ⟨_, rfl⟩, q⟩
/-- {x}: a text, a whole number or a bool -/
def tFmtB (te : TE) : TE := fun σ H Q => te σ H fun x H1 => (∃ y : Str, x = .str y ∧ y.length ≤ sizeLine ∧ Q (.str y) H1) ∨ (∃ i : Int, x = .int i ∧ i.natAbs.log2 < 1920 ∧ Q (.str (toString i)) H1) ∨ ∃ b : Bool, x = .bl b ∧ Q (.str (if b then "True" else "False")) H1
theorem pe_fmtB {e : Expr} {te : TE} {pos : Pos} (he : PE X e te) : PE X (.FormattedValue e (-1) none pos) (tFmtB te) := by
  refine ⟨fun pins s σ H Q I h => wpAny_FormattedValue_plain (thn (he.run pins s σ H _ I h) fun v s1 hv => ?_)⟩
  obtain ⟨x, H1, I1, r1, q⟩ := hv
  rcases q with ⟨y, rfl, hz, q⟩ | ⟨i, rfl, hz, q⟩ | ⟨b, rfl, q⟩
  · obtain ⟨t, rfl⟩ := r1
    exact wpAny_formatField_str ⟨.str y, H1, I1, ⟨t, rfl⟩, q⟩ ⟨.str y, H1, I1.tok _, ⟨_, rfl⟩, q⟩ hz
  · obtain ⟨t, rfl⟩ := r1
    exact wpAny_formatField_int hz ⟨.str (toString i), H1, I1.tok _, ⟨_, rfl⟩, q⟩
  · cases (show v = Value.bool b from r1)
    refine wpAny_formatField_bool ⟨.str (if b then "True" else "False"), H1, I1.tok _, ?_, q⟩
    cases b <;> exact ⟨_, rfl⟩
end
/-! ### _told -/
abbrev sTold : Stmt := top 1
inductive ToldOk (H : Hp) : V → Prop where
  | non : ToldOk H .non
  | bl (b : Bool) : ToldOk H (.bl b)
  | int (i : Int) : ToldOk H (.int i)
  | txt (z : Str) (h : z.length ≤ 1000) : ToldOk H (.str z)
  | lst {a : Addr} {xs : List V} (h : H a = some (.lst xs)) : ToldOk H (.ref a)
  | tup {a : Addr} {xs : List V} (h : H a = some (.tup xs)) : ToldOk H (.ref a)
  | dK {a : Addr} {kvs : List (Key × V)} (h : H a = some (.dK kvs)) : ToldOk H (.ref a)
theorem EachOk.told {H : Hp} {y : V} (e : EachOk H y) : ToldOk H y := by
  cases e with
  | non => exact .non
  | fls => exact .bl _
  | num i h => exact .int _
  | txt z h => exact .txt _ (by rcases h with rfl | rfl | rfl <;> decide)
  | l0 h => exact .lst h
  | l1 h g => exact .lst h
  | t0 h => exact .tup h
  | t1 h => exact .tup h
  | d0 h => exact .dK h
  | d1 h g => exact .dK h
  | l2 h g => exact .lst h
def spTold : Sp := fun vs H Q _ => ∃ y, vs = [y] ∧ ToldOk H y ∧ ∀ z : Str, z.length ≤ 1100 → Q (.str z) H
theorem len_add (x y : Str) : (x ++ y).length = x.length + y.length := strLen_append x y
theorem two_len : (": " : Str).length = 2 := rfl
theorem int_len {i : Int} (h : i.natAbs < 10 ^ 7) : (Str.ofString (toString i)).length ≤ 8 := by
  have e := int_text_length_le10 (k := 7) (by decide) h
  rw [PySem.ofString_length]
  omega
section
variable {P : Program} {w : World} {K : PySem.W.Frag} {mg : Str → Option Value} {base : Heap}
theorem scTold : FnScope ["value"] ["value"] (defScope sTold) := ⟨rfl, rfl, rfl, by decide +kernel, rfl, by decide +kernel, by decide +kernel⟩
theorem ok_told {f : Addr} {fd : FuncData} (F : Fun K "_told" "_told" sTold f fd) (mI : mg "isinstance" = none) (mS : mg "str" = none) (mInt : mg "int" = none) (mAbs : mg "abs" = none) : FnOk P w K mg base CX0 1 f fd ["value"] spTold := by
  refine F.ok scTold (fun vs H Q E h => ?_) (fun cdv A outer s H vs Q E hr h => ?_)
  · obtain ⟨y, rfl, _⟩ := h
    rfl
  · obtain ⟨y, rfl, T, k⟩ := h
    refine ⟨_, pss_cons (ps_if (PW.pt (pw_or (pt_val (pe_callB call_isi (by rfl) mI (by decide +kernel) (pa_cons (pv 0) (pa_cons (pe_bltn (v := .ty "str") (by rfl) mS (by decide +kernel) rfl) pa_nil))))
        (pw_or1 (PW.pt (pw_and (pt_val (pe_callB call_isi (by rfl) mI (by decide +kernel) (pa_cons (pv 0) (pa_cons (pe_bltn (v := .ty "int") (by rfl) mInt (by decide +kernel) rfl) pa_nil))))
          (pw_and1 (pt_cmpR op_lt (pe_callB call_absB (by rfl) mAbs (by decide +kernel) (pa_cons (pv 0) pa_nil)) pe_int (nomark _))))))))
        (pss_one (ps_ret (pe_joined (.cons pe_str (.cons (pe_fmtB (pv 0)) .nil))))) pss_nil)
      (pss_one (ps_ret pe_str)), ?_⟩
    have le0 : ∀ z : Str, z.length ≤ 1100 → z.length ≤ sizeLine := fun z h => by
      rw [sizeLine_eq]
      omega
    cases T with
    | non => exact ⟨_, rfl, _, .ty "str", .type "NoneType", .type "str", false, rfl, .ty _, .base .non, kit_ty (by decide +kernel), _, rfl, iteF ⟨_, rfl, _, .ty "int", .type "NoneType", .type "int", false, rfl, .ty _, .base .non, kit_ty (by decide +kernel), _, rfl, iteF (iteF (k _ (by decide)))⟩⟩
    | lst e => exact ⟨_, rfl, _, .ty "str", .type "list", .type "str", false, rfl, .ty _, .base (.lst e), kit_ty (by decide +kernel), _, rfl, iteF ⟨_, rfl, _, .ty "int", .type "list", .type "int", false, rfl, .ty _, .base (.lst e), kit_ty (by decide +kernel), _, rfl, iteF (iteF (k _ (by decide)))⟩⟩
    | tup e => exact ⟨_, rfl, _, .ty "str", .type "tuple", .type "str", false, rfl, .ty _, .base (.tup e), kit_ty (by decide +kernel), _, rfl, iteF ⟨_, rfl, _, .ty "int", .type "tuple", .type "int", false, rfl, .ty _, .base (.tup e), kit_ty (by decide +kernel), _, rfl, iteF (iteF (k _ (by decide)))⟩⟩
    | dK e => exact ⟨_, rfl, _, .ty "str", .type "dict", .type "str", false, rfl, .ty _, .base (.dK e), kit_ty (by decide +kernel), _, rfl, iteF ⟨_, rfl, _, .ty "int", .type "dict", .type "int", false, rfl, .ty _, .base (.dK e), kit_ty (by decide +kernel), _, rfl, iteF (iteF (k _ (by decide)))⟩⟩
    | bl b =>
      refine ⟨_, rfl, _, .ty "str", .type "bool", .type "str", false, rfl, .ty _, .base (.bl b), kit_ty (by decide +kernel), _, rfl, iteF ⟨_, rfl, _, .ty "int", .type "bool", .type "int", true, rfl, .ty _, .base (.bl b), kit_ty (by decide +kernel), _, rfl, iteT ?_⟩⟩
      cases b with
      | false => exact ⟨_, rfl, .inr ⟨_, rfl, _, _, rfl, rfl, _, rfl, iteT ⟨_, rfl, le0 _ (by decide), _, rfl, .inr (.inr ⟨_, rfl, _, rfl, le0 _ (by decide), k _ (by decide)⟩)⟩⟩⟩
      | true => exact ⟨_, rfl, .inr ⟨_, rfl, _, _, rfl, rfl, _, rfl, iteT ⟨_, rfl, le0 _ (by decide), _, rfl, .inr (.inr ⟨_, rfl, _, rfl, le0 _ (by decide), k _ (by decide)⟩)⟩⟩⟩
    | int i =>
      refine ⟨_, rfl, _, .ty "str", .type "int", .type "str", false, rfl, .ty _, .base (.int i), kit_ty (by decide +kernel), _, rfl, iteF ⟨_, rfl, _, .ty "int", .type "int", .type "int", true, rfl, .ty _, .base (.int i), kit_ty (by decide +kernel), _, rfl, iteT ?_⟩⟩
      refine ⟨_, rfl, .inl ⟨_, rfl, _, _, rfl, rfl, _, rfl, ite2 (fun h => ?_) (fun _ => k _ (by decide))⟩⟩
      have h2 := of_decide_eq_true h
      have h1 : i.natAbs < 10 ^ 6 := by split at h2 <;> omega
      have hl := int_len (i := i) (by omega)
      have ht : (Str.empty ++ ": " ++ Str.ofString (toString i)).length ≤ 1100 := by
        rw [len_add, len_add]
        have e0 : (Str.empty).length = 0 := rfl
        have e1 := two_len
        omega
      refine ⟨_, rfl, le0 _ (by decide), _, rfl, .inr (.inl ⟨i, rfl, ?_, _, rfl, le0 _ ht, k _ ht⟩)⟩
      by_cases z : i.natAbs = 0
      · rw [z]
        decide
      · have := (Nat.log2_lt z (k := 1920)).mpr (Nat.lt_of_lt_of_le h1 (by decide))
        exact this
    | txt z h =>
      have ht : (Str.empty ++ ": " ++ z).length ≤ 1100 := by
        rw [len_add, len_add]
        have e0 : (Str.empty).length = 0 := rfl
        have e1 := two_len
        omega
      exact ⟨_, rfl, _, .ty "str", .type "str", .type "str", true, rfl, .ty _, .base (.str z), kit_ty (by decide +kernel), _, rfl, iteT (iteT ⟨_, rfl, le0 _ (by decide), _, rfl, .inl ⟨z, rfl, le0 _ (by omega), _, rfl, le0 _ ht, k _ ht⟩⟩)⟩
end
end Lp
namespace Lp
open PySem PySem.Spec PySem.Calls PyProof.Rows L2 PySem.W
/-! ### super().__init__(..) over ValueError, called through the bound wrapper -/
section
variable {prog : Program} {w : World} {A : Around} {E : Value → Shared → Prop} {h : Heap} {g : Array GenState} {d : Drawn} {t : Nat} {os : OsState}
abbrev mwVE (x : Addr) : Obj := kxs_mw "ValueError.__init__" x
theorem call_mw {nm q : Str} {C N u e t0 : Addr} {bs bm : List Value} {hdct : Bool} {sn : List Str} {sub : List Value} {ab : Bool} {col : Option Bool} {dd : Option Addr} {k0 k1 k2 k3 k5 : Option Value} {rest : List Value} {Q : Value → Shared → Prop}
    (hC : h.get? C = some (excClassObj nm q C N bs bm hdct sn sub ab col dd k0 k1 k2 k3 k5 "ValueError.__new__")) (he : h.get? e = some (HandSPX.excO C t0)) (hu : h.get? u = some (mwVE e)) (hz : rest.length ≤ sizeLine)
    (hq : ∀ h' t1, (∀ b o, b ≠ e → h.get? b = some o → h'.get? b = some o) → h'.get? e = some (HandSPX.excO C t1) → Q .none ⟨h', g, d, t, os⟩) :
    wpAny (model prog w) A (call (.ref u) rest) Q E ⟨h, g, d, t, os⟩ := by
  have tst : (Value.type "method-wrapper" == Value.type "method" || Value.type "method-wrapper" == Value.type "builtin_function_or_method" || Value.type "method-wrapper" == Value.type "method-wrapper") = true := by decide
  refine wpAny_call (codeAny_of_tree (show wpAny _ A.in1 (callAny (.ref u) ⟨rest, []⟩) _ _ _ from ?_))
  simp only [callAny]
  refine wpAny_bind (wpAny_load hu ?_)
  simp only [mwVE, kxs_mw, tst, if_true]
  refine KFB.if_so (by decide) (wpAny_bind (check_bound_init F.excBase_ValueError.toExcCallFacts hC he rfl (wpAny_bind (wpAny_pure (wpAny_pure ⟨plainId_quiet F.excBase_ValueError.init.plain _, codeAny_builtin F.excBase_ValueError.initEntry ?_⟩)))))
  rw [Around.under_plainId F.excBase_ValueError.init.plain _]
  wp_walk
  refine hq _ h.objs.size (fun b o hb ho => ?_) ?_
  · exact (Heap.get?_update_other _ _ (Ne.symm hb)).trans (Heap.get?_push_of_some _ ho)
  · exact (Heap.get?_update_self _ (Heap.get?_push_of_some _ he) rfl).trans rfl
theorem callWith_mw {M : Model} {s : Shared} {pos : Pos} {u x : Addr} {env : Env} {e : Expr} {es : List Expr} {Q : Value → Shared → Prop}
    (k : wpAny M A (spliced (backTo pos (starEach (e :: es) env))) (fun vs s₁ => s₁.heap.get? u = some (mwVE x) ∧ wpAny M A (call (.ref u) vs) Q E s₁) E s)
    (he : starEach (e :: es) env = (false, eval e env) :: starEach es env) (hp : (backTo pos (starEach es env)).any (·.1) = false) :
    wpAny M A (callWith pos (.ref u) [] (backTo pos (starEach (e :: es) env)) []) Q E s := by
  rw [he] at k ⊢
  exact kxs_callWith (i := "ValueError.__init__") (x := x) (show (false || (backTo pos (starEach es env)).any (·.1)) = false by rw [hp]; rfl) (evalArgs_plain k)
end
/-! ### the text of such an __init__ -/
def iA (x : Str) (p1 p2 : Pos) : Arguments := { posonlyargs := [], args := [{ arg := "self", annotation := none, pos := p1 }, { arg := x, annotation := none, pos := p2 }], vararg := none, kwonlyargs := [], kw_defaults := [], kwarg := none, defaults := [] }
structure Ps where
  (a b c d e f g h i j k l m n : Pos)
def iCall (x msg : Str) (p : Ps) : Expr := .Call (.Attribute (.Call (.Name "super" p.a) [] [] p.b) "__init__" p.c)
  [.JoinedStr [.Constant (.str msg) 0 p.d, .FormattedValue (.Call (.Name "_told" p.e) [.Name x p.f] [] p.g) (-1) none p.h] p.i] [] p.j
def iB (x msg : Str) (p : Ps) : List Stmt := [.Expr (iCall x msg p) p.j, .Assign [.Attribute (.Name "self" p.k) x p.l] (.Name x p.m) p.n]
def iS (x : Str) : Scope := { kind := .function, names := [("self", .local), (x, .local), ("__class__", .free), ("super", .globalImplicit), ("_told", .globalImplicit)], isGenerator := false, isCoroutine := false, more := [] }
example : ∃ p1 p2 p, defArgs (inClass (top 13) 0) = iA "part" p1 p2 ∧ defBody (inClass (top 13) 0) = iB "part" "no fitting number" p ∧ defScope (inClass (top 13) 0) = iS "part" := ⟨_, _, ⟨_, _, _, _, _, _, _, _, _, _, _, _, _, _⟩, rfl, rfl, rfl⟩
/-- what the written part says of a class C with such an __init__ at fI -/
structure InitT (P : Program) (K : PySem.W.Frag) (mg : Str → Option Value) (C fI : Addr) (st : Stmt) (qual x msg : Str) : Prop where
  oex : OexC K C
  text : ∃ p1 p2 p, defArgs st = iA x p1 p2 ∧ defBody st = iB x msg p ∧ defScope st = iS x ∧
    (∀ env : Env, ∃ pl : Sem Bool, eval (iCall x msg p) env = (do
      let ov ← attributeBase (.Call (.Name "super" p.a) [] [] p.b) "__init__" env (eval (.Call (.Name "super" p.a) [] [] p.b) env)
      standAt p.c.atName
      let (f, first) ← holding [ov] (getMethod ov "__init__" pl)
      callWith p.j f first (backTo p.j (starEach [.JoinedStr [.Constant (.str msg) 0 p.d, .FormattedValue (.Call (.Name "_told" p.e) [.Name x p.f] [] p.g) (-1) none p.h] p.i] env)) []))
  fn : ∃ (oc ct doc pm : Value) (od an : Option Addr) (cda cc : Addr) (osl : Array (Option Value)), K.lookup fI = some ⟨oc, od, .func (ksFn "__init__" qual (defArgs st) (defBody st) (defScope st) .none .none doc pm an (.ref cda) ct cc), osl⟩ ∧ codeIn K (.ref cda) qual = true ∧
    (∃ ccl cdd vs ccs file tf, K.lookup cda = some ⟨ccl, cdd, .fields vs, ccs⟩ ∧ vs[2]? = some (.str file tf) ∧ ((P.main.file : Str) == file) = true) ∧ ∃ cl cld csl, K.lookup cc = some ⟨cl, cld, .cell (some (.ref C)), csl⟩
  top : (P.main.scope.names.lookup ("super" : Str)).isSome = false
  su : mg "super" = none
  above : ks_superIn K C C "__init__" = some (some (.builtin "ValueError.__init__"))
  opq : nsIn K cStatics "thirdparty.any" = some none
  isVE : subIn K (.ref C) (.type "ValueError") = some true
  isC : mroIn K C (.ref C) = some true
  noX : findIn K (.ref C) x = some none
  xne : x = "part" ∨ x = "at" ∨ x = "name" ∨ x = "most"
  msgl : msg.length ≤ 1000
/-- the promise of __init__ -/
def spInit (C : Addr) (x : Str) : Sp := fun vs H Q _ => ∃ a y, vs = [.ref a, y] ∧ H a = some (exo a C none) ∧ ToldOk H y ∧
  ∀ H' dx, H' a = some (exo a C (some dx)) → H' dx = some (exd dx [(x, y)]) → H dx = none → (∀ b o, H b = some o → b ≠ a → H' b = some o) → Q .non H'
theorem ToldOk.same {H H' : Hp} {y : V} (e : ToldOk H y) (s : Same H H') : ToldOk H' y := by
  cases e with
  | non => exact .non
  | bl b => exact .bl b
  | int i => exact .int i
  | txt z h => exact .txt z h
  | lst h => exact .lst (s _ _ h)
  | tup h => exact .tup (s _ _ h)
  | dK h => exact .dK (s _ _ h)
section
variable {P : Program} {w : World} {K : PySem.W.Frag} {mg : Str → Option Value} {base : Heap} {C fI ft : Addr} {st : Stmt} {qual x msg : Str} {fdt : FuncData}
theorem ok_init (T : InitT P K mg C fI st qual x msg) (GT : FnOk P w K mg base CX0 1 ft fdt ["value"] spTold) (gT : mg "_told" = some (.ref ft)) (kT : keepIn K (.ref ft) = true) (bT : Binds K fdt ["value"] []) :
    ∃ fd, Binds K fd ["self", x] [] ∧ (∀ (s : Shared) (u v : Value), BindsTo s fd ⟨[u], [(x, v)]⟩ ((["self", x] : List Str).zip [u, v])) ∧ FnOk P w K mg base CX0 3 fI fd ["self", x] (spInit C x) := by
  obtain ⟨p1, p2, p, hA, hB, hS, he⟩ := T.text
  obtain ⟨oc, ct, doc, pm, od, an, cda, cc, osl, lk, hcd, ⟨ccl, cdd, cvs, ccs, file, tf, hcda, hvs, hfile⟩, cl, cld, csl, hcc⟩ := T.fn
  rw [hA, hB, hS] at lk
  refine ⟨ksFn "__init__" qual (iA x p1 p2) (iB x msg p) (iS x) .none .none doc pm an (.ref cda) ct cc, .all fun us hl => ?_, fun s u v => .of_eq ?_, fun vs H Q E hsp => ?_, fun A outer s H args us vs Q E hr e0 hb r hsp => ?_⟩
  · match us, hl with
    | [_, _], _ => rcases T.xne with e | e | e | e <;> subst e <;> rfl
  · rcases T.xne with e | e | e | e <;> subst e <;> rfl
  · obtain ⟨a, y, rfl, _⟩ := hsp
    rfl
  obtain ⟨a, y, rfl, ha, hy, k⟩ := hsp
  obtain ⟨u1, u2, rfl, r1, r2⟩ := vals2 r
  cases (show u1 = Value.ref a from r1)
  have KX : K.In s.heap := e0.mod.kin.keeps fun b o e => (e0.bs b o e).1
  have lim : s.heap.NoLimit := e0.mod.nolimit.keeps fun b o e => (e0.bs b o e).1
  have nd : (iS x).names.lookup ("super" : Str) = some .globalImplicit ∧ (iS x).names.lookup ("__class__" : Str) = some .free ∧ (iS x).names.lookup ("_told" : Str) = some .globalImplicit ∧ (iS x).names.lookup x = some .local ∧ (x == ("__debug__" : Str)) = false ∧ (x == ("__classdict__" : Str)) = false := by
    rcases T.xne with e | e | e | e <;> subst e <;> exact ⟨by decide, by decide, by decide, by decide, by decide, by decide⟩
  let F : NdefX.NF := ⟨"__init__", qual, iA x p1 p2, iB x msg p, iS x, [("__class__", cc)], cda⟩
  have S : NdefX.NScope ["self", x, "__class__"] ["self", x] ["__class__"] (iS x) := by
    rcases T.xne with e | e | e | e <;> subst e <;> exact NdefX.nscope_by (by decide +kernel)
  refine ks_codeAny_call_defAt (binds := [("self", .ref a), (x, u2)]) hr.depth (KX _ _ lk) rfl lim (codeRec_of KX hcd) rfl hb (fun q hq => S.nocell q hq) (fun q hq => ?_) (fun h₁ hns kp => ?_)
  · have hq' : q = ((("self" : Str), Value.ref a) : Str × Value) ∨ q = (x, u2) := by simpa using hq
    rcases hq' with e | e
    · rw [e]
      exact S.par _ (by simp)
    · rw [e]
      exact S.par _ (by simp)
  have hccb := e0.bs _ _ (e0.mod.kin _ _ hcc)
  have lc : ∀ {y : Str} {c : Addr}, List.lookup y [(("__class__" : Str), cc)] = some c → y = "__class__" ∧ c = cc := fun {y c} e => by
    by_cases z : y = "__class__"
    · subst z
      have e1 : List.lookup ("__class__" : Str) [(("__class__" : Str), cc)] = some cc := by simp [List.lookup]
      rw [e1] at e
      exact ⟨rfl, (Option.some.inj e).symm⟩
    · have z' : (y == ("__class__" : Str)) = false := by simpa using z
      have e1 : List.lookup y [(("__class__" : Str), cc)] = none := by simp [List.lookup, z']
      rw [e1] at e
      cases e
  have CA : NdefX.CellsAt F.cl ["__class__"] [none] s.heap H := by
    refine ⟨rfl, fun y c e => ?_, fun y z c e1 e2 => (lc e1).1.trans (lc e2).1.symm, fun i y e => ?_⟩
    · obtain ⟨_, rfl⟩ := lc e
      exact ⟨hccb.2, _, _, hccb.1, rfl⟩
    · match i, e with
      | 0, e =>
        cases e
        exact ⟨cc, by show List.lookup ("__class__" : Str) [(("__class__" : Str), cc)] = some cc; simp [List.lookup], fun v z => by cases z⟩
      | n + 1, e => cases e
  have I := NdefX.inv_startN (CX := CX0) (P := P) (w := w) (K := K) (mg := mg) (base := base) (f := fI) (A := A) (outer := outer) (E := E) (F := F) (tk := s.toks + 2) S hr.hd e0 rfl r CA hns kp
  obtain ⟨nm, qn, N, bs, bm, sn, sub, ab, col, dd, k0, k1, k2, k3, k5, hC, hbm⟩ := T.oex.cls
  obtain ⟨t1, hat⟩ := exo_at I.hok ha
  obtain ⟨pl, hev⟩ := he (NdefX.envF F fI s.heap.objs.size)
  obtain ⟨mb, hmb1, hmb2⟩ := e0.mod.blt
  have X1 := I.kIn
  have hC1 := X1 _ _ hC
  have hcl : clsIn K C = some { name := nm, bases := bs, mro := .ref C :: bm, ns := N, qualname := qn, hasDict := true, slotNames := sn, subclasses := sub, abstract := ab, collection := col, hasDel := false } := by unfold clsIn; rw [hC] <;> rfl
  refine ks_wpAt_execs_cons (ks_wpAt_Expr_any ?_)
  refine ks_wpAt_MethodCall (pl := pl) (ks_wpAt_super_base (f := fI) (cc := cda) nd.1 nd.2.1 (by decide) rfl (X1 _ _ lk) rfl rfl rfl (X1 _ _ hcda) rfl hvs hfile T.top ?_) hev
  have lself : (([(("self" : Str), Value.ref a), (x, u2)] : List (Str × Value)).reverse).lookup ("self" : Str) = some (.ref a) := by
    have q : (("self" : Str) == x) = false := by rcases T.xne with e | e | e | e <;> subst e <;> decide
    simp [List.lookup, q]
  refine ks_loadName_global rfl nd.1 (loadGlobal_builtin (I.mod.glob.keeps I.bk) T.su (hmb1.keeps I.bk) ((hmb2 _ (by decide)).trans (by decide +kernel)) ⟨rfl, ?_⟩)
  refine wpAny_loadName_free rfl nd.2.1 (by show List.lookup ("__class__" : Str) [(("__class__" : Str), cc)] = some cc; simp [List.lookup]) ⟨_, X1 _ _ hcc, rfl⟩ ?_
  refine wpAny_loadName_local rfl (S.par _ (by simp)) hns lself ?_
  refine ks_wpAny_isType_cls hC1 rfl ⟨rfl, ?_⟩
  refine ks_wpAny_call_super hC1 rfl hat rfl (fun c => nofun) (looks_mroIn X1 T.isC) (fun h2 eso kso => ?_)
  have X2 : K.In h2 := fun b o e => kso b o (X1 b o e)
  have hal := T.above
  unfold ks_superIn at hal
  rw [hcl] at hal
  have IA : InstAt h2 a (HandSPX.excO C t1) C none := ⟨kso _ _ hat, rfl, rfl, trivial⟩
  have aC : a ≠ C := fun e => by
    have z := hat
    rw [e, hC1] at z
    cases z
  refine kxs_getMethod kxs_ValueError eso (looks_opaque X2 T.opq) (l₀ := .ref C :: bm) (fun A Q E s k q => wpAny_bind ((looks_clsIn X2 hcl) A _ E s k (wpAny_pure q))) rfl X2 hal (IA.type.andThen (looks_subIn X2 T.isVE)) aC (by decide) ?_
  refine callWith_mw (x := a) ?_ rfl rfl
  have I2 := I.kept (t' := s.toks + 2) kso
  have hun : H h2.objs.size = none := I2.hok.fresh (Nat.le_refl _)
  have I3 := I2.laid (a := h2.objs.size) (o := .ext fun h => h.get? h2.objs.size = some (mwVE a)) (h' := h2.push (mwVE a)) (t' := s.toks + 2 + 1) (fun b u e => Heap.get?_push_of_some _ e) (Nat.le_refl _) ⟨Heap.get?_push_at rfl rfl, ⟨_, Heap.get?_push_at rfl rfl⟩, fun g1 g2 e kk => kk _ e⟩
  have hr1 : Room 1 (A.deeper (NdefX.envF F fI s.heap.objs.size)) := (hr.deeper _).mono (by decide)
  have vx : ∀ {pos : Pos}, PE (NdefX.ncx CX0 P w K mg base ["self", x, "__class__"] F fI A outer s H E) (.Name x pos) (tVar 1) := fun {pos} => pe_var (i := 1) rfl (.inl nd.2.2.2.1) nd.2.2.2.2.1 nd.2.2.2.2.2
  have PAj : PA (NdefX.ncx CX0 P w K mg base ["self", x, "__class__"] F fI A outer s H E) [.JoinedStr [.Constant (.str msg) 0 p.d, .FormattedValue (.Call (.Name "_told" p.e) [.Name x p.f] [] p.g) (-1) none p.h] p.i] _ :=
    pa_cons (pe_joined (.cons pe_str (.cons (pe_fmtB (pe_call GT hr1 nd.2.2.1 gT kT bT .nil pass0 (pa_cons vx pa_nil))) .nil))) pa_nil
  have hlm : msg.length ≤ sizeLine := Nat.le_trans T.msgl (by decide)
  have hal3 : (upd H h2.objs.size (.ext fun h => h.get? h2.objs.size = some (mwVE a))) a = some (exo a C none) := by
    rw [upd_ne (ne_of_none ha hun)]
    exact ha
  have s3 : Same H (upd H h2.objs.size (.ext fun h => h.get? h2.objs.size = some (mwVE a))) := same_new hun
  refine thn (PAj.run p.j [] _ _ _ (fun vs H4 => vs.length = 1 ∧ H4 = upd H h2.objs.size (.ext fun h => h.get? h2.objs.size = some (mwVE a))) I3 ?_) fun us s4 ⟨vs, H4, I4, rv, l4, e4⟩ => ?_
  · have e0 : (Str.empty ++ msg).length = msg.length := by
      rw [len_add]
      exact Nat.zero_add _
    refine ⟨msg, rfl, by rw [e0]; exact hlm, _, rfl, y, rfl, hy.same s3, fun z hz => .inl ⟨z, rfl, Nat.le_trans hz (by decide), z, rfl, ?_, rfl, rfl⟩⟩
    rw [len_add, e0]
    have := T.msgl
    exact Nat.le_trans (show msg.length + z.length ≤ 2100 by omega) (by decide)
  subst e4
  have hmw : s4.heap.get? h2.objs.size = some (mwVE a) := (show ObjOk P w _ s4.heap h2.objs.size (.ext fun h => h.get? h2.objs.size = some (mwVE a)) from I4.hok _ _ upd_same).1
  obtain ⟨t4, hex⟩ := exo_at I4.hok hal3
  obtain ⟨hp4, g4, d4, tk4, os4⟩ := s4
  refine ⟨hmw, call_mw (I4.kIn _ _ hC) hex hmw (by rw [← Paired.length rv, l4]; decide) fun h5 t5 k5 e5 => ?_⟩
  have I5 := I4.write (t' := tk4) (x := a) (e := a) (o := exo a C none) (by rw [hal3]; exact True.intro) (.inl rfl) k5 ⟨_, e5⟩ (exo_ok e5)
  refine wpAt_of_wpAny ?_
  have R : PSs (NdefX.ncx CX0 P w K mg base ["self", x, "__class__"] F fI A outer s H E) [.Assign [.Attribute (.Name "self" p.k) x p.l] (.Name x p.m) p.n] _ := pss_one (ps_ost (pe_var (i := 0) rfl (.inl (S.par _ (by simp)))) vx)
  refine wpAny_mono (R.run [] _ _ _ { nx := fun _ H' => Q .non H', rt := fun _ _ => False } I5 ⟨_, rfl, _, rfl, a, C, rfl, T.oex, T.noX, .inl ⟨upd_same, fun dx hdx ne => ?_⟩⟩) (fun fl s6 hs => ?_) fun e s' z => z
  · have nda : H dx = none := by
      cases q : H dx with
      | none => rfl
      | some o =>
        rw [upd_ne ne] at hdx
        exact absurd (s3 _ _ q) (by rw [hdx]; exact nofun)
    refine k _ dx upd_same ?_ nda fun b o e n => ?_
    · rw [upd_ne ne]
      exact upd_same
    · rw [upd_ne n, upd_ne (ne_of_none e nda), upd_ne n]
      exact s3 _ _ e
  · cases fl with
    | next =>
      obtain ⟨σ', H', J, q⟩ := hs
      exact ⟨.non, H', J.os, J.bare, J.base, J.hok, rfl, q⟩
    | ret v =>
      obtain ⟨v', σ', H', J, rv', q⟩ := hs
      exact False.elim q
    | brk =>
      obtain ⟨_, _, _, q⟩ := hs
      exact False.elim q
    | cont =>
      obtain ⟨_, _, _, q⟩ := hs
      exact False.elim q
end
end Lp
namespace Lp
open PySem PySem.Spec PySem.Calls PyProof.Rows L2
/-! ### C(e, ..) as a value -/
/-- the class's own __init__ keeps sp -/
def tMkV (C : Addr) (sp : Sp) (ta : TA) : TE := fun σ H Q => ta σ H fun vs H1 => vs.length ≤ 1000 ∧ ∀ a, H1 a = none → sp (.ref a :: vs) (upd H1 a (exo a C none)) (fun v H2 => v = .non ∧ Q (.ref a) H2) (fun _ _ _ => False)
section
variable {X : Cx} {e : Expr} {es : List Expr} {ta : TA} {p pos : Pos}
theorem pe_mkv {x : Str} {C fI : Addr} {k : Nat} {fd : FuncData} {ps : List Str} {sp : Sp} (T : OexC X.K C) (iC : PySem.W.findIn X.K (.ref C) "__init__" = some (some (.ref fI))) (tI : PySem.W.typeIn X.K (.ref fI) = some (.type "function"))
    (F1 : FnOk X.prog X.w X.K X.mg X.base CX0 k fI fd ps sp) (hr : Room (k + 1) X.A) (hb : Binds X.K fd ps []) (hg : Gl X x) (hm : X.mg x = some (.ref C)) (ha : PA X (e :: es) ta)
    (hdb : (x == ("__debug__" : Str)) = false := by decide) (he : starEach (e :: es) X.env = (false, eval e X.env) :: starEach es X.env := by rfl) (hpl : (backTo pos (starEach es X.env)).any (·.1) = false := by rfl) :
    PE X (.Call (.Name x p) (e :: es) [] pos) (tMkV C sp ta) := by
  refine ⟨fun pins s σ H Q I h => ?_⟩
  obtain ⟨nm, q, N, bs, bm, sn, sub, ab, col, dd, k0, k1, k2, k3, k5, hC, hbm⟩ := T.cls
  refine wpAny_Call_Name_kw (ld_glob I hg hm (PySem.W.callWith_K (h₀ := X.base) I.ok.mod.kin T.kC (thn (ha.run pos pins s σ H _ I h) fun us s1 ⟨vs, H1, I1, r1, hz, q1⟩ => ⟨I1.kIn, ?_⟩) he hpl) hdb)
  show wpAny _ _ (call (.ref C) us) _ _ _
  obtain ⟨hp, g, dr, tk, os⟩ := s1
  have fresh : H1 (hp.objs.size + 1) = none := I1.hok.fresh (Nat.le_succ _)
  have ask := q1 _ fresh
  have old : ∀ b o, hp.get? b = some o → ((hp.push (PySem.W.kdv_tup us)).push (PySem.HandSPX.excO C hp.objs.size)).get? b = some o := fun b o z => Heap.get?_push_of_some _ (Heap.get?_push_of_some _ z)
  have made : ((hp.push (PySem.W.kdv_tup us)).push (PySem.HandSPX.excO C hp.objs.size)).get? (hp.objs.size + 1) = some (PySem.HandSPX.excO C hp.objs.size) := by heap_get
  have I2 : Inv X pins σ (upd H1 (hp.objs.size + 1) (exo (hp.objs.size + 1) C none)) ⟨(hp.push (PySem.W.kdv_tup us)).push (PySem.HandSPX.excO C hp.objs.size), g, dr, tk, os⟩ := I1.laid (t' := tk) old (Nat.le_succ _) (exo_ok made)
  have r2 : Vals (V.ref (hp.objs.size + 1) :: vs) (Value.ref (hp.objs.size + 1) :: us) := .cons rfl r1
  have many : (Value.ref (hp.objs.size + 1) :: us ++ []).length = ps.length := by
    have z := r2.length
    rw [F1.len _ _ _ _ ask] at z
    rw [List.append_nil]
    exact z.symm
  have few : us.length ≤ sizeLine := by
    rw [← Paired.length r1, sizeLine_eq]
    omega
  have binds := hb _ (Value.ref (hp.objs.size + 1) :: us) I2.kIn many
  rw [List.append_nil] at binds
  refine wpAny_call (PySem.HandSPX.call_own F.excBase_ValueError (fun Y => PySem.HandSPX.refsVE_contains Y bm hbm) (I1.kIn _ _ hC) (PySem.W.looks_findIn I1.kIn iC) (fun self => PySem.W.bind_fn I1.kIn self tI) few
    (codeAny_mono (F1.run _ X.stack _ _ ⟨Value.ref (hp.objs.size + 1) :: us, []⟩ _ _ _ (fun _ _ _ => False) (hr.make C us []) (I2.env0.make C us []) binds r2 ask) fun r s' hq' => ?_))
  cases r with
  | error er => exact False.elim hq'
  | ok fl =>
    cases fl with
    | ret u =>
      obtain ⟨v, H', I3, rv, ev, q3⟩ := I2.after hq'
      subst ev
      exact ⟨rv, ⟨V.ref (hp.objs.size + 1), H', I3, rfl, q3⟩⟩
    | next => exact False.elim hq'
    | brk => exact False.elim hq'
    | cont => exact False.elim hq'
end
/-! ### e.x of such an error -/
structure AttT (K : PySem.W.Frag) (C : Addr) (x : Str) : Prop where
  ga : PySem.W.findIn K (.ref C) "__getattribute__" = some (some (.builtin "BaseException.__getattribute__"))
  gg : PySem.W.findIn K (.ref C) "__getattr__" = some none
  ex : PySem.W.subIn K (.ref C) (.type "BaseException") = some true
  hd : PySem.W.hasDictIn K C = true
  no : PySem.W.findIn K (.ref C) x = some none
def tXf2 (K : PySem.W.Frag) (x : Str) (te : TE) : TE := fun σ H Q => te σ H fun v H1 => ∃ a C dx fs y, v = .ref a ∧ AttT K C x ∧ H1 a = some (exo a C (some dx)) ∧ H1 dx = some (exd dx fs) ∧ fs.lookup x = some y ∧ Q y H1
section
variable {X : Cx} {o : Expr} {te : TE} {x : Str} {pos : Pos}
theorem pe_xf2 (ho : PE X o te) (hb : attributeBase o x X.env (eval o X.env) = eval o X.env := by rfl) : PE X (.Attribute o x pos) (tXf2 X.K x te) := by
  refine ⟨fun pins s σ H Q I h => attr_of hb (thn (ho.run pins s σ H _ I h) fun u s1 ⟨v, H1, I1, rv, a, C, dx, fs, y, ev, T, ha, hd, hl, q⟩ => ?_)⟩
  subst ev
  cases (show u = Value.ref a from rv)
  obtain ⟨t1, h1⟩ := exo_at I1.hok ha
  obtain ⟨mA, hns, rel⟩ := exd_at I1.hok hd
  obtain ⟨od, hod, hlk⟩ := lookIn_ns hns
  obtain ⟨uy, hu, ry⟩ := RelO.some_of (v := y) (o := mA x) (by rw [← hl]; exact rel x)
  exact HandSPX.exc_get I1.kIn (od := some od) ⟨h1, rfl, rfl, hod⟩ T.ga T.gg T.ex (PySem.W.findObj_own T.hd T.no rfl (by rw [hlk, hu])) (handed_of ry) ⟨y, H1, I1.tok _, ry, q⟩
end
/-! ### isinstance of an error -/
/-- at a: an error of the class at C -/
def Err (H : Hp) (a C : Addr) : Prop := H a = some (ExO (.ref C) a) ∨ ∃ dx, H a = some (exo a C (some dx)) ∧ ∃ fs, H dx = some (exd dx fs)
theorem Err.same {H H' : Hp} {a C : Addr} (e : Err H a C) (s : Same H H') : Err H' a C := by
  rcases e with e | ⟨dx, e, fs, g⟩
  · exact .inl (s _ _ e)
  · exact .inr ⟨dx, s _ _ e, fs, s _ _ g⟩
def rIsErr (K : PySem.W.Frag) : List V → Hp → VK → Prop := fun xs H Q => ∃ (a C : Addr) (c : V) (u : Value) (b : Bool), xs = [.ref a, c] ∧ Err H a C ∧ ClsV c u ∧ ExcC K C ∧ PySem.W.kitOne K (.ref C) u = some b ∧ Q (.bl b) H
section
variable {X : Cx}
theorem call_isErr : CallR X (.builtin "isinstance") (rIsErr X.K) := by
  intro pins s σ H xs us Q I r h
  obtain ⟨a, C, c, u, b, rfl, he, k, T, e, q⟩ := h
  obtain ⟨u1, u2, rfl, r1, r2⟩ := vals2 r
  cases (show u1 = Value.ref a from r1)
  have e2 := k.eq r2
  subst e2
  rcases he with he | ⟨dx, he, fs, hg⟩
  · obtain ⟨⟨oe, vs, g1, ⟨z1, z2⟩, g3, _⟩, _⟩ := (show ObjOk X.prog X.w H s.heap a (ExO (.ref C) a) from I.hok a _ he)
    obtain ⟨oc, od, dt, sl⟩ := oe
    simp only at z1 z2 g3
    subst z1 z2 g3
    have J : PySem.W.InstAt s.heap a ⟨.ref C, none, .fields vs, sl⟩ C none := ⟨g1, rfl, rfl, trivial⟩
    exact PySem.W.kia_one (PySem.W.handS_kitx_exc T.hg T.hk T.hs T.hd T.ha T.hn T.ht T.hm) I.kIn J e (fun z => nomatch z) fun tk => ⟨.bl b, H, I.tok tk, rfl, q⟩
  · obtain ⟨t1, h1⟩ := exo_at I.hok he
    obtain ⟨mA, ⟨od, es, ep, hod, _⟩, rel⟩ := exd_at I.hok hg
    have J : PySem.W.InstAt s.heap a _ C (some od) := ⟨h1, rfl, rfl, hod⟩
    have hs : (PySem.W.clsIn X.K C).isSome = true := by
      obtain ⟨cd, hc, _⟩ := PySem.W.any_some T.hd
      rw [hc]
      rfl
    exact PySem.W.kia_one (PySem.W.kitx_exc hs T.hg T.hk T.hs T.ha T.hn T.ht T.hm) I.kIn J e (fun z => nomatch z) fun tk => ⟨.bl b, H, I.tok tk, rfl, q⟩
end
end Lp
/-! C(x=e), an own error class, one keyword -/
namespace LpK
open PySem PySem.Spec PySem.Calls PyProof.Rows PySem.HandSPX
abbrev FV := F.excBase_ValueError
section
variable {prog : Program} {w : World} {M : Model} {A : Around} {E : Value → Shared → Prop} {R : Result → Shared → Prop} {h : Heap} {g : Array GenState} {d : Drawn} {t : Nat} {os : OsState}
variable {nm q x : Str} {C N : Addr} {bs bm : List Value} {hdct : Bool} {sn : List Str} {sub : List Value} {ab : Bool} {col : Option Bool} {dd : Option Addr} {k0 k1 k2 k3 k5 : Option Value} {v : Value}
theorem has_ve (hbm : refsVE bm = true) (Y : String) : (Value.ref C :: bm).contains (.type Y) = veTail.contains (.type Y) := by
  rw [List.contains_cons, refsVE_contains Y bm hbm]
  rfl
theorem check_newK (hbm : refsVE bm = true) {Q : Unit → Shared → Prop} (hC : h.get? C = some (excClassObj nm q C N bs bm hdct sn sub ab col dd k0 k1 k2 k3 k5 "ValueError.__new__")) (hq : Q () ⟨h, g, d, t, os⟩) :
    wpAny M A (checkBuiltinCall "ValueError.__new__" ⟨[.ref C], [(x, v)]⟩) Q E ⟨h, g, d, t, os⟩ := by
  have isB : (Value.ref C :: bm).contains (.type "ValueError") = true := (has_ve hbm _).trans (by decide +kernel)
  have nostar := FV.noStar
  simp only [checkBuiltinCall, FV.newKind, FV.newSplit, FV.newRow]
  repeat (first | (with_reducible refine wpAny_loadPart_at hC ?_) | (with_reducible refine wpAny_isSubtype_exc hC ?_; rw [isB]) | (with_reducible refine wpAny_staticBase_exc hC ?_) | (with_reducible refine wpAny_madeBy_exc hC ?_) | (simp only [bne_self_eq_false, Bool.false_eq_true, if_false]) | wp_step)
  all_goals exact hq
theorem newK (hbm : refsVE bm = true) (hC : h.get? C = some (excClassObj nm q C N bs bm hdct sn sub ab col dd k0 k1 k2 k3 k5 "ValueError.__new__"))
    (hq : R (.ok (.ret (.ref (h.objs.size + 1)))) ⟨(h.push (W.kdv_tup [])).push (excO C h.objs.size), g, d, t, os⟩) :
    codeAny (model prog w) A (.builtin "ValueError.__new__" ⟨[.ref C], [(x, v)]⟩) R ⟨h, g, d, t, os⟩ := by
  have ends := FV.ends
  have isB : (Value.ref C :: bm).contains (.type "ValueError") = true := (has_ve hbm _).trans (by decide +kernel)
  have noA : (Value.ref C :: bm).contains (.type "AttributeError") = false := (has_ve hbm _).trans (by decide +kernel)
  have noN : (Value.ref C :: bm).contains (.type "NameError") = false := (has_ve hbm _).trans (by decide +kernel)
  refine codeAny_builtinAt FV.entry ?_
  unfold Builtin.«BaseException.__new__»
  refine PySem.wpAt_bind (show PySem.wpAt _ _ _ (stack >>= _) _ _ _ from PySem.wpAt_bind (PySem.wpAt_stack fun p below => PySem.wpAt_of_wpAny ?_))
  wp_walk
  refine PySem.wpAt_of_wpAny ?_
  rw [FV.owner]
  repeat (first | (with_reducible refine wpAny_madeHere_exc FV.canon hC ?_) | (with_reducible refine wpAny_loadPart_at hC ?_) | (with_reducible refine wpAny_isSubtype_exc hC ?_; first | rw [isB] | rw [noA] | rw [noN]) | wp_step)
  show R _ _
  rw [Heap.size_push]
  exact hq
theorem type_callK {fI : Addr} {Q : Fin → Shared → Prop} (hbm : refsVE bm = true) (hC : h.get? C = some (excClassObj nm q C N bs bm hdct sn sub ab col dd k0 k1 k2 k3 k5 "ValueError.__new__"))
    (hi : W.Looks (model prog w) h (typeLookup (.ref C) "__init__") (some (.ref fI))) (hb : ∀ self, W.Looks (model prog w) h (bindSpecial (.ref fI) self) (.ref fI, [self]))
    (hq : codeAny (model prog w) A (.call (.ref fI) ⟨[.ref (h.objs.size + 1)], [(x, v)]⟩)
      (fun r s' => match r with | .ok (.ret z) => z = .none ∧ Q (.done (.ret (.ref (h.objs.size + 1)))) s' | .ok _ => False | .error e => E e s') ⟨(h.push (W.kdv_tup [])).push (excO C h.objs.size), g, d, t, os⟩) :
    wpAny (model prog w) A (Builtin.«type.__call__» ⟨[.ref C], [(x, v)]⟩) Q E ⟨h, g, d, t, os⟩ := by
  repeat (first | (with_reducible refine wpAny_loadPart_at hC ?_) | (with_reducible refine wpAny_madeBy_exc hC ?_) | wp_step)
  refine codeAny_call_builtin_code (Code.quiet_builtin _ FV.quiet) (check_newK hbm hC (newK hbm hC (show wpAny _ _ _ _ _ _ from ?_)))
  have old : ∀ b o, h.get? b = some o → ((h.push (W.kdv_tup [])).push (excO C h.objs.size)).get? b = some o := fun b o e => Heap.get?_push_of_some _ (Heap.get?_push_of_some _ e)
  have hC1 := old _ _ hC
  have made : ((h.push (W.kdv_tup [])).push (excO C h.objs.size)).get? (h.objs.size + 1) = some (excO C h.objs.size) := by heap_get
  have isC : (Value.ref C :: bm).contains (.ref C) = true := by simp
  have i1 := hi.keeps old
  have b1 := (hb (.ref (h.objs.size + 1))).keeps old
  unfold isInstance
  repeat (first | (with_reducible refine wpAny_loadPart_at made ?_) | (with_reducible refine wpAny_isSubtype_exc hC1 ?_; rw [isC]) | wp_step)
  refine (show wpAny _ _ (typeLookup (.ref C) _) _ _ _ from i1.at (wpAny_holding (wpAny_bind (b1.at (wpAny_bind (wpAny_call (codeAny_mono hq fun r s' z => ?_)))))))
  rcases r with e | (z' | _ | _ | _) <;> first | exact z | exact z.elim | skip
  obtain ⟨rfl, z⟩ := z
  first
    | exact wpAny_pure (wpAny_pure z)
    | (wp_walk; exact z)
theorem check_tcK {newId : String} {Q : Unit → Shared → Prop} (hC : h.get? C = some (excClassObj nm q C N bs bm hdct sn sub ab col dd k0 k1 k2 k3 k5 newId)) (hq : Q () ⟨h, g, d, t, os⟩) :
    wpAny M A (checkBuiltinCall "type.__call__" ⟨[.ref C], [(x, v)]⟩) Q E ⟨h, g, d, t, os⟩ := by
  have l3 := tc_sub
  have ty : (⟨h, g, d, t, os⟩ : Shared).TypeIs (.ref C) "type" := ⟨_, hC, rfl⟩
  simp only [checkBuiltinCall, tc_kind, tc_split]
  repeat (any_goals (first | assumption | (with_reducible refine wpAny_loadPart_at hC ?_) | wp_step))
theorem call_ownK {fI : Addr} (hbm : refsVE bm = true) (hC : h.get? C = some (excClassObj nm q C N bs bm hdct sn sub ab col dd k0 k1 k2 k3 k5 "ValueError.__new__"))
    (hi : W.Looks (model prog w) h (typeLookup (.ref C) "__init__") (some (.ref fI))) (hb : ∀ self, W.Looks (model prog w) h (bindSpecial (.ref fI) self) (.ref fI, [self]))
    (hq : codeAny (model prog w) (A.under (.builtin "type.__call__" ⟨[.ref C], [(x, v)]⟩)) (.call (.ref fI) ⟨[.ref (h.objs.size + 1)], [(x, v)]⟩) (W.InitBack (h.objs.size + 1) R) ⟨(h.push (W.kdv_tup [])).push (excO C h.objs.size), g, d, t, os⟩) :
    codeAny (model prog w) A (.call (.ref C) ⟨[], [(x, v)]⟩) R ⟨h, g, d, t, os⟩ := by
  have l1 := tc_lookup
  have l2 := tc_bind (.ref C)
  have ty : (⟨h, g, d, t, os⟩ : Shared).TypeIs (.ref C) "type" := ⟨_, hC, rfl⟩
  refine codeAny_of_tree (show wpAny _ _ (callAny (.ref C) _) _ _ _ from ?_)
  repeat (any_goals (first | assumption | (with_reducible refine wpAny_loadPart_at hC ?_) | wp_step))
  refine ⟨rfl, codeAny_call_builtin_at (Code.quiet_builtin _ (by decide +kernel)) entry_typeCall ?_⟩
  refine check_tcK hC ?_
  refine type_callK hbm hC hi hb (codeAny_mono hq fun r s' z => ?_)
  rcases r with e | (z' | _ | _ | _) <;> exact z
end
end LpK
namespace Lp
open PySem PySem.Spec PySem.Calls PyProof.Rows L2
def tMkK (C : Addr) (sp : Sp) (te : TE) : TE := fun σ H Q => tCons te tNil σ H fun zs H1 => ∃ y, zs = [y] ∧ ∀ a, H1 a = none → sp [.ref a, y] (upd H1 a (exo a C none)) (fun v H2 => v = .non ∧ Q (.ref a) H2) (fun _ _ _ => False)
section
variable {X : Cx} {e : Expr} {te : TE} {p pos kp : Pos}
theorem pe_mkk {x f : Str} {C fI : Addr} {k : Nat} {fd : FuncData} {sp : Sp} (T : OexC X.K C) (iC : PySem.W.findIn X.K (.ref C) "__init__" = some (some (.ref fI))) (tI : PySem.W.typeIn X.K (.ref fI) = some (.type "function"))
    (F1 : FnOk X.prog X.w X.K X.mg X.base CX0 k fI fd ["self", f] sp) (hr : Room (k + 1) X.A) (hb : ∀ (s : Shared) (u v : Value), BindsTo s fd ⟨[u], [(f, v)]⟩ ((["self", f] : List Str).zip [u, v])) (hg : Gl X x) (hm : X.mg x = some (.ref C)) (ha : PE X e te)
    (hdb : (x == ("__debug__" : Str)) = false := by decide) :
    PE X (.Call (.Name x p) [] [{ arg := some f, value := e, pos := kp }] pos) (tMkK C sp te) := by
  refine ⟨fun pins s σ H Q I h => ?_⟩
  obtain ⟨nm, q, N, bs, bm, sn, sub, ab, col, dd, k0, k1, k2, k3, k5, hC, hbm⟩ := T.cls
  refine wpAny_Call_Name_kw (ld_glob I hg hm (PySem.W.callWith_KW0 (h₀ := X.base) I.ok.mod.kin T.kC rfl ?_ rfl) hdb)
  refine thn ((pk_cons ha pk_nil).run pos pins s σ H _ I h) fun us s1 ⟨zs, H1, I1, rz, y, ez, q1⟩ => ⟨I1.kIn, ?_⟩
  subst ez
  obtain ⟨u0, rfl, ry⟩ := vals1 rz
  show wpAny _ _ (call (.ref C) [] [(f, u0)]) _ _ _
  obtain ⟨hp, g, dr, tk, os⟩ := s1
  have fresh : H1 (hp.objs.size + 1) = none := I1.hok.fresh (Nat.le_succ _)
  have ask := q1 _ fresh
  have old : ∀ b o, hp.get? b = some o → ((hp.push (PySem.W.kdv_tup [])).push (PySem.HandSPX.excO C hp.objs.size)).get? b = some o := fun b o z => Heap.get?_push_of_some _ (Heap.get?_push_of_some _ z)
  have made : ((hp.push (PySem.W.kdv_tup [])).push (PySem.HandSPX.excO C hp.objs.size)).get? (hp.objs.size + 1) = some (PySem.HandSPX.excO C hp.objs.size) := by heap_get
  have I2 : Inv X pins σ (upd H1 (hp.objs.size + 1) (exo (hp.objs.size + 1) C none)) ⟨(hp.push (PySem.W.kdv_tup [])).push (PySem.HandSPX.excO C hp.objs.size), g, dr, tk, os⟩ := I1.laid (t' := tk) old (Nat.le_succ _) (exo_ok made)
  have r2 : Vals [V.ref (hp.objs.size + 1), y] [Value.ref (hp.objs.size + 1), u0] := .cons rfl (.cons ry .nil)
  refine wpAny_call (LpK.call_ownK hbm (I1.kIn _ _ hC) (PySem.W.looks_findIn I1.kIn iC) (fun self => PySem.W.bind_fn I1.kIn self tI)
    (codeAny_mono (F1.run _ X.stack _ _ ⟨[Value.ref (hp.objs.size + 1)], [(f, u0)]⟩ _ _ _ (fun _ _ _ => False) (hr.make C [] [(f, u0)]) (I2.env0.make C [] [(f, u0)]) (hb _ _ _) r2 ask) fun r s' hq' => ?_))
  cases r with
  | error er => exact False.elim hq'
  | ok fl =>
    cases fl with
    | ret u =>
      obtain ⟨v, H', I3, rv, ev, q3⟩ := I2.after hq'
      subst ev
      exact ⟨rv, ⟨V.ref (hp.objs.size + 1), H', I3, rfl, q3⟩⟩
    | next => exact False.elim hq'
    | brk => exact False.elim hq'
    | cont => exact False.elim hq'
end
end Lp
namespace Lp
open PySem PySem.Spec PySem.Calls PyProof.Rows L2
/-! ### repr of a list of one value twice -/
structure EachD (H : Hp) (y : V) (d : PyData) : Prop where
  sh : d.showable = true
  ln : d.shown.length ≤ 1000
  dp : d.depth ≤ 3
  rd : ∀ (H' : Hp), Same H H' → ∀ (X : Cx) (pins : List (Addr × Obj)) (σ : L2.St) (s : Shared), Inv X pins σ H' s → ∀ u, RelV y u → ∃ as, Reads s.heap u d as ∧ (d.hasDict = true → sysModules ∉ as)
theorem EachD.same {H H' : Hp} {y : V} {d : PyData} (e : EachD H y d) (s : Same H H') : EachD H' y d := ⟨e.sh, e.ln, e.dp, fun G g => e.rd G (s.trans g)⟩
theorem eachD_of {H : Hp} {y : V} {d : PyData} (h1 : d.showable = true) (h2 : d.shown.length ≤ 1000) (h3 : d.depth ≤ 3) (h4 : d.hasDict = false) (k : ∀ (K : PySem.W.Frag) (H' : Hp), Same H H' → Dp K H' y d) : EachD H y d :=
  ⟨h1, h2, h3, fun H' s X pins σ st I u r => by
    obtain ⟨as, q⟩ := Dp.reads I d y u (k X.K H' s) r
    exact ⟨as, q, fun z => by rw [h4] at z; cases z⟩⟩
theorem EachOk.data {H : Hp} {y : V} (e : EachOk H y) : ∃ d, EachD H y d := by
  cases e with
  | non => exact ⟨.none, eachD_of rfl (by decide +kernel) (by decide +kernel) rfl fun _ _ _ => .non⟩
  | fls => exact ⟨.bool false, eachD_of rfl (by decide +kernel) (by decide +kernel) rfl fun _ _ _ => .bl _⟩
  | num i h => exact ⟨.int i, by rcases h with rfl | rfl <;> exact eachD_of (by decide +kernel) (by decide +kernel) (by decide +kernel) rfl fun _ _ _ => .int _⟩
  | txt z h => exact ⟨.str z, by rcases h with rfl | rfl | rfl <;> exact eachD_of rfl (by decide +kernel) (by decide +kernel) rfl fun _ _ _ => .str _⟩
  | l0 h => exact ⟨.list [], eachD_of rfl (by decide +kernel) (by decide +kernel) rfl fun _ _ s => .lst (SqL.of (s _ _ h)) .nil⟩
  | l1 h g => exact ⟨.list [.tuple [.int 0, .int 2]], eachD_of rfl (by decide +kernel) (by decide +kernel) rfl fun _ _ s => .lst (SqL.of (s _ _ h)) (.cons (.tup (SqT.of (s _ _ g)) (.cons (.int _) (.cons (.int _) .nil))) .nil)⟩
  | t0 h => exact ⟨.tuple [], eachD_of rfl (by decide +kernel) (by decide +kernel) rfl fun _ _ s => .tup (SqT.of (s _ _ h)) .nil⟩
  | t1 h => exact ⟨.tuple [.int 4], eachD_of rfl (by decide +kernel) (by decide +kernel) rfl fun _ _ s => .tup (SqT.of (s _ _ h)) (.cons (.int _) .nil)⟩
  | l2 h g => exact ⟨.list [.list [.none]], eachD_of rfl (by decide +kernel) (by decide +kernel) rfl fun _ _ s => .lst (SqL.of (s _ _ h)) (.cons (.lst (SqL.of (s _ _ g)) (.cons .non .nil)) .nil)⟩
  | @d0 a h =>
    refine ⟨.dict [], rfl, by decide +kernel, by decide +kernel, fun H' s X pins σ st I u r => ?_⟩
    cases (show u = Value.ref a from r)
    obtain ⟨_, hs, vs, kv, o, es, ep, ho, hx, hd, hk, hp, _⟩ := (show ObjOk X.prog X.w H' st.heap a (.dK []) from I.hok a _ (s _ _ h))
    cases kv
    have e0 : es.toList = [] := by
      generalize es.toList = l at hp
      cases hp
      rfl
    refine ⟨_, Reads.dict (kvs := []) ho hx.1 hd (by rw [e0]; exact .nil) (by rw [e0]; exact .nil), fun _ z => ?_⟩
    have z' : sysModules = a := by simpa using z
    exact (beq_eq_false_iff_ne.mp hs) z'.symm
  | @d1 a b h g =>
    refine ⟨.dict [(.str "a", .tuple [.int 1])], rfl, by decide +kernel, by decide +kernel, fun H' s X pins σ st I u r => ?_⟩
    cases (show u = Value.ref a from r)
    obtain ⟨_, hs, vs, kv, o, es, ep, ho, hx, hd, hk, hp, _⟩ := (show ObjOk X.prog X.w H' st.heap a (.dK [(.inr "a", .ref b)]) from I.hok a _ (s _ _ h))
    obtain ⟨_, its, rv, o2, ho2, hc2, n2, hd2⟩ := (show ObjOk X.prog X.w H' st.heap b (.tup [.int 1]) from I.hok b _ (s _ _ g))
    obtain ⟨u1, rfl, t1, rfl⟩ := vals1 rv
    cases kv with
    | @cons _ q _ _ hq ht =>
      cases ht
      obtain ⟨k', v'⟩ := q
      obtain ⟨hq1, hq2⟩ := hq
      simp only at hq1 hq2
      subst hq1
      cases (show v' = Value.ref b from hq2)
      have e1 : ∃ en : DictEntry, es.toList = [en] ∧ (∃ t, en.key = .str "a" t) ∧ en.val = .ref b := by
        generalize es.toList = l at hp
        cases hp with
        | @cons en _ _ _ hi hv ht =>
          cases ht
          have hi' : keyIs (.inr "a") en.key = true := hi
          rcases keyIs_shape hi' with ⟨i, t, z1, z2⟩ | ⟨x, t, z1, z2⟩
          · cases z1
          · cases z1
            exact ⟨_, rfl, ⟨t, z2⟩, hv⟩
      obtain ⟨en, el, ⟨tk, ek⟩, ev⟩ := e1
      refine ⟨_, Reads.dict (kvs := [(.str "a", .tuple [.int 1])]) (as := [] ++ []) (bs := [] ++ []) ho hx.1 hd ?_ ?_, fun _ z => ?_⟩
      · rw [el]
        show ReadsAll _ [en.key] _ _
        rw [ek]
        exact .cons (.str _ _) .nil
      · rw [el]
        show ReadsAll _ [en.val] _ _
        rw [ev]
        exact .cons (.tuple ho2 hc2 hd2 (.cons (as := []) (bs := []) (.int _ _) .nil)) .nil
      · have z' : sysModules = a := by simpa using z
        exact (beq_eq_false_iff_ne.mp hs) z'.symm
theorem two_text (t : Str) (h : t.length ≤ 1000) : (listText [t, t]).length ≤ sizeLine := by
  have e : (listText [t, t]).length = 1 + 0 + t.length + 2 + t.length + 1 := by
    show (((("[" : Str) ++ (if (0 : Nat) > 0 then ", " else "" : String) ++ t) ++ (if (0 + 1 : Nat) > 0 then ", " else "" : String) ++ t) ++ "]").length = _
    simp only [strLen_append]
    rfl
  rw [e]
  exact Nat.le_trans (show 1 + 0 + t.length + 2 + t.length + 1 ≤ 2100 by omega) (by decide)
/-- repr([y, y]) -/
def rRep2 : List V → Hp → VK → Prop := fun xs H Q => ∃ p y d, xs = [.ref p] ∧ H p = some (.lst [y, y]) ∧ EachD H y d ∧ Q (.str (PyData.shown (.list [d, d]))) H
theorem call_rep2 {X : Cx} (hg : X.A.guards = some []) (hu : X.A.units + 64 < cLine) : CallR X (.builtin "repr") rRep2 := by
  intro pins s σ H xs us Q I r h
  obtain ⟨p, y, d, rfl, hp, D, q⟩ := h
  obtain ⟨u, rfl, r1⟩ := vals1 r
  cases (show u = Value.ref p from r1)
  obtain ⟨_, its, n, rv, ho⟩ := (show ObjOk X.prog X.w H s.heap p (.lst [y, y]) from I.hok p _ hp)
  obtain ⟨u1, u2, rfl, v1, v2⟩ := vals2 rv
  obtain ⟨as1, R1, z1⟩ := D.rd H (Same.refl H) X pins σ s I u1 v1
  obtain ⟨as2, R2, z2⟩ := D.rd H (Same.refl H) X pins σ s I u2 v2
  have lt : (PyData.shown (.list [d, d])).length ≤ sizeLine := by
    simp only [PyData.shown, PyData.shownAll]
    exact two_text _ D.ln
  obtain ⟨b1, hb1, k1⟩ := ReprK.of_reads (prog := X.prog) (w := X.w) R1 D.sh z1 (Nat.le_trans D.ln (by decide))
  obtain ⟨b2, hb2, k2⟩ := ReprK.of_reads (prog := X.prog) (w := X.w) R2 D.sh z2 (Nat.le_trans D.ln (by decide))
  have R : Reads s.heap (.ref p) (.list [d, d]) _ := .list ho rfl rfl (.cons R1 (.cons R2 .nil))
  have hna : p ∉ b1 ++ b2 := not_mem_of_deeper R (by simp only [PyData.depth, PyData.depthAll]; omega) (hb1.append hb2)
  have l1 := k1.more (as' := b1 ++ b2) fun b hb => List.mem_append_left _ hb
  have l2 := k2.more (as' := b1 ++ b2) fun b hb => List.mem_append_right _ hb
  have dd := D.dp
  have e0 : PyData.shown (.list [d, d]) = listText [d.shown, d.shown] := by simp only [PyData.shown, PyData.shownAll]
  rw [e0] at q lt
  refine call_repr_slot (T := "list") (by omega) ⟨_, ho, rfl⟩ PySem.F.slot_list_repr.toG (call_list_reprK (ts := [d.shown, d.shown]) ho rfl rfl hna rfl (fun i z e => ?_) hg (fun b _ => Clear.nil b) (by show X.A.units + 1 + (d.depth + 1) < cLine; omega) (fun _ _ e => e) (fun h' u tk hk => ⟨_, _, rfl, .str _, H, I.kept hk, ⟨_, rfl⟩, q⟩) lt)
  match i, e with
  | 0, e =>
    cases e
    exact ⟨_, rfl, l1⟩
  | 1, e =>
    cases e
    exact ⟨_, rfl, l2⟩
  | n + 2, e => cases e
end Lp
namespace Lp
open PySem PySem.Spec PySem.Calls PyProof.Rows L2
/-! ### the classes of the errors, in the law's order; 25: their common base -/
def nm : Nat → Str
  | 0 => "BadPrime"
  | 1 => "BadRow"
  | 2 => "BadTable"
  | 3 => "BadChoice"
  | 4 => "BadWord"
  | 5 => "NotFrame"
  | 6 => "NotUndone"
  | 7 => "BadDeed"
  | 8 => "BadLive"
  | 9 => "BadName"
  | 10 => "NothingLeft"
  | 11 => "BadWords"
  | 12 => "BadEnd"
  | 13 => "NotOdd"
  | 14 => "BadRules"
  | 15 => "BadLengths"
  | 16 => "NotLeast"
  | 17 => "BadChange"
  | 18 => "BadNumber"
  | 19 => "BadFrame"
  | 20 => "TooMany"
  | 21 => "BadMany"
  | 22 => "BadLead"
  | 23 => "BadText"
  | 24 => "NoWatch"
  | 25 => "LeftError"
  | _ => ""
def xn : Nat → Str
  | 18 => "part"
  | 19 => "part"
  | 20 => "most"
  | 21 => "part"
  | 22 => "part"
  | 23 => "at"
  | 24 => "name"
  | _ => ""
structure Txt (K : PySem.W.Frag) (mg : Str → Option Value) (c : Nat → Addr) : Prop where
  g : ∀ i, i < 26 → mg (nm i) = some (.ref (c i))
  kp : ∀ i, i < 26 → PySem.W.keepIn K (.ref (c i)) = true
  ec : ∀ i, i < 26 → ExcC K (c i)
  kit : ∀ i, i < 26 → ∀ k, k < 25 → PySem.W.kitOne K (.ref (c i)) (.ref (c k)) = some (decide (i = k))
  left : ∀ i, i < 26 → PySem.W.kitOne K (.ref (c i)) (.ref (c 25)) = some true
  val : ∀ i, i < 26 → PySem.W.kitOne K (.ref (c i)) (.type "ValueError") = some true
  plain : ∀ i, i < 18 ∨ i = 25 → PySem.W.excIn K (c i) [.type "ValueError", .type "Exception", .type "BaseException", .type "object"] "ValueError.__new__" = true
  mI : mg "isinstance" = none
  mV : mg "ValueError" = none
section
variable {P : Program} {w : World} {K : PySem.W.Frag} {mg : Str → Option Value} {base : Heap} {c : Nat → Addr}
/-! ### _law_kinds -/
abbrev sKinds : Stmt := top 34
def row (i : Nat) : List V := [.bl (decide (i = 0)), .bl (decide (i = 1)), .bl (decide (i = 2)), .bl (decide (i = 3)), .bl (decide (i = 4)), .bl (decide (i = 5)), .bl (decide (i = 6)), .bl (decide (i = 7)), .bl (decide (i = 8)), .bl (decide (i = 9)), .bl (decide (i = 10)), .bl (decide (i = 11)), .bl (decide (i = 12)), .bl (decide (i = 13)), .bl (decide (i = 14)), .bl (decide (i = 15)), .bl (decide (i = 16)), .bl (decide (i = 17)), .bl (decide (i = 18)), .bl (decide (i = 19)), .bl (decide (i = 20)), .bl (decide (i = 21)), .bl (decide (i = 22)), .bl (decide (i = 23)), .bl (decide (i = 24))]
def spKinds (c : Nat → Addr) : Sp := fun vs H Q _ => ∃ a i, vs = [.ref a] ∧ i < 26 ∧ Err H a (c i) ∧ ∀ H' p, Same H H' → H p = none → H' p = some (.lst (row i)) → Q (.ref p) H'
def tIs (K : PySem.W.Frag) (C : Addr) : TE := tCB (rIsErr K) (tCons (tVar 0) (tCons (tC (.ref C)) tNil))
theorem is_step {a i k : Nat} {x : Option V} {H : Hp} {Q : VK} (T : Txt K mg c) (hi : i < 26) (hk : k < 25) (e : Err H a (c i)) (h : Q (.bl (decide (i = k))) H) : tIs K (c k) [some (.ref a), x] H Q :=
  ⟨_, rfl, a, c i, .ref (c k), .ref (c k), _, rfl, e, .own _, T.ec i hi, T.kit i hi k hk, h⟩
theorem cat_step {a l : Addr} {xs zs : List V} {H : Hp} {D : Ends} (hl : H l = some (.lst xs)) (hz : xs.length + zs.length ≤ 1000) (p : Addr) (hp : H p = none)
    (k : ∀ H' l', Same H H' → H l' = none → H' l' = some (.lst (xs ++ zs)) → D.nx [some (.ref a), some (.ref l')] H') :
    rCat (.ref l) (.ref p) (upd H p (.lst zs)) fun v H' => gName 1 v [some (.ref a), some (.ref l)] H' D.nx := by
  have s1 : Same H (upd H p (.lst zs)) := same_new hp
  refine ⟨l, p, xs, zs, rfl, rfl, s1 _ _ hl, upd_same, Nat.le_trans hz (by decide), fun q hq => k _ q (s1.trans (same_new hq)) (s1.free hq) upd_same⟩
theorem kinds3 {a i l k1 k2 k3 : Nat} {xs : List V} {H : Hp} {D : Ends} (T : Txt K mg c) (hi : i < 26) (h1 : k1 < 25) (h2 : k2 < 25) (h3 : k3 < 25) (e : Err H a (c i)) (hl : H l = some (.lst xs)) (hx : xs.length ≤ 100)
    (k : ∀ H' l', Same H H' → H l' = none → H' l' = some (.lst (xs ++ [.bl (decide (i = k1)), .bl (decide (i = k2)), .bl (decide (i = k3))])) → D.nx [some (.ref a), some (.ref l')] H') :
    tAsg (tOp rCat (tVar 1) (tLst (tCons (tIs K (c k1)) (tCons (tIs K (c k2)) (tCons (tIs K (c k3)) tNil))))) (gName 1) D [some (.ref a), some (.ref l)] H :=
  ⟨_, rfl, is_step T hi h1 e (is_step T hi h2 e (is_step T hi h3 e ⟨by show 3 ≤ sizeLine; decide, fun p hp => cat_step hl (by show _ + 3 ≤ 1000; omega) p hp k⟩))⟩
theorem kinds1 {a i l k1 : Nat} {xs : List V} {H : Hp} {D : Ends} (T : Txt K mg c) (hi : i < 26) (h1 : k1 < 25) (e : Err H a (c i)) (hl : H l = some (.lst xs)) (hx : xs.length ≤ 100)
    (k : ∀ H' l', Same H H' → H l' = none → H' l' = some (.lst (xs ++ [.bl (decide (i = k1))])) → D.nx [some (.ref a), some (.ref l')] H') :
    tAsg (tOp rCat (tVar 1) (tLst (tCons (tIs K (c k1)) tNil))) (gName 1) D [some (.ref a), some (.ref l)] H :=
  ⟨_, rfl, is_step T hi h1 e ⟨by show 1 ≤ sizeLine; decide, fun p hp => cat_step hl (by show _ + 1 ≤ 1000; omega) p hp k⟩⟩
theorem scKinds : FnScope ["error", "found"] ["error"] (defScope sKinds) := ⟨rfl, rfl, rfl, by decide +kernel, rfl, by decide +kernel, by decide +kernel⟩
theorem ok_kinds {f : Addr} {fd : FuncData} (F : Fun K "_law_kinds" "_law_kinds" sKinds f fd) (T : Txt K mg c) : FnOk P w K mg base CX0 1 f fd ["error"] (spKinds c) := by
  refine F.ok scKinds (fun vs H Q E h => ?_) (fun cdv A outer s H vs Q E hr h => ?_)
  · obtain ⟨a, i, rfl, _⟩ := h
    rfl
  · obtain ⟨a, i, rfl, hi, e, k⟩ := h
    refine ⟨_, (pss_cons (ps_set (i := 1) scKinds.nd rfl (Or.inl rfl) (pe_lst pa_nil))
      (pss_cons (ps_set (i := 1) scKinds.nd rfl (Or.inl rfl) (pe_op op_cat (pv 1) (pe_lst (pa_cons (pe_callB call_isErr (by rfl) T.mI (by decide +kernel) (pa_cons (pv 0) (pa_cons (pe_glob (v := .ref (c 0)) (by rfl) (T.g 0 (by decide)) rfl) pa_nil))) (pa_cons (pe_callB call_isErr (by rfl) T.mI (by decide +kernel) (pa_cons (pv 0) (pa_cons (pe_glob (v := .ref (c 1)) (by rfl) (T.g 1 (by decide)) rfl) pa_nil))) (pa_cons (pe_callB call_isErr (by rfl) T.mI (by decide +kernel) (pa_cons (pv 0) (pa_cons (pe_glob (v := .ref (c 2)) (by rfl) (T.g 2 (by decide)) rfl) pa_nil))) pa_nil))))))
      (pss_cons (ps_set (i := 1) scKinds.nd rfl (Or.inl rfl) (pe_op op_cat (pv 1) (pe_lst (pa_cons (pe_callB call_isErr (by rfl) T.mI (by decide +kernel) (pa_cons (pv 0) (pa_cons (pe_glob (v := .ref (c 3)) (by rfl) (T.g 3 (by decide)) rfl) pa_nil))) (pa_cons (pe_callB call_isErr (by rfl) T.mI (by decide +kernel) (pa_cons (pv 0) (pa_cons (pe_glob (v := .ref (c 4)) (by rfl) (T.g 4 (by decide)) rfl) pa_nil))) (pa_cons (pe_callB call_isErr (by rfl) T.mI (by decide +kernel) (pa_cons (pv 0) (pa_cons (pe_glob (v := .ref (c 5)) (by rfl) (T.g 5 (by decide)) rfl) pa_nil))) pa_nil))))))
      (pss_cons (ps_set (i := 1) scKinds.nd rfl (Or.inl rfl) (pe_op op_cat (pv 1) (pe_lst (pa_cons (pe_callB call_isErr (by rfl) T.mI (by decide +kernel) (pa_cons (pv 0) (pa_cons (pe_glob (v := .ref (c 6)) (by rfl) (T.g 6 (by decide)) rfl) pa_nil))) (pa_cons (pe_callB call_isErr (by rfl) T.mI (by decide +kernel) (pa_cons (pv 0) (pa_cons (pe_glob (v := .ref (c 7)) (by rfl) (T.g 7 (by decide)) rfl) pa_nil))) (pa_cons (pe_callB call_isErr (by rfl) T.mI (by decide +kernel) (pa_cons (pv 0) (pa_cons (pe_glob (v := .ref (c 8)) (by rfl) (T.g 8 (by decide)) rfl) pa_nil))) pa_nil))))))
      (pss_cons (ps_set (i := 1) scKinds.nd rfl (Or.inl rfl) (pe_op op_cat (pv 1) (pe_lst (pa_cons (pe_callB call_isErr (by rfl) T.mI (by decide +kernel) (pa_cons (pv 0) (pa_cons (pe_glob (v := .ref (c 9)) (by rfl) (T.g 9 (by decide)) rfl) pa_nil))) (pa_cons (pe_callB call_isErr (by rfl) T.mI (by decide +kernel) (pa_cons (pv 0) (pa_cons (pe_glob (v := .ref (c 10)) (by rfl) (T.g 10 (by decide)) rfl) pa_nil))) (pa_cons (pe_callB call_isErr (by rfl) T.mI (by decide +kernel) (pa_cons (pv 0) (pa_cons (pe_glob (v := .ref (c 11)) (by rfl) (T.g 11 (by decide)) rfl) pa_nil))) pa_nil))))))
      (pss_cons (ps_set (i := 1) scKinds.nd rfl (Or.inl rfl) (pe_op op_cat (pv 1) (pe_lst (pa_cons (pe_callB call_isErr (by rfl) T.mI (by decide +kernel) (pa_cons (pv 0) (pa_cons (pe_glob (v := .ref (c 12)) (by rfl) (T.g 12 (by decide)) rfl) pa_nil))) (pa_cons (pe_callB call_isErr (by rfl) T.mI (by decide +kernel) (pa_cons (pv 0) (pa_cons (pe_glob (v := .ref (c 13)) (by rfl) (T.g 13 (by decide)) rfl) pa_nil))) (pa_cons (pe_callB call_isErr (by rfl) T.mI (by decide +kernel) (pa_cons (pv 0) (pa_cons (pe_glob (v := .ref (c 14)) (by rfl) (T.g 14 (by decide)) rfl) pa_nil))) pa_nil))))))
      (pss_cons (ps_set (i := 1) scKinds.nd rfl (Or.inl rfl) (pe_op op_cat (pv 1) (pe_lst (pa_cons (pe_callB call_isErr (by rfl) T.mI (by decide +kernel) (pa_cons (pv 0) (pa_cons (pe_glob (v := .ref (c 15)) (by rfl) (T.g 15 (by decide)) rfl) pa_nil))) (pa_cons (pe_callB call_isErr (by rfl) T.mI (by decide +kernel) (pa_cons (pv 0) (pa_cons (pe_glob (v := .ref (c 16)) (by rfl) (T.g 16 (by decide)) rfl) pa_nil))) (pa_cons (pe_callB call_isErr (by rfl) T.mI (by decide +kernel) (pa_cons (pv 0) (pa_cons (pe_glob (v := .ref (c 17)) (by rfl) (T.g 17 (by decide)) rfl) pa_nil))) pa_nil))))))
      (pss_cons (ps_set (i := 1) scKinds.nd rfl (Or.inl rfl) (pe_op op_cat (pv 1) (pe_lst (pa_cons (pe_callB call_isErr (by rfl) T.mI (by decide +kernel) (pa_cons (pv 0) (pa_cons (pe_glob (v := .ref (c 18)) (by rfl) (T.g 18 (by decide)) rfl) pa_nil))) (pa_cons (pe_callB call_isErr (by rfl) T.mI (by decide +kernel) (pa_cons (pv 0) (pa_cons (pe_glob (v := .ref (c 19)) (by rfl) (T.g 19 (by decide)) rfl) pa_nil))) (pa_cons (pe_callB call_isErr (by rfl) T.mI (by decide +kernel) (pa_cons (pv 0) (pa_cons (pe_glob (v := .ref (c 20)) (by rfl) (T.g 20 (by decide)) rfl) pa_nil))) pa_nil))))))
      (pss_cons (ps_set (i := 1) scKinds.nd rfl (Or.inl rfl) (pe_op op_cat (pv 1) (pe_lst (pa_cons (pe_callB call_isErr (by rfl) T.mI (by decide +kernel) (pa_cons (pv 0) (pa_cons (pe_glob (v := .ref (c 21)) (by rfl) (T.g 21 (by decide)) rfl) pa_nil))) (pa_cons (pe_callB call_isErr (by rfl) T.mI (by decide +kernel) (pa_cons (pv 0) (pa_cons (pe_glob (v := .ref (c 22)) (by rfl) (T.g 22 (by decide)) rfl) pa_nil))) (pa_cons (pe_callB call_isErr (by rfl) T.mI (by decide +kernel) (pa_cons (pv 0) (pa_cons (pe_glob (v := .ref (c 23)) (by rfl) (T.g 23 (by decide)) rfl) pa_nil))) pa_nil))))))
      (pss_cons (ps_set (i := 1) scKinds.nd rfl (Or.inl rfl) (pe_op op_cat (pv 1) (pe_lst (pa_cons (pe_callB call_isErr (by rfl) T.mI (by decide +kernel) (pa_cons (pv 0) (pa_cons (pe_glob (v := .ref (c 24)) (by rfl) (T.g 24 (by decide)) rfl) pa_nil))) pa_nil))))
      (pss_one (ps_ret (pv 1))))))))))))), ?_⟩
    refine ⟨by show 0 ≤ sizeLine; decide, fun l0 n0 => ?_⟩
    have s0 := same_new (o := .lst []) n0
    refine kinds3 (k1 := 0) (k2 := 1) (k3 := 2) T hi (by decide) (by decide) (by decide) (e.same s0) upd_same (by show 0 ≤ 100; decide) (fun H1 l1 t1 n1 h1 => ?_)
    have s1 := s0.trans t1
    refine kinds3 (k1 := 3) (k2 := 4) (k3 := 5) T hi (by decide) (by decide) (by decide) (e.same s1) h1 (by show 3 ≤ 100; decide) (fun H2 l2 t2 n2 h2 => ?_)
    have s2 := s1.trans t2
    refine kinds3 (k1 := 6) (k2 := 7) (k3 := 8) T hi (by decide) (by decide) (by decide) (e.same s2) h2 (by show 6 ≤ 100; decide) (fun H3 l3 t3 n3 h3 => ?_)
    have s3 := s2.trans t3
    refine kinds3 (k1 := 9) (k2 := 10) (k3 := 11) T hi (by decide) (by decide) (by decide) (e.same s3) h3 (by show 9 ≤ 100; decide) (fun H4 l4 t4 n4 h4 => ?_)
    have s4 := s3.trans t4
    refine kinds3 (k1 := 12) (k2 := 13) (k3 := 14) T hi (by decide) (by decide) (by decide) (e.same s4) h4 (by show 12 ≤ 100; decide) (fun H5 l5 t5 n5 h5 => ?_)
    have s5 := s4.trans t5
    refine kinds3 (k1 := 15) (k2 := 16) (k3 := 17) T hi (by decide) (by decide) (by decide) (e.same s5) h5 (by show 15 ≤ 100; decide) (fun H6 l6 t6 n6 h6 => ?_)
    have s6 := s5.trans t6
    refine kinds3 (k1 := 18) (k2 := 19) (k3 := 20) T hi (by decide) (by decide) (by decide) (e.same s6) h6 (by show 18 ≤ 100; decide) (fun H7 l7 t7 n7 h7 => ?_)
    have s7 := s6.trans t7
    refine kinds3 (k1 := 21) (k2 := 22) (k3 := 23) T hi (by decide) (by decide) (by decide) (e.same s7) h7 (by show 21 ≤ 100; decide) (fun H8 l8 t8 n8 h8 => ?_)
    have s8 := s7.trans t8
    refine kinds1 (k1 := 24) T hi (by decide) (e.same s8) h8 (by show 24 ≤ 100; decide) (fun H9 l9 t9 n9 h9 => ?_)
    have s9 := s8.trans t9
    exact ⟨_, rfl, k _ _ s9 (s8.free n9) h9⟩
/-! ### _law_plain_errors -/
abbrev sPlain : Stmt := top 35
def spPlain (c : Nat → Addr) : Sp := fun vs H Q _ => ∃ z, vs = [.str z] ∧ ∀ (H' : Hp) (p : Addr) (as : List Addr), Same H H' → H p = none → H' p = some (.lst (as.map V.ref)) → as.length = 18 → (∀ i a, as[i]? = some a → Err H' a (c i)) → Q (.ref p) H'
def tNew (C : Addr) : TE := fun σ H Q => tVar 0 σ H fun _ H1 => ∀ a, H1 a = none → Q (.ref a) (upd H1 a (ExO (.ref C) a))
/-- a list of errors of the classes c 0, c 1, .. -/
def Errs (c : Nat → Addr) (H : Hp) (as : List Addr) : Prop := ∀ i a, as[i]? = some a → Err H a (c i)
theorem Errs.same {H H' : Hp} {as : List Addr} (e : Errs c H as) (s : Same H H') : Errs c H' as := fun i a h => (e i a h).same s
theorem Errs.more {H : Hp} {as : List Addr} {a : Addr} (e : Errs c H as) (h : Err H a (c as.length)) : Errs c H (as ++ [a]) := fun i b hb => by
  by_cases hi : i < as.length
  · rw [List.getElem?_append_left hi] at hb
    exact e i b hb
  · rw [List.getElem?_append_right (by omega)] at hb
    have h0 : i - as.length = 0 := by
      cases z : i - as.length with
      | zero => rfl
      | succ n => rw [z] at hb; cases hb
    rw [h0] at hb
    cases hb
    have : i = as.length := by omega
    rw [this]
    exact h
theorem new_step {z : Str} {x : Option V} {C : Addr} {H : Hp} {Q : VK} (h : ∀ a, H a = none → Q (.ref a) (upd H a (ExO (.ref C) a))) : tNew C [some (.str z), x] H Q := ⟨_, rfl, h⟩
theorem cat_stepP {z : Str} {l : Addr} {xs zs : List V} {H : Hp} {D : Ends} (hl : H l = some (.lst xs)) (hz : xs.length + zs.length ≤ 1000) (p : Addr) (hp : H p = none)
    (k : ∀ H' l', Same H H' → H l' = none → H' l' = some (.lst (xs ++ zs)) → D.nx [some (.str z), some (.ref l')] H') :
    rCat (.ref l) (.ref p) (upd H p (.lst zs)) fun v H' => gName 1 v [some (.str z), some (.ref l)] H' D.nx := by
  have s1 : Same H (upd H p (.lst zs)) := same_new hp
  refine ⟨l, p, xs, zs, rfl, rfl, s1 _ _ hl, upd_same, Nat.le_trans hz (by decide), fun q hq => k _ q (s1.trans (same_new hq)) (s1.free hq) upd_same⟩
theorem plain4 {z : Str} {l k1 k2 k3 k4 : Nat} {as : List Addr} {H : Hp} {D : Ends} (e1 : k1 = as.length + 0) (e2 : k2 = as.length + 1) (e3 : k3 = as.length + 2) (e4 : k4 = as.length + 3) (hl : H l = some (.lst (as.map V.ref))) (hx : as.length ≤ 100) (he : Errs c H as)
    (k : ∀ (H' : Hp) (l' : Addr) (bs : List Addr), Same H H' → H l' = none → H' l' = some (.lst (bs.map V.ref)) → bs.length = as.length + 4 → Errs c H' bs → D.nx [some (.str z), some (.ref l')] H') :
    tAsg (tOp rCat (tVar 1) (tLst (tCons (tNew (c k1)) (tCons (tNew (c k2)) (tCons (tNew (c k3)) (tCons (tNew (c k4)) tNil)))))) (gName 1) D [some (.str z), some (.ref l)] H := by
  refine ⟨_, rfl, ⟨_, rfl, fun a1 n1 => ⟨_, rfl, fun a2 n2 => ⟨_, rfl, fun a3 n3 => ⟨_, rfl, fun a4 n4 => ⟨by show 4 ≤ sizeLine; decide, fun p hp => ?_⟩⟩⟩⟩⟩⟩
  have s1 := same_new (o := ExO (.ref (c k1)) a1) n1
  have s2 := same_new (o := ExO (.ref (c k2)) a2) n2
  have s3 := same_new (o := ExO (.ref (c k3)) a3) n3
  have s4 := same_new (o := ExO (.ref (c k4)) a4) n4
  have t2 := s1.trans s2
  have t3 := t2.trans s3
  have t4 := t3.trans s4
  refine cat_stepP (t4 _ _ hl) (by rw [List.length_map]; show _ + 4 ≤ 1000; omega) p hp (fun H' l' s' n' h' => k H' l' (as ++ [a1, a2, a3, a4]) (t4.trans s') (t4.free n') (by rw [h', List.map_append]; rfl) (by rw [List.length_append]; rfl) ?_)
  refine Errs.same (H := _) ?_ s'
  have z0 := he.same t4
  have z1 := z0.more (a := a1) (by rw [show (as).length = k1 by omega]; exact .inl (((s2.trans s3).trans s4) _ _ upd_same))
  have z2 := z1.more (a := a2) (by rw [show ((as ++ [a1])).length = k2 by simp only [List.length_append, List.length_cons, List.length_nil]; omega]; exact .inl ((s3.trans s4) _ _ upd_same))
  have z3 := z2.more (a := a3) (by rw [show (((as ++ [a1]) ++ [a2])).length = k3 by simp only [List.length_append, List.length_cons, List.length_nil]; omega]; exact .inl (s4 _ _ upd_same))
  have z4 := z3.more (a := a4) (by rw [show ((((as ++ [a1]) ++ [a2]) ++ [a3])).length = k4 by simp only [List.length_append, List.length_cons, List.length_nil]; omega]; exact .inl (upd_same))
  simpa only [List.append_assoc, List.cons_append, List.nil_append] using z4
theorem plain2 {z : Str} {l k1 k2 : Nat} {as : List Addr} {H : Hp} {D : Ends} (e1 : k1 = as.length + 0) (e2 : k2 = as.length + 1) (hl : H l = some (.lst (as.map V.ref))) (hx : as.length ≤ 100) (he : Errs c H as)
    (k : ∀ (H' : Hp) (l' : Addr) (bs : List Addr), Same H H' → H l' = none → H' l' = some (.lst (bs.map V.ref)) → bs.length = as.length + 2 → Errs c H' bs → D.nx [some (.str z), some (.ref l')] H') :
    tAsg (tOp rCat (tVar 1) (tLst (tCons (tNew (c k1)) (tCons (tNew (c k2)) tNil)))) (gName 1) D [some (.str z), some (.ref l)] H := by
  refine ⟨_, rfl, ⟨_, rfl, fun a1 n1 => ⟨_, rfl, fun a2 n2 => ⟨by show 2 ≤ sizeLine; decide, fun p hp => ?_⟩⟩⟩⟩
  have s1 := same_new (o := ExO (.ref (c k1)) a1) n1
  have s2 := same_new (o := ExO (.ref (c k2)) a2) n2
  have t2 := s1.trans s2
  refine cat_stepP (t2 _ _ hl) (by rw [List.length_map]; show _ + 2 ≤ 1000; omega) p hp (fun H' l' s' n' h' => k H' l' (as ++ [a1, a2]) (t2.trans s') (t2.free n') (by rw [h', List.map_append]; rfl) (by rw [List.length_append]; rfl) ?_)
  refine Errs.same (H := _) ?_ s'
  have z0 := he.same t2
  have z1 := z0.more (a := a1) (by rw [show (as).length = k1 by omega]; exact .inl (s2 _ _ upd_same))
  have z2 := z1.more (a := a2) (by rw [show ((as ++ [a1])).length = k2 by simp only [List.length_append, List.length_cons, List.length_nil]; omega]; exact .inl (upd_same))
  simpa only [List.append_assoc, List.cons_append, List.nil_append] using z2
theorem scPlain : FnScope ["words_here", "found"] ["words_here"] (defScope sPlain) := ⟨rfl, rfl, rfl, by decide +kernel, rfl, by decide +kernel, by decide +kernel⟩
theorem ok_plain {f : Addr} {fd : FuncData} (F : Fun K "_law_plain_errors" "_law_plain_errors" sPlain f fd) (T : Txt K mg c) : FnOk P w K mg base CX0 1 f fd ["words_here"] (spPlain c) := by
  refine F.ok scPlain (fun vs H Q E h => ?_) (fun cdv A outer s H vs Q E hr h => ?_)
  · obtain ⟨z, rfl, _⟩ := h
    rfl
  · obtain ⟨z, rfl, k⟩ := h
    refine ⟨_, (pss_cons (ps_set (i := 1) scPlain.nd rfl (Or.inl rfl) (pe_lst pa_nil))
      (pss_cons (ps_set (i := 1) scPlain.nd rfl (Or.inl rfl) (pe_op op_cat (pv 1) (pe_lst (pa_cons (pe_exc1 PySem.F.excBase_ValueError (T.plain 0 (.inl (by decide))) (T.g 0 (by decide)) (T.kp 0 (by decide)) (by rfl) (pv 0)) (pa_cons (pe_exc1 PySem.F.excBase_ValueError (T.plain 1 (.inl (by decide))) (T.g 1 (by decide)) (T.kp 1 (by decide)) (by rfl) (pv 0)) (pa_cons (pe_exc1 PySem.F.excBase_ValueError (T.plain 2 (.inl (by decide))) (T.g 2 (by decide)) (T.kp 2 (by decide)) (by rfl) (pv 0)) (pa_cons (pe_exc1 PySem.F.excBase_ValueError (T.plain 3 (.inl (by decide))) (T.g 3 (by decide)) (T.kp 3 (by decide)) (by rfl) (pv 0)) pa_nil)))))))
      (pss_cons (ps_set (i := 1) scPlain.nd rfl (Or.inl rfl) (pe_op op_cat (pv 1) (pe_lst (pa_cons (pe_exc1 PySem.F.excBase_ValueError (T.plain 4 (.inl (by decide))) (T.g 4 (by decide)) (T.kp 4 (by decide)) (by rfl) (pv 0)) (pa_cons (pe_exc1 PySem.F.excBase_ValueError (T.plain 5 (.inl (by decide))) (T.g 5 (by decide)) (T.kp 5 (by decide)) (by rfl) (pv 0)) (pa_cons (pe_exc1 PySem.F.excBase_ValueError (T.plain 6 (.inl (by decide))) (T.g 6 (by decide)) (T.kp 6 (by decide)) (by rfl) (pv 0)) (pa_cons (pe_exc1 PySem.F.excBase_ValueError (T.plain 7 (.inl (by decide))) (T.g 7 (by decide)) (T.kp 7 (by decide)) (by rfl) (pv 0)) pa_nil)))))))
      (pss_cons (ps_set (i := 1) scPlain.nd rfl (Or.inl rfl) (pe_op op_cat (pv 1) (pe_lst (pa_cons (pe_exc1 PySem.F.excBase_ValueError (T.plain 8 (.inl (by decide))) (T.g 8 (by decide)) (T.kp 8 (by decide)) (by rfl) (pv 0)) (pa_cons (pe_exc1 PySem.F.excBase_ValueError (T.plain 9 (.inl (by decide))) (T.g 9 (by decide)) (T.kp 9 (by decide)) (by rfl) (pv 0)) (pa_cons (pe_exc1 PySem.F.excBase_ValueError (T.plain 10 (.inl (by decide))) (T.g 10 (by decide)) (T.kp 10 (by decide)) (by rfl) (pv 0)) (pa_cons (pe_exc1 PySem.F.excBase_ValueError (T.plain 11 (.inl (by decide))) (T.g 11 (by decide)) (T.kp 11 (by decide)) (by rfl) (pv 0)) pa_nil)))))))
      (pss_cons (ps_set (i := 1) scPlain.nd rfl (Or.inl rfl) (pe_op op_cat (pv 1) (pe_lst (pa_cons (pe_exc1 PySem.F.excBase_ValueError (T.plain 12 (.inl (by decide))) (T.g 12 (by decide)) (T.kp 12 (by decide)) (by rfl) (pv 0)) (pa_cons (pe_exc1 PySem.F.excBase_ValueError (T.plain 13 (.inl (by decide))) (T.g 13 (by decide)) (T.kp 13 (by decide)) (by rfl) (pv 0)) (pa_cons (pe_exc1 PySem.F.excBase_ValueError (T.plain 14 (.inl (by decide))) (T.g 14 (by decide)) (T.kp 14 (by decide)) (by rfl) (pv 0)) (pa_cons (pe_exc1 PySem.F.excBase_ValueError (T.plain 15 (.inl (by decide))) (T.g 15 (by decide)) (T.kp 15 (by decide)) (by rfl) (pv 0)) pa_nil)))))))
      (pss_cons (ps_set (i := 1) scPlain.nd rfl (Or.inl rfl) (pe_op op_cat (pv 1) (pe_lst (pa_cons (pe_exc1 PySem.F.excBase_ValueError (T.plain 16 (.inl (by decide))) (T.g 16 (by decide)) (T.kp 16 (by decide)) (by rfl) (pv 0)) (pa_cons (pe_exc1 PySem.F.excBase_ValueError (T.plain 17 (.inl (by decide))) (T.g 17 (by decide)) (T.kp 17 (by decide)) (by rfl) (pv 0)) pa_nil)))))
      (pss_one (ps_ret (pv 1))))))))), ?_⟩
    refine ⟨by show 0 ≤ sizeLine; decide, fun l0 n0 => ?_⟩
    have s0 := same_new (o := .lst []) n0
    have e0 : Errs c (upd H l0 (.lst [])) [] := fun i a h => nomatch h
    have h0 : (upd H l0 (.lst [])) l0 = some (.lst (([] : List Addr).map V.ref)) := upd_same
    have b0 : ([] : List Addr).length = 0 := rfl
    refine plain4 (k1 := 0) (k2 := 1) (k3 := 2) (k4 := 3) (by omega) (by omega) (by omega) (by omega) h0 (by omega) e0 (fun H1 l1 as1 t1 n1 h1 b1 e1 => ?_)
    have s1 := s0.trans t1
    refine plain4 (k1 := 4) (k2 := 5) (k3 := 6) (k4 := 7) (by omega) (by omega) (by omega) (by omega) h1 (by omega) e1 (fun H2 l2 as2 t2 n2 h2 b2 e2 => ?_)
    have s2 := s1.trans t2
    refine plain4 (k1 := 8) (k2 := 9) (k3 := 10) (k4 := 11) (by omega) (by omega) (by omega) (by omega) h2 (by omega) e2 (fun H3 l3 as3 t3 n3 h3 b3 e3 => ?_)
    have s3 := s2.trans t3
    refine plain4 (k1 := 12) (k2 := 13) (k3 := 14) (k4 := 15) (by omega) (by omega) (by omega) (by omega) h3 (by omega) e3 (fun H4 l4 as4 t4 n4 h4 b4 e4 => ?_)
    have s4 := s3.trans t4
    refine plain2 (k1 := 16) (k2 := 17) (by omega) (by omega) h4 (by omega) e4 (fun H5 l5 as5 t5 n5 h5 b5 e5 => ?_)
    have s5 := s4.trans t5
    exact ⟨_, rfl, k _ _ as5 s5 (s4.free n5) h5 (by omega) e5⟩
end
end Lp
namespace Lp
open PySem PySem.Spec PySem.Calls PyProof.Rows L2
/-! ### _law_errors_of -/
abbrev sErrs : Stmt := top 36
/-- a class with an attribute of its own: all that making one asks -/
structure Mk1 (P : Program) (w : World) (K : PySem.W.Frag) (mg : Str → Option Value) (base : Heap) (C : Addr) (x : Str) (fI : Addr) (fd : FuncData) : Prop where
  ox : OexC K C
  iC : PySem.W.findIn K (.ref C) "__init__" = some (some (.ref fI))
  tI : PySem.W.typeIn K (.ref fI) = some (.type "function")
  ok : FnOk P w K mg base CX0 3 fI fd ["self", x] (spInit C x)
  b : Binds K fd ["self", x] []
  kb : ∀ (s : Shared) (u v : Value), BindsTo s fd ⟨[u], [(x, v)]⟩ ((["self", x] : List Str).zip [u, v])
  att : AttT K C x
section
variable {P : Program} {w : World} {K : PySem.W.Frag} {mg : Str → Option Value} {base : Heap} {c : Nat → Addr} {fi : Nat → Addr} {fds : Nat → FuncData}
def Threes (c : Nat → Addr) (y : V) (H : Hp) (ts : List Addr) : Prop := ∀ (j : Nat) (t : Addr), ts[j]? = some t → ∃ a, H t = some (.tup [.ref a, y, y]) ∧ Err H a (c (18 + j))
def ButL (l : Addr) (H H' : Hp) : Prop := ∀ b o, H b = some o → b ≠ l → H' b = some o
theorem err_but {H H' : Hp} {l a C : Addr} {xs : List V} (e : Err H a C) (hl : H l = some (.lst xs)) (s : ButL l H H') : Err H' a C := by
  rcases e with e | ⟨dx, e, fs, g⟩
  · exact .inl (s _ _ e (ne_of e hl (fun z => nomatch z)))
  · exact .inr ⟨dx, s _ _ e (ne_of e hl (fun z => nomatch z)), fs, s _ _ g (ne_of g hl (fun z => nomatch z))⟩
theorem Threes.but {y : V} {H H' : Hp} {l : Addr} {xs : List V} {ts : List Addr} (T : Threes c y H ts) (hl : H l = some (.lst xs)) (s : ButL l H H') : Threes c y H' ts := fun j t h => by
  obtain ⟨a, h1, h2⟩ := T j t h
  exact ⟨a, s _ _ h1 (ne_of h1 hl (fun z => nomatch z)), err_but h2 hl s⟩
theorem Threes.more {y : V} {H : Hp} {ts : List Addr} {t a : Addr} (T : Threes c y H ts) (h1 : H t = some (.tup [.ref a, y, y])) (h2 : Err H a (c (18 + ts.length))) : Threes c y H (ts ++ [t]) := fun j b hb => by
  by_cases hi : j < ts.length
  · rw [List.getElem?_append_left hi] at hb
    exact T j b hb
  · rw [List.getElem?_append_right (by omega)] at hb
    have h0 : j - ts.length = 0 := by
      cases z : j - ts.length with
      | zero => rfl
      | succ n => rw [z] at hb; cases hb
    rw [h0] at hb
    cases hb
    have e : j = ts.length := by omega
    rw [e]
    exact ⟨a, h1, h2⟩
/-- a new error of class C with y in x: what stands behind it -/
theorem init_same {H H1 : Hp} {a C : Addr} (na : H a = none) (s1 : ∀ b o, (upd H a (exo a C none)) b = some o → b ≠ a → H1 b = some o) : Same H H1 := fun b o h =>
  s1 b o (by rw [upd_ne (ne_of_none h na)]; exact h) (ne_of_none h na)
def tErr (K : PySem.W.Frag) (C : Addr) (x : Str) : TS := tDrop (tBM K "list" rAppend (tVar 1) (tCons (tTup (tCons (tMkV C (spInit C x) (tCons (tVar 0) tNil)) (tCons (tXf2 K x (tMkV C (spInit C x) (tCons (tVar 0) tNil))) (tCons (tXf2 K x (tMkK C (spInit C x) (tVar 0))) tNil)))) tNil))
theorem look1 (x : Str) (y : V) : List.lookup x [(x, y)] = some y := by simp [List.lookup]
theorem err_step {y : V} {l C : Addr} {x : Str} {ts : List Addr} {H0 H : Hp} {D : Ends} (A : AttT K C x) (hC : C = c (18 + ts.length)) (e : EachOk H0 y) (s : Same H0 H) (n : H0 l = none) (hl : H l = some (.lst (ts.map V.ref))) (hz : ts.length ≤ 100) (T : Threes c y H ts)
    (k : ∀ (H' : Hp) (t : Addr), Same H0 H' → H' l = some (.lst ((ts ++ [t]).map V.ref)) → Threes c y H' (ts ++ [t]) → D.nx [some y, some (.ref l)] H') : tErr K C x D [some y, some (.ref l)] H := by
  refine ⟨_, rfl, .inl ⟨rfl, _, SqL.of hl⟩, ?_⟩
  refine ⟨_, rfl, by show 1 ≤ 1000; decide, fun a1 n1 => ⟨a1, y, rfl, upd_same, ((e.same s).told).same (same_new n1), fun H1 d1 h1 g1 m1 s1 => ⟨rfl, ?_⟩⟩⟩
  have z1 := init_same n1 s1
  refine ⟨_, rfl, by show 1 ≤ 1000; decide, fun a2 n2 => ⟨a2, y, rfl, upd_same, ((e.same (s.trans z1)).told).same (same_new n2), fun H2 d2 h2 g2 m2 s2 => ⟨rfl, ?_⟩⟩⟩
  have z2 := init_same n2 s2
  refine ⟨a2, C, d2, _, y, rfl, A, h2, g2, look1 x y, ?_⟩
  refine ⟨_, rfl, y, rfl, fun a3 n3 => ⟨a3, y, rfl, upd_same, ((e.same ((s.trans z1).trans z2)).told).same (same_new n3), fun H3 d3 h3 g3 m3 s3 => ⟨rfl, ?_⟩⟩⟩
  have z3 := init_same n3 s3
  refine ⟨a3, C, d3, _, y, rfl, A, h3, g3, look1 x y, ?_⟩
  refine ⟨by show 3 ≤ sizeLine; decide, fun t nt => ?_⟩
  have z13 : Same H H3 := (z1.trans z2).trans z3
  have z4 := same_new (o := .tup [.ref a1, y, y]) nt
  have hl4 := (z13.trans z4) _ _ hl
  refine ⟨l, _, .ref t, rfl, rfl, hl4, by rw [List.length_map]; exact small1000 (by omega), ?_⟩
  have bl : ButL l (upd H3 t (.tup [.ref a1, y, y])) (upd (upd H3 t (.tup [.ref a1, y, y])) l (.lst (ts.map V.ref ++ [.ref t]))) := fun b o h nb => by
    rw [upd_ne nb]
    exact h
  have ea : Err H1 a1 C := .inr ⟨d1, h1, _, g1⟩
  have T4 : Threes c y (upd H3 t (.tup [.ref a1, y, y])) ts := T.but hl fun b o h _ => (z13.trans z4) b o h
  have T5 := T4.more (t := t) (a := a1) upd_same (by rw [← hC]; exact (((ea.same z2).same z3).same z4))
  refine k _ t ?_ (by rw [upd_same, List.map_append]; rfl) (T5.but hl4 bl)
  intro b o h
  rw [upd_ne (ne_of_none h n)]
  exact (s.trans (z13.trans z4)) b o h
def spErrs (c : Nat → Addr) : Sp := fun vs H Q _ => ∃ y, vs = [y] ∧ EachOk H y ∧ ∀ (H' : Hp) (p : Addr) (ts : List Addr), Same H H' → H p = none → H' p = some (.lst (ts.map V.ref)) → ts.length = 7 → Threes c y H' ts → Q (.ref p) H'
theorem scErrs : FnScope ["each", "found"] ["each"] (defScope sErrs) := ⟨rfl, rfl, rfl, by decide +kernel, rfl, by decide +kernel, by decide +kernel⟩
theorem ok_errs {f : Addr} {fd : FuncData} (F : Fun K "_law_errors_of" "_law_errors_of" sErrs f fd) (T : Txt K mg c) (M : ∀ j, j < 7 → Mk1 P w K mg base (c (18 + j)) (xn (18 + j)) (fi j) (fds j)) : FnOk P w K mg base CX0 5 f fd ["each"] (spErrs c) := by
  refine F.ok scErrs (fun vs H Q E h => ?_) (fun cdv A outer s H vs Q E hr h => ?_)
  · obtain ⟨y, rfl, _⟩ := h
    rfl
  · obtain ⟨y, rfl, e, k⟩ := h
    refine ⟨_, (pss_cons (ps_set (i := 1) scErrs.nd rfl (Or.inl rfl) (pe_lst pa_nil))
      (pss_cons (ps_expr (pe_bm PySem.F.plainAttrs_list PySem.F.slot_list_append PySem.F.type_list_append mt_append (pv 1) (pa_cons (pe_tup (pa_cons (pe_mkv (M 0 (by decide)).ox (M 0 (by decide)).iC (M 0 (by decide)).tI (M 0 (by decide)).ok hr (M 0 (by decide)).b (by rfl) (T.g 18 (by decide)) (pa_cons (pv 0) pa_nil)) (pa_cons (pe_xf2 (pe_mkv (M 0 (by decide)).ox (M 0 (by decide)).iC (M 0 (by decide)).tI (M 0 (by decide)).ok hr (M 0 (by decide)).b (by rfl) (T.g 18 (by decide)) (pa_cons (pv 0) pa_nil))) (pa_cons (pe_xf2 (pe_mkk (M 0 (by decide)).ox (M 0 (by decide)).iC (M 0 (by decide)).tI (M 0 (by decide)).ok hr (M 0 (by decide)).kb (by rfl) (T.g 18 (by decide)) (pv 0))) pa_nil)))) pa_nil)))
      (pss_cons (ps_expr (pe_bm PySem.F.plainAttrs_list PySem.F.slot_list_append PySem.F.type_list_append mt_append (pv 1) (pa_cons (pe_tup (pa_cons (pe_mkv (M 1 (by decide)).ox (M 1 (by decide)).iC (M 1 (by decide)).tI (M 1 (by decide)).ok hr (M 1 (by decide)).b (by rfl) (T.g 19 (by decide)) (pa_cons (pv 0) pa_nil)) (pa_cons (pe_xf2 (pe_mkv (M 1 (by decide)).ox (M 1 (by decide)).iC (M 1 (by decide)).tI (M 1 (by decide)).ok hr (M 1 (by decide)).b (by rfl) (T.g 19 (by decide)) (pa_cons (pv 0) pa_nil))) (pa_cons (pe_xf2 (pe_mkk (M 1 (by decide)).ox (M 1 (by decide)).iC (M 1 (by decide)).tI (M 1 (by decide)).ok hr (M 1 (by decide)).kb (by rfl) (T.g 19 (by decide)) (pv 0))) pa_nil)))) pa_nil)))
      (pss_cons (ps_expr (pe_bm PySem.F.plainAttrs_list PySem.F.slot_list_append PySem.F.type_list_append mt_append (pv 1) (pa_cons (pe_tup (pa_cons (pe_mkv (M 2 (by decide)).ox (M 2 (by decide)).iC (M 2 (by decide)).tI (M 2 (by decide)).ok hr (M 2 (by decide)).b (by rfl) (T.g 20 (by decide)) (pa_cons (pv 0) pa_nil)) (pa_cons (pe_xf2 (pe_mkv (M 2 (by decide)).ox (M 2 (by decide)).iC (M 2 (by decide)).tI (M 2 (by decide)).ok hr (M 2 (by decide)).b (by rfl) (T.g 20 (by decide)) (pa_cons (pv 0) pa_nil))) (pa_cons (pe_xf2 (pe_mkk (M 2 (by decide)).ox (M 2 (by decide)).iC (M 2 (by decide)).tI (M 2 (by decide)).ok hr (M 2 (by decide)).kb (by rfl) (T.g 20 (by decide)) (pv 0))) pa_nil)))) pa_nil)))
      (pss_cons (ps_expr (pe_bm PySem.F.plainAttrs_list PySem.F.slot_list_append PySem.F.type_list_append mt_append (pv 1) (pa_cons (pe_tup (pa_cons (pe_mkv (M 3 (by decide)).ox (M 3 (by decide)).iC (M 3 (by decide)).tI (M 3 (by decide)).ok hr (M 3 (by decide)).b (by rfl) (T.g 21 (by decide)) (pa_cons (pv 0) pa_nil)) (pa_cons (pe_xf2 (pe_mkv (M 3 (by decide)).ox (M 3 (by decide)).iC (M 3 (by decide)).tI (M 3 (by decide)).ok hr (M 3 (by decide)).b (by rfl) (T.g 21 (by decide)) (pa_cons (pv 0) pa_nil))) (pa_cons (pe_xf2 (pe_mkk (M 3 (by decide)).ox (M 3 (by decide)).iC (M 3 (by decide)).tI (M 3 (by decide)).ok hr (M 3 (by decide)).kb (by rfl) (T.g 21 (by decide)) (pv 0))) pa_nil)))) pa_nil)))
      (pss_cons (ps_expr (pe_bm PySem.F.plainAttrs_list PySem.F.slot_list_append PySem.F.type_list_append mt_append (pv 1) (pa_cons (pe_tup (pa_cons (pe_mkv (M 4 (by decide)).ox (M 4 (by decide)).iC (M 4 (by decide)).tI (M 4 (by decide)).ok hr (M 4 (by decide)).b (by rfl) (T.g 22 (by decide)) (pa_cons (pv 0) pa_nil)) (pa_cons (pe_xf2 (pe_mkv (M 4 (by decide)).ox (M 4 (by decide)).iC (M 4 (by decide)).tI (M 4 (by decide)).ok hr (M 4 (by decide)).b (by rfl) (T.g 22 (by decide)) (pa_cons (pv 0) pa_nil))) (pa_cons (pe_xf2 (pe_mkk (M 4 (by decide)).ox (M 4 (by decide)).iC (M 4 (by decide)).tI (M 4 (by decide)).ok hr (M 4 (by decide)).kb (by rfl) (T.g 22 (by decide)) (pv 0))) pa_nil)))) pa_nil)))
      (pss_cons (ps_expr (pe_bm PySem.F.plainAttrs_list PySem.F.slot_list_append PySem.F.type_list_append mt_append (pv 1) (pa_cons (pe_tup (pa_cons (pe_mkv (M 5 (by decide)).ox (M 5 (by decide)).iC (M 5 (by decide)).tI (M 5 (by decide)).ok hr (M 5 (by decide)).b (by rfl) (T.g 23 (by decide)) (pa_cons (pv 0) pa_nil)) (pa_cons (pe_xf2 (pe_mkv (M 5 (by decide)).ox (M 5 (by decide)).iC (M 5 (by decide)).tI (M 5 (by decide)).ok hr (M 5 (by decide)).b (by rfl) (T.g 23 (by decide)) (pa_cons (pv 0) pa_nil))) (pa_cons (pe_xf2 (pe_mkk (M 5 (by decide)).ox (M 5 (by decide)).iC (M 5 (by decide)).tI (M 5 (by decide)).ok hr (M 5 (by decide)).kb (by rfl) (T.g 23 (by decide)) (pv 0))) pa_nil)))) pa_nil)))
      (pss_cons (ps_expr (pe_bm PySem.F.plainAttrs_list PySem.F.slot_list_append PySem.F.type_list_append mt_append (pv 1) (pa_cons (pe_tup (pa_cons (pe_mkv (M 6 (by decide)).ox (M 6 (by decide)).iC (M 6 (by decide)).tI (M 6 (by decide)).ok hr (M 6 (by decide)).b (by rfl) (T.g 24 (by decide)) (pa_cons (pv 0) pa_nil)) (pa_cons (pe_xf2 (pe_mkv (M 6 (by decide)).ox (M 6 (by decide)).iC (M 6 (by decide)).tI (M 6 (by decide)).ok hr (M 6 (by decide)).b (by rfl) (T.g 24 (by decide)) (pa_cons (pv 0) pa_nil))) (pa_cons (pe_xf2 (pe_mkk (M 6 (by decide)).ox (M 6 (by decide)).iC (M 6 (by decide)).tI (M 6 (by decide)).ok hr (M 6 (by decide)).kb (by rfl) (T.g 24 (by decide)) (pv 0))) pa_nil)))) pa_nil)))
      (pss_one (ps_ret (pv 1))))))))))), ?_⟩
    refine ⟨by show 0 ≤ sizeLine; decide, fun l n => ?_⟩
    have s0 := same_new (o := .lst []) n
    have T0 : Threes c y (upd H l (.lst [])) [] := fun i a h => nomatch h
    have h0 : (upd H l (.lst [])) l = some (.lst (([] : List Addr).map V.ref)) := upd_same
    refine err_step (ts := []) (M 0 (by decide)).att rfl e s0 n h0 (by show 0 ≤ 100; decide) T0 (fun H1 t1 s1 h1 T1 => ?_)
    refine err_step (ts := [t1]) (M 1 (by decide)).att rfl e s1 n h1 (by show 1 ≤ 100; decide) T1 (fun H2 t2 s2 h2 T2 => ?_)
    refine err_step (ts := [t1, t2]) (M 2 (by decide)).att rfl e s2 n h2 (by show 2 ≤ 100; decide) T2 (fun H3 t3 s3 h3 T3 => ?_)
    refine err_step (ts := [t1, t2, t3]) (M 3 (by decide)).att rfl e s3 n h3 (by show 3 ≤ 100; decide) T3 (fun H4 t4 s4 h4 T4 => ?_)
    refine err_step (ts := [t1, t2, t3, t4]) (M 4 (by decide)).att rfl e s4 n h4 (by show 4 ≤ 100; decide) T4 (fun H5 t5 s5 h5 T5 => ?_)
    refine err_step (ts := [t1, t2, t3, t4, t5]) (M 5 (by decide)).att rfl e s5 n h5 (by show 5 ≤ 100; decide) T5 (fun H6 t6 s6 h6 T6 => ?_)
    refine err_step (ts := [t1, t2, t3, t4, t5, t6]) (M 6 (by decide)).att rfl e s6 n h6 (by show 6 ≤ 100; decide) T6 (fun H7 t7 s7 h7 T7 => ?_)
    exact ⟨_, rfl, k _ _ _ s7 n h7 rfl T7⟩
end
end Lp
namespace Lp
open PySem PySem.Spec PySem.Calls PyProof.Rows L2
abbrev sLaw : Stmt := top 37
abbrev nLaw : List Str := ["script", "draw", "words_here", "each", "threes_here", "errors_here", "spot", "error", "base_here", "item", "k"]
/-- the law's defs as they stand -/
structure Defs (P : Program) (w : World) (K : PySem.W.Frag) (mg : Str → Option Value) (base : Heap) (c : Nat → Addr) (fB fP fA fE fL fK : Addr) (dB dP dA dE dL dK : FuncData) : Prop where
  pB : FnOk P w K mg base CX0 1 fB dB ["script"] (spBegun K)
  pP : FnOk P w K mg base CX0 3 fP dP ["draw", "some"] spPick
  pA : FnOk P w K mg base CX0 4 fA dA ["draw"] spAny
  pE : FnOk P w K mg base CX0 5 fE dE ["each"] (spErrs c)
  pL : FnOk P w K mg base CX0 1 fL dL ["words_here"] (spPlain c)
  pK : FnOk P w K mg base CX0 1 fK dK ["error"] (spKinds c)
  gB : mg "_law_begun" = some (.ref fB)
  gP : mg "_law_pick" = some (.ref fP)
  gA : mg "_law_any" = some (.ref fA)
  gE : mg "_law_errors_of" = some (.ref fE)
  gL : mg "_law_plain_errors" = some (.ref fL)
  gK : mg "_law_kinds" = some (.ref fK)
  kB : PySem.W.keepIn K (.ref fB) = true
  kP : PySem.W.keepIn K (.ref fP) = true
  kA : PySem.W.keepIn K (.ref fA) = true
  kE : PySem.W.keepIn K (.ref fE) = true
  kL : PySem.W.keepIn K (.ref fL) = true
  kK : PySem.W.keepIn K (.ref fK) = true
  bB : Binds K dB ["script"] []
  bP : Binds K dP ["draw", "some"] []
  bA : Binds K dA ["draw"] []
  bE : Binds K dE ["each"] []
  bL : Binds K dL ["words_here"] []
  bK : Binds K dK ["error"] []
  mRange : mg "range" = none
  mEnum : mg "enumerate" = none
  mRepr : mg "repr" = none
def spLaw (K : PySem.W.Frag) : Sp := fun vs H Q _ => ∃ (a : Addr) (ns : List Int), vs = [.ref a] ∧ SqL K H a (ns.map V.int) ∧ ns.length ≤ 63 ∧ ∀ H', Q (.bl true) H'
def rowB (i : Nat) : List Bool := [decide (i = 0), decide (i = 1), decide (i = 2), decide (i = 3), decide (i = 4), decide (i = 5), decide (i = 6), decide (i = 7), decide (i = 8), decide (i = 9), decide (i = 10), decide (i = 11), decide (i = 12), decide (i = 13), decide (i = 14), decide (i = 15), decide (i = 16), decide (i = 17), decide (i = 18), decide (i = 19), decide (i = 20), decide (i = 21), decide (i = 22), decide (i = 23), decide (i = 24)]
theorem row_is (i : Nat) : row i = (rowB i).map V.bl := rfl
theorem range_row (i : Nat) : ((List.range 25).map fun k => V.bl (decide (i = k))) = row i := rfl
theorem dpB {K : PySem.W.Frag} {H : Hp} : ∀ bs : List Bool, DpAll K H (bs.map V.bl) (bs.map PyData.bool)
  | [] => .nil
  | b :: bs => .cons (.bl b) (dpB bs)
theorem canB : ∀ bs : List Bool, PyData.canLayAll0 (bs.map PyData.bool) = true
  | [] => rfl
  | b :: bs => by
    have := canB bs
    simp [PyData.canLayAll0, PyData.canLay0, this]
theorem depB : ∀ bs : List Bool, PyData.depthAll (bs.map PyData.bool) = 0
  | [] => rfl
  | b :: bs => by
    have := depB bs
    simp [PyData.depthAll, PyData.depth, this]
theorem shB (bs : List Bool) : SeqAt.shaped (.list (bs.map PyData.bool)) = true := by
  simp [SeqAt.shaped, PyData.canLay0, PyData.depth, canB, depB]
theorem spot_is (i j : Nat) : decide (V.int (0 + (j : Int)) = V.int (i : Int)) = decide (i = j) := by
  by_cases h : i = j
  · subst h
    simp
  · have h2 : ¬ (V.int (0 + (j : Int)) = V.int (i : Int)) := fun e => by
      injection e with e
      omega
    rw [decide_eq_false h, decide_eq_false h2]
section
variable {P : Program} {w : World} {K : PySem.W.Frag} {mg : Str → Option Value} {base : Heap} {c : Nat → Addr} {fB fP fA fE fL fK : Addr} {dB dP dA dE dL dK : FuncData}
theorem scLaw : FnScope nLaw ["script"] (defScope sLaw) := ⟨rfl, rfl, rfl, by decide +kernel, rfl, by decide +kernel, by decide +kernel⟩
theorem law_body {f : Addr} {cdv : Value} {A : Around} {outer : List Env} {s : Shared} {H : Hp} {vs : List V} {Q : VK} {E : XK} (T : Txt K mg c) (D : Defs P w K mg base c fB fP fA fE fL fK dB dP dA dE dL dK)
    (hr : Room 5 (A.deeper (envOfC "law" (defScope sLaw) s.heap.objs.size f cdv))) (hg : (A.deeper (envOfC "law" (defScope sLaw) s.heap.objs.size f cdv)).guards = some []) (hsp : spLaw K vs H Q E) :
    ∃ t, PSs (cxOf CX0 P w K mg base nLaw "law" (defScope sLaw) f cdv A outer s H E).nox (defBody sLaw) t ∧ t { nx := fun _ H' => Q .non H', rt := Q } (L2.start nLaw vs) H := by
  obtain ⟨a, ns, rfl, hS, hlen, k⟩ := hsp
  have h1 : Room 1 (A.deeper (envOfC "law" (defScope sLaw) s.heap.objs.size f cdv)) := hr.mono (by decide)
  have h3 : Room 3 (A.deeper (envOfC "law" (defScope sLaw) s.heap.objs.size f cdv)) := hr.mono (by decide)
  have h4 : Room 4 (A.deeper (envOfC "law" (defScope sLaw) s.heap.objs.size f cdv)) := hr.mono (by decide)
  have nd := (scLaw).nd
  refine ⟨_, pss_cons (ps_set (i := 1) nd rfl (Or.inl rfl) (pe_call D.pB h1 (by rfl) D.gB D.kB D.bB .nil pass0 (pa_cons (pv 0) pa_nil)))
    (pss_cons (ps_asg (pe_tup (pa_cons (pe_call D.pP h3 (by rfl) D.gP D.kP D.bP .nil pass0 (pa_cons (pv 1) (pa_cons (pe_lst (pa_cons pe_str (pa_cons pe_str (pa_cons pe_str pa_nil)))) pa_nil))) (pa_cons (pe_call D.pA h4 (by rfl) D.gA D.kA D.bA .nil pass0 (pa_cons (pv 1) pa_nil)) pa_nil)))
        (pg_tup rfl (pgs_cons (pg_name (i := 2) nd rfl (Or.inl rfl)) (pgs_cons (pg_name (i := 3) nd rfl (Or.inr rfl)) pgs_nil))))
    (pss_cons (ps_set (i := 4) nd rfl (Or.inl rfl) (pe_call D.pE hr (by rfl) D.gE D.kE D.bE .nil pass0 (pa_cons (pv 3) pa_nil)))
    (pss_cons (ps_set (i := 5) nd rfl (Or.inl rfl) (pe_op op_cat (pe_call D.pL h1 (by rfl) D.gL D.kL D.bL .nil pass0 (pa_cons (pv 2) pa_nil))
        (pe_lc (own := [("item", 9)]) (g := gName 9) (tt := tYes) rfl nd (pi_list (pv 4)) (blkOk_by (N := nLaw) (sc := defScope sLaw) (by decide +kernel)) (fun _ _ _ _ _ => pg_name (i := 9) nd rfl (Or.inl rfl)) (fun _ _ _ _ _ => pts_nil) (fun _ _ _ _ _ => pe_ix (r := rIxT K) ix_tup (pv 9) pe_int (fun _ _ => rfl)))))
    (pss_cons (ps_for PassesOwn.never rfl (pi_enum (by rfl) D.mEnum (pa_cons (pv 5) pa_nil)) (pg_tup rfl (pgs_cons (pg_name (i := 6) nd rfl (Or.inr rfl)) (pgs_cons (pg_name (i := 7) nd rfl (Or.inl rfl)) pgs_nil)))
        (pss_cons (ps_if (pt_cmpR (op_neD h1.units) (pe_call D.pK h1 (by rfl) D.gK D.kK D.bK .nil pass0 (pa_cons (pv 7) pa_nil))
            (pe_lc (own := [("k", 10)]) (g := gName 10) (tt := tYes) rfl nd (pi_range1 (by rfl) D.mRange (pa_cons pe_int pa_nil)) (blkOk_by (N := nLaw) (sc := defScope sLaw) (by decide +kernel)) (fun _ _ _ _ _ => pg_name (i := 10) nd rfl (Or.inl rfl)) (fun _ _ _ _ _ => pts_nil) (fun _ _ _ _ _ => pe_cmpR op_eq (pv 10) (pv 6) (nomark _))) (nomark _))
            (pss_one (ps_ret pe_bl)) pss_nil)
        (pss_one (ps_if (PW.pt (pw_or (pt_not (pt_val (pe_callB call_isErr (by rfl) T.mI (by decide +kernel) (pa_cons (pv 7) (pa_cons (pe_glob (v := .ref (c 25)) (by rfl) (T.g 25 (by decide)) rfl) pa_nil)))))
            (pw_or1 (pt_not (pt_val (pe_callB call_isErr (by rfl) T.mI (by decide +kernel) (pa_cons (pv 7) (pa_cons (pe_bltn (v := .ty "ValueError") (by rfl) T.mV (by decide +kernel) rfl) pa_nil))))))))
            (pss_one (ps_ret pe_bl)) pss_nil))))
    (pss_cons (ps_if (pt_cmpR (op_neD h1.units) (pe_lc (own := [("item", 9)]) (g := gName 9) rfl nd (pi_list (pv 4)) (blkOk_by (N := nLaw) (sc := defScope sLaw) (by decide +kernel)) (fun _ _ _ _ _ => pg_name (i := 9) nd rfl (Or.inl rfl))
          (fun _ _ _ _ _ => pts_one (pt_cmpR op_ne (pe_callB (call_rep2 hg h1.units) (by rfl) D.mRepr (by decide +kernel) (pa_cons (pe_lst (pa_cons (pe_ix (r := rIxT K) ix_tup (pv 9) pe_int (fun _ _ => rfl)) (pa_cons (pe_ix (r := rIxT K) ix_tup (pv 9) pe_int (fun _ _ => rfl)) pa_nil))) pa_nil))
            (pe_callB (call_rep2 hg h1.units) (by rfl) D.mRepr (by decide +kernel) (pa_cons (pe_lst (pa_cons (pv 3) (pa_cons (pv 3) pa_nil))) pa_nil)) (nomark _))) (fun _ _ _ _ _ => pe_int)) (pe_lst pa_nil) (nomark _))
        (pss_one (ps_ret pe_bl)) pss_nil)
    (pss_cons (ps_set (i := 8) nd rfl (Or.inl rfl) (pe_exc1 PySem.F.excBase_ValueError (T.plain 25 (.inr rfl)) (T.g 25 (by decide)) (T.kp 25 (by decide)) (by rfl) pe_str))
    (pss_one (ps_ret (pe_and (pe_cmpR op_notIn_seq pe_bl (pe_call D.pK h1 (by rfl) D.gK D.kK D.bK .nil pass0 (pa_cons (pv 8) pa_nil)) rfl) (pe_one (pe_callB call_isErr (by rfl) T.mI (by decide +kernel) (pa_cons (pv 8) (pa_cons (pe_bltn (v := .ty "ValueError") (by rfl) T.mV (by decide +kernel) rfl) pa_nil))))))))))))), ?_⟩
  refine ⟨_, rfl, a, ns, rfl, hS, hlen, fun H1 d l cc D1 s1 nd1 nl1 nc1 => ?_⟩
  obtain ⟨ls, hl1, _⟩ := D1.ll
  refine ⟨_, rfl, by show 3 ≤ sizeLine; decide, fun p0 np0 => ⟨d, l, cc, p0, _, rfl, D1.same (same_new np0), upd_same, (ne_of_none hl1 np0).symm, ⟨by show 0 < 3; decide, by show 3 < 2 ^ 30; decide⟩, fun H2 x hx D2 b2 => ?_⟩⟩
  refine ⟨_, rfl, d, l, cc, rfl, D2, fun H3 y ey D3 b3 => ⟨by show 2 ≤ sizeLine; decide, fun t nt => ⟨t, _, rfl, SqT.of upd_same, rfl, _, _, rfl, _, _, rfl, rfl, ?_⟩⟩⟩
  obtain ⟨z, rfl⟩ : ∃ z, x = .str z := by
    simp only [List.mem_cons, List.not_mem_nil, or_false] at hx
    rcases hx with rfl | rfl | rfl <;> exact ⟨_, rfl⟩
  have ey4 := ey.same (same_new (o := .tup [.str z, y]) nt)
  obtain ⟨dy, Dy⟩ := ey4.data
  refine ⟨_, rfl, y, rfl, ey4, fun H5 q ts s5 nq hq lq Tq => ?_⟩
  refine ⟨_, rfl, z, rfl, fun H6 pp as s6 np6 hp6 lp6 ep6 => ?_⟩
  refine ⟨_, rfl, q, rfl, ⟨_, SqL.of (s6 _ _ hq)⟩, fun D7 hD7 => lc_list (K := K) (a := q) (xs := ts.map V.ref) (fun i H' => ∃ es : List Addr, H' = upd H6 D7 (.lst (es.map V.ref)) ∧ es.length = i ∧ ∀ j e, es[j]? = some e → Err H6 e (c (18 + j))) ⟨[], rfl, rfl, fun j e h => nomatch h⟩ ?_ ?_ ?_⟩
  · rintro i H' _ ⟨es, rfl, _⟩
    exact (same_new hD7).seq (SqL.of (s6 _ _ hq))
  · rintro i x H' hi ⟨es, rfl, le, he⟩
    obtain ⟨t7, ht7, rfl⟩ : ∃ t7, ts[i]? = some t7 ∧ x = V.ref t7 := by
      rw [List.getElem?_map] at hi
      cases e : ts[i]? with
      | none => rw [e] at hi; cases hi
      | some z => rw [e] at hi; exact ⟨z, rfl, (Option.some.inj hi).symm⟩
    have hi7 : i < ts.length := (List.getElem?_eq_some_iff.mp ht7).1
    obtain ⟨e7, g7, r7⟩ := Tq i t7 ht7
    have s7 := same_new (o := .lst (es.map V.ref)) hD7
    refine ⟨rfl, ?_⟩
    simp only [tYes, if_true]
    refine ⟨_, rfl, t7, _, 0, _, rfl, rfl, SqT.of (s7 _ _ (s6 _ _ g7)), atI_nat (j := 0) rfl, _, upd_same, by rw [List.length_map]; exact small1000 (by omega), es ++ [e7], ?_, by simp [le], fun j e h => ?_⟩
    · rw [upd_upd, List.map_append]
      rfl
    · by_cases hj : j < es.length
      · rw [List.getElem?_append_left hj] at h
        exact he j e h
      · rw [List.getElem?_append_right (by omega)] at h
        have h0 : j - es.length = 0 := by
          cases z : j - es.length with
          | zero => rfl
          | succ n => rw [z] at h; cases h
        rw [h0] at h
        cases h
        have ej : j = i := by omega
        rw [ej]
        exact r7.same s6
  · rintro H' ⟨es, rfl, le, he⟩
    rw [List.length_map, lq] at le
    have s7 := same_new (o := .lst (es.map V.ref)) hD7
    refine ⟨pp, D7, _, _, rfl, rfl, s7 _ _ hp6, upd_same, by rw [List.length_map, List.length_map, lp6, le]; decide, fun p8 np8 => ?_⟩
    have s8 := same_new (o := .lst (as.map V.ref ++ es.map V.ref)) np8
    have s68 := s7.trans s8
    have E8 : Errs c (upd (upd H6 D7 (.lst (es.map V.ref))) p8 (.lst (as.map V.ref ++ es.map V.ref))) (as ++ es) := fun i e h => by
      by_cases hi : i < as.length
      · rw [List.getElem?_append_left hi] at h
        exact (ep6 i e h).same s68
      · rw [List.getElem?_append_right (by omega)] at h
        have q := (he _ e h).same s68
        rw [lp6] at q hi
        rwa [show 18 + (i - 18) = i by omega] at q
    have Tq8 : Threes c y (upd (upd H6 D7 (.lst (es.map V.ref))) p8 (.lst (as.map V.ref ++ es.map V.ref))) ts := fun j t h => by
      obtain ⟨e7, g7, r7⟩ := Tq j t h
      exact ⟨e7, (s6.trans s68) _ _ g7, r7.same (s6.trans s68)⟩
    have hq8 := (s6.trans s68) _ _ hq
    have Dy8 := Dy.same (s5.trans (s6.trans s68))
    have l8 : (as ++ es).length = 25 := by rw [List.length_append, lp6, le]
    have hp8 : (upd (upd H6 D7 (.lst (es.map V.ref))) p8 (.lst (as.map V.ref ++ es.map V.ref))) p8 = some (.lst ((as ++ es).map V.ref)) := by
      rw [upd_same, List.map_append]
    generalize upd (upd H6 D7 (.lst (es.map V.ref))) p8 (.lst (as.map V.ref ++ es.map V.ref)) = G at *
    generalize as ++ es = errs at *
    refine ⟨_, rfl, p8, _, rfl, SqL.of hp8, for_it (walk_enum (K := K) (a := p8) (xs := errs.map V.ref)) (fun i σ H' => ∃ v6 v7 : Option V, σ = [some (.ref a), some (.ref d), some (.str z), some y, some (.ref q), some (.ref p8), v6, v7, none, none, none] ∧ Same G H') ⟨none, none, rfl, Same.refl _⟩ (fun i σ H' _ h => ?_) ?_ ?_⟩
    · obtain ⟨_, _, _, s9⟩ := h
      exact s9.seq (SqL.of hp8)
    · rintro i x σ H9 H10 hi ⟨v6, v7, rfl, s9⟩ ⟨T9, x1, y1, rfl, nT, rfl, e1, e2⟩
      cases e1
      rw [List.length_map, l8] at hi
      obtain ⟨er, her, rfl⟩ : ∃ er, errs[i]? = some er ∧ y1 = V.ref er := by
        have e2 : (errs.map V.ref)[i]? = some y1 := e2
        rw [List.getElem?_map] at e2
        cases e : errs[i]? with
        | none => rw [e] at e2; cases e2
        | some z => rw [e] at e2; exact ⟨z, rfl, (Option.some.inj e2).symm⟩
      have s10 := s9.trans (same_new (o := .tup [.int (i : Nat), .ref er]) nT)
      have E10 := (E8 i er her).same s10
      have hi26 : i < 26 := by omega
      refine ⟨T9, _, rfl, SqT.of upd_same, rfl, _, _, rfl, _, _, rfl, rfl, ?_⟩
      refine ⟨_, rfl, er, i, rfl, hi26, E10, fun H11 kp s11 nk hk => ?_⟩
      refine ⟨25, rfl, by decide, by decide, fun D12 nD => lc_range (lo := 0) (n := 25) (fun j H' => H' = upd H11 D12 (.lst (((List.range j).map fun k => V.bl (decide (i = k)))))) rfl ?_ ?_⟩
      · rintro j H' hj rfl
        refine ⟨rfl, ?_⟩
        simp only [tYes, if_true]
        refine ⟨_, rfl, _, rfl, rfl, _, upd_same, by rw [List.length_map, List.length_range]; exact small1000 (by omega), ?_⟩
        rw [upd_upd, List.range_succ, List.map_append]
        refine congrArg (fun e => upd H11 D12 (.lst (_ ++ e))) ?_
        show [V.bl (decide (V.int (0 + (j : Int)) = V.int (i : Int)))] = [V.bl (decide (i = j))]
        rw [spot_is]
      · rintro H' rfl
        have s12 := same_new (o := .lst ((List.range 25).map fun k => V.bl (decide (i = k)))) nD
        have E12 := E10.same (s11.trans s12)
        have eq1 : PyData.eqv (.list ((rowB i).map PyData.bool)) (.list ((rowB i).map PyData.bool)) = true := SeqAt.eqv_refl _ (by rw [PyData.canLay0]; exact canB _)
        refine ⟨.list ((rowB i).map PyData.bool), .list ((rowB i).map PyData.bool), .lst (SqL.of (s12 _ _ hk)) (dpB (rowB i)), .lst (xs := (rowB i).map V.bl) (SqL.of (by rw [upd_same, range_row]; rfl)) (dpB (rowB i)), shB _, shB _, false, by rw [eq1]; rfl, iteF ?_⟩
        refine ⟨_, rfl, er, c i, .ref (c 25), .ref (c 25), true, rfl, E12, .own _, T.ec i hi26, T.left i hi26, true, rfl, iteF ?_⟩
        refine ⟨_, rfl, er, c i, .ty "ValueError", .type "ValueError", true, rfl, E12, .ty _, T.ec i hi26, T.val i hi26, true, rfl, iteF ?_⟩
        exact ⟨_, _, rfl, s10.trans (s11.trans s12)⟩
    · rintro σ H9 ⟨v6, v7, rfl, s9⟩
      refine ⟨_, rfl, q, rfl, ⟨_, SqL.of (s9 _ _ hq8)⟩, fun D13 nD => lc_list (K := K) (a := q) (xs := ts.map V.ref) (fun i H' => H' D13 = some (.lst []) ∧ Same H9 H') ⟨upd_same, same_new nD⟩ ?_ ?_ ?_⟩
      · rintro i H' _ ⟨_, s13⟩
        exact s13.seq (SqL.of (s9 _ _ hq8))
      · rintro i x H' hi ⟨hD, s13⟩
        obtain ⟨t7, ht7, rfl⟩ : ∃ t7, ts[i]? = some t7 ∧ x = V.ref t7 := by
          rw [List.getElem?_map] at hi
          cases e : ts[i]? with
          | none => rw [e] at hi; cases hi
          | some z => rw [e] at hi; exact ⟨z, rfl, (Option.some.inj hi).symm⟩
        obtain ⟨e7, g7, _⟩ := Tq8 i t7 ht7
        have g13 := s13 _ _ (s9 _ _ g7)
        have Dy13 := Dy8.same (s9.trans s13)
        refine ⟨rfl, _, rfl, t7, _, 1, y, rfl, rfl, SqT.of g13, atI_nat (j := 1) rfl, _, rfl, t7, _, 2, y, rfl, rfl, SqT.of g13, atI_nat (j := 2) rfl, by show 2 ≤ sizeLine; decide, fun l1 nl1 => ?_⟩
        have s14 := same_new (o := .lst [y, y]) nl1
        refine ⟨l1, y, dy, rfl, upd_same, Dy13.same s14, _, rfl, _, rfl, by show 2 ≤ sizeLine; decide, fun l2 nl2 => ?_⟩
        have s15 := same_new (o := .lst [y, y]) nl2
        refine ⟨l2, y, dy, rfl, upd_same, (Dy13.same s14).same s15, rfl, false, by simp, iteF ⟨(s14.trans s15) _ _ hD, s13.trans (s14.trans s15)⟩⟩
      · rintro H' ⟨hD, s13⟩
        refine ⟨by show 0 ≤ sizeLine; decide, fun e0 ne0 => ?_⟩
        have s14 := same_new (o := .lst []) ne0
        refine ⟨.list [], .list [], .lst (SqL.of (s14 _ _ hD)) .nil, .lst (SqL.of upd_same) .nil, rfl, rfl, false, rfl, iteF fun b nb => ?_⟩
        refine ⟨_, rfl, b, 25, rfl, by decide, .inl upd_same, fun H15 kp s15 nk hk => ⟨kp, row 25, rfl, .inl (SqL.of hk), rfl, rfl, true, rfl, iteT ?_⟩⟩
        exact ⟨_, rfl, b, c 25, .ty "ValueError", .type "ValueError", true, rfl, (show Err _ b (c 25) from .inl upd_same).same s15, .ty _, T.ec 25 (by decide), T.val 25 (by decide), k _⟩
end
end Lp
namespace Lp
open PySem PySem.Spec PySem.Calls PyProof.Rows L2
/-- a def's promise at one place alone: where the claim's caller stands -/
def AtCaller (P : Program) (w : World) (K : PySem.W.Frag) (mg : Str → Option Value) (base : Heap) (f : Addr) (fd : FuncData) (x : Str) (sp : Sp) : Prop :=
  ∀ (s : Shared) (H : Hp) (args : Args) (u : Value) (v : V) (Q : VK) (E : XK), Env0 P w K mg base callerA [] s H → BindsTo s fd args [(x, u)] → RelV v u → sp [v] H Q E → codeAny (model P w) callerA (.call (.ref f) args) (CR CX0 [] P w H s Q E) s
section
variable {P : Program} {w : World} {K : PySem.W.Frag} {mg : Str → Option Value} {base : Heap} {c : Nat → Addr} {fB fP fA fE fL fK : Addr} {dB dP dA dE dL dK : FuncData}
theorem law_at {f : Addr} {fd : FuncData} (F : Fun K "law" "law" sLaw f fd) (T : Txt K mg c) (D : Defs P w K mg base c fB fP fA fE fL fK dB dP dA dE dL dK) : AtCaller P w K mg base f fd "script" (spLaw K) := by
  intro s H args u v Q E e0 hb rv hsp
  obtain ⟨oc, od, kV, doc, pm, an, cdv, ct, osl, rfl, lk, hcd⟩ := F.ex
  have up : ∀ b o, base.get? b = some o → s.heap.get? b = some o := fun b o e => (e0.bs b o e).1
  have room : Room 6 callerA := ⟨rfl, by decide, by decide⟩
  have par : ∀ q ∈ [(("script" : Str), u)], (defScope sLaw).names.lookup q.1 = some .local := fun q hq => by
    have e : q = ((("script" : Str), u) : Str × Value) := by simpa using hq
    rw [e]
    show (defScope sLaw).names.lookup ("script" : Str) = some .local
    decide +kernel
  have kinds : ∀ q ∈ [(("script" : Str), u)], (defScope sLaw).names.lookup q.1 = some .local ∨ ((defScope sLaw).names.lookup q.1 = some .cell ∧ ((cellsFrom (s.heap.objs.size + 1) (defScope sLaw).names []).lookup q.1).isSome = true) := fun q hq => .inl (par q hq)
  refine codeAny_call_function room.depth (e0.mod.kin.keeps up _ _ lk) rfl (scLaw).co (scLaw).gen rfl (PySem.W.codeRec_of (e0.mod.kin.keeps up) hcd) (hb _ _ _ _ (wpAny_newFunctionEnv_cells (scLaw).kind kinds fun env he s1 x => ?_))
  subst he
  have KN := e0.mod.nolimit.keeps up
  refine ⟨KN.keeps x.toInCall.keep, codeAny_func ?_⟩
  obtain ⟨t, ht, hq⟩ := law_body (A := callerA) (outer := []) (s := s) (f := f) (cdv := cdv) T D (room.deeper _) rfl hsp
  have I := inv_start (CX := CX0) (P := P) (w := w) (K := K) (mg := mg) (base := base) (qual := "law") (f := f) (cd := cdv) (E := E) (scLaw) rfl e0 (vs := [v]) rfl (.cons rv .nil) x
  refine wpAny_mono (ht.nox.run [] s1 _ H _ I hq) (fun fl s' hs => ?_) fun e s' z => z
  match fl, hs with
  | .ret u', hs =>
    obtain ⟨v', σ', H', J, r', q⟩ := hs
    exact ⟨v', H', J.os, J.bare, J.base, J.hok, r', q⟩
  | .next, hs =>
    obtain ⟨σ', H', J, q⟩ := hs
    exact ⟨.non, H', J.os, J.bare, J.base, J.hok, rfl, q⟩
  | .brk, hs =>
    obtain ⟨_, _, _, q⟩ := hs
    exact q.elim
  | .cont, hs =>
    obtain ⟨_, _, _, q⟩ := hs
    exact q.elim
end
/-- from the caller's place to the law's claim -/
theorem law_go {P : Program} {w : World} {K : PySem.W.Frag} {mg mb : Str → Option Value} {fa a : Addr} {fd : FuncData} {x : Str} {sp : Sp} {t : Shared} {vs : List Value} {ns : List Int} (KX : K.In t.heap) (hns : t.heap.Ns mainGlobals mg) (hb : t.heap.Ns builtinsNs mb)
    (hbb : ∀ x : Str, x ≠ "__name__" → mb x = bootBuiltins x) (hlim : t.heap.NoLimit) (hg : t.gens = #[]) (ha : t.heap.get? a = some { cls := .type "list", data := .seq vs.toArray }) (hi : IntsAre vs ns) (hl : ns.length ≤ sizeLine)
    (F : ∀ base : Heap, K.In base → base.Ns mainGlobals mg → AtCaller P w K mg base fa fd x sp) (bind : ∀ (s : Shared) (u : Value), BindsTo s fd ⟨[u], []⟩ [(x, u)]) (ask : ∀ H : Hp, SqL K H a (ns.map V.int) → sp [.ref a] H (fun v _ => v = .bl true) fun _ _ _ => False) :
    codeAny (model P w) callerA (.call (.ref fa) ⟨[.ref a], []⟩) (fun r s' => r = .ok (.ret (.bool true)) ∧ OldK t.heap s'.heap ∧ s'.os = t.os ∧ AllBare s'.gens) t := by
  have rv := vals_ints hi
  have len : vs.length = ns.length := hi.length
  have sc : Obj := { cls := .type "list", data := .seq vs.toArray }
  let own : Hp := fun b => if b = a then some (.frz { cls := .type "list", data := .seq vs.toArray } (.lst (ns.map V.int))) else none
  -- H: nothing is tracked, or the script alone
  have main : ∀ H : Hp, (H = (fun _ => none) ∨ (H = own ∧ K.lookup a = none)) → SqL K H a (ns.map V.int) → codeAny (model P w) callerA (.call (.ref fa) ⟨[.ref a], []⟩) (fun r s' => r = .ok (.ret (.bool true)) ∧ OldK t.heap s'.heap ∧ s'.os = t.os ∧ AllBare s'.gens) t := by
    intro H hH hS
    have at_a : ∀ {b : Addr} {u : HO}, H b = some u → b = a ∧ u = .frz { cls := .type "list", data := .seq vs.toArray } (.lst (ns.map V.int)) ∧ K.lookup a = none := fun {b u} e => by
      rcases hH with z | ⟨z, n⟩
      · rw [z] at e; cases e
      · rw [z] at e
        by_cases hb : b = a
        · have e' : own b = some u := e
          rw [show own b = some (.frz { cls := .type "list", data := .seq vs.toArray } (.lst (ns.map V.int))) from if_pos hb] at e'
          exact ⟨hb, (Option.some.inj e').symm, n⟩
        · have e' : own b = some u := e
          rw [show own b = none from if_neg hb] at e'
          cases e'
    have free : ∀ {b : Addr}, (∀ u, H b ≠ some u) → H b = none := fun {b} n => by
      cases q : H b with
      | none => rfl
      | some u => exact absurd q (n u)
    have hok : HOk P w H t.heap := fun b u e => by
      obtain ⟨rfl, rfl, _⟩ := at_a e
      exact ⟨ha, by rw [List.length_map]; exact hl, vs, _, rv, ha⟩
    have dicts : ∀ {b : Addr} {o : Obj} {es : Array DictEntry} {ep : Nat}, t.heap.get? b = some o → o.data = .dict es ep → H b = none := fun {b o es ep} e d => free fun u q => by
      obtain ⟨rfl, _, _⟩ := at_a q
      rw [ha] at e
      cases e
      cases d
    have spaces : ∀ {b : Addr} {m : Str → Option Value}, t.heap.Ns b m → (hidT t.heap H).Ns b m := fun {b m} ⟨o, es, ep, e, d, r⟩ => ⟨o, es, ep, hidT_get e (dicts e d), d, r⟩
    have KB : K.In (hidT t.heap H) := fun b o e => hidT_get (KX b o e) (free fun u q => by
      obtain ⟨rfl, _, n⟩ := at_a q
      have e' : K.lookup b = some o := e
      rw [n] at e'
      cases e')
    obtain ⟨ml, l1, l2⟩ := hlim
    have e0 : Env0 P w K mg (hidT t.heap H) callerA [] t H := ⟨rfl, ⟨KB, spaces hns, ⟨mb, spaces hb, hbb⟩, ⟨ml, spaces l1, l2⟩⟩, fun b o e => of_hidT e, Nat.le_of_eq (hidT_size _ _), trivial, fun b z => (nomatch z), hok, .of_eq hg⟩
    refine codeAny_mono (F _ KB (spaces hns) t H ⟨[.ref a], []⟩ (.ref a) (.ref a) _ _ e0 (bind t (.ref a)) rfl (ask H hS)) fun r s' z => ?_
    match r, z with
    | .ok (.ret u), z =>
      obtain ⟨v, H', os, bare, un, hok', r', q⟩ := z
      have q' : v = .bl true := q
      subst q'
      cases (show u = Value.bool true from r')
      refine ⟨rfl, OldK.of_keep fun b o e => ?_, os, bare⟩
      cases q : H b with
      | none => exact un.keep b o e q (fun z => nomatch z) (fun z => nomatch z)
      | some u =>
        obtain ⟨rfl, rfl, _⟩ := at_a q
        obtain ⟨g1, _⟩ := hok' b _ (un.frzs b _ _ q)
        rw [ha] at e
        cases e
        exact g1
    | .ok .next, z => exact False.elim z
    | .ok .brk, z => exact False.elim z
    | .ok .cont, z => exact False.elim z
    | .error e, z => exact False.elim z
  cases hk : K.lookup a with
  | none => exact main own (.inr ⟨rfl, hk⟩) (.inl (.inr ⟨_, if_pos rfl⟩))
  | some o =>
    have e := (KX a o hk).symm.trans ha
    cases e
    exact main _ (.inl rfl) (.inr ⟨_, vs.toArray, _, hk, rfl, rfl, rfl, by rw [List.size_toArray, len]; exact hl, by simpa using rv⟩)
theorem walk_at_caller {l : PySem.W.OpenLaw} {n : Nat} {q : Program} {loose : List Str} {XP : (Str → Option Value) → Heap → Prop} {YP : World → Heap → Prop} {d : DefRec} {K : Params → PySem.W.Frag} {sp : PySem.W.Frag → Sp} {x : Str}
    (hn : l.most = some n) (hn2 : n ≤ sizeLine) (hdf : d.params.defaults = []) (hY : ∀ (w : World) (h : Heap), YP w h → (K w.params).In h)
    (F : ∀ (w : World) (mg : Str → Option Value) (fa : Addr) (h : Heap), (K w.params).In h → h.Ns mainGlobals mg → mg d.name = some (.ref fa) →
      ∃ fd : FuncData, (∀ (s : Shared) (u : Value), BindsTo s fd ⟨[u], []⟩ [(x, u)]) ∧ ∀ base : Heap, (K w.params).In base → base.Ns mainGlobals mg → AtCaller l.prog w (K w.params) mg base fa fd x (sp (K w.params)))
    (ask : ∀ (K : PySem.W.Frag) (H : Hp) (a : Addr) (ns : List Int), ns.length ≤ n → SqL K H a (ns.map V.int) → sp K [.ref a] H (fun v _ => v = .bl true) fun _ _ _ => False) :
    PySem.W.WalkO q loose XP YP l.row.toRowW d [] (fun f vs => PySem.call f vs) :=
  Att.attach_call hn hdf fun w s₀ t mg mb fa o pm cd doc a vs ns G Y ho hd hcd hmg hobj hints hlen hg => by
    have KX := hY w _ Y
    obtain ⟨fd, bind, go⟩ := F w mg fa _ KX G.T.g hmg
    exact law_go KX G.T.g G.T.b G.T.builtins G.T.nolimit hg hobj hints (Nat.le_trans hlen hn2) go bind fun H hS => ask _ H a ns hlen hS
end Lp
namespace Lp
open PySem PySem.Spec PySem.Calls PyProof.Rows L2
abbrev theP : Program := PySem.Challenge.rw_leftproducts_k00_errors_of_all_parts.prog
def cOf (c0 c1 c2 c3 c4 c5 c6 c7 c8 c9 c10 c11 c12 c13 c14 c15 c16 c17 c18 c19 c20 c21 c22 c23 c24 c25 : Addr) : Nat → Addr
  | 0 => c0
  | 1 => c1
  | 2 => c2
  | 3 => c3
  | 4 => c4
  | 5 => c5
  | 6 => c6
  | 7 => c7
  | 8 => c8
  | 9 => c9
  | 10 => c10
  | 11 => c11
  | 12 => c12
  | 13 => c13
  | 14 => c14
  | 15 => c15
  | 16 => c16
  | 17 => c17
  | 18 => c18
  | 19 => c19
  | 20 => c20
  | 21 => c21
  | 22 => c22
  | 23 => c23
  | 24 => c24
  | 25 => c25
  | _ => 0
def fOf (a0 a1 a2 a3 a4 a5 a6 : Addr) : Nat → Addr
  | 0 => a0
  | 1 => a1
  | 2 => a2
  | 3 => a3
  | 4 => a4
  | 5 => a5
  | 6 => a6
  | _ => 0
def dOf (a0 a1 a2 a3 a4 a5 a6 : FuncData) : Nat → FuncData
  | 0 => a0
  | 1 => a1
  | 2 => a2
  | 3 => a3
  | 4 => a4
  | 5 => a5
  | _ => a6
abbrev veTl : List Value := [.type "ValueError", .type "Exception", .type "BaseException", .type "object"]
/-- what holds of each of the classes -/
structure ClsF (K : PySem.W.Frag) (C : Addr) : Prop where
  kp : PySem.W.keepIn K (.ref C) = true
  ty : PySem.W.typeIn K (.ref C) = some (.type "type")
  ga : PySem.W.findIn K (.ref C) "__getattribute__" = some (some (.builtin "BaseException.__getattribute__"))
  gg : PySem.W.findIn K (.ref C) "__getattr__" = some none
  ex : PySem.W.subIn K (.ref C) (.type "BaseException") = some true
  hd : PySem.W.hasDictIn K C = true
  ca : PySem.W.findIn K (.ref C) "__class__" = some (some (.builtin "object.__class__"))
  ob : PySem.W.mroIn K C (.type "object") = some true
  ve : PySem.W.subIn K (.ref C) (.type "ValueError") = some true
structure ClsM (K : PySem.W.Frag) (C : Addr) (m : List Value) : Prop where
  cl : ∃ cd, PySem.W.clsIn K C = some cd ∧ cd.mro = m
theorem sub_mro {K : PySem.W.Frag} {C : Addr} {m : List Value} (M : ClsM K C m) (hm : m.isEmpty = false) (b : Value) : PySem.W.subIn K (.ref C) b = some (m.contains b) := by
  obtain ⟨cd, h, e⟩ := M.cl
  show ((PySem.W.clsIn K C).bind fun cd => if cd.mro.isEmpty = true then none else some (cd.mro.contains b)) = some (m.contains b)
  rw [h, Option.bind_some, e, hm]
  rfl
theorem kit_one {K : PySem.W.Frag} {A B : Addr} {m : List Value} {b : Bool} {n : List Value} (M : ClsM K A m) (hm : m.isEmpty = false) (N : ClsM K B n) (ty : PySem.W.typeIn K (.ref B) = some (.type "type")) (h : A ≠ B → m.contains (.ref B) = b) (h2 : A = B → b = true) :
    PySem.W.kitOne K (.ref A) (.ref B) = some b := by
  unfold PySem.W.kitOne
  by_cases e : A = B
  · subst e
    rw [if_pos (beq_self_eq_true _), h2 rfl]
  · rw [if_neg (fun z => e (Value.ref.inj (beq_iff_eq.mp z)))]
    obtain ⟨cd, hc, _⟩ := N.cl
    show (if ((PySem.W.clsIn K B).isSome && PySem.W.typeIn K (.ref B) == some (.type "type")) = true then PySem.W.subIn K (.ref A) (.ref B) else none) = some b
    rw [hc, ty, if_pos (by rfl), sub_mro M hm, h e]
theorem kit_val {K : PySem.W.Frag} {A : Addr} (h : PySem.W.subIn K (.ref A) (.type "ValueError") = some true) : PySem.W.kitOne K (.ref A) (.type "ValueError") = some true := by
  have ne : (Value.ref A == Value.type "ValueError") = false := rfl
  unfold PySem.W.kitOne
  rw [ne, if_neg Bool.false_ne_true]
  show (if PySem.W.kitMeta "ValueError" = true then PySem.W.subIn K (.ref A) (.type "ValueError") else none) = some true
  rw [if_pos (by decide +kernel), h]
theorem text0 : ∃ p1 p2 p, defArgs (inClass (top 13) 0) = iA "part" p1 p2 ∧ defBody (inClass (top 13) 0) = iB "part" "no fitting number" p ∧ defScope (inClass (top 13) 0) = iS "part" ∧
    (∀ env : Env, ∃ pl : Sem Bool, eval (iCall "part" "no fitting number" p) env = (do
      let ov ← attributeBase (.Call (.Name "super" p.a) [] [] p.b) "__init__" env (eval (.Call (.Name "super" p.a) [] [] p.b) env)
      standAt p.c.atName
      let (f, first) ← holding [ov] (getMethod ov "__init__" pl)
      callWith p.j f first (backTo p.j (starEach [.JoinedStr [.Constant (.str "no fitting number") 0 p.d, .FormattedValue (.Call (.Name "_told" p.e) [.Name "part" p.f] [] p.g) (-1) none p.h] p.i] env)) [])) :=
  ⟨_, _, ⟨_, _, _, _, _, _, _, _, _, _, _, _, _, _⟩, rfl, rfl, rfl, fun env => ⟨_, rfl⟩⟩
theorem text1 : ∃ p1 p2 p, defArgs (inClass (top 7) 0) = iA "part" p1 p2 ∧ defBody (inClass (top 7) 0) = iB "part" "no frame" p ∧ defScope (inClass (top 7) 0) = iS "part" ∧
    (∀ env : Env, ∃ pl : Sem Bool, eval (iCall "part" "no frame" p) env = (do
      let ov ← attributeBase (.Call (.Name "super" p.a) [] [] p.b) "__init__" env (eval (.Call (.Name "super" p.a) [] [] p.b) env)
      standAt p.c.atName
      let (f, first) ← holding [ov] (getMethod ov "__init__" pl)
      callWith p.j f first (backTo p.j (starEach [.JoinedStr [.Constant (.str "no frame") 0 p.d, .FormattedValue (.Call (.Name "_told" p.e) [.Name "part" p.f] [] p.g) (-1) none p.h] p.i] env)) [])) :=
  ⟨_, _, ⟨_, _, _, _, _, _, _, _, _, _, _, _, _, _⟩, rfl, rfl, rfl, fun env => ⟨_, rfl⟩⟩
theorem text2 : ∃ p1 p2 p, defArgs (inClass (top 27) 0) = iA "most" p1 p2 ∧ defBody (inClass (top 27) 0) = iB "most" "too many, more than" p ∧ defScope (inClass (top 27) 0) = iS "most" ∧
    (∀ env : Env, ∃ pl : Sem Bool, eval (iCall "most" "too many, more than" p) env = (do
      let ov ← attributeBase (.Call (.Name "super" p.a) [] [] p.b) "__init__" env (eval (.Call (.Name "super" p.a) [] [] p.b) env)
      standAt p.c.atName
      let (f, first) ← holding [ov] (getMethod ov "__init__" pl)
      callWith p.j f first (backTo p.j (starEach [.JoinedStr [.Constant (.str "too many, more than") 0 p.d, .FormattedValue (.Call (.Name "_told" p.e) [.Name "most" p.f] [] p.g) (-1) none p.h] p.i] env)) [])) :=
  ⟨_, _, ⟨_, _, _, _, _, _, _, _, _, _, _, _, _, _⟩, rfl, rfl, rfl, fun env => ⟨_, rfl⟩⟩
theorem text3 : ∃ p1 p2 p, defArgs (inClass (top 11) 0) = iA "part" p1 p2 ∧ defBody (inClass (top 11) 0) = iB "part" "no many products" p ∧ defScope (inClass (top 11) 0) = iS "part" ∧
    (∀ env : Env, ∃ pl : Sem Bool, eval (iCall "part" "no many products" p) env = (do
      let ov ← attributeBase (.Call (.Name "super" p.a) [] [] p.b) "__init__" env (eval (.Call (.Name "super" p.a) [] [] p.b) env)
      standAt p.c.atName
      let (f, first) ← holding [ov] (getMethod ov "__init__" pl)
      callWith p.j f first (backTo p.j (starEach [.JoinedStr [.Constant (.str "no many products") 0 p.d, .FormattedValue (.Call (.Name "_told" p.e) [.Name "part" p.f] [] p.g) (-1) none p.h] p.i] env)) [])) :=
  ⟨_, _, ⟨_, _, _, _, _, _, _, _, _, _, _, _, _, _⟩, rfl, rfl, rfl, fun env => ⟨_, rfl⟩⟩
theorem text4 : ∃ p1 p2 p, defArgs (inClass (top 8) 0) = iA "part" p1 p2 ∧ defBody (inClass (top 8) 0) = iB "part" "no lead" p ∧ defScope (inClass (top 8) 0) = iS "part" ∧
    (∀ env : Env, ∃ pl : Sem Bool, eval (iCall "part" "no lead" p) env = (do
      let ov ← attributeBase (.Call (.Name "super" p.a) [] [] p.b) "__init__" env (eval (.Call (.Name "super" p.a) [] [] p.b) env)
      standAt p.c.atName
      let (f, first) ← holding [ov] (getMethod ov "__init__" pl)
      callWith p.j f first (backTo p.j (starEach [.JoinedStr [.Constant (.str "no lead") 0 p.d, .FormattedValue (.Call (.Name "_told" p.e) [.Name "part" p.f] [] p.g) (-1) none p.h] p.i] env)) [])) :=
  ⟨_, _, ⟨_, _, _, _, _, _, _, _, _, _, _, _, _, _⟩, rfl, rfl, rfl, fun env => ⟨_, rfl⟩⟩
theorem text5 : ∃ p1 p2 p, defArgs (inClass (top 18) 0) = iA "at" p1 p2 ∧ defBody (inClass (top 18) 0) = iB "at" "no such text, line" p ∧ defScope (inClass (top 18) 0) = iS "at" ∧
    (∀ env : Env, ∃ pl : Sem Bool, eval (iCall "at" "no such text, line" p) env = (do
      let ov ← attributeBase (.Call (.Name "super" p.a) [] [] p.b) "__init__" env (eval (.Call (.Name "super" p.a) [] [] p.b) env)
      standAt p.c.atName
      let (f, first) ← holding [ov] (getMethod ov "__init__" pl)
      callWith p.j f first (backTo p.j (starEach [.JoinedStr [.Constant (.str "no such text, line") 0 p.d, .FormattedValue (.Call (.Name "_told" p.e) [.Name "at" p.f] [] p.g) (-1) none p.h] p.i] env)) [])) :=
  ⟨_, _, ⟨_, _, _, _, _, _, _, _, _, _, _, _, _, _⟩, rfl, rfl, rfl, fun env => ⟨_, rfl⟩⟩
theorem text6 : ∃ p1 p2 p, defArgs (inClass (top 21) 0) = iA "name" p1 p2 ∧ defBody (inClass (top 21) 0) = iB "name" "no watched name" p ∧ defScope (inClass (top 21) 0) = iS "name" ∧
    (∀ env : Env, ∃ pl : Sem Bool, eval (iCall "name" "no watched name" p) env = (do
      let ov ← attributeBase (.Call (.Name "super" p.a) [] [] p.b) "__init__" env (eval (.Call (.Name "super" p.a) [] [] p.b) env)
      standAt p.c.atName
      let (f, first) ← holding [ov] (getMethod ov "__init__" pl)
      callWith p.j f first (backTo p.j (starEach [.JoinedStr [.Constant (.str "no watched name") 0 p.d, .FormattedValue (.Call (.Name "_told" p.e) [.Name "name" p.f] [] p.g) (-1) none p.h] p.i] env)) [])) :=
  ⟨_, _, ⟨_, _, _, _, _, _, _, _, _, _, _, _, _, _⟩, rfl, rfl, rfl, fun env => ⟨_, rfl⟩⟩
/-- an __init__ as it stands -/
def FnI (K : PySem.W.Frag) (C fI : Addr) (st : Stmt) (qual : Str) : Prop := ∃ (oc ct doc pm : Value) (od an : Option Addr) (cda cc : Addr) (osl : Array (Option Value)), K.lookup fI = some ⟨oc, od, .func (PySem.W.ksFn "__init__" qual (defArgs st) (defBody st) (defScope st) .none .none doc pm an (.ref cda) ct cc), osl⟩ ∧ PySem.W.codeIn K (.ref cda) qual = true ∧
    (∃ ccl cdd vs ccs file tf, K.lookup cda = some ⟨ccl, cdd, .fields vs, ccs⟩ ∧ vs[2]? = some (.str file tf) ∧ ((theP.main.file : Str) == file) = true) ∧ ∃ cl cld csl, K.lookup cc = some ⟨cl, cld, .cell (some (.ref C)), csl⟩
def OxI (K : PySem.W.Frag) (C : Addr) : Prop := ∃ nm q N bs bm sn sub ab col dd k0 k1 k2 k3 k5, K.lookup C = some (excClassObj nm q C N bs bm true sn sub ab col dd k0 k1 k2 k3 k5 "ValueError.__new__") ∧ PySem.HandSPX.refsVE bm = true
structure InF (K : PySem.W.Frag) (C fI : Addr) (x : Str) : Prop where
  tI : PySem.W.typeIn K (.ref fI) = some (.type "function")
  sa : PySem.W.findIn K (.ref C) "__setattr__" = some (some (.builtin "object.__setattr__"))
  no : PySem.W.findIn K (.ref C) x = some none
  isC : PySem.W.mroIn K C (.ref C) = some true
/-- a def of the text, as it stands -/
def FnD (K : PySem.W.Frag) (f : Addr) (x : Str) (st : Stmt) : Prop := ∃ (oc : Value) (od an : Option Addr) (osl : Array (Option Value)) (kV doc pm cdv ct : Value), K.lookup f = some ⟨oc, od, .func (PySem.W.fnOf x x (defArgs st) (defBody st) (defScope st) .none kV doc pm an cdv ct), osl⟩ ∧ PySem.W.codeIn K cdv x = true ∧ PySem.W.keepIn K (.ref f) = true
theorem FnD.made {K : PySem.W.Frag} {f : Addr} {x : Str} {st : Stmt} (h : FnD K f x st) : ∃ fd, Fun K x x st f fd := by
  obtain ⟨oc, od, an, osl, kV, doc, pm, cdv, ct, l, c, k⟩ := h
  exact ⟨_, fun_mk l c k⟩
theorem init_made {K : PySem.W.Frag} {mg : Str → Option Value} {C L fI : Addr} {st : Stmt} {qual x msg : Str} (ox : OxI K C) (F : ClsF K C) (I : InF K C fI x) (fn : FnI K C fI st qual)
    (tx : ∃ p1 p2 p, defArgs st = iA x p1 p2 ∧ defBody st = iB x msg p ∧ defScope st = iS x ∧
    (∀ env : Env, ∃ pl : Sem Bool, eval (iCall x msg p) env = (do
      let ov ← attributeBase (.Call (.Name "super" p.a) [] [] p.b) "__init__" env (eval (.Call (.Name "super" p.a) [] [] p.b) env)
      standAt p.c.atName
      let (f, first) ← holding [ov] (getMethod ov "__init__" pl)
      callWith p.j f first (backTo p.j (starEach [.JoinedStr [.Constant (.str msg) 0 p.d, .FormattedValue (.Call (.Name "_told" p.e) [.Name x p.f] [] p.g) (-1) none p.h] p.i] env)) [])))
    (su : mg "super" = none) (M : ClsM K C (.ref C :: .ref L :: veTl)) (N : ClsM K L (.ref L :: veTl)) (lI : PySem.W.findIn K (.ref L) "__init__" = some (some (.builtin "ValueError.__init__"))) (opq : PySem.W.nsIn K PySem.cStatics "thirdparty.any" = some none)
    (xne : x = "part" ∨ x = "at" ∨ x = "name" ∨ x = "most") (ml : msg.length ≤ 1000) : InitT theP K mg C fI st qual x msg where
  oex := ⟨ox, I.sa, F.ex, F.ty, F.kp⟩
  text := tx
  fn := fn
  top := by decide +kernel
  su := su
  above := by
    obtain ⟨cd, h, e⟩ := M.cl
    obtain ⟨cl, h2, e2⟩ := N.cl
    unfold PySem.W.ks_superIn
    rw [h, Option.bind_some, e]
    have q := lI
    unfold PySem.W.findIn at q
    unfold PySem.W.clsIn at h2
    have ed : (((Value.ref C :: Value.ref L :: veTl).dropWhile (· != .ref C)).drop 1) = Value.ref L :: veTl := by simp [List.dropWhile_cons]
    rw [ed]
    split at h2
    · rename_i c' d' cd' sl' ho
      cases h2
      dsimp only at q
      rw [ho] at q
      dsimp only at q
      rw [e2] at q
      exact q
    · cases h2
  opq := opq
  isVE := F.ve
  isC := I.isC
  noX := I.no
  xne := xne
  msgl := ml
theorem all_mk {w : World} {K : PySem.W.Frag} {h : Heap} {mg : Str → Option Value} {fa C0 C1 C2 C3 C4 C5 C6 C7 C8 C9 C10 C11 C12 C13 C14 C15 C16 C17 C18 C19 C20 C21 C22 C23 C24 C25 I0 I1 I2 I3 I4 I5 I6 fT fB fX fY fP fA fK fL fE fW : Addr} (X : K.In h) (G : h.Ns mainGlobals mg) (hfa : mg "law" = some (.ref fa))
    (g0 : PySem.W.nsIn K mainGlobals "BadPrime" = some (some (.ref C0)))
    (g1 : PySem.W.nsIn K mainGlobals "BadRow" = some (some (.ref C1)))
    (g2 : PySem.W.nsIn K mainGlobals "BadTable" = some (some (.ref C2)))
    (g3 : PySem.W.nsIn K mainGlobals "BadChoice" = some (some (.ref C3)))
    (g4 : PySem.W.nsIn K mainGlobals "BadWord" = some (some (.ref C4)))
    (g5 : PySem.W.nsIn K mainGlobals "NotFrame" = some (some (.ref C5)))
    (g6 : PySem.W.nsIn K mainGlobals "NotUndone" = some (some (.ref C6)))
    (g7 : PySem.W.nsIn K mainGlobals "BadDeed" = some (some (.ref C7)))
    (g8 : PySem.W.nsIn K mainGlobals "BadLive" = some (some (.ref C8)))
    (g9 : PySem.W.nsIn K mainGlobals "BadName" = some (some (.ref C9)))
    (g10 : PySem.W.nsIn K mainGlobals "NothingLeft" = some (some (.ref C10)))
    (g11 : PySem.W.nsIn K mainGlobals "BadWords" = some (some (.ref C11)))
    (g12 : PySem.W.nsIn K mainGlobals "BadEnd" = some (some (.ref C12)))
    (g13 : PySem.W.nsIn K mainGlobals "NotOdd" = some (some (.ref C13)))
    (g14 : PySem.W.nsIn K mainGlobals "BadRules" = some (some (.ref C14)))
    (g15 : PySem.W.nsIn K mainGlobals "BadLengths" = some (some (.ref C15)))
    (g16 : PySem.W.nsIn K mainGlobals "NotLeast" = some (some (.ref C16)))
    (g17 : PySem.W.nsIn K mainGlobals "BadChange" = some (some (.ref C17)))
    (g18 : PySem.W.nsIn K mainGlobals "BadNumber" = some (some (.ref C18)))
    (g19 : PySem.W.nsIn K mainGlobals "BadFrame" = some (some (.ref C19)))
    (g20 : PySem.W.nsIn K mainGlobals "TooMany" = some (some (.ref C20)))
    (g21 : PySem.W.nsIn K mainGlobals "BadMany" = some (some (.ref C21)))
    (g22 : PySem.W.nsIn K mainGlobals "BadLead" = some (some (.ref C22)))
    (g23 : PySem.W.nsIn K mainGlobals "BadText" = some (some (.ref C23)))
    (g24 : PySem.W.nsIn K mainGlobals "NoWatch" = some (some (.ref C24)))
    (g25 : PySem.W.nsIn K mainGlobals "LeftError" = some (some (.ref C25)))
    (F0 : ClsF K C0)
    (M0 : ClsM K C0 (.ref C0 :: .ref C25 :: veTl))
    (F1 : ClsF K C1)
    (M1 : ClsM K C1 (.ref C1 :: .ref C25 :: veTl))
    (F2 : ClsF K C2)
    (M2 : ClsM K C2 (.ref C2 :: .ref C25 :: veTl))
    (F3 : ClsF K C3)
    (M3 : ClsM K C3 (.ref C3 :: .ref C25 :: veTl))
    (F4 : ClsF K C4)
    (M4 : ClsM K C4 (.ref C4 :: .ref C25 :: veTl))
    (F5 : ClsF K C5)
    (M5 : ClsM K C5 (.ref C5 :: .ref C25 :: veTl))
    (F6 : ClsF K C6)
    (M6 : ClsM K C6 (.ref C6 :: .ref C25 :: veTl))
    (F7 : ClsF K C7)
    (M7 : ClsM K C7 (.ref C7 :: .ref C25 :: veTl))
    (F8 : ClsF K C8)
    (M8 : ClsM K C8 (.ref C8 :: .ref C25 :: veTl))
    (F9 : ClsF K C9)
    (M9 : ClsM K C9 (.ref C9 :: .ref C25 :: veTl))
    (F10 : ClsF K C10)
    (M10 : ClsM K C10 (.ref C10 :: .ref C25 :: veTl))
    (F11 : ClsF K C11)
    (M11 : ClsM K C11 (.ref C11 :: .ref C25 :: veTl))
    (F12 : ClsF K C12)
    (M12 : ClsM K C12 (.ref C12 :: .ref C25 :: veTl))
    (F13 : ClsF K C13)
    (M13 : ClsM K C13 (.ref C13 :: .ref C25 :: veTl))
    (F14 : ClsF K C14)
    (M14 : ClsM K C14 (.ref C14 :: .ref C25 :: veTl))
    (F15 : ClsF K C15)
    (M15 : ClsM K C15 (.ref C15 :: .ref C25 :: veTl))
    (F16 : ClsF K C16)
    (M16 : ClsM K C16 (.ref C16 :: .ref C25 :: veTl))
    (F17 : ClsF K C17)
    (M17 : ClsM K C17 (.ref C17 :: .ref C25 :: veTl))
    (F18 : ClsF K C18)
    (M18 : ClsM K C18 (.ref C18 :: .ref C25 :: veTl))
    (F19 : ClsF K C19)
    (M19 : ClsM K C19 (.ref C19 :: .ref C25 :: veTl))
    (F20 : ClsF K C20)
    (M20 : ClsM K C20 (.ref C20 :: .ref C25 :: veTl))
    (F21 : ClsF K C21)
    (M21 : ClsM K C21 (.ref C21 :: .ref C25 :: veTl))
    (F22 : ClsF K C22)
    (M22 : ClsM K C22 (.ref C22 :: .ref C25 :: veTl))
    (F23 : ClsF K C23)
    (M23 : ClsM K C23 (.ref C23 :: .ref C25 :: veTl))
    (F24 : ClsF K C24)
    (M24 : ClsM K C24 (.ref C24 :: .ref C25 :: veTl))
    (F25 : ClsF K C25)
    (M25 : ClsM K C25 (.ref C25 :: veTl))
    (x0 : PySem.W.excIn K C0 veTl "ValueError.__new__" = true)
    (x1 : PySem.W.excIn K C1 veTl "ValueError.__new__" = true)
    (x2 : PySem.W.excIn K C2 veTl "ValueError.__new__" = true)
    (x3 : PySem.W.excIn K C3 veTl "ValueError.__new__" = true)
    (x4 : PySem.W.excIn K C4 veTl "ValueError.__new__" = true)
    (x5 : PySem.W.excIn K C5 veTl "ValueError.__new__" = true)
    (x6 : PySem.W.excIn K C6 veTl "ValueError.__new__" = true)
    (x7 : PySem.W.excIn K C7 veTl "ValueError.__new__" = true)
    (x8 : PySem.W.excIn K C8 veTl "ValueError.__new__" = true)
    (x9 : PySem.W.excIn K C9 veTl "ValueError.__new__" = true)
    (x10 : PySem.W.excIn K C10 veTl "ValueError.__new__" = true)
    (x11 : PySem.W.excIn K C11 veTl "ValueError.__new__" = true)
    (x12 : PySem.W.excIn K C12 veTl "ValueError.__new__" = true)
    (x13 : PySem.W.excIn K C13 veTl "ValueError.__new__" = true)
    (x14 : PySem.W.excIn K C14 veTl "ValueError.__new__" = true)
    (x15 : PySem.W.excIn K C15 veTl "ValueError.__new__" = true)
    (x16 : PySem.W.excIn K C16 veTl "ValueError.__new__" = true)
    (x17 : PySem.W.excIn K C17 veTl "ValueError.__new__" = true)
    (x25 : PySem.W.excIn K C25 veTl "ValueError.__new__" = true)
    (iC0 : PySem.W.findIn K (.ref C18) "__init__" = some (some (.ref I0)))
    (IN0 : InF K C18 I0 "part")
    (ox0 : OxI K C18)
    (fn0 : FnI K C18 I0 (inClass (top 13) 0) "BadNumber.__init__")
    (iC1 : PySem.W.findIn K (.ref C19) "__init__" = some (some (.ref I1)))
    (IN1 : InF K C19 I1 "part")
    (ox1 : OxI K C19)
    (fn1 : FnI K C19 I1 (inClass (top 7) 0) "BadFrame.__init__")
    (iC2 : PySem.W.findIn K (.ref C20) "__init__" = some (some (.ref I2)))
    (IN2 : InF K C20 I2 "most")
    (ox2 : OxI K C20)
    (fn2 : FnI K C20 I2 (inClass (top 27) 0) "TooMany.__init__")
    (iC3 : PySem.W.findIn K (.ref C21) "__init__" = some (some (.ref I3)))
    (IN3 : InF K C21 I3 "part")
    (ox3 : OxI K C21)
    (fn3 : FnI K C21 I3 (inClass (top 11) 0) "BadMany.__init__")
    (iC4 : PySem.W.findIn K (.ref C22) "__init__" = some (some (.ref I4)))
    (IN4 : InF K C22 I4 "part")
    (ox4 : OxI K C22)
    (fn4 : FnI K C22 I4 (inClass (top 8) 0) "BadLead.__init__")
    (iC5 : PySem.W.findIn K (.ref C23) "__init__" = some (some (.ref I5)))
    (IN5 : InF K C23 I5 "at")
    (ox5 : OxI K C23)
    (fn5 : FnI K C23 I5 (inClass (top 18) 0) "BadText.__init__")
    (iC6 : PySem.W.findIn K (.ref C24) "__init__" = some (some (.ref I6)))
    (IN6 : InF K C24 I6 "name")
    (ox6 : OxI K C24)
    (fn6 : FnI K C24 I6 (inClass (top 21) 0) "NoWatch.__init__")
    (aT : PySem.W.nsIn K mainGlobals "_told" = some (some (.ref fT)))
    (dT : FnD K fT "_told" (top 1))
    (aB : PySem.W.nsIn K mainGlobals "_law_begun" = some (some (.ref fB)))
    (dB : FnD K fB "_law_begun" (top 29))
    (aX : PySem.W.nsIn K mainGlobals "_law_mixed" = some (some (.ref fX)))
    (dX : FnD K fX "_law_mixed" (top 30))
    (aY : PySem.W.nsIn K mainGlobals "_law_take" = some (some (.ref fY)))
    (dY : FnD K fY "_law_take" (top 31))
    (aP : PySem.W.nsIn K mainGlobals "_law_pick" = some (some (.ref fP)))
    (dP : FnD K fP "_law_pick" (top 32))
    (aA : PySem.W.nsIn K mainGlobals "_law_any" = some (some (.ref fA)))
    (dA : FnD K fA "_law_any" (top 33))
    (aK : PySem.W.nsIn K mainGlobals "_law_kinds" = some (some (.ref fK)))
    (dK : FnD K fK "_law_kinds" (top 34))
    (aL : PySem.W.nsIn K mainGlobals "_law_plain_errors" = some (some (.ref fL)))
    (dL : FnD K fL "_law_plain_errors" (top 35))
    (aE : PySem.W.nsIn K mainGlobals "_law_errors_of" = some (some (.ref fE)))
    (dE : FnD K fE "_law_errors_of" (top 36))
    (aW : PySem.W.nsIn K mainGlobals "law" = some (some (.ref fW)))
    (dW : FnD K fW "law" (top 37))
    (z_abs : PySem.W.nsIn K mainGlobals "abs" = some none)
    (z_int : PySem.W.nsIn K mainGlobals "int" = some none)
    (z_len : PySem.W.nsIn K mainGlobals "len" = some none)
    (z_str : PySem.W.nsIn K mainGlobals "str" = some none)
    (z_isinstance : PySem.W.nsIn K mainGlobals "isinstance" = some none)
    (z_ValueError : PySem.W.nsIn K mainGlobals "ValueError" = some none)
    (z_range : PySem.W.nsIn K mainGlobals "range" = some none)
    (z_enumerate : PySem.W.nsIn K mainGlobals "enumerate" = some none)
    (z_repr : PySem.W.nsIn K mainGlobals "repr" = some none)
    (z_super : PySem.W.nsIn K mainGlobals "super" = some none)
    (lI : PySem.W.findIn K (.ref C25) "__init__" = some (some (.builtin "ValueError.__init__")))
    (opq : PySem.W.nsIn K PySem.cStatics "thirdparty.any" = some none)
    (sp : PySem.W.specialIn K (.builtin "object.__class__") "__get__" = some (some (.builtin "getset_descriptor.__get__")))
    (tk : PySem.W.takesIn K (.builtin "object.__class__") = some true)
    (inj : ((List.range 26).all fun i => (List.range 26).all fun k => decide (cOf C0 C1 C2 C3 C4 C5 C6 C7 C8 C9 C10 C11 C12 C13 C14 C15 C16 C17 C18 C19 C20 C21 C22 C23 C24 C25 i = cOf C0 C1 C2 C3 C4 C5 C6 C7 C8 C9 C10 C11 C12 C13 C14 C15 C16 C17 C18 C19 C20 C21 C22 C23 C24 C25 k → i = k)) = true) :
    ∃ fd : FuncData, (∀ (s : Shared) (u : Value), BindsTo s fd ⟨[u], []⟩ [("script", u)]) ∧ ∀ base : Heap, K.In base → base.Ns mainGlobals mg → AtCaller theP w K mg base fa fd "script" (spLaw K) := by
  have e := hfa.symm.trans (PySem.W.mg_of X G aW)
  cases e
  have cm : ∀ i, i < 26 → ClsF K (cOf C0 C1 C2 C3 C4 C5 C6 C7 C8 C9 C10 C11 C12 C13 C14 C15 C16 C17 C18 C19 C20 C21 C22 C23 C24 C25 i) := fun i hi => by
    match i, hi with
    | 0, _ => exact F0
    | 1, _ => exact F1
    | 2, _ => exact F2
    | 3, _ => exact F3
    | 4, _ => exact F4
    | 5, _ => exact F5
    | 6, _ => exact F6
    | 7, _ => exact F7
    | 8, _ => exact F8
    | 9, _ => exact F9
    | 10, _ => exact F10
    | 11, _ => exact F11
    | 12, _ => exact F12
    | 13, _ => exact F13
    | 14, _ => exact F14
    | 15, _ => exact F15
    | 16, _ => exact F16
    | 17, _ => exact F17
    | 18, _ => exact F18
    | 19, _ => exact F19
    | 20, _ => exact F20
    | 21, _ => exact F21
    | 22, _ => exact F22
    | 23, _ => exact F23
    | 24, _ => exact F24
    | 25, _ => exact F25
    | m + 26, h => omega
  have cg : ∀ i, i < 26 → mg (nm i) = some (.ref (cOf C0 C1 C2 C3 C4 C5 C6 C7 C8 C9 C10 C11 C12 C13 C14 C15 C16 C17 C18 C19 C20 C21 C22 C23 C24 C25 i)) := fun i hi => by
    match i, hi with
    | 0, _ => exact PySem.W.mg_of X G g0
    | 1, _ => exact PySem.W.mg_of X G g1
    | 2, _ => exact PySem.W.mg_of X G g2
    | 3, _ => exact PySem.W.mg_of X G g3
    | 4, _ => exact PySem.W.mg_of X G g4
    | 5, _ => exact PySem.W.mg_of X G g5
    | 6, _ => exact PySem.W.mg_of X G g6
    | 7, _ => exact PySem.W.mg_of X G g7
    | 8, _ => exact PySem.W.mg_of X G g8
    | 9, _ => exact PySem.W.mg_of X G g9
    | 10, _ => exact PySem.W.mg_of X G g10
    | 11, _ => exact PySem.W.mg_of X G g11
    | 12, _ => exact PySem.W.mg_of X G g12
    | 13, _ => exact PySem.W.mg_of X G g13
    | 14, _ => exact PySem.W.mg_of X G g14
    | 15, _ => exact PySem.W.mg_of X G g15
    | 16, _ => exact PySem.W.mg_of X G g16
    | 17, _ => exact PySem.W.mg_of X G g17
    | 18, _ => exact PySem.W.mg_of X G g18
    | 19, _ => exact PySem.W.mg_of X G g19
    | 20, _ => exact PySem.W.mg_of X G g20
    | 21, _ => exact PySem.W.mg_of X G g21
    | 22, _ => exact PySem.W.mg_of X G g22
    | 23, _ => exact PySem.W.mg_of X G g23
    | 24, _ => exact PySem.W.mg_of X G g24
    | 25, _ => exact PySem.W.mg_of X G g25
    | m + 26, h => omega
  have mm : ∀ i, i < 25 → ClsM K (cOf C0 C1 C2 C3 C4 C5 C6 C7 C8 C9 C10 C11 C12 C13 C14 C15 C16 C17 C18 C19 C20 C21 C22 C23 C24 C25 i) (.ref (cOf C0 C1 C2 C3 C4 C5 C6 C7 C8 C9 C10 C11 C12 C13 C14 C15 C16 C17 C18 C19 C20 C21 C22 C23 C24 C25 i) :: .ref C25 :: veTl) := fun i hi => by
    match i, hi with
    | 0, _ => exact M0
    | 1, _ => exact M1
    | 2, _ => exact M2
    | 3, _ => exact M3
    | 4, _ => exact M4
    | 5, _ => exact M5
    | 6, _ => exact M6
    | 7, _ => exact M7
    | 8, _ => exact M8
    | 9, _ => exact M9
    | 10, _ => exact M10
    | 11, _ => exact M11
    | 12, _ => exact M12
    | 13, _ => exact M13
    | 14, _ => exact M14
    | 15, _ => exact M15
    | 16, _ => exact M16
    | 17, _ => exact M17
    | 18, _ => exact M18
    | 19, _ => exact M19
    | 20, _ => exact M20
    | 21, _ => exact M21
    | 22, _ => exact M22
    | 23, _ => exact M23
    | 24, _ => exact M24
    | m + 25, h => omega
  have inj' : ∀ i, i < 26 → ∀ k, k < 26 → cOf C0 C1 C2 C3 C4 C5 C6 C7 C8 C9 C10 C11 C12 C13 C14 C15 C16 C17 C18 C19 C20 C21 C22 C23 C24 C25 i = cOf C0 C1 C2 C3 C4 C5 C6 C7 C8 C9 C10 C11 C12 C13 C14 C15 C16 C17 C18 C19 C20 C21 C22 C23 C24 C25 k → i = k := fun i hi k hk => of_decide_eq_true (List.all_eq_true.mp (List.all_eq_true.mp inj i (List.mem_range.mpr hi)) k (List.mem_range.mpr hk))
  have xs : ∀ i, i < 18 ∨ i = 25 → PySem.W.excIn K (cOf C0 C1 C2 C3 C4 C5 C6 C7 C8 C9 C10 C11 C12 C13 C14 C15 C16 C17 C18 C19 C20 C21 C22 C23 C24 C25 i) [.type "ValueError", .type "Exception", .type "BaseException", .type "object"] "ValueError.__new__" = true := fun i hi => by
    match i, hi with
    | 0, _ => exact x0
    | 1, _ => exact x1
    | 2, _ => exact x2
    | 3, _ => exact x3
    | 4, _ => exact x4
    | 5, _ => exact x5
    | 6, _ => exact x6
    | 7, _ => exact x7
    | 8, _ => exact x8
    | 9, _ => exact x9
    | 10, _ => exact x10
    | 11, _ => exact x11
    | 12, _ => exact x12
    | 13, _ => exact x13
    | 14, _ => exact x14
    | 15, _ => exact x15
    | 16, _ => exact x16
    | 17, _ => exact x17
    | 25, _ => exact x25
    | 18, h => exact absurd h (by decide)
    | 19, h => exact absurd h (by decide)
    | 20, h => exact absurd h (by decide)
    | 21, h => exact absurd h (by decide)
    | 22, h => exact absurd h (by decide)
    | 23, h => exact absurd h (by decide)
    | 24, h => exact absurd h (by decide)
    | m + 26, h => omega
  have isn : ∀ n, n ∈ [("abs" : Str), "int", "len", "str", "isinstance", "ValueError", "range", "enumerate", "repr", "super"] → True := fun _ _ => True.intro
  have T : Txt K mg (cOf C0 C1 C2 C3 C4 C5 C6 C7 C8 C9 C10 C11 C12 C13 C14 C15 C16 C17 C18 C19 C20 C21 C22 C23 C24 C25) := by
   refine ⟨cg, fun i hi => (cm i hi).kp, fun i hi => ⟨(cm i hi).ga, (cm i hi).gg, (cm i hi).ex, (cm i hi).hd, (cm i hi).ca, sp, tk, (cm i hi).ob⟩, fun i hi k hk => ?_, fun i hi => ?_, fun i hi => kit_val (cm i hi).ve, xs, PySem.W.mg_none_of X G z_isinstance, PySem.W.mg_none_of X G z_ValueError⟩
   · have N := mm k hk
     by_cases h25 : i = 25
     · subst h25
       have ne : (25 : Nat) ≠ k := by omega
       refine kit_one (m := .ref C25 :: veTl) M25 rfl N (cm k (by omega)).ty (fun ne2 => ?_) (fun e => absurd (inj' 25 (by decide) k (by omega) e) ne)
       have z : (Value.ref C25 == Value.ref (cOf C0 C1 C2 C3 C4 C5 C6 C7 C8 C9 C10 C11 C12 C13 C14 C15 C16 C17 C18 C19 C20 C21 C22 C23 C24 C25 k)) = false := beq_eq_false_iff_ne.mpr fun e => ne2 (Value.ref.inj e)
       rw [decide_eq_false ne, List.contains_cons]
       have z2 : (Value.ref (cOf C0 C1 C2 C3 C4 C5 C6 C7 C8 C9 C10 C11 C12 C13 C14 C15 C16 C17 C18 C19 C20 C21 C22 C23 C24 C25 k) == Value.ref C25) = false := beq_eq_false_iff_ne.mpr fun e => ne2 (Value.ref.inj e).symm
       rw [z2]
       rfl
     · refine kit_one (mm i (by omega)) rfl N (cm k (by omega)).ty (fun ne2 => ?_) (fun e => decide_eq_true (inj' i hi k (by omega) e))
       have hik : i ≠ k := fun e => ne2 (by rw [e])
       have z1 : (Value.ref (cOf C0 C1 C2 C3 C4 C5 C6 C7 C8 C9 C10 C11 C12 C13 C14 C15 C16 C17 C18 C19 C20 C21 C22 C23 C24 C25 k) == Value.ref (cOf C0 C1 C2 C3 C4 C5 C6 C7 C8 C9 C10 C11 C12 C13 C14 C15 C16 C17 C18 C19 C20 C21 C22 C23 C24 C25 i)) = false := beq_eq_false_iff_ne.mpr fun e => ne2 (Value.ref.inj e).symm
       have z2 : (Value.ref (cOf C0 C1 C2 C3 C4 C5 C6 C7 C8 C9 C10 C11 C12 C13 C14 C15 C16 C17 C18 C19 C20 C21 C22 C23 C24 C25 k) == Value.ref C25) = false := beq_eq_false_iff_ne.mpr fun e => absurd (inj' k (by omega) 25 (by decide) (Value.ref.inj e)) (by omega)
       rw [decide_eq_false hik, List.contains_cons, List.contains_cons, z1, z2]
       rfl
   · by_cases h25 : i = 25
     · subst h25
       exact kit_one (m := .ref C25 :: veTl) M25 rfl M25 F25.ty (fun ne => absurd rfl ne) (fun _ => rfl)
     · refine kit_one (mm i (by omega)) rfl M25 F25.ty (fun _ => ?_) (fun _ => rfl)
       have z : (Value.ref (cOf C0 C1 C2 C3 C4 C5 C6 C7 C8 C9 C10 C11 C12 C13 C14 C15 C16 C17 C18 C19 C20 C21 C22 C23 C24 C25 25) == Value.ref C25) = true := beq_self_eq_true (Value.ref C25)
       rw [List.contains_cons, List.contains_cons, z, Bool.true_or, Bool.or_true]
  obtain ⟨qT, UT⟩ := dT.made
  obtain ⟨qB, UB⟩ := dB.made
  obtain ⟨qX, UX⟩ := dX.made
  obtain ⟨qY, UY⟩ := dY.made
  obtain ⟨qP, UP⟩ := dP.made
  obtain ⟨qA, UA⟩ := dA.made
  obtain ⟨qK, UK⟩ := dK.made
  obtain ⟨qL, UL⟩ := dL.made
  obtain ⟨qE, UE⟩ := dE.made
  obtain ⟨oc, od, an, osl, kV, doc, pm, cdv, ct, lW, cW, kW⟩ := dW
  have UW := fun_mk (st := sLaw) lW cW kW
  have m_abs := PySem.W.mg_none_of X G z_abs
  have m_int := PySem.W.mg_none_of X G z_int
  have m_len := PySem.W.mg_none_of X G z_len
  have m_str := PySem.W.mg_none_of X G z_str
  have m_isinstance := PySem.W.mg_none_of X G z_isinstance
  have m_ValueError := PySem.W.mg_none_of X G z_ValueError
  have m_range := PySem.W.mg_none_of X G z_range
  have m_enumerate := PySem.W.mg_none_of X G z_enumerate
  have m_repr := PySem.W.mg_none_of X G z_repr
  have m_super := PySem.W.mg_none_of X G z_super
  have bT := UT.binds (ps := ["value"]) fun _ _ _ _ _ _ us hl => match us, hl with | [_], _ => rfl
  have bB := UB.binds (ps := ["script"]) fun _ _ _ _ _ _ us hl => match us, hl with | [_], _ => rfl
  have bX := UX.binds (ps := ["draw"]) fun _ _ _ _ _ _ us hl => match us, hl with | [_], _ => rfl
  have bY := UY.binds (ps := ["draw", "amount"]) fun _ _ _ _ _ _ us hl => match us, hl with | [_, _], _ => rfl
  have bP := UP.binds (ps := ["draw", "some"]) fun _ _ _ _ _ _ us hl => match us, hl with | [_, _], _ => rfl
  have bA := UA.binds (ps := ["draw"]) fun _ _ _ _ _ _ us hl => match us, hl with | [_], _ => rfl
  have bK := UK.binds (ps := ["error"]) fun _ _ _ _ _ _ us hl => match us, hl with | [_], _ => rfl
  have bL := UL.binds (ps := ["words_here"]) fun _ _ _ _ _ _ us hl => match us, hl with | [_], _ => rfl
  have bE := UE.binds (ps := ["each"]) fun _ _ _ _ _ _ us hl => match us, hl with | [_], _ => rfl
  refine ⟨PySem.W.fnOf "law" "law" (defArgs sLaw) (defBody sLaw) (defScope sLaw) .none kV doc pm an cdv ct, fun s u => .of_eq rfl, fun base KB _ => ?_⟩
  have GT : FnOk theP w K mg base CX0 1 fT qT ["value"] spTold := ok_told UT m_isinstance m_str m_int m_abs
  obtain ⟨w0, wb0, wk0, wf0⟩ := ok_init (init_made ox0 F18 IN0 fn0 text0 m_super M18 M25 lI opq (.inl rfl) (by decide)) GT (PySem.W.mg_of X G aT) UT.kp bT
  obtain ⟨w1, wb1, wk1, wf1⟩ := ok_init (init_made ox1 F19 IN1 fn1 text1 m_super M19 M25 lI opq (.inl rfl) (by decide)) GT (PySem.W.mg_of X G aT) UT.kp bT
  obtain ⟨w2, wb2, wk2, wf2⟩ := ok_init (init_made ox2 F20 IN2 fn2 text2 m_super M20 M25 lI opq (.inr (.inr (.inr rfl))) (by decide)) GT (PySem.W.mg_of X G aT) UT.kp bT
  obtain ⟨w3, wb3, wk3, wf3⟩ := ok_init (init_made ox3 F21 IN3 fn3 text3 m_super M21 M25 lI opq (.inl rfl) (by decide)) GT (PySem.W.mg_of X G aT) UT.kp bT
  obtain ⟨w4, wb4, wk4, wf4⟩ := ok_init (init_made ox4 F22 IN4 fn4 text4 m_super M22 M25 lI opq (.inl rfl) (by decide)) GT (PySem.W.mg_of X G aT) UT.kp bT
  obtain ⟨w5, wb5, wk5, wf5⟩ := ok_init (init_made ox5 F23 IN5 fn5 text5 m_super M23 M25 lI opq (.inr (.inl rfl)) (by decide)) GT (PySem.W.mg_of X G aT) UT.kp bT
  obtain ⟨w6, wb6, wk6, wf6⟩ := ok_init (init_made ox6 F24 IN6 fn6 text6 m_super M24 M25 lI opq (.inr (.inr (.inl rfl))) (by decide)) GT (PySem.W.mg_of X G aT) UT.kp bT
  have MM : ∀ j, j < 7 → Mk1 theP w K mg base (cOf C0 C1 C2 C3 C4 C5 C6 C7 C8 C9 C10 C11 C12 C13 C14 C15 C16 C17 C18 C19 C20 C21 C22 C23 C24 C25 (18 + j)) (xn (18 + j)) (fOf I0 I1 I2 I3 I4 I5 I6 j) (dOf w0 w1 w2 w3 w4 w5 w6 j) := fun j hj => by
    match j, hj with
    | 0, _ => exact ⟨⟨ox0, IN0.sa, F18.ex, F18.ty, F18.kp⟩, iC0, IN0.tI, wf0, wb0, wk0, ⟨F18.ga, F18.gg, F18.ex, F18.hd, IN0.no⟩⟩
    | 1, _ => exact ⟨⟨ox1, IN1.sa, F19.ex, F19.ty, F19.kp⟩, iC1, IN1.tI, wf1, wb1, wk1, ⟨F19.ga, F19.gg, F19.ex, F19.hd, IN1.no⟩⟩
    | 2, _ => exact ⟨⟨ox2, IN2.sa, F20.ex, F20.ty, F20.kp⟩, iC2, IN2.tI, wf2, wb2, wk2, ⟨F20.ga, F20.gg, F20.ex, F20.hd, IN2.no⟩⟩
    | 3, _ => exact ⟨⟨ox3, IN3.sa, F21.ex, F21.ty, F21.kp⟩, iC3, IN3.tI, wf3, wb3, wk3, ⟨F21.ga, F21.gg, F21.ex, F21.hd, IN3.no⟩⟩
    | 4, _ => exact ⟨⟨ox4, IN4.sa, F22.ex, F22.ty, F22.kp⟩, iC4, IN4.tI, wf4, wb4, wk4, ⟨F22.ga, F22.gg, F22.ex, F22.hd, IN4.no⟩⟩
    | 5, _ => exact ⟨⟨ox5, IN5.sa, F23.ex, F23.ty, F23.kp⟩, iC5, IN5.tI, wf5, wb5, wk5, ⟨F23.ga, F23.gg, F23.ex, F23.hd, IN5.no⟩⟩
    | 6, _ => exact ⟨⟨ox6, IN6.sa, F24.ex, F24.ty, F24.kp⟩, iC6, IN6.tI, wf6, wb6, wk6, ⟨F24.ga, F24.gg, F24.ex, F24.hd, IN6.no⟩⟩
    | m + 7, h => omega
  have GX : FnOk theP w K mg base CX0 1 fX qX ["draw"] spMixed := ok_mixed UX m_int
  have GY : FnOk theP w K mg base CX0 2 fY qY ["draw", "amount"] spTake := ok_take UY GX (PySem.W.mg_of X G aX) UX.kp bX m_int
  have GP : FnOk theP w K mg base CX0 3 fP qP ["draw", "some"] spPick := ok_pick UP GY (PySem.W.mg_of X G aY) UY.kp bY m_len
  have D : Defs theP w K mg base (cOf C0 C1 C2 C3 C4 C5 C6 C7 C8 C9 C10 C11 C12 C13 C14 C15 C16 C17 C18 C19 C20 C21 C22 C23 C24 C25) fB fP fA fE fL fK qB qP qA qE qL qK :=
    ⟨ok_begun UB m_abs, GP, ok_any UA GP (PySem.W.mg_of X G aP) UP.kp bP, ok_errs UE T MM, ok_plain UL T, ok_kinds UK T, PySem.W.mg_of X G aB, PySem.W.mg_of X G aP, PySem.W.mg_of X G aA, PySem.W.mg_of X G aE, PySem.W.mg_of X G aL, PySem.W.mg_of X G aK, UB.kp, UP.kp, UA.kp, UE.kp, UL.kp, UK.kp, bB, bP, bA, bE, bL, bK, m_range, m_enumerate, m_repr⟩
  exact law_at UW T D
end Lp
open PySem PySem.W PyProof.Rows
set_option maxRecDepth 100000 in
set_option maxHeartbeats 0 in
theorem PySem.Challenge.cw_leftproducts_k00_errors_of_all_parts_holds : PySem.Challenge.rw_leftproducts_k00_errors_of_all_parts.Holds := by
  w_on; o_law; k_head; (case hw => w_witness2)
  k_fill
  refine Lp.walk_at_caller (l := PySem.Challenge.rw_leftproducts_k00_errors_of_all_parts) (n := 63) (x := "script") (sp := Lp.spLaw) rfl (by decide) rfl (fun w h Y => PySem.W.kIn_of Y) ?F (fun K H a ns hl hS => ⟨a, ns, rfl, hS, hl, fun _ => rfl⟩)
  case F =>
    intro w mg fa h KX G hmg
    refine' Lp.all_mk KX G hmg ?zq_g0 ?zq_g1 ?zq_g2 ?zq_g3 ?zq_g4 ?zq_g5 ?zq_g6 ?zq_g7 ?zq_g8 ?zq_g9 ?zq_g10 ?zq_g11 ?zq_g12 ?zq_g13 ?zq_g14 ?zq_g15 ?zq_g16 ?zq_g17 ?zq_g18 ?zq_g19 ?zq_g20 ?zq_g21 ?zq_g22 ?zq_g23 ?zq_g24 ?zq_g25 ?zq_F0 ?zq_M0 ?zq_F1 ?zq_M1 ?zq_F2 ?zq_M2 ?zq_F3 ?zq_M3 ?zq_F4 ?zq_M4 ?zq_F5 ?zq_M5 ?zq_F6 ?zq_M6 ?zq_F7 ?zq_M7 ?zq_F8 ?zq_M8 ?zq_F9 ?zq_M9 ?zq_F10 ?zq_M10 ?zq_F11 ?zq_M11 ?zq_F12 ?zq_M12 ?zq_F13 ?zq_M13 ?zq_F14 ?zq_M14 ?zq_F15 ?zq_M15 ?zq_F16 ?zq_M16 ?zq_F17 ?zq_M17 ?zq_F18 ?zq_M18 ?zq_F19 ?zq_M19 ?zq_F20 ?zq_M20 ?zq_F21 ?zq_M21 ?zq_F22 ?zq_M22 ?zq_F23 ?zq_M23 ?zq_F24 ?zq_M24 ?zq_F25 ?zq_M25 ?zq_x0 ?zq_x1 ?zq_x2 ?zq_x3 ?zq_x4 ?zq_x5 ?zq_x6 ?zq_x7 ?zq_x8 ?zq_x9 ?zq_x10 ?zq_x11 ?zq_x12 ?zq_x13 ?zq_x14 ?zq_x15 ?zq_x16 ?zq_x17 ?zq_x25 ?zq_iC0 ?zq_IN0 ?zq_ox0 ?zq_fn0 ?zq_iC1 ?zq_IN1 ?zq_ox1 ?zq_fn1 ?zq_iC2 ?zq_IN2 ?zq_ox2 ?zq_fn2 ?zq_iC3 ?zq_IN3 ?zq_ox3 ?zq_fn3 ?zq_iC4 ?zq_IN4 ?zq_ox4 ?zq_fn4 ?zq_iC5 ?zq_IN5 ?zq_ox5 ?zq_fn5 ?zq_iC6 ?zq_IN6 ?zq_ox6 ?zq_fn6 ?zq_aT ?zq_dT ?zq_aB ?zq_dB ?zq_aX ?zq_dX ?zq_aY ?zq_dY ?zq_aP ?zq_dP ?zq_aA ?zq_dA ?zq_aK ?zq_dK ?zq_aL ?zq_dL ?zq_aE ?zq_dE ?zq_aW ?zq_dW ?zq_z_abs ?zq_z_int ?zq_z_len ?zq_z_str ?zq_z_isinstance ?zq_z_ValueError ?zq_z_range ?zq_z_enumerate ?zq_z_repr ?zq_z_super ?zq_lI ?zq_opq ?zq_sp ?zq_tk ?zq_inj
    (case zq_g0 => k_is)
    (case zq_g1 => k_is)
    (case zq_g2 => k_is)
    (case zq_g3 => k_is)
    (case zq_g4 => k_is)
    (case zq_g5 => k_is)
    (case zq_g6 => k_is)
    (case zq_g7 => k_is)
    (case zq_g8 => k_is)
    (case zq_g9 => k_is)
    (case zq_g10 => k_is)
    (case zq_g11 => k_is)
    (case zq_g12 => k_is)
    (case zq_g13 => k_is)
    (case zq_g14 => k_is)
    (case zq_g15 => k_is)
    (case zq_g16 => k_is)
    (case zq_g17 => k_is)
    (case zq_g18 => k_is)
    (case zq_g19 => k_is)
    (case zq_g20 => k_is)
    (case zq_g21 => k_is)
    (case zq_g22 => k_is)
    (case zq_g23 => k_is)
    (case zq_g24 => k_is)
    (case zq_g25 => k_is)
    (case zq_F0 => exact ⟨by k_is, by k_is, by k_is, by k_is, by k_is, by k_is, by k_is, by k_is, by k_is⟩)
    (case zq_M0 => exact ⟨_, by k_is, rfl⟩)
    (case zq_F1 => exact ⟨by k_is, by k_is, by k_is, by k_is, by k_is, by k_is, by k_is, by k_is, by k_is⟩)
    (case zq_M1 => exact ⟨_, by k_is, rfl⟩)
    (case zq_F2 => exact ⟨by k_is, by k_is, by k_is, by k_is, by k_is, by k_is, by k_is, by k_is, by k_is⟩)
    (case zq_M2 => exact ⟨_, by k_is, rfl⟩)
    (case zq_F3 => exact ⟨by k_is, by k_is, by k_is, by k_is, by k_is, by k_is, by k_is, by k_is, by k_is⟩)
    (case zq_M3 => exact ⟨_, by k_is, rfl⟩)
    (case zq_F4 => exact ⟨by k_is, by k_is, by k_is, by k_is, by k_is, by k_is, by k_is, by k_is, by k_is⟩)
    (case zq_M4 => exact ⟨_, by k_is, rfl⟩)
    (case zq_F5 => exact ⟨by k_is, by k_is, by k_is, by k_is, by k_is, by k_is, by k_is, by k_is, by k_is⟩)
    (case zq_M5 => exact ⟨_, by k_is, rfl⟩)
    (case zq_F6 => exact ⟨by k_is, by k_is, by k_is, by k_is, by k_is, by k_is, by k_is, by k_is, by k_is⟩)
    (case zq_M6 => exact ⟨_, by k_is, rfl⟩)
    (case zq_F7 => exact ⟨by k_is, by k_is, by k_is, by k_is, by k_is, by k_is, by k_is, by k_is, by k_is⟩)
    (case zq_M7 => exact ⟨_, by k_is, rfl⟩)
    (case zq_F8 => exact ⟨by k_is, by k_is, by k_is, by k_is, by k_is, by k_is, by k_is, by k_is, by k_is⟩)
    (case zq_M8 => exact ⟨_, by k_is, rfl⟩)
    (case zq_F9 => exact ⟨by k_is, by k_is, by k_is, by k_is, by k_is, by k_is, by k_is, by k_is, by k_is⟩)
    (case zq_M9 => exact ⟨_, by k_is, rfl⟩)
    (case zq_F10 => exact ⟨by k_is, by k_is, by k_is, by k_is, by k_is, by k_is, by k_is, by k_is, by k_is⟩)
    (case zq_M10 => exact ⟨_, by k_is, rfl⟩)
    (case zq_F11 => exact ⟨by k_is, by k_is, by k_is, by k_is, by k_is, by k_is, by k_is, by k_is, by k_is⟩)
    (case zq_M11 => exact ⟨_, by k_is, rfl⟩)
    (case zq_F12 => exact ⟨by k_is, by k_is, by k_is, by k_is, by k_is, by k_is, by k_is, by k_is, by k_is⟩)
    (case zq_M12 => exact ⟨_, by k_is, rfl⟩)
    (case zq_F13 => exact ⟨by k_is, by k_is, by k_is, by k_is, by k_is, by k_is, by k_is, by k_is, by k_is⟩)
    (case zq_M13 => exact ⟨_, by k_is, rfl⟩)
    (case zq_F14 => exact ⟨by k_is, by k_is, by k_is, by k_is, by k_is, by k_is, by k_is, by k_is, by k_is⟩)
    (case zq_M14 => exact ⟨_, by k_is, rfl⟩)
    (case zq_F15 => exact ⟨by k_is, by k_is, by k_is, by k_is, by k_is, by k_is, by k_is, by k_is, by k_is⟩)
    (case zq_M15 => exact ⟨_, by k_is, rfl⟩)
    (case zq_F16 => exact ⟨by k_is, by k_is, by k_is, by k_is, by k_is, by k_is, by k_is, by k_is, by k_is⟩)
    (case zq_M16 => exact ⟨_, by k_is, rfl⟩)
    (case zq_F17 => exact ⟨by k_is, by k_is, by k_is, by k_is, by k_is, by k_is, by k_is, by k_is, by k_is⟩)
    (case zq_M17 => exact ⟨_, by k_is, rfl⟩)
    (case zq_F18 => exact ⟨by k_is, by k_is, by k_is, by k_is, by k_is, by k_is, by k_is, by k_is, by k_is⟩)
    (case zq_M18 => exact ⟨_, by k_is, rfl⟩)
    (case zq_F19 => exact ⟨by k_is, by k_is, by k_is, by k_is, by k_is, by k_is, by k_is, by k_is, by k_is⟩)
    (case zq_M19 => exact ⟨_, by k_is, rfl⟩)
    (case zq_F20 => exact ⟨by k_is, by k_is, by k_is, by k_is, by k_is, by k_is, by k_is, by k_is, by k_is⟩)
    (case zq_M20 => exact ⟨_, by k_is, rfl⟩)
    (case zq_F21 => exact ⟨by k_is, by k_is, by k_is, by k_is, by k_is, by k_is, by k_is, by k_is, by k_is⟩)
    (case zq_M21 => exact ⟨_, by k_is, rfl⟩)
    (case zq_F22 => exact ⟨by k_is, by k_is, by k_is, by k_is, by k_is, by k_is, by k_is, by k_is, by k_is⟩)
    (case zq_M22 => exact ⟨_, by k_is, rfl⟩)
    (case zq_F23 => exact ⟨by k_is, by k_is, by k_is, by k_is, by k_is, by k_is, by k_is, by k_is, by k_is⟩)
    (case zq_M23 => exact ⟨_, by k_is, rfl⟩)
    (case zq_F24 => exact ⟨by k_is, by k_is, by k_is, by k_is, by k_is, by k_is, by k_is, by k_is, by k_is⟩)
    (case zq_M24 => exact ⟨_, by k_is, rfl⟩)
    (case zq_F25 => exact ⟨by k_is, by k_is, by k_is, by k_is, by k_is, by k_is, by k_is, by k_is, by k_is⟩)
    (case zq_M25 => exact ⟨_, by k_is, rfl⟩)
    (case zq_x0 => k_exc)
    (case zq_x1 => k_exc)
    (case zq_x2 => k_exc)
    (case zq_x3 => k_exc)
    (case zq_x4 => k_exc)
    (case zq_x5 => k_exc)
    (case zq_x6 => k_exc)
    (case zq_x7 => k_exc)
    (case zq_x8 => k_exc)
    (case zq_x9 => k_exc)
    (case zq_x10 => k_exc)
    (case zq_x11 => k_exc)
    (case zq_x12 => k_exc)
    (case zq_x13 => k_exc)
    (case zq_x14 => k_exc)
    (case zq_x15 => k_exc)
    (case zq_x16 => k_exc)
    (case zq_x17 => k_exc)
    (case zq_x25 => k_exc)
    (case zq_iC0 => k_is)
    (case zq_IN0 => exact ⟨by k_is, by k_is, by k_is, by k_is⟩)
    (case zq_ox0 => exact ⟨_, _, _, _, _, _, _, _, _, _, _, _, _, _, _, by k_is, by decide +kernel⟩)
    (case zq_fn0 => exact ⟨_, _, _, _, _, _, _, _, _, by k_is, by k_is, ⟨_, _, _, _, _, _, by k_is, rfl, by decide +kernel⟩, ⟨_, _, _, by k_is⟩⟩)
    (case zq_iC1 => k_is)
    (case zq_IN1 => exact ⟨by k_is, by k_is, by k_is, by k_is⟩)
    (case zq_ox1 => exact ⟨_, _, _, _, _, _, _, _, _, _, _, _, _, _, _, by k_is, by decide +kernel⟩)
    (case zq_fn1 => exact ⟨_, _, _, _, _, _, _, _, _, by k_is, by k_is, ⟨_, _, _, _, _, _, by k_is, rfl, by decide +kernel⟩, ⟨_, _, _, by k_is⟩⟩)
    (case zq_iC2 => k_is)
    (case zq_IN2 => exact ⟨by k_is, by k_is, by k_is, by k_is⟩)
    (case zq_ox2 => exact ⟨_, _, _, _, _, _, _, _, _, _, _, _, _, _, _, by k_is, by decide +kernel⟩)
    (case zq_fn2 => exact ⟨_, _, _, _, _, _, _, _, _, by k_is, by k_is, ⟨_, _, _, _, _, _, by k_is, rfl, by decide +kernel⟩, ⟨_, _, _, by k_is⟩⟩)
    (case zq_iC3 => k_is)
    (case zq_IN3 => exact ⟨by k_is, by k_is, by k_is, by k_is⟩)
    (case zq_ox3 => exact ⟨_, _, _, _, _, _, _, _, _, _, _, _, _, _, _, by k_is, by decide +kernel⟩)
    (case zq_fn3 => exact ⟨_, _, _, _, _, _, _, _, _, by k_is, by k_is, ⟨_, _, _, _, _, _, by k_is, rfl, by decide +kernel⟩, ⟨_, _, _, by k_is⟩⟩)
    (case zq_iC4 => k_is)
    (case zq_IN4 => exact ⟨by k_is, by k_is, by k_is, by k_is⟩)
    (case zq_ox4 => exact ⟨_, _, _, _, _, _, _, _, _, _, _, _, _, _, _, by k_is, by decide +kernel⟩)
    (case zq_fn4 => exact ⟨_, _, _, _, _, _, _, _, _, by k_is, by k_is, ⟨_, _, _, _, _, _, by k_is, rfl, by decide +kernel⟩, ⟨_, _, _, by k_is⟩⟩)
    (case zq_iC5 => k_is)
    (case zq_IN5 => exact ⟨by k_is, by k_is, by k_is, by k_is⟩)
    (case zq_ox5 => exact ⟨_, _, _, _, _, _, _, _, _, _, _, _, _, _, _, by k_is, by decide +kernel⟩)
    (case zq_fn5 => exact ⟨_, _, _, _, _, _, _, _, _, by k_is, by k_is, ⟨_, _, _, _, _, _, by k_is, rfl, by decide +kernel⟩, ⟨_, _, _, by k_is⟩⟩)
    (case zq_iC6 => k_is)
    (case zq_IN6 => exact ⟨by k_is, by k_is, by k_is, by k_is⟩)
    (case zq_ox6 => exact ⟨_, _, _, _, _, _, _, _, _, _, _, _, _, _, _, by k_is, by decide +kernel⟩)
    (case zq_fn6 => exact ⟨_, _, _, _, _, _, _, _, _, by k_is, by k_is, ⟨_, _, _, _, _, _, by k_is, rfl, by decide +kernel⟩, ⟨_, _, _, by k_is⟩⟩)
    (case zq_aT => k_is)
    (case zq_dT => exact ⟨_, _, _, _, _, _, _, _, _, by k_is, by k_is, by k_is⟩)
    (case zq_aB => k_is)
    (case zq_dB => exact ⟨_, _, _, _, _, _, _, _, _, by k_is, by k_is, by k_is⟩)
    (case zq_aX => k_is)
    (case zq_dX => exact ⟨_, _, _, _, _, _, _, _, _, by k_is, by k_is, by k_is⟩)
    (case zq_aY => k_is)
    (case zq_dY => exact ⟨_, _, _, _, _, _, _, _, _, by k_is, by k_is, by k_is⟩)
    (case zq_aP => k_is)
    (case zq_dP => exact ⟨_, _, _, _, _, _, _, _, _, by k_is, by k_is, by k_is⟩)
    (case zq_aA => k_is)
    (case zq_dA => exact ⟨_, _, _, _, _, _, _, _, _, by k_is, by k_is, by k_is⟩)
    (case zq_aK => k_is)
    (case zq_dK => exact ⟨_, _, _, _, _, _, _, _, _, by k_is, by k_is, by k_is⟩)
    (case zq_aL => k_is)
    (case zq_dL => exact ⟨_, _, _, _, _, _, _, _, _, by k_is, by k_is, by k_is⟩)
    (case zq_aE => k_is)
    (case zq_dE => exact ⟨_, _, _, _, _, _, _, _, _, by k_is, by k_is, by k_is⟩)
    (case zq_aW => k_is)
    (case zq_dW => exact ⟨_, _, _, _, _, _, _, _, _, by k_is, by k_is, by k_is⟩)
    (case zq_z_abs => k_is)
    (case zq_z_int => k_is)
    (case zq_z_len => k_is)
    (case zq_z_str => k_is)
    (case zq_z_isinstance => k_is)
    (case zq_z_ValueError => k_is)
    (case zq_z_range => k_is)
    (case zq_z_enumerate => k_is)
    (case zq_z_repr => k_is)
    (case zq_z_super => k_is)
    (case zq_lI => k_is)
    (case zq_opq => k_is)
    (case zq_sp => k_is)
    (case zq_tk => k_is)
    (case zq_inj => decide +kernel)
