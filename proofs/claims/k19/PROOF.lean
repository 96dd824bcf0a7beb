import PyProof.Rows.All
import Wide.All
import OpenK.AllK
import Wide.FinOn
import HandS.ForMost
import HandS.IsInst
import HandS.Style
import HandS.Wide
import HandS.WideMore
import HandS.Zip
import HandS.Flow
import HandS.SetFor
import HandS.Strs
import HandS.SortInts
import HandS.ExcInit
import HandS.ExcField
import HandS.ExcIs
import HandS.ExcValue
import HandS.WordsExc
import HandS.NoneIn
import HandS.Conv
import HandS.TupMul
import HandS.TupAny
import HandS.Dict
import HandS.Deep
import KE.KExcIs
import KE.GoesMore
import HandS.Small
import KE.GoesEnum
import KE.GoesRaise
import HandS.Defaults
import HandS.CallSlots
import HandS.IterVal
import PyProof.Draws
import KE.OsRunLaw
import PySem.Challenge.RW_turnsums_k19_whole_turnings_spoilt
set_option Elab.async false
set_option linter.all false
set_option maxRecDepth 100000
set_option maxHeartbeats 4000000
namespace My
open PySem L2
def top (i : Nat) : Stmt := PySem.Challenge.pw_turnsums_k19_whole_turnings_spoilt.main.body.getD i (.Pass ⟨0, 0, 0, 0⟩)
/-- a def of the text: where it stands, how it is called -/
structure Df (K : PySem.W.Frag) (mg : Str → Option Value) (x : Str) (st : Stmt) (ps : List Str) (f : Addr) (fd : FuncData) : Prop where
  F : Fun K x x st f fd
  b : Binds K fd ps []
  g : mg x = some (.ref f)
/-! heaps: all but the box stays -/
theorem same_upd {H H' : Hp} {p : Addr} {o : HO} (h : Same H H') (n : H' p = none) : Same H (upd H' p o) := fun b x e => by
  rw [upd_ne (ne_of_none (h b x e) n)]
  exact h b x e
theorem same_new {H : Hp} {p : Addr} {o : HO} (n : H p = none) : Same H (upd H p o) := same_upd (Same.refl H) n
theorem same_mut {H H' : Hp} {p : Addr} {o : HO} (h : Same H H') (n : H p = none) : Same H (upd H' p o) := fun b x e => by
  rw [upd_ne (ne_of_none e n)]
  exact h b x e
theorem same_t {K : PySem.W.Frag} {H H' : Hp} {a : Addr} {xs : List V} (e : Same H H') (h : SqT K H a xs) : SqT K H' a xs := by
  rcases h with (h | ⟨o, h⟩) | h
  · exact .inl (.inl (e _ _ h))
  · exact .inl (.inr ⟨o, e _ _ h⟩)
  · exact .inr h
def Keep (b : Addr) (H H' : Hp) : Prop := ∀ a o, a ≠ b → H a = some o → H' a = some o
theorem Keep.refl (b : Addr) (H : Hp) : Keep b H H := fun _ _ _ h => h
theorem Keep.trans {b : Addr} {H H1 H2 : Hp} (a : Keep b H H1) (c : Keep b H1 H2) : Keep b H H2 := fun x o n h => c x o n (a x o n h)
theorem keepS {b : Addr} {H H' : Hp} (h : Same H H') : Keep b H H' := fun x o _ e => h x o e
theorem keep_same {b : Addr} {H0 H H' : Hp} (a : Same H0 H) (n : H0 b = none) (k : Keep b H H') : Same H0 H' := fun x o e => k x o (ne_of_none e n) (a x o e)
theorem keep_upd {b : Addr} {H H' : Hp} {o : HO} (h : Keep b H H') : Keep b H (upd H' b o) := fun a u n e => by
  rw [upd_ne n]
  exact h a u n e
theorem Keep.seq {K : PySem.W.Frag} {b a : Addr} {H H' : Hp} {xs : List V} (e : Keep b H H') (n : a ≠ b) (h : SqL K H a xs) : SqL K H' a xs := by
  rcases h with (h | ⟨o, h⟩) | h
  · exact .inl (.inl (e _ _ n h))
  · exact .inl (.inr ⟨o, e _ _ n h⟩)
  · exact .inr h
def BoxAt (H : Hp) (b : Addr) (n : Int) : Prop := ∃ x y z : Int, H b = some (.lst [.int x, .int y, .int z]) ∧ 0 ≤ x ∧ 0 ≤ y ∧ y ≤ 4294967296 ∧ 0 ≤ z ∧ z ≤ n
theorem BoxAt.mono {H : Hp} {b : Addr} {n m : Int} (h : BoxAt H b n) (e : n ≤ m) : BoxAt H b m := by
  obtain ⟨x, y, z, a1, a2, a3, a4, a5, a6⟩ := h
  exact ⟨x, y, z, a1, a2, a3, a4, a5, by omega⟩
theorem BoxAt.same {H H' : Hp} {b : Addr} {n : Int} (h : BoxAt H b n) (e : Same H H') : BoxAt H' b n := by
  obtain ⟨x, y, z, a1, a2⟩ := h
  exact ⟨x, y, z, e _ _ a1, a2⟩
theorem BoxAt.some {H : Hp} {b : Addr} {n : Int} (h : BoxAt H b n) : ∃ o, H b = some o := by
  obtain ⟨x, y, z, a1, a2⟩ := h
  exact ⟨_, a1⟩
theorem BoxAt.ne {H : Hp} {b p : Addr} {n : Int} (h : BoxAt H b n) (e : H p = none) : p ≠ b := by
  obtain ⟨o, h⟩ := h.some
  exact (ne_of_none h e).symm
theorem szl {n : Nat} (h : n ≤ 60000) : n ≤ sizeLine := Nat.le_trans h (by decide)
theorem szm {n : Nat} (h : n ≤ 60000) : n < sizeLine := Nat.lt_of_le_of_lt h (by decide)
theorem pw6 : (10 : Int) ^ Int.toNat 6 = 1000000 := by decide
theorem pw9 : (10 : Int) ^ Int.toNat 9 = 1000000000 := by decide
theorem newO {H H' : Hp} {p : Addr} {o : HO} (e : upd H p o = H') (hp : H p = none) : Same H H' ∧ H' p = some o := by
  subst e
  exact ⟨same_new hp, upd_same⟩
theorem mutO {H H' : Hp} {p : Addr} {o : HO} (e : upd H p o = H') : Keep p H H' ∧ H' p = some o := by
  subst e
  exact ⟨keep_upd (Keep.refl _ _), upd_same⟩
/-- a word of ours that the walk must not open -/
inductive Hold (p : Prop) : Prop
  | mk : p → Hold p
theorem Hold.un {p : Prop} (h : Hold p) : p := by
  cases h with
  | mk h => exact h
theorem holdN {W : Nat → L2.St → Hp → Prop} {m : Nat} : ∀ (σ' : L2.St) (H' : Hp), Hold (∃ m', m' < m ∧ W m' σ' H') → ∃ m', m' < m ∧ W m' σ' H' := fun _ _ h => h.un
theorem ite_dec {c A B : Prop} [Decidable c] (hc : c) (h : A) : if decide c = true then A else B := by
  rw [decide_eq_true hc]
  exact iteT h
def rLenQ (K : PySem.W.Frag) : List V → Hp → VK → Prop := fun xs H Q => ∃ p ys, xs = [.ref p] ∧ (SqL K H p ys ∨ SqT K H p ys) ∧ Q (.int ys.length) H
theorem iteTe {b : Bool} {A B : Prop} (e : b = true) (h : A) : if b = true then A else B := by
  rw [if_pos e]
  exact h
theorem iteFe {b : Bool} {A B : Prop} (e : b = false) (h : B) : if b = true then A else B := by
  rw [e]
  exact iteF h
theorem cmul_b {i : Int} {b : Bool} : CMul i (if b then 1 else 0) := by
  refine .inr ?_
  cases b <;> exact ⟨by decide, by decide⟩
theorem at_ints {ns : List Int} {k : Int} (h0 : 0 ≤ k) (h : k < (ns.length : Int)) : ∃ c, c ∈ ns ∧ atI (ns.map V.int) k = some (.int c) := by
  have hk : k.toNat < ns.length := by omega
  refine ⟨ns[k.toNat], List.getElem_mem hk, at_of (j := k.toNat) (by omega) ?_⟩
  rw [List.getElem?_map, List.getElem?_eq_getElem hk]
  rfl
theorem at_some {xs : List V} {k : Int} (h0 : 0 ≤ k) (h : k < (xs.length : Int)) : ∃ v, v ∈ xs ∧ atI xs k = some v := by
  have hk : k.toNat < xs.length := by omega
  exact ⟨xs[k.toNat], List.getElem_mem hk, at_of (j := k.toNat) (by omega) (List.getElem?_eq_getElem hk)⟩
structure Blt (mg : Str → Option Value) : Prop where
  b_ValueError : mg "ValueError" = none
  b_abs : mg "abs" = none
  b_all : mg "all" = none
  b_any : mg "any" = none
  b_bool : mg "bool" = none
  b_enumerate : mg "enumerate" = none
  b_int : mg "int" = none
  b_isinstance : mg "isinstance" = none
  b_len : mg "len" = none
  b_list : mg "list" = none
  b_min : mg "min" = none
  b_range : mg "range" = none
  b_repr : mg "repr" = none
  b_set : mg "set" = none
  b_sorted : mg "sorted" = none
  b_str : mg "str" = none
  b_tuple : mg "tuple" = none
  b_zip : mg "zip" = none
/-! the head: the top by one run -/
section
open PySem PySem.W PySem.Calls PyProof.Rows
abbrev hdR : OpenRow := OpenLaw.row PySem.Challenge.rw_turnsums_k19_whole_turnings_spoilt
def hdV : Program := view hdR.prog [55]
def hdN : List PySem.Str := (["_wall", "__name__", "sum_at", "plain_turning", "shows_turning", "TurnError", "NoInverse", "BadGround", "NoRoot", "NoShare", "is_whole", "is_prime", "factors", "divisors", "inverse", "power_rest", "generator", "MOST_PRIME", "Rests", "MOST_ORDER", "divided", "multiplied", "wheel", "Roots", "_law_box", "_law_take", "_law_pick", "_law_same", "_law_raised", "_law_is_plain_prime"] : List PySem.Str) ++ (["_law_least_generator", "_law_divided", "_law_own_wheel", "_law_world", "_law_made", "_law_has", "_law_lengths", "_law_whole", "_law_plus", "_law_rest_by", "_law_times", "_law_roots", "_law_plainly", "_law_worth", "_law_row", "_law_odd", "_law_bent", "_law_refused", "_law_right", "_law_truths_right"] : List PySem.Str)
open HeadRun in
theorem hd_left {p q : Program} {loose : List PySem.Str} {Xt : Shared → Bool} {K : Params → Frag} {as : List Addr} {ek : ∀ P, as = (K P).map (·.1)} {N M : Nat}
    (e : opening p = plainProg p.main.scope.names) (hN : Nat.ble 600 N = true) (f : ∀ s, fenceModules? p s = some s) (le : Nat.ble M N = true)
    (run : ∀ (b : Bool) (w : World) (os : OsState), (fun w : World => (endF (stepQ (denQ tabQ) p w) M p w os).map (fun s => (looksF p (boot_heap w.params) s.abs, seenQ q loose (importedModules p.main.body) Xt s.abs, as.map (getT s))) = some (true, openGood q loose, (K w.params).map fun x => some x.2)) (w.withFollow "special-get-raises" b)) :
    LeftO p q loose Xt (Hook.obs (kHook K as ek)) (Hook.val (kHook K as ek)) N true :=
  left_oneK (M := M) e hN f le fun w => byRow2 "special-get-raises" (P := fun w => ∀ os : OsState, (endF (stepQ (denQ tabQ) p w) M p w os).map (fun s => (looksF p (boot_heap w.params) s.abs, seenQ q loose (importedModules p.main.body) Xt s.abs, as.map (getT s))) = some (true, openGood q loose, (K w.params).map fun x => some x.2)) (fun w os => run false w os) (fun w os => run true w os) w
local macro_rules
  | `(tactic| o_head $H) => `(tactic| (
    refine holds_open (q := hdV) (loose := hdN) (Xt := fun s => xlAt hdV [] s && recOk (RowW.records (OpenRow.toRowW hdR)) s) (XP := XL hdV []) (Yf := Hook.obs $H) (Ya := Hook.val $H) (YP := Hook.says $H) (N := 81000) ?hl (Hook.of $H) (Hook.keeps $H) (fun s e => xl_of s (Bool.and_eq_true_iff.mp e).1) XL.keeps (by rfl) (by rfl) (by rfl) (fun s e => recFacts_of (Bool.and_eq_true_iff.mp e).2) (by rfl) (by first | assumption | decide +kernel) (by decide +kernel) ⟨rfl, rfl, rfl, rfl, rfl, by decide +kernel⟩ ?hw ?hc
    (case hl =>
      refine hd_left (M := 80000) (by kernel_rfl) (by rfl) (fun s => by kernel_rfl) (by rfl) ?_
      intro b w os
      cases b
      · kernel_rfl
      · kernel_rfl)))
set_option maxHeartbeats 0 in
open_top hdtop for PySem.Challenge.rw_turnsums_k19_whole_turnings_spoilt
end
/-! ### sorted(set(xs)), xs a list of few ints -/
section
open PySem.Spec PyProof.Rows PySem.Calls
abbrev bareSet (w : World) : Obj := { cls := .type "set", dict := none, data := .set #[] 0 (.fresh 0 0 (!w.params.followText "set-order")) }
/-- what set(xs) leaves behind -/
def SetLeft (w : World) (s : Shared) (ns : List Int) (h' : Heap) (c : Nat) : Prop := SetR w h' s.heap.objs.size (fun j => decide (j ∈ ns)) c ∧ c ≤ ns.length ∧ ∀ b o, s.heap.get? b = some o → h'.get? b = some o
variable {P : Program} {w : World} {A : Around} {E : Value → Shared → Prop} {s : Shared}
theorem items_ints {items : Array Value} {ns : List Int} (hi : IntsAre items.toList ns) (i : Nat) (v : Value) (hv : items[i]? = some v) : ∃ k t, ns[i]? = some k ∧ v = .int k t := by
  have hl : items.size = ns.length := by
    rw [← Array.length_toList]
    exact hi.length
  have hlt : i < ns.length := by
    rw [← hl]
    exact (Array.getElem?_eq_some_iff.mp hv).1
  obtain ⟨t, e⟩ := hi.int_at i v (by rw [Array.getElem?_toList]; exact hv)
  refine ⟨ns[i], t, List.getElem?_eq_getElem hlt, e.trans ?_⟩
  rw [List.getD_eq_getElem?_getD, List.getElem?_eq_getElem hlt]
  rfl
set_option maxHeartbeats 3200000 in
theorem set_of_list {l : Addr} {items : Array Value} {ns : List Int} {Q : Value → Shared → Prop} (hh : A.handled = none) (hl : s.heap.IsList l items) (hi : IntsAre items.toList ns) (hb : ns.length + 1 < scanBound)
    (h : ∀ (h' : Heap) (tk c : Nat), SetLeft w s ns h' c → Q (.ref s.heap.objs.size) { s with heap := h', toks := tk }) : wpAny (model P w) A (call (.type "set") [.ref l]) Q E s := by
  have hsz : items.size = ns.length := by
    rw [← Array.length_toList]
    exact hi.length
  obtain ⟨mc, mt, hmro⟩ := F.called_set.mro
  have a1 := F.called_set.made; have a2 := F.called_set.sub; have a3 := F.called_set.notType; have a4 := F.called_set.canCreate; have a5 := F.typeCall_set_1 (.ref l)
  refine wpAny_call (codeAny_of_tree (show wpAny _ _ (callAny (.type "set") _) _ _ _ from wpAny_pure ⟨Code.quiet_builtin _ (by decide +kernel), codeAny_builtin F.entry_type_call ?_⟩))
  rw [Around.under_plain (weight_type_call_type "set" [.ref l] []) rfl]; repeat (any_goals (first | assumption | wp_step))
  refine codeAny_mono (code_set_led1 (.ref l) (E := E) (Q₁ := fun v s' => v = .ref s.heap.objs.size ∧ s' = { s with heap := s.heap.push (bareSet w) }) ⟨rfl, rfl⟩) fun res s1 hres => ?_
  match res, hres with
  | .error e, hres => exact hres
  | .ok .next, hres => exact hres.elim
  | .ok .cont, hres => exact hres.elim
  | .ok .brk, hres => exact hres.elim
  | .ok (.ret v), hres =>
    obtain ⟨rfl, rfl⟩ := hres
    have g0 : (s.heap.push (bareSet w)).get? s.heap.objs.size = some (bareSet w) := Heap.get?_push_size _ rfl
    have ty0 : Shared.TypeIs { s with heap := s.heap.push (bareSet w) } (.ref s.heap.objs.size) "set" := ⟨_, g0, rfl⟩
    have i1 := F.called_set.init.lookup; have i2 := F.called_set.init.bind (.ref s.heap.objs.size)
    repeat (any_goals (first | assumption | wp_step))
    refine codeAny_mono (codeAny_call_builtin (R := wants (fun v s' => v = .none ∧ ∃ h' tk c, s' = { s with heap := h', toks := tk } ∧ SetLeft w s ns h' c) E) F.called_set.init.plain F.entry_set_init (check_set_init_1 ty0 ?_)) fun res2 s2 hres2 => ?_
    · obtain ⟨⟨lc, ld, la, ls⟩, hol, hcl, nl, hdl⟩ := hl
      simp only at hcl hdl; subst hcl; subst hdl
      have hol1 := Heap.get?_push_of_some (bareSet w) hol
      have hL1 : (s.heap.push (bareSet w)).IsList l items := ⟨_, hol1, rfl, nl, rfl⟩
      have n1 := F.sub_list_set; have n2 := F.sub_list_frozenset; have n3 : (Value.type "list" == Value.type "dict") = false := by decide
      unfold Builtin.«set.__init__» noKeywords Builtin.Frozenset.updateFrom; generalize hgo : pyIter = go; wp_walk; subst hgo
      refine wpAny_pyIter_list hL1 (wpAny_bind (wpAny_runValue ?_))
      have ll := Heap.lt_size hol
      have hhd : A.in1.in1.in1.handled = none := by simp [hh]
      have sz1 : (s.heap.push (bareSet w)).objs.size = s.heap.objs.size + 1 := Heap.size_push ..
      have off : l ≠ (s.heap.push (bareSet w)).objs.size := by rw [sz1]; exact Nat.ne_of_lt (Nat.lt_succ_of_lt ll)
      have out : s.heap.objs.size ∉ [(s.heap.push (bareSet w)).objs.size, l] := by
        intro z
        rcases List.mem_cons.mp z with z | z
        · rw [sz1] at z
          exact absurd z (Nat.ne_of_lt (Nat.lt_succ_self _))
        · exact absurd (List.mem_singleton.mp z) (Nat.ne_of_gt ll)
      refine set_update_ints ((Walks.list hhd _ l off items).toS) s.heap.objs.size out ns hsz hb (items_ints hi) (items.size - 0) 0 _ (by omega) (Nat.zero_le _) ⟨⟨_, Heap.get?_push_size _ rfl, rfl, rfl⟩, hL1.push _⟩ ⟨0, Nat.le_refl 0, setR_new_at (Heap.get?_push_of_some _ g0)⟩ ?_
      rintro ⟨h', g', d', tk', os'⟩ c' hm hc' hS'
      obtain ⟨e1, e2, e3⟩ := (show g' = s.gens ∧ d' = s.drawn ∧ os' = s.os from ⟨hm.gens, hm.drawn, hm.os⟩)
      subst e1; subst e2; subst e3
      refine wpAny_pure (show wpAny _ _ (ret Value.none) _ _ _ from wpAny_pure ⟨rfl, h', tk', c', rfl, hS', by omega, fun b o e => ?_⟩)
      have lb := Heap.lt_size e
      refine hm.heap b o ?_ (Heap.get?_push_of_some _ (Heap.get?_push_of_some _ e))
      intro z
      rcases List.mem_cons.mp z with z | z
      · exact absurd z (Nat.ne_of_lt lb)
      · have z2 := List.mem_singleton.mp z
        rw [sz1] at z2
        exact absurd z2 (Nat.ne_of_lt (Nat.lt_succ_of_lt lb))
    · match res2, hres2 with
      | .error e, hres2 => exact hres2
      | .ok .next, hres2 => exact hres2.elim
      | .ok .cont, hres2 => exact hres2.elim
      | .ok .brk, hres2 => exact hres2.elim
      | .ok (.ret v2), hres2 =>
        obtain ⟨rfl, h', tk, c', rfl, hS'⟩ := hres2
        repeat (any_goals (first | assumption | wp_step))
        exact h _ _ _ hS'
end
open PySem.Spec PyProof.Rows in
/-- sorted of a set of ints, however many -/
theorem set_sorted {P : Program} {w : World} {A : Around} {E : Value → Shared → Prop} {s : Shared} {a : Addr} {S : Int → Bool} {n : Nat} {Q : Value → Shared → Prop} (R : SetR w s.heap a S n) (hh : A.handled = none)
    (q : ∀ s' p (out : List Value) (c : Nat) (ms : List Int), (∀ b o, s.heap.get? b = some o → s'.heap.get? b = some o) → s'.gens = s.gens → s'.os = s.os → s.heap.objs.size ≤ p →
      s'.heap.get? p = some (seqObj "list" out.toArray c) → IntsAre out ms → ms.Pairwise (· < ·) → (∀ k, k ∈ ms ↔ S k = true) → ms.length = n → Q (.ref p) s') : wpAny (model P w) A (call (.builtin "sorted") [.ref a]) Q E s := by
  obtain ⟨o, es, ep, t, g1, g2, g3, good, nod, mem, g4, g5, g6, g7, g8⟩ := R
  refine Calls.call_function_entry kind_sorted plain_sorted entry_sorted (args_sorted1 _) ?_; unfold Builtin.«sorted»
  refine wpAny_bind (m := checkCount "sorted" 1 1 _) (wpAny_pure (wpAny_bind (collect_set (A := A.in1) hh ⟨o, g1, g2.1, g3⟩ g5 g4 g7 g8 fun s1 vs k1 z1 e1 e2 pm => ?_)))
  have len : vs.length = n := by
    rw [pm.length_eq, List.length_map, Array.length_toList]
    exact g6
  have ivs : ∀ e ∈ es.toList, SrtO.iv e.2 = keyOf e := fun e he => by
    obtain ⟨k, tk, h1, _⟩ := good e he
    unfold keyOf
    rw [h1]
    rfl
  have hI : IntsAre vs (vs.map SrtO.iv) := SrtO.ints_iv fun v hv => by
    obtain ⟨e, he, ev⟩ := List.mem_map.mp (pm.mem_iff.mp hv)
    obtain ⟨k, tk, h1, _⟩ := good e he
    exact ⟨k, tk, ev.symm.trans h1⟩
  have prm : (vs.map SrtO.iv).Perm (es.toList.map keyOf) := by
    refine (pm.map SrtO.iv).trans ?_
    rw [List.map_map]
    exact List.Perm.of_eq (List.map_congr_left ivs)
  have zn : n ≤ sizeLine := by
    unfold scanBound at g4
    exact szl (by omega)
  refine wpAny_bind (wpAny_newList ?_ (by rw [len]; exact zn))
  have at1 : (s1.heap.push (seqObj "list" vs.toArray 0)).get? s1.heap.objs.size = some (seqObj "list" vs.toArray 0) := Heap.get?_push_size _ rfl
  refine wpAny_bind (wpAny_holding (wpAny_call_entry slot_list_sort ⟨_, at1, rfl⟩ entry_list_sort (SrtO.list_sort_ord SrtO.swo_int at1 (by rw [len]; exact zn) (fun two => SrtO.ints_sortable hI two) fun out o1 o2 => ⟨_, rfl, ?_⟩) (args_list_sort _)))
  obtain ⟨j1, j2, j3⟩ := SrtO.ints_out hI o1 o2
  obtain ⟨c, at2⟩ := sortedHeap_at (vs := vs) (out := out.toArray) at1
  have prm2 := j2.trans prm
  refine wpAny_pure ⟨_, rfl, q _ s1.heap.objs.size out c _ (fun b u e => ?_) e1 e2 z1 at2 j1 (lt_of_le_nodup _ j3 (prm2.nodup_iff.mpr nod)) (fun k => by rw [prm2.mem_iff, ← mem k]) (by rw [prm2.length_eq, List.length_map, Array.length_toList]; exact g6)⟩
  have e3 := k1 b u e
  have l3 := Heap.lt_size e3
  exact (sortedHeap_old (vs := vs) (out := out.toArray) (Nat.ne_of_lt l3) (by rw [size_push']; exact Nat.lt_succ_of_lt l3)).trans (Heap.get?_push_of_some _ e3)
def tSortSet (K : PySem.W.Frag) (ta : TE) : TE := fun σ H Q => ta σ H fun x H1 => ∃ (l : Addr) (ns : List Int), x = .ref l ∧ SqL K H1 l (ns.map V.int) ∧ ns.length ≤ 4000 ∧
  ∀ (out : List Int) (p : Addr), H1 p = none → out.Pairwise (· < ·) → (∀ k, k ∈ out ↔ k ∈ ns) → out.length ≤ ns.length → Q (.ref p) (upd H1 p (.lst (out.map V.int)))
open PySem.Spec PyProof.Rows in
theorem pe_sortSet {X : Cx} {a : Expr} {ta : TE} {p p2 q pos : Pos} (hg : Gl X "sorted") (hm : X.mg "sorted" = none) (hg2 : Gl X "set") (hm2 : X.mg "set" = none) (ha : PE X a ta) (hc : X.calm = true := by rfl)
    (na : starEach [a] X.env = (false, eval a X.env) :: starEach [] X.env := by rfl) : PE X (.Call (.Name "sorted" p) [.Call (.Name "set" p2) [a] [] q] [] pos) (tSortSet X.K ta) := by
  refine ⟨fun pins s σ H Q I h => ?_⟩
  refine Call_ (ld_blt I hg hm boot_sorted (callWith_builtin1 (args_cons (Call_ (ld_blt I hg2 hm2 boot_set (callWith_type1 (args_cons (thn (ha.run pins s σ H _ I h) fun v s1 ⟨x, H1, I1, r1, q1⟩ => args_nil ?_) na) na rfl))) rfl) rfl rfl))
  obtain ⟨l, ns, rfl, hq, hn, q1⟩ := q1
  cases r1
  obtain ⟨its, r, pl, hz⟩ := I1.list hq
  have hd := I1.ok.hd hc
  refine set_of_list hd pl.isList (by simpa using ints_of_vals r) (by unfold scanBound; omega) fun h' tk c hL => args_nil ?_
  obtain ⟨R1, hcn, kept⟩ := hL
  refine set_sorted (s := { s1 with heap := h', toks := tk }) R1 hd fun s' pp out cc ms k g o hp hgt hi hs hmem hlen => ?_
  have kk : ∀ b u, s1.heap.get? b = some u → s'.heap.get? b = some u := fun b u e => k b u (kept b u e)
  have hpp : s1.heap.objs.size ≤ pp := Nat.le_trans (Nat.le_of_lt R1.lt) hp
  have fr : H1 pp = none := I1.hok.fresh hpp
  have sl : (ms.map V.int).length ≤ sizeLine := by
    rw [List.length_map, hlen]
    exact szl (by omega)
  have hos : s'.os = s1.os := o
  have J : Inv X pins σ (upd H1 pp (.lst (ms.map V.int))) { s1 with heap := s'.heap, gens := s'.gens, drawn := s'.drawn, toks := s'.toks } :=
    I1.call (ch := []) (Un.laid kk hpp fr) (I1.hok.laid kk hpp ⟨sl, out, cc, vals_of_ints hi, hgt⟩) (by rw [g]; exact I1.bare) (fun _ z => nomatch z)
  have es : s' = { s1 with heap := s'.heap, gens := s'.gens, drawn := s'.drawn, toks := s'.toks } := by
    obtain ⟨b1, b2, b3, b4, b5⟩ := s'
    simp only at hos
    subst hos
    rfl
  rw [es]
  exact ⟨.ref pp, _, J, rfl, q1 ms pp fr hs (fun j => (hmem j).trans decide_eq_true_iff) (by omega)⟩
local macro_rules | `(tactic| walk_at "ev4") => `(tactic| with_reducible show (_ : Nat) ≤ _)
local macro_rules | `(tactic| walk_at "ev4") => `(tactic| with_reducible show (_ : Nat) < _)
local macro_rules | `(tactic| walk_at "ev4") => `(tactic| with_reducible show (_ : Int) ≤ _)
local macro_rules | `(tactic| walk_at "ev4") => `(tactic| with_reducible show (_ : Int) < _)
local macro_rules | `(tactic| walk_at "ev4") => `(tactic| with_reducible show (_ : Int) = _)
local macro_rules | `(tactic| walk_at "ev3") => `(tactic| (simp only [List.length_cons, List.length_nil, List.length_append, List.length_map, List.length_replicate]; omega))
local macro_rules | `(tactic| walk_at "ev3") => `(tactic| (simp only [pw6, pw9]; omega))
local macro_rules | `(tactic| walk_at "ev3") => `(tactic| decide)
local macro_rules | `(tactic| walk_at "ev3") => `(tactic| omega)
local macro_rules | `(tactic| walk_at "ev1m") => `(tactic| (refine szm ?_; simp only [List.length_cons, List.length_nil, List.length_append, List.length_map, List.length_replicate]; omega))
local macro_rules | `(tactic| walk_at "ev1m") => `(tactic| (refine szl ?_; simp only [List.length_cons, List.length_nil, List.length_append, List.length_map, List.length_replicate]; omega))
local macro_rules | `(tactic| walk_at "ev1m") => `(tactic| exact .cons (.ty _) (.cons (.ty _) .nil))
local macro_rules | `(tactic| walk_at "ev1m") => `(tactic| exact ClsV.ty _)
local macro_rules | `(tactic| walk_at "ev1m") => `(tactic| exact (Or.inl ⟨rfl, _, SqL.of (by assumption)⟩))
local macro_rules | `(tactic| walk_at "ev1m") => `(tactic| exact (show CDivW _ _ from wide_div (b := 31) (by omega) (by omega) (by decide) (by decide)))
local macro_rules | `(tactic| walk_at "ev1m") => `(tactic| exact (show CMul _ _ from cmul_b))
local macro_rules | `(tactic| walk_at "ev1m") => `(tactic| exact (show CMul _ _ from .inr ⟨by omega, by omega⟩))
local macro_rules | `(tactic| walk_at "ev1m") => `(tactic| exact (show CMul _ _ from .inl ⟨by omega, by omega⟩))
local macro_rules | `(tactic| walk_at "ev1m") => `(tactic| exact (show CPow _ _ from ⟨by omega, by omega, by omega⟩))
local macro_rules | `(tactic| walk_at "ev1m") => `(tactic| exact (show CDiv _ _ from ⟨by omega, by omega⟩))
local macro_rules | `(tactic| walk_at "ev1m") => `(tactic| omega)
local macro_rules | `(tactic| walk_at "ev1m") => `(tactic| exact Or.inr (by assumption))
local macro_rules | `(tactic| walk_at "ev1m") => `(tactic| exact Or.inl (by assumption))
local macro_rules | `(tactic| walk_at "ev1m") => `(tactic| exact Or.inl (SqL.of upd_same))
local macro_rules | `(tactic| walk_at "ev1m") => `(tactic| exact SqL.of upd_same)
local macro_rules | `(tactic| walk_at "ev1m") => `(tactic| exact upd_same)
local macro_rules | `(tactic| walk_at "ev1m") => `(tactic| assumption)
local macro_rules | `(tactic| walk_at "ev1m") => `(tactic| (walk_at "ev4"; walk_at "ev3"))
local macro_rules | `(tactic| walk_at "ev1m") => `(tactic| ((with_reducible show _ = _); exact rfl))
local macro_rules | `(tactic| walk_at "ev1m") => `(tactic| with_reducible assumption)
local macro_rules | `(tactic| walk_at "sm") => `(tactic| ((fail_if_success (refine @Exists.intro (Nat → Nat → L2.St → Hp → Prop) _ ?_ ?_)); (fail_if_success (refine @Exists.intro (Nat → L2.St → Hp → Prop) _ ?_ ?_)); (fail_if_success (refine @Exists.intro (L2.St → Hp → Prop) _ ?_ ?_)); (fail_if_success (refine @Exists.intro (Hp → Prop) _ ?_ ?_)); (fail_if_success (refine @Exists.intro (Nat → Nat → Hp → Prop) _ ?_ ?_)); apply Exists.intro))
local macro_rules | `(tactic| walk_at "sm") => `(tactic| (apply Or.inr; apply Exists.intro; apply And.intro rfl))
local macro_rules | `(tactic| walk_at "sm") => `(tactic| (apply Or.inl; apply Exists.intro; apply And.intro rfl))
local macro_rules | `(tactic| walk_at "sm") => `(tactic| with_reducible refine iteNS (by assumption) ?_)
local macro_rules | `(tactic| walk_at "sm") => `(tactic| with_reducible refine iteNS rfl ?_)
local macro_rules | `(tactic| walk_at "sm") => `(tactic| with_reducible refine ite_dec rfl ?_)
local macro_rules | `(tactic| walk_at "sm") => `(tactic| with_reducible refine iteF ?_)
local macro_rules | `(tactic| walk_at "sm") => `(tactic| with_reducible refine iteT ?_)
local macro_rules | `(tactic| walk_at "sm") => `(tactic| (refine And.intro ?l ?_; (case l => walk_at "ev1m")))
local macro_rules | `(tactic| walk_at "ev1") => `(tactic| first | walk_at "ev1m" | fail)
local macro_rules | `(tactic| walk_at "s") => `(tactic| first | walk_at "sm" | fail)
local macro_rules | `(tactic| walk_at "ev") => `(tactic| repeat (walk_at "sm"))
local macro_rules | `(tactic| w_cond $i:ident) => do
  let b := (i.getId.toString.drop 1).toString
  let l := Lean.mkIdent (.mkSimple ("l" ++ b))
  let hl := Lean.mkIdent (.mkSimple ("hl" ++ b))
  let h := Lean.mkIdent (.mkSimple ("H" ++ b))
  let sm := Lean.mkIdent (.mkSimple ("sm" ++ b))
  let hq := Lean.mkIdent (.mkSimple ("hq" ++ b))
  `(tactic| (intro $l:ident $hl:ident; generalize hG : upd _ $l:ident _ = $h:ident; obtain ⟨$sm:ident, $hq:ident⟩ := newO hG $hl:ident; clear hG))
/-! ### a caught exception that a name keeps behind its clause -/
/-- at a: an exception of the class at C, its dict at d -/
def XOb (C d a : Addr) : HO := .ext fun h => ∃ (ob : Obj) (fl : Array Value), h.get? a = some ob ∧ Zc (.ref C) (some d) ob ∧ ob.data = .fields fl
theorem xob_ok {P : Program} {w : World} {H : Hp} {h : Heap} {C d a : Addr} {ob : Obj} {fl : Array Value} (q1 : h.get? a = some ob) (q2 : Zc (.ref C) (some d) ob) (q3 : ob.data = .fields fl) : ObjOk P w H h a (XOb C d a) :=
  ⟨⟨ob, fl, q1, q2, q3⟩, ⟨ob, q1⟩, fun _ _ ⟨u, v, r1, r2⟩ k => ⟨u, v, k u r1, r2⟩⟩
/-- an object of the heap that nobody tracks is tracked from now on -/
theorem track {X : Cx} {pins : List (Addr × Obj)} {σ : L2.St} {H : Hp} {s : Shared} {a : Addr} {o : HO} (I : Inv X pins σ H s) (n0 : X.s_0.heap.get? a = none) (hn : H a = none) (nL : a ≠ X.env.locals) (nC : ∀ x c, X.env.cells.lookup x = some c → c ≠ a)
    (nP : ∀ p ∈ X.pn ++ pins, p.1 ≠ a) (new : ObjOk X.prog X.w (upd H a o) s.heap a o) : Inv X pins σ (upd H a o) s := by
  have ne : ∀ {b : Addr} {u : HO}, H b = some u → b ≠ a := fun e => ne_of_none e hn
  refine ⟨I.ok, I.os, I.bare, ⟨I.base.keep, I.base.slot, fun b u e n hx => ?_, I.base.there, fun b xs e => ?_, fun b u v e => ?_, fun b ps e => ?_⟩, I.loc, I.cell, ?_, fun x c e => ?_, fun p hp => ?_, I.hok.laidN (fun _ _ z => z) hn new, I.len⟩
  · have : b ≠ a := fun z => by
      rw [z, n0] at e
      cases e
    rw [upd_ne this]
    exact I.base.free b u e n hx
  · have q := I.base.tups b xs e
    rw [upd_ne (ne q)]
    exact q
  · have q := I.base.frzs b u v e
    rw [upd_ne (ne q)]
    exact q
  · obtain ⟨m, q⟩ := I.base.tbls b ps e
    exact ⟨m, by rw [upd_ne (ne q)]; exact q⟩
  · rw [upd_ne nL.symm]
    exact I.free
  · rw [upd_ne (nC x c e)]
    exact I.freeC x c e
  · obtain ⟨e, n, r⟩ := I.pin p hp
    exact ⟨e, by rw [upd_ne (nP p hp)]; exact n, r⟩
section
variable {X : Cx} {x n : Str} {c : Value} {i : Nat} {body suite : List Stmt} {b₀ : Stmt} {np pos pos' : Pos} {tb : WX → TS} {ts : Addr → TS} {Wout : WX}
end
/-- what is told of an own exception class -/
structure ExK (K : PySem.W.Frag) (C : Addr) : Prop where
  oex : OexC K C
  xf : XfC K C
  ec : ExcC K C
  nw : PySem.W.findIn K (.ref C) "what" = some none
/-- an exception object, tracked, with its fields -/
def XAt (H : Hp) (a C : Addr) (fs : List (Str × V)) : Prop := ∃ d, H a = some (XOb C d a) ∧ H d = some (.xd fs)
theorem XAt.same {H H' : Hp} {a C : Addr} {fs : List (Str × V)} (h : XAt H a C fs) (e : Same H H') : XAt H' a C fs := by
  obtain ⟨d, h1, h2⟩ := h
  exact ⟨d, e _ _ h1, e _ _ h2⟩
/-! ### methods and classes, what they raise wished for at the caller's slots -/
section
variable {X : Cx} {CX : CXT} {k : Nat} {f C : Addr} {fd : FuncData} {ps : List Str} {sp : Sp} {E : L2.St → XK} {x m : Str} {p pos apos : Pos} {e o : Expr} {es : List Expr} {ta : TE} {t : TA}
end
/-! ### xs[i] op= e, xs a list -/
section
open PySem.Spec PyProof.Rows
variable {X : Cx}
theorem get_list : PGet X (rIxL X.K) := by
  intro pins s σ H o i ov iv Q I ro ri h
  obtain ⟨p, xs, k, z, rfl, rfl, hq, he, q⟩ := h
  cases ro
  obtain ⟨t, rfl⟩ := ri
  obtain ⟨its, r, pl, hz⟩ := I.list hq
  obtain ⟨j, h1, h2, h3, h4, h5⟩ := atI_get he
  obtain ⟨w, ew, rw'⟩ := r.get h2
  have hl := r.length
  have hn := line63
  have fin : EP X pins σ Q w s := ⟨z, H, I, rw', q⟩
  by_cases h0 : 0 ≤ k
  · have hj : k.toNat = j := by
      rw [seqIndex_of h0 h5] at h1
      exact Option.some.inj h1
    exact wpAny_getItem_list pl.isList h0 (by omega) (by rw [hj]; simpa using ew) fin
  · have hj : (k + (its.toArray.size : Int)).toNat = j := by
      rw [seqIndex_neg (by omega) h4] at h1
      rw [List.size_toArray, ← hl]
      exact Option.some.inj h1
    exact wpAny_getItem_list_neg pl.isList (by omega) (by rw [List.size_toArray] <;> omega) (by omega) (by rw [hj]; simpa using ew) fin
end
/-! ### the drawing -/
theorem log2_lt60 {t : Int} (h0 : 0 < t) (h : t < 1152921504606846976) : t.natAbs.log2 < 9000 := by
  have h1 : t.natAbs < 2 ^ 60 := by
    have : (2 : Nat) ^ 60 = 1152921504606846976 := by decide
    omega
  exact Nat.lt_trans ((Nat.log2_lt (by omega)).mpr h1) (by decide)
abbrev s__law_take : Stmt := top 30
abbrev N__law_take : List Str := ["_law_box_here", "_law_top", "_law_found", "_law_once"]
abbrev P__law_take : List Str := ["_law_box_here", "_law_top"]
theorem sc__law_take : FnScope N__law_take P__law_take (defScope s__law_take) := ⟨rfl, rfl, rfl, by decide +kernel, rfl, by decide +kernel, by decide +kernel⟩
def spTake : Sp := fun vs H Q _ => ∃ (b : Addr) (top n : Int), vs = [.ref b, .int top] ∧ BoxAt H b n ∧ 0 < top ∧ top < 1152921504606846976 ∧ n < 1048576 ∧ ∀ r H', 0 ≤ r → r < top → Keep b H H' → BoxAt H' b (n + 1) → Q (.int r) H'
section
variable {P : Program} {w : World} {K : PySem.W.Frag} {mg : Str → Option Value} {base : Heap}
theorem ok_take {f : Addr} {fd : FuncData} {k : Nat} (F : Fun K "_law_take" "_law_take" s__law_take f fd) : FnOk P w K mg base CX0 (k + 1) f fd P__law_take spTake := by
  have nd := sc__law_take.nd
  refine F.ok sc__law_take (fun vs H Q E h => ?_) (fun cdv A outer s H vs Q E hr h => ?_)
  · obtain ⟨b, top, n, rfl, _⟩ := h
    rfl
  · obtain ⟨b, top, n, rfl, ⟨x, y, z, hb, hx, hy, hy2, hz, hzn⟩, ht, ht2, hn, q⟩ := h
    refine ⟨_, (pss_cons (ps_if (pt_cmpR op_gt (pe_ix (r := rIxL K) ix_list (pv 0) (pe_int) (fun _ _ => rfl)) (pe_int) (nomark _)) (pss_cons (ps_set (i := 2) nd rfl (Or.inl rfl) (pe_op op_mod (pe_ix (r := rIxL K) ix_list (pv 0) (pe_int) (fun _ _ => rfl)) (pv 1)))
      (pss_cons (ps_asg (pe_op op_fdivW (pe_ix (r := rIxL K) ix_list (pv 0) (pe_int) (fun _ _ => rfl)) (pv 1)) (pg_sub (pv 0) (pe_int) set_list))
      (pss_one (ps_ret (pv 2))))) pss_nil)
      (pss_cons (ps_asg (pe_op op_add (pe_ix (r := rIxL K) ix_list (pv 0) (pe_int) (fun _ _ => rfl)) (pe_int)) (pg_sub (pv 0) (pe_int) set_list))
      (pss_cons (ps_set (i := 3) nd rfl (Or.inl rfl) (pe_op op_mod (pe_op op_pow (pe_op op_add (pe_ix (r := rIxL K) ix_list (pv 0) (pe_int) (fun _ _ => rfl)) (pe_op op_mul (pe_int) (pe_ix (r := rIxL K) ix_list (pv 0) (pe_int) (fun _ _ => rfl)))) (pe_int)) (pe_int)))
      (pss_one (ps_ret (pe_op op_mod (pe_op op_fdivW (pe_op op_mod (pe_op op_add (pe_op op_mul (pv 3) (pe_op op_add (pe_op op_mod (pv 3) (pe_int)) (pe_int))) (pe_op op_mul (pe_ix (r := rIxL K) ix_list (pv 0) (pe_int) (fun _ _ => rfl)) (pe_int))) (pe_int)) (pe_int)) (pv 1))))))), ?_⟩
    have hL : SqL K H b [.int x, .int y, .int z] := SqL.of hb
    have cw : ∀ i : Int, CDivW i top := fun i => ⟨ht, log2_lt60 ht ht2⟩
    have cw6 : ∀ i : Int, CDivW i 64 := fun i => ⟨by decide, by decide⟩
    have cw1 := cw x
    walk_at "ev"
    refine ite2 (fun e => ?_) (fun e => ?_)
    · have e1 : 0 < x := of_decide_eq_true e
      walk_at "ev"
      exact q _ _ (Int.emod_nonneg _ (by omega)) (Int.emod_lt_of_pos _ ht) (keep_upd (Keep.refl _ _)) ⟨_, _, _, upd_same, Int.ediv_nonneg hx (by omega), hy, hy2, hz, by omega⟩
    · walk_at "ev"
      exact q _ _ (Int.emod_nonneg _ (by omega)) (Int.emod_lt_of_pos _ ht) (keep_upd (Keep.refl _ _)) ⟨_, _, _, upd_same, hx, hy, hy2, by omega, by omega⟩
end
abbrev s__law_box : Stmt := top 29
abbrev N__law_box : List Str := ["_law_script", "_law_k", "_law_cell"]
abbrev P__law_box : List Str := ["_law_script", "_law_k"]
theorem sc__law_box : FnScope N__law_box P__law_box (defScope s__law_box) := ⟨rfl, rfl, rfl, by decide +kernel, rfl, by decide +kernel, by decide +kernel⟩
def spBox (K : PySem.W.Frag) : Sp := fun vs H Q _ => ∃ (a : Addr) (ns : List Int) (k : Int), vs = [.ref a, .int k] ∧ SqL K H a (ns.map V.int) ∧ 0 ≤ k ∧ k ≤ 100000 ∧ ∀ p H', H p = none → Same H H' → BoxAt H' p 0 → Q (.ref p) H'
section
variable {P : Program} {w : World} {K : PySem.W.Frag} {mg : Str → Option Value} {base : Heap}
theorem ok_box {f : Addr} {fd : FuncData} {k : Nat} (F : Fun K "_law_box" "_law_box" s__law_box f fd) (T : Blt mg) : FnOk P w K mg base CX0 (k + 1) f fd P__law_box (spBox K) := by
  have nd := sc__law_box.nd
  refine F.ok sc__law_box (fun vs H Q E h => ?_) (fun cdv A outer s H vs Q E hr h => ?_)
  · obtain ⟨b, top, n, rfl, _⟩ := h
    rfl
  · obtain ⟨a, ns, k, rfl, hL, h0, h1, q⟩ := h
    refine ⟨_, (pss_cons (ps_set (i := 2) nd rfl (Or.inl rfl) (pe_int))
      (pss_cons (ps_if (pt_cmpR op_lt (pv 1) (pe_callB (r := rLenQ K) call_len_seq (by rfl) T.b_len (by decide +kernel) (pa_cons (pv 0) pa_nil)) (nomark _)) (pss_one (ps_set (i := 2) nd rfl (Or.inl rfl) (pe_ix (r := rIxL K) ix_list (pv 0) (pv 1) (fun _ _ => rfl)))) pss_nil)
      (pss_one (ps_ret (pe_lst (pa_cons (pe_op op_mul (pe_callB call_abs (by rfl) T.b_abs (by decide +kernel) (pa_cons (pv 2) pa_nil)) (pe_callTy call_int1 (by rfl) T.b_int (by decide +kernel) (pa_cons (pe_cmpR op_ge (pe_callB call_abs (by rfl) T.b_abs (by decide +kernel) (pa_cons (pv 2) pa_nil)) (pe_op op_pow (pe_int) (pe_int)) (nomark _)) pa_nil))) (pa_cons (pe_op op_add (pe_op op_add (pe_op op_mod (pv 2) (pe_int)) (pe_op op_mul (pe_int) (pv 1))) (pe_int)) (pa_cons (pe_int) pa_nil)))))))), ?_⟩
    have fin : ∀ c : Int, ∀ p, H p = none → Q (.ref p) (upd H p (.lst [.int ((if c < 0 then -c else c) * (if decide ((10 : Int) ^ 18 ≤ if c < 0 then -c else c) then 1 else 0)), .int (c % 2147483629 + 7919 * k + 11), .int 0])) := by
      intro c p hp
      refine q p _ hp (same_new hp) ⟨_, _, _, upd_same, ?_, ?_, ?_, by omega, by omega⟩
      · refine Int.mul_nonneg ?_ ?_
        · split <;> omega
        · split <;> omega
      · have := Int.emod_nonneg c (show (2147483629 : Int) ≠ 0 by decide)
        omega
      · have := Int.emod_lt_of_pos c (show (0 : Int) < 2147483629 by decide)
        omega
    walk_at "ev"
    refine ite2 (fun e => ?_) (fun e => ?_)
    · have e1 : k < ((ns.map V.int).length : Int) := of_decide_eq_true e
      rw [List.length_map] at e1
      obtain ⟨c, hc, hat⟩ := at_ints h0 e1
      walk_at "ev"
      exact fin c
    · walk_at "ev"
      exact fin 0
end
/-! ### the mathematics of primes -/
def Rough (n d : Int) : Prop := ∀ e : Int, 2 ≤ e → e < d → ¬ e ∣ n
inductive Fac : Int → List Int → Prop
  | one : Fac 1 []
  | cons {n p q : Int} {ps : List Int} : 2 ≤ p → n = p * q → 1 ≤ q → Rough n p → Fac q ps → Fac n (p :: ps)
theorem Fac.uniq : ∀ {n : Int} {xs ys : List Int}, Fac n xs → Fac n ys → xs = ys := by
  intro n xs ys h
  induction h generalizing ys with
  | one =>
    intro k
    cases k with
    | one => rfl
    | cons h1 h2 h3 h4 h5 =>
      rename_i p q ps
      have : 2 * 1 ≤ p * q := Int.mul_le_mul h1 h3 (by omega) (by omega)
      omega
  | cons h1 h2 h3 h4 h5 ih =>
    rename_i n p q ps
    intro k
    cases k with
    | one =>
      have : 2 * 1 ≤ p * q := Int.mul_le_mul h1 h3 (by omega) (by omega)
      omega
    | cons g1 g2 g3 g4 g5 =>
      rename_i p' q' ps'
      have e : p = p' := by
        rcases Int.lt_trichotomy p p' with l | l | l
        · exact absurd ⟨q, h2⟩ (g4 p h1 l)
        · exact l
        · exact absurd ⟨q', g2⟩ (h4 p' g1 l)
      subst e
      have e2 : q = q' := by
        have : p * q = p * q' := by omega
        exact Int.eq_of_mul_eq_mul_left (by omega) this
      subst e2
      rw [ih g5]
theorem Fac.self {n : Int} (h : 2 ≤ n) (r : Rough n n) : Fac n [n] := .cons h (by omega) (by omega) r .one
theorem Rough.of_fac {n : Int} (h : Fac n [n]) : 2 ≤ n ∧ Rough n n := by
  cases h with
  | cons h1 h2 h3 h4 h5 => exact ⟨h1, h4⟩
theorem Rough.step {n d : Int} (h : Rough n d) (e : ¬ d ∣ n) : Rough n (d + 1) := fun c h1 h2 => by
  by_cases q : c = d
  · rw [q]; exact e
  · exact h c h1 (by omega)
theorem Rough.quot {n p q d : Int} (h : Rough n d) (e : n = p * q) : Rough q d := fun c h1 h2 k => h c h1 h2 (by rw [e]; exact Int.dvd_trans k (Int.dvd_mul_left p q))
/-- nothing below d divides n, d squared is above n: n has no divisor at all -/
theorem Rough.top {n d : Int} (h : Rough n d) (hd : 2 ≤ d) (hn : 2 ≤ n) (e : n < d * d) : Rough n n := fun c h1 h2 k => by
  obtain ⟨q, hq⟩ := k
  by_cases hc : c < d
  · exact h c h1 hc ⟨q, hq⟩
  · have hq0 : 0 < q := by
      apply Int.lt_of_not_ge
      intro z
      have : c * q ≤ 0 := Int.mul_nonpos_of_nonneg_of_nonpos (by omega) z
      omega
    have hq1 : q ≠ 1 := by
      intro z
      rw [z] at hq
      omega
    have hqd : q < d := by
      apply Int.lt_of_not_ge
      intro z
      have : d * d ≤ c * q := Int.mul_le_mul (by omega) z (by omega) (by omega)
      omega
    exact h q (by omega) hqd ⟨c, by rw [hq, Int.mul_comm]⟩
theorem dvd_iff {n d : Int} : n % d = 0 ↔ d ∣ n := ⟨Int.dvd_of_emod_eq_zero, Int.emod_eq_zero_of_dvd⟩
/-- a divisor taken out -/
theorem Fac.out {n num d : Int} {found : List Int} (h : ∀ ps, Fac num ps → Fac n (found ++ ps)) (hd : 2 ≤ d) (h1 : 1 ≤ num) (r : Rough num d) (e : num % d = 0) :
    (∀ ps, Fac (num / d) ps → Fac n ((found ++ [d]) ++ ps)) ∧ 1 ≤ num / d ∧ Rough (num / d) d ∧ 2 * (num / d) ≤ num := by
  have e1 : num = d * (num / d) := (Int.mul_ediv_cancel' (Int.dvd_of_emod_eq_zero e)).symm
  generalize num / d = q at *
  have q0 : 0 < q := by
    apply Int.lt_of_not_ge
    intro z
    have : d * q ≤ 0 := Int.mul_nonpos_of_nonneg_of_nonpos (by omega) z
    omega
  refine ⟨fun ps f => ?_, q0, r.quot e1, ?_⟩
  · rw [List.append_assoc]
    exact h _ (.cons hd e1 q0 r f)
  · have : 2 * q ≤ d * q := Int.mul_le_mul_of_nonneg_right hd (by omega)
    omega
theorem pow_len {L : Nat} {num n : Int} (h : 2 ^ L * num.toNat ≤ n.toNat) (h1 : 1 ≤ num) (hn : n ≤ 1000000000) : L ≤ 30 := by
  apply Nat.le_of_not_gt
  intro z
  have a : 2 ^ 31 ≤ 2 ^ L := Nat.pow_le_pow_right (by decide) z
  have b : 2 ^ L * 1 ≤ 2 ^ L * num.toNat := Nat.mul_le_mul_left _ (by omega)
  have h31 : (2 : Nat) ^ 31 = 2147483648 := by decide
  omega
theorem pow_step {L : Nat} {num q n : Int} (h : 2 ^ L * num.toNat ≤ n.toNat) (e : 2 * q ≤ num) : 2 ^ (L + 1) * q.toNat ≤ n.toNat := by
  have : 2 ^ (L + 1) * q.toNat = 2 ^ L * (2 * q.toNat) := by rw [Nat.pow_succ, Nat.mul_assoc]
  rw [this]
  exact Nat.le_trans (Nat.mul_le_mul_left _ (by omega)) h
/-! ### kinds of things -/
inductive Kd (K : PySem.W.Frag) (H : Hp) : V → String → Prop
  | non : Kd K H .non "NoneType"
  | bl (b : Bool) : Kd K H (.bl b) "bool"
  | int (i : Int) : Kd K H (.int i) "int"
  | str (x : Str) : Kd K H (.str x) "str"
  | lst {a : Addr} {xs : List V} : SqL K H a xs → Kd K H (.ref a) "list"
  | tup {a : Addr} {xs : List V} : SqT K H a xs → Kd K H (.ref a) "tuple"
theorem Kd.ty {K : PySem.W.Frag} {H : Hp} {x : V} {t : String} (h : Kd K H x t) : TyX K H x (.type t) := by
  cases h with
  | non => exact .base .non
  | bl b => exact .base (.bl b)
  | int i => exact .base (.int i)
  | str x => exact .base (.str x)
  | lst h =>
    rcases h with (h | ⟨o, h⟩) | ⟨o, its, n, h1, h2, _⟩
    · exact .base (.lst h)
    · exact .base (.frz h)
    · exact .kList h1 h2
  | tup h =>
    rcases h with (h | ⟨o, h⟩) | ⟨o, its, n, h1, h2, _⟩
    · exact .base (.tup h)
    · exact .fTuple h
    · exact .kTuple h1 h2
theorem Kd.same {K : PySem.W.Frag} {H H' : Hp} {x : V} {t : String} (h : Kd K H x t) (e : Same H H') : Kd K H' x t := by
  cases h with
  | non => exact .non
  | bl b => exact .bl b
  | int i => exact .int i
  | str x => exact .str x
  | lst h => exact .lst (e.seq h)
  | tup h => exact .tup (same_t e h)
def tis (t c : String) : Bool := t == c || (t == "bool" && c == "int")
theorem Kd.kit {K : PySem.W.Frag} {H : Hp} {x : V} {t : String} (h : Kd K H x t) : PySem.W.kitOne K (.type t) (.type "int") = some (tis t "int") ∧ PySem.W.kitOne K (.type t) (.type "bool") = some (tis t "bool") ∧ PySem.W.kitOne K (.type t) (.type "str") = some (tis t "str") ∧ PySem.W.kitOne K (.type t) (.type "list") = some (tis t "list") ∧ PySem.W.kitOne K (.type t) (.type "tuple") = some (tis t "tuple") := by
  cases h <;> exact ⟨kit_ty (by decide +kernel), kit_ty (by decide +kernel), kit_ty (by decide +kernel), kit_ty (by decide +kernel), kit_ty (by decide +kernel)⟩
theorem kit_lt {K : PySem.W.Frag} {t : String} {a b : Bool} (h1 : PySem.W.kitOne K (.type t) (.type "list") = some a) (h2 : PySem.W.kitOne K (.type t) (.type "tuple") = some b) : PySem.W.kitAny K (.type t) [.type "list", .type "tuple"] = some (a || b) := by
  refine kitAny_cons h1 (fun e => kitAny_cons h2 (fun e2 => ?_) (fun e2 => ?_)) (fun e => by rw [e]; rfl)
  · rw [e, e2]
    exact kitAny_nil
  · rw [e, e2]
    rfl
/-! ### == of lists of ints -/
theorem dp_ints {K : PySem.W.Frag} {H : Hp} : ∀ ns : List Int, DpAll K H (ns.map V.int) (ns.map PyData.int)
  | [] => .nil
  | n :: r => .cons (.int n) (dp_ints r)
theorem eqv_ints : ∀ ns ms : List Int, PyData.eqvAll (ns.map PyData.int) (ms.map PyData.int) = decide (ns = ms)
  | [], [] => by simp [PyData.eqvAll]
  | [], _ :: _ => by simp [PyData.eqvAll]
  | _ :: _, [] => by simp [PyData.eqvAll]
  | a :: r, b :: t => by
    simp only [List.map_cons, PyData.eqvAll, PyData.eqv, eqv_ints r t]
    by_cases h : a = b <;> by_cases h' : r = t <;> simp [h, h']
theorem eqd_ints {K : PySem.W.Frag} {H : Hp} {a b : Addr} {ns ms : List Int} {Q : VK} (ha : SqL K H a (ns.map V.int)) (hb : SqL K H b (ms.map V.int)) (q : Q (.bl (decide (ns = ms))) H) : rEqD K (.ref a) (.ref b) H Q := by
  refine ⟨_, _, .lst ha (dp_ints ns), .lst hb (dp_ints ms), PySem.W.ke_shaped_ints ns, PySem.W.ke_shaped_ints ms, ?_⟩
  have e : PyData.eqv (.list (ns.map PyData.int)) (.list (ms.map PyData.int)) = decide (ns = ms) := by
    rw [PyData.eqv]
    exact eqv_ints ns ms
  rw [e]
  exact q
abbrev s_factors : Stmt := top 14
abbrev N_factors : List Str := ["number", "found", "divisor"]
abbrev P_factors : List Str := ["number"]
theorem sc_factors : FnScope N_factors P_factors (defScope s_factors) := ⟨rfl, rfl, rfl, by decide +kernel, rfl, by decide +kernel, by decide +kernel⟩
def spFactors : Sp := fun vs H Q _ => ∃ (n : Int), vs = [.int n] ∧ 1 ≤ n ∧ n ≤ 1000000000 ∧ ∀ xs p H', Fac n xs → H p = none → Same H H' → H' p = some (.lst (xs.map V.int)) → Q (.ref p) H'
section
variable {P : Program} {w : World} {K : PySem.W.Frag} {mg : Str → Option Value} {base : Heap}
theorem ok_factors {f : Addr} {fd : FuncData} {k : Nat} (F : Fun K "factors" "factors" s_factors f fd) : FnOk P w K mg base CX0 (k + 1) f fd P_factors spFactors := by
  have nd := sc_factors.nd
  refine F.ok sc_factors (fun vs H Q E h => ?_) (fun cdv A outer s H vs Q E hr h => ?_)
  · obtain ⟨n, rfl, _⟩ := h
    rfl
  · obtain ⟨n, rfl, hn1, hn2, q⟩ := h
    refine ⟨_, (pss_cons (ps_set (i := 1) nd rfl (Or.inl rfl) (pe_lst pa_nil))
      (pss_cons (ps_set (i := 2) nd rfl (Or.inl rfl) (pe_int))
      (pss_cons (ps_while PassesOwn.never (pt_cmpR op_le (pe_op op_mul (pv 2) (pv 2)) (pv 0) (nomark _))
      (pss_one (ps_if (pt_cmpR op_eq (pe_op op_mod (pv 0) (pv 2)) (pe_int) (nomark _)) (pss_cons (ps_expr (pe_bm PySem.F.plainAttrs_list PySem.F.slot_list_append PySem.F.type_list_append mt_append (pv 1) (pa_cons (pv 2) pa_nil)))
      (pss_one (ps_aug (i := 0) nd rfl (Or.inl rfl) (pv 2) iop_fdivW))) (pss_one (ps_aug (i := 2) nd rfl (Or.inl rfl) (pe_int) ip_add)))))
      (pss_cons (ps_if (pt_cmpR op_gt (pv 0) (pe_int) (nomark _)) (pss_one (ps_expr (pe_bm PySem.F.plainAttrs_list PySem.F.slot_list_append PySem.F.type_list_append mt_append (pv 1) (pa_cons (pv 0) pa_nil)))) pss_nil)
      (pss_one (ps_ret (pv 1))))))), ?_⟩
    walk_at "ev"
    intro p hp
    generalize hG : upd _ p _ = H1
    obtain ⟨sm, hp1⟩ := newO hG hp
    refine ⟨fun m σ H' => ∃ (num d : Int) (found : List Int), σ = [some (.int num), some (.ref p), some (.int d)] ∧ m = (num - d).toNat + num.toNat ∧ 1 ≤ num ∧ num ≤ n ∧ 2 ≤ d ∧ d ≤ n + 2 ∧ 2 ^ found.length * num.toNat ≤ n.toNat ∧ Rough num d ∧ (∀ ps, Fac num ps → Fac n (found ++ ps)) ∧ Same H H' ∧ H' p = some (.lst (found.map V.int)), ⟨_, n, 2, [], rfl, rfl, hn1, by omega, by omega, by omega, by simp, fun e h1 h2 => by omega, fun ps f => f, sm, hp1⟩, ?_⟩
    rintro m σ H' ⟨num, d, found, rfl, rfl, h1, h2, h3, h4, h5, hr', hf, sm', hp'⟩
    have hL := pow_len h5 h1 hn2
    have cm : CMul d d := .inl ⟨by omega, by omega⟩
    walk_at "ev"
    refine ite2 (fun e => ?_) (fun e => ?_)
    · have e1 : d * d ≤ num := of_decide_eq_true e
      refine ⟨_, holdN, ?_⟩
      walk_at "ev"
      refine ite2 (fun e2 => ?_) (fun e2 => ?_)
      · have e3 : num % d = 0 := V.int.inj (of_decide_eq_true e2)
        obtain ⟨o1, o2, o3, o4⟩ := Fac.out hf h3 h1 hr' e3
        walk_at "ev"
        refine .mk ⟨(num / d - d).toNat + (num / d).toNat, by omega, num / d, d, found ++ [d], rfl, rfl, o2, by omega, h3, h4, ?_, o3, o1, same_mut sm' hp, by rw [upd_same, List.map_append]; rfl⟩
        rw [List.length_append]
        exact pow_step h5 o4
      · have e3 : ¬ num % d = 0 := fun z => e2 (decide_eq_true (congrArg V.int z))
        have e4 : 2 * d ≤ d * d := Int.mul_le_mul_of_nonneg_right h3 (by omega)
        walk_at "ev"
        exact .mk ⟨(num - (d + 1)).toNat + num.toNat, by omega, num, d + 1, found, rfl, rfl, h1, h2, by omega, by omega, h5, hr'.step (fun z => e3 (dvd_iff.mpr z)), hf, sm', hp'⟩
    · have e1 : ¬ d * d ≤ num := fun z => e (decide_eq_true z)
      walk_at "ev"
      refine ite2 (fun e2 => ?_) (fun e2 => ?_)
      · have e3 : 1 < num := of_decide_eq_true e2
        walk_at "ev"
        refine q (found ++ [num]) _ _ (hf _ (Fac.self (by omega) (hr'.top h3 (by omega) (by omega)))) hp (same_mut sm' hp) (by rw [upd_same, List.map_append]; rfl)
      · have e3 : ¬ 1 < num := fun z => e2 (decide_eq_true z)
        have e4 : num = 1 := by omega
        walk_at "ev"
        subst e4
        have fin := hf [] .one
        rw [List.append_nil] at fin
        exact q found _ _ fin hp sm' hp'
end
/-! ### the law's own comparing, of like things -/
def Fit : Nat → PyData → Prop
  | 0, .list _ => False
  | 0, .tuple _ => False
  | n + 1, .list ds => ds.length ≤ 4000 ∧ ∀ e ∈ ds, Fit n e
  | n + 1, .tuple ds => ds.length ≤ 4000 ∧ ∀ e ∈ ds, Fit n e
  | _, .dict _ => False
  | _, _ => True
theorem dpall_len {K : PySem.W.Frag} {H : Hp} : ∀ {xs : List V} {ds : List PyData}, DpAll K H xs ds → xs.length = ds.length
  | _, _, .nil => rfl
  | _, _, .cons _ h => by rw [List.length_cons, List.length_cons, dpall_len h]
theorem dpall_get {K : PySem.W.Frag} {H : Hp} : ∀ {xs : List V} {ds : List PyData} {i : Nat} {x : V}, DpAll K H xs ds → xs[i]? = some x → ∃ d, ds[i]? = some d ∧ Dp K H x d
  | _, _, _, _, .nil, h => by simp at h
  | _, _, 0, _, .cons (d := d) h1 h2, h => ⟨d, rfl, by
      have e := Option.some.inj h
      rw [← e]
      exact h1⟩
  | _, _, i + 1, _, .cons h1 h2, h => dpall_get (i := i) h2 h
mutual
theorem dp_same {K : PySem.W.Frag} {H H' : Hp} (e : Same H H') : ∀ {x : V} {d : PyData}, Dp K H x d → Dp K H' x d
  | _, _, .non => .non
  | _, _, .bl b => .bl b
  | _, _, .int i => .int i
  | _, _, .str x => .str x
  | _, _, .lst h a => .lst (e.seq h) (dpall_same e a)
  | _, _, .tup h a => .tup (same_t e h) (dpall_same e a)
theorem dpall_same {K : PySem.W.Frag} {H H' : Hp} (e : Same H H') : ∀ {xs : List V} {ds : List PyData}, DpAll K H xs ds → DpAll K H' xs ds
  | _, _, .nil => .nil
  | _, _, .cons h a => .cons (dp_same e h) (dpall_same e a)
end
/-- a comprehension over pairs -/
theorem lc_pairs {J : It} {xs ys : List V} {g : TG} {tt : TT} {te : TE} {vs : List Nat} {σ : L2.St} {H1 : Hp} {D : Addr} {Qd : Hp → Prop} (Pv : Nat → Hp → Prop) (h0 : Pv 0 (upd H1 D (.lst [])))
    (hgo : ∀ i H, Pv i H → i < xs.length → J.go i H) (hy : ∀ i H v H', Pv i H → i < xs.length → J.yld i H v H' → ∃ T x y, v = .ref T ∧ H T = none ∧ H' = upd H T (.tup [x, y]) ∧ xs[i]? = some x ∧ ys[i]? = some y)
    (hst : ∀ H, Pv xs.length H → J.stop xs.length H)
    (hs : ∀ i x y T H H', xs[i]? = some x → ys[i]? = some y → Pv i H → H T = none → H' = upd H T (.tup [x, y]) → g (.ref T) (wipe σ vs) H' fun σ2 H2 => wipe σ2 vs = wipe σ vs ∧ tt σ2 H2 fun b H3 =>
      if b = true then te σ2 H3 fun y H4 => ∃ acc, H4 D = some (.lst acc) ∧ acc.length < sizeLine ∧ Pv (i + 1) (upd H4 D (.lst (acc ++ [y]))) else Pv (i + 1) H3) (hd : ∀ H, Pv xs.length H → Qd H) :
    ∃ W : Nat → Nat → Hp → Prop, (∃ m, W 0 m (upd H1 D (.lst []))) ∧ ∀ i m H, W i m H →
      (J.stop i H ∧ Qd H) ∨ (J.go i H ∧ ∃ Nx : Hp → Prop, (∀ H', Nx H' → ∃ m', m' < m ∧ W (i + 1) m' H') ∧ ∀ x H', J.yld i H x H' → g x (wipe σ vs) H' fun σ2 H2 => wipe σ2 vs = wipe σ vs ∧ tt σ2 H2 fun b H3 =>
        if b = true then te σ2 H3 fun y H4 => ∃ acc, H4 D = some (.lst acc) ∧ acc.length < sizeLine ∧ Nx (upd H4 D (.lst (acc ++ [y]))) else Nx H3) := by
  refine ⟨fun i m H => m = xs.length - i ∧ i ≤ xs.length ∧ Pv i H, ⟨xs.length, by simp, Nat.zero_le _, h0⟩, ?_⟩
  rintro i m H ⟨rfl, hi, p⟩
  by_cases hlt : i < xs.length
  · refine .inr ⟨hgo i H p hlt, Pv (i + 1), fun H' p' => ⟨xs.length - (i + 1), by omega, rfl, hlt, p'⟩, fun v H' yl => ?_⟩
    obtain ⟨T, x, y, rfl, hT, e, f1, f2⟩ := hy i H v H' p hlt yl
    exact hs i x y T H H' f1 f2 p hT e
  · have e : i = xs.length := by omega
    subst e
    exact .inl ⟨hst H p, hd H p⟩
theorem srt_ext : ∀ {l m : List Int}, l.Pairwise (· < ·) → m.Pairwise (· < ·) → (∀ k, k ∈ l ↔ k ∈ m) → l = m
  | [], [], _, _, _ => rfl
  | [], y :: m, _, _, h => by
    have := (h y).mpr List.mem_cons_self
    simp at this
  | x :: l, [], _, _, h => by
    have := (h x).mp List.mem_cons_self
    simp at this
  | x :: l, y :: m, hl, hm, h => by
    obtain ⟨hx, hl'⟩ := List.pairwise_cons.mp hl
    obtain ⟨hy, hm'⟩ := List.pairwise_cons.mp hm
    have e : x = y := by
      have a1 := (h x).mp List.mem_cons_self
      have a2 := (h y).mpr List.mem_cons_self
      rcases List.mem_cons.mp a1 with e | e
      · exact e
      · rcases List.mem_cons.mp a2 with e2 | e2
        · exact e2.symm
        · have := hy x e
          have := hx y e2
          omega
    subst e
    rw [srt_ext hl' hm' fun k => ?_]
    constructor
    · intro hk
      rcases List.mem_cons.mp ((h k).mp (List.mem_cons_of_mem _ hk)) with e | e
      · have := hx k hk
        omega
      · exact e
    · intro hk
      rcases List.mem_cons.mp ((h k).mpr (List.mem_cons_of_mem _ hk)) with e | e
      · have := hy k hk
        omega
      · exact e
theorem Fac.len {n : Int} {xs : List Int} (h : Fac n xs) (hn : n ≤ 1000000000) : xs.length ≤ 30 := by
  have key : ∀ {n : Int} {xs : List Int}, Fac n xs → 2 ^ xs.length * 1 ≤ n.toNat ∧ 1 ≤ n := by
    intro n xs h
    induction h with
    | one => exact ⟨by decide, by decide⟩
    | cons h1 h2 h3 h4 h5 ih =>
      rename_i n p q ps
      obtain ⟨i1, i2⟩ := ih
      have : 2 * q ≤ p * q := Int.mul_le_mul_of_nonneg_right h1 (by omega)
      refine ⟨?_, by omega⟩
      rw [List.length_cons, Nat.pow_succ]
      omega
  obtain ⟨k1, k2⟩ := key h
  exact pow_len (num := 1) (n := n) (by simpa using k1) (by decide) hn
theorem Fac.pos {n : Int} {xs : List Int} (h : Fac n xs) : 1 ≤ n := by
  induction h with
  | one => decide
  | cons h1 h2 h3 h4 h5 ih =>
    rename_i n p q ps
    have : 1 * 1 ≤ p * q := Int.mul_le_mul (by omega) ih (by omega) (by omega)
    omega
theorem Fac.le {n : Int} {xs : List Int} (h : Fac n xs) : ∀ q ∈ xs, q ≤ n := by
  induction h with
  | one => intro q hq; simp at hq
  | cons h1 h2 h3 h4 h5 ih =>
    rename_i n p q ps
    intro x hx
    rcases List.mem_cons.mp hx with e | e
    · rw [e]
      have : p * 1 ≤ p * q := Int.mul_le_mul_of_nonneg_left h3 (by omega)
      omega
    · have := ih x e
      have : 1 * q ≤ p * q := Int.mul_le_mul_of_nonneg_right (by omega) (by omega)
      omega
theorem Fac.primes {n : Int} {xs : List Int} (h : Fac n xs) : ∀ q ∈ xs, 2 ≤ q ∧ Rough q q := by
  induction h with
  | one => intro q hq; simp at hq
  | cons h1 h2 h3 h4 h5 ih =>
    rename_i n p q ps
    intro x hx
    rcases List.mem_cons.mp hx with e | e
    · rw [e]
      exact ⟨h1, fun c c1 c2 c3 => h4 c c1 c2 (Int.dvd_trans c3 ⟨q, h2⟩)⟩
    · exact ih x e
/-! ### all divisors, rising -/
/-- ds is the rising list of all that divides n -/
def IsDv (n : Int) (ds : List Int) : Prop := ds.Pairwise (· < ·) ∧ ∀ k, k ∈ ds ↔ 1 ≤ k ∧ k ∣ n
theorem IsDv.uniq {n : Int} {l m : List Int} (a : IsDv n l) (b : IsDv n m) : l = m := srt_ext a.1 b.1 fun k => (a.2 k).trans (b.2 k).symm
theorem sq_lt {a b : Int} (ha : 0 ≤ a) (h : a * a < b * b) (hb : 0 ≤ b) : a < b := by
  apply Int.lt_of_not_ge
  intro z
  have : b * b ≤ a * a := Int.mul_le_mul z z hb ha
  omega
/-- low: those below c; high: the partners of those whose square is less, falling -/
structure Half (n c : Int) (low high : List Int) : Prop where
  up : low.Pairwise (· < ·)
  mem : ∀ k, k ∈ low ↔ 1 ≤ k ∧ k < c ∧ k ∣ n
  down : high.Pairwise (· > ·)
  part : ∀ y, y ∈ high ↔ ∃ d, 1 ≤ d ∧ d < c ∧ d * d < n ∧ y * d = n
  sq : ∀ d, 1 ≤ d → d < c → d * d ≤ n
theorem Half.start (n : Int) : Half n 1 [] [] := ⟨.nil, fun k => ⟨fun h => by simp at h, fun ⟨a, b, _⟩ => by omega⟩, .nil, fun y => ⟨fun h => by simp at h, fun ⟨d, a, b, _⟩ => by omega⟩, fun d a b => by omega⟩
theorem Half.skip {n c : Int} {low high : List Int} (h : Half n c low high) (hc : 1 ≤ c) (e : ¬ c ∣ n) (s : c * c ≤ n) : Half n (c + 1) low high := by
  refine ⟨h.up, fun k => ?_, h.down, fun y => ?_, fun d a b => ?_⟩
  · rw [h.mem]
    constructor
    · rintro ⟨a, b, d⟩
      exact ⟨a, by omega, d⟩
    · rintro ⟨a, b, d⟩
      refine ⟨a, ?_, d⟩
      have : k ≠ c := fun z => e (z ▸ d)
      omega
  · rw [h.part]
    constructor
    · rintro ⟨d, a, b, x, z⟩
      exact ⟨d, a, by omega, x, z⟩
    · rintro ⟨d, a, b, x, z⟩
      refine ⟨d, a, ?_, x, z⟩
      have : d ≠ c := fun w => e ⟨y, by rw [← w, Int.mul_comm]; exact z.symm⟩
      omega
  · by_cases z : d = c
    · rw [z]; exact s
    · exact h.sq d a (by omega)
theorem pw_append {R : Int → Int → Prop} {l : List Int} {x : Int} (h : l.Pairwise R) (k : ∀ y ∈ l, R y x) : (l ++ [x]).Pairwise R := by
  rw [List.pairwise_append]
  exact ⟨h, List.pairwise_singleton _ _, fun a ha b hb => by
    have e : b = x := by simpa using hb
    rw [e]
    exact k a ha⟩
theorem Half.low {n c : Int} {low high : List Int} (h : Half n c low high) (hc : 1 ≤ c) (e : c ∣ n) (s : c * c ≤ n) :
    (c * c < n → Half n (c + 1) (low ++ [c]) (high ++ [n / c])) ∧ (¬ c * c < n → Half n (c + 1) (low ++ [c]) high) := by
  have up : (low ++ [c]).Pairwise (· < ·) := pw_append h.up fun y hy => ((h.mem y).mp hy).2.1
  have mem : ∀ k, k ∈ low ++ [c] ↔ 1 ≤ k ∧ k < c + 1 ∧ k ∣ n := fun k => by
    rw [List.mem_append, h.mem, List.mem_singleton]
    constructor
    · rintro (⟨a, b, d⟩ | z)
      · exact ⟨a, by omega, d⟩
      · rw [z]
        exact ⟨hc, by omega, e⟩
    · rintro ⟨a, b, d⟩
      by_cases z : k = c
      · exact .inr z
      · exact .inl ⟨a, by omega, d⟩
  have sq : ∀ d, 1 ≤ d → d < c + 1 → d * d ≤ n := fun d a b => by
    by_cases z : d = c
    · rw [z]; exact s
    · exact h.sq d a (by omega)
  have ec : n / c * c = n := Int.ediv_mul_cancel e
  constructor
  · intro lt
    refine ⟨up, mem, pw_append h.down fun y hy => ?_, fun y => ?_, sq⟩
    · obtain ⟨d, a, b, x, z⟩ := (h.part y).mp hy
      show n / c < y
      apply Int.lt_of_not_ge
      intro w
      have p1 : y * d ≤ n / c * d := Int.mul_le_mul_of_nonneg_right w (by omega)
      have q0 : 0 < n / c := by
        apply Int.lt_of_not_ge
        intro v
        have : n / c * c ≤ 0 := Int.mul_nonpos_of_nonpos_of_nonneg v (by omega)
        have : 1 * 1 ≤ c * c := Int.mul_le_mul hc hc (by omega) (by omega)
        omega
      have p2 : n / c * d < n / c * c := Int.mul_lt_mul_of_pos_left b q0
      omega
    · rw [List.mem_append, h.part, List.mem_singleton]
      constructor
      · rintro (⟨d, a, b, x, z⟩ | w)
        · exact ⟨d, a, by omega, x, z⟩
        · rw [w]
          exact ⟨c, hc, by omega, lt, ec⟩
      · rintro ⟨d, a, b, x, z⟩
        by_cases w : d = c
        · right
          subst w
          have : y * d = n / d * d := by omega
          exact Int.eq_of_mul_eq_mul_right (by omega) this
        · exact .inl ⟨d, a, by omega, x, z⟩
  · intro nlt
    refine ⟨up, mem, h.down, fun y => ?_, sq⟩
    rw [h.part]
    constructor
    · rintro ⟨d, a, b, x, z⟩
      exact ⟨d, a, by omega, x, z⟩
    · rintro ⟨d, a, b, x, z⟩
      refine ⟨d, a, ?_, x, z⟩
      have : d ≠ c := fun w => nlt (w ▸ x)
      omega
theorem Half.done {n c : Int} {low high : List Int} (h : Half n c low high) (hn : 1 ≤ n) (hc : 1 ≤ c) (e : n < c * c) : IsDv n (low ++ high.reverse) := by
  constructor
  · rw [List.pairwise_append]
    refine ⟨h.up, ?_, fun x hx y hy => ?_⟩
    · rw [List.pairwise_reverse]
      exact h.down
    · obtain ⟨a, b, d⟩ := (h.mem x).mp hx
      obtain ⟨d', a', b', s', z'⟩ := (h.part y).mp (List.mem_reverse.mp hy)
      have sx := h.sq x a b
      -- y * y > n ≥ x * x
      have y0 : 0 < y := by
        apply Int.lt_of_not_ge
        intro v
        have : y * d' ≤ 0 := Int.mul_nonpos_of_nonpos_of_nonneg v (by omega)
        omega
      have yd : d' < y := by
        apply Int.lt_of_not_ge
        intro v
        have : y * d' ≤ d' * d' := Int.mul_le_mul_of_nonneg_right v (by omega)
        omega
      have : y * d' < y * y := Int.mul_lt_mul_of_pos_left yd y0
      exact sq_lt (by omega) (by omega) (by omega)
  · intro k
    rw [List.mem_append, List.mem_reverse, h.mem, h.part]
    constructor
    · rintro (⟨a, b, d⟩ | ⟨d, a, b, x, z⟩)
      · exact ⟨a, d⟩
      · refine ⟨?_, ⟨d, z.symm⟩⟩
        show 0 < k
        apply Int.lt_of_not_ge
        intro v
        have : k * d ≤ 0 := Int.mul_nonpos_of_nonpos_of_nonneg (by omega) (by omega)
        omega
    · rintro ⟨a, b⟩
      by_cases kc : k < c
      · exact .inl ⟨a, kc, b⟩
      · right
        obtain ⟨d, hd⟩ := b
        have d0 : 0 < d := by
          apply Int.lt_of_not_ge
          intro v
          have : k * d ≤ 0 := Int.mul_nonpos_of_nonneg_of_nonpos (by omega) v
          omega
        have dc : d < c := by
          apply Int.lt_of_not_ge
          intro v
          have : c * c ≤ k * d := Int.mul_le_mul (by omega) v (by omega) (by omega)
          omega
        have dk : d < k := by omega
        have : d * d < k * d := Int.mul_lt_mul_of_pos_right dk d0
        exact ⟨d, by omega, dc, by omega, hd.symm⟩
theorem half_len {m : Int} (hm : 1 ≤ m) (hm2 : m ≤ 1000000) : ∀ c : Nat, 1 ≤ c → (∃ (c' : Nat) (low high : List Int), 1 ≤ c' ∧ c' ≤ c ∧ m < (c' : Int) * c' ∧ Half m c' low high ∧ low.length + high.length + 2 ≤ 2 * c') ∨ (∃ low high : List Int, Half m c low high ∧ low.length + high.length + 2 ≤ 2 * c) := by
  intro c
  induction c with
  | zero => intro h; omega
  | succ c ih =>
    intro _
    by_cases c0 : c = 0
    · subst c0
      exact .inr ⟨[], [], Half.start m, by simp⟩
    · rcases ih (by omega) with ⟨c', low, high, a1, a2, a3, a4, a5⟩ | ⟨low, high, a4, a5⟩
      · exact .inl ⟨c', low, high, a1, by omega, a3, a4, a5⟩
      · by_cases z : m < (c : Int) * c
        · exact .inl ⟨c, low, high, by omega, by omega, z, a4, a5⟩
        · have e1 : (((c + 1 : Nat) : Int)) = (c : Int) + 1 := by omega
          by_cases dv : (c : Int) ∣ m
          · obtain ⟨b1, b2⟩ := a4.low (by omega) dv (by omega)
            by_cases lt : (c : Int) * c < m
            · refine .inr ⟨_, _, by rw [e1]; exact b1 lt, ?_⟩
              simp
              omega
            · refine .inr ⟨_, _, by rw [e1]; exact b2 lt, ?_⟩
              simp
              omega
          · refine .inr ⟨low, high, by rw [e1]; exact a4.skip (by omega) dv (by omega), by omega⟩
theorem IsDv.len {m : Int} {ds : List Int} (h : IsDv m ds) (hm : 1 ≤ m) (hm2 : m ≤ 1000000) : ds.length ≤ 2000 := by
  rcases half_len hm hm2 1001 (by decide) with ⟨c', low, high, a1, a2, a3, a4, a5⟩ | ⟨low, high, a4, a5⟩
  · have e := h.uniq (a4.done hm (by omega) a3)
    rw [e, List.length_append, List.length_reverse]
    omega
  · have big : m < ((1001 : Nat) : Int) * ((1001 : Nat) : Int) := by
      have e : ((1001 : Nat) : Int) * ((1001 : Nat) : Int) = 1002001 := by decide
      omega
    have e := h.uniq (a4.done hm (by omega) big)
    rw [e, List.length_append, List.length_reverse]
    omega
/-- d divides m * p, p a prime -/
theorem dv_prime {k m p : Int} (hk : 1 ≤ k) (hp : 2 ≤ p) (r : Rough p p) (h : k ∣ m * p) : k ∣ m ∨ ∃ e, k = e * p := by
  by_cases hpk : p ∣ k
  · obtain ⟨e, he⟩ := hpk
    exact .inr ⟨e, by rw [he, Int.mul_comm]⟩
  · left
    have hg : Nat.gcd k.natAbs p.natAbs = 1 := by
      have d1 := Nat.gcd_dvd_left k.natAbs p.natAbs
      have d2 := Nat.gcd_dvd_right k.natAbs p.natAbs
      generalize Nat.gcd k.natAbs p.natAbs = g at *
      have gp : (g : Int) ∣ p := by
        rw [← Int.natAbs_dvd_natAbs, Int.natAbs_natCast]
        exact d2
      have gk : (g : Int) ∣ k := by
        rw [← Int.natAbs_dvd_natAbs, Int.natAbs_natCast]
        exact d1
      have gle : (g : Int) ≤ p := Int.le_of_dvd (by omega) gp
      have g0 : g ≠ 0 := fun z => by
        rw [z] at gp
        have := Int.zero_dvd.mp gp
        omega
      by_cases g1 : g = 1
      · exact g1
      · exfalso
        by_cases gpe : (g : Int) = p
        · rw [gpe] at gk
          exact hpk gk
        · exact r g (by omega) (by omega) gp
    have h1 : k.natAbs ∣ m.natAbs * p.natAbs := by
      rw [← Int.natAbs_mul]
      exact Int.natAbs_dvd_natAbs.mpr h
    have h2 := Nat.Coprime.dvd_of_dvd_mul_right (show Nat.Coprime k.natAbs p.natAbs from hg) h1
    exact Int.natAbs_dvd_natAbs.mp h2
abbrev s_divisors : Stmt := top 15
abbrev N_divisors : List Str := ["number", "low", "high", "divisor"]
abbrev P_divisors : List Str := ["number"]
theorem sc_divisors : FnScope N_divisors P_divisors (defScope s_divisors) := ⟨rfl, rfl, rfl, by decide +kernel, rfl, by decide +kernel, by decide +kernel⟩
def spDiv : Sp := fun vs H Q _ => ∃ (n : Int), vs = [.int n] ∧ 1 ≤ n ∧ n ≤ 1000000 ∧ ∀ ds l H', IsDv n ds → H l = none → Same H H' → H' l = some (.lst (ds.map V.int)) → Q (.ref l) H'
section
variable {P : Program} {w : World} {K : PySem.W.Frag} {mg : Str → Option Value} {base : Heap}
theorem ok_divisors {f : Addr} {fd : FuncData} {k : Nat} (F : Fun K "divisors" "divisors" s_divisors f fd) (T : Blt mg) : FnOk P w K mg base CX0 (k + 1) f fd P_divisors spDiv := by
  have nd := sc_divisors.nd
  refine F.ok sc_divisors (fun vs H Q E h => ?_) (fun cdv A outer s H vs Q E hr h => ?_)
  · obtain ⟨n, rfl, _⟩ := h
    rfl
  · obtain ⟨n, rfl, h1, h2, q⟩ := h
    refine ⟨_, (pss_cons (ps_set (i := 1) nd rfl (Or.inl rfl) (pe_lst pa_nil))
      (pss_cons (ps_set (i := 2) nd rfl (Or.inl rfl) (pe_lst pa_nil))
      (pss_cons (ps_set (i := 3) nd rfl (Or.inl rfl) (pe_int))
      (pss_cons (ps_while PassesOwn.never (pt_cmpR op_le (pe_op op_mul (pv 3) (pv 3)) (pv 0) (nomark _))
      (pss_cons (ps_if (pt_cmpR op_eq (pe_op op_mod (pv 0) (pv 3)) (pe_int) (nomark _)) (pss_cons (ps_expr (pe_bm PySem.F.plainAttrs_list PySem.F.slot_list_append PySem.F.type_list_append mt_append (pv 1) (pa_cons (pv 3) pa_nil)))
      (pss_one (ps_if (pt_cmpR op_lt (pe_op op_mul (pv 3) (pv 3)) (pv 0) (nomark _)) (pss_one (ps_expr (pe_bm PySem.F.plainAttrs_list PySem.F.slot_list_append PySem.F.type_list_append mt_append (pv 2) (pa_cons (pe_op op_fdiv (pv 0) (pv 3)) pa_nil)))) pss_nil))) pss_nil)
      (pss_one (ps_aug (i := 3) nd rfl (Or.inl rfl) (pe_int) ip_add))))
      (pss_one (ps_ret (pe_op op_cat (pv 1) (pe_revL (pv 2))))))))), ?_⟩
    walk_at "ev"
    intro a ha
    generalize hG1 : upd _ a _ = H1
    obtain ⟨sm1, hq1⟩ := newO hG1 ha
    walk_at "ev"
    intro b hb
    generalize hG2 : upd _ b _ = H2
    obtain ⟨sm2, hq2⟩ := newO hG2 hb
    have nab : a ≠ b := ne_of_none hq1 hb
    have hbf : H b = none := sm1.free hb
    refine ⟨fun m σ H' => ∃ (c : Int) (low high : List Int), σ = [some (.int n), some (.ref a), some (.ref b), some (.int c)] ∧ m = (n + 1 - c).toNat ∧ 1 ≤ c ∧ c ≤ 1001 ∧ c ≤ n + 1 ∧ Half n c low high ∧ low.length + high.length + 2 ≤ 2 * c.toNat ∧ Same H H' ∧ H' a = some (.lst (low.map V.int)) ∧ H' b = some (.lst (high.map V.int)), ⟨_, 1, [], [], rfl, rfl, by omega, by omega, by omega, Half.start n, by simp, sm1.trans sm2, sm2 _ _ hq1, hq2⟩, ?_⟩
    rintro m σ H' ⟨c, low, high, rfl, rfl, c1, c2, c3, hf, hl, sm, hqa, hqb⟩
    have cm : CMul c c := .inl ⟨by omega, by omega⟩
    walk_at "ev"
    refine ite2 (fun e => ?_) (fun e => ?_)
    · have e1 : c * c ≤ n := of_decide_eq_true e
      have cl : c ≤ c * c := by
        have : 1 * c ≤ c * c := Int.mul_le_mul_of_nonneg_right c1 (by omega)
        omega
      have c1000 : c ≤ 1000 := by
        apply Int.le_of_not_gt
        intro z
        have : 1001 * 1001 ≤ c * c := Int.mul_le_mul (by omega) (by omega) (by omega) (by omega)
        omega
      refine ⟨_, holdN, ?_⟩
      walk_at "ev"
      refine ite2 (fun e2 => ?_) (fun e2 => ?_)
      · have e3 : n % c = 0 := V.int.inj (of_decide_eq_true e2)
        obtain ⟨g1, g2⟩ := hf.low c1 (dvd_iff.mp e3) e1
        have hty : tyV K "list" (.ref a) H' := .inl ⟨rfl, _, SqL.of hqa⟩
        have hsa : (low.map V.int).length < sizeLine := by
          rw [List.length_map]
          exact szm (by omega)
        walk_at "ev"
        generalize hG3 : upd H' a _ = H3
        have hqa3 : H3 a = some (.lst ((low ++ [c]).map V.int)) := by
          rw [(mutO hG3).2, List.map_append]
          rfl
        have hqb3 : H3 b = some (.lst (high.map V.int)) := (mutO hG3).1 _ _ nab.symm hqb
        have sm3 : Same H H3 := by
          rw [← hG3]
          exact same_mut sm ha
        clear hG3
        refine ite2 (fun e4 => ?_) (fun e4 => ?_)
        · have e5 : c * c < n := of_decide_eq_true e4
          have hty3 : tyV K "list" (.ref b) H3 := .inl ⟨rfl, _, SqL.of hqb3⟩
          have hsb : (high.map V.int).length < sizeLine := by
            rw [List.length_map]
            exact szm (by omega)
          walk_at "ev"
          refine .mk ⟨(n + 1 - (c + 1)).toNat, by omega, c + 1, low ++ [c], high ++ [n / c], rfl, rfl, by omega, by omega, by omega, g1 e5, ?_, same_mut sm3 hbf, ?_, ?_⟩
          · simp
            omega
          · rw [upd_ne nab]
            exact hqa3
          · rw [upd_same, List.map_append]
            rfl
        · have e5 : ¬ c * c < n := fun z => e4 (decide_eq_true z)
          walk_at "ev"
          refine .mk ⟨(n + 1 - (c + 1)).toNat, by omega, c + 1, low ++ [c], high, rfl, rfl, by omega, by omega, by omega, g2 e5, ?_, sm3, hqa3, hqb3⟩
          simp
          omega
      · have e3 : ¬ n % c = 0 := fun z => e2 (decide_eq_true (congrArg V.int z))
        walk_at "ev"
        exact .mk ⟨(n + 1 - (c + 1)).toNat, by omega, c + 1, low, high, rfl, rfl, by omega, by omega, by omega, hf.skip c1 (fun z => e3 (dvd_iff.mpr z)) e1, by omega, sm, hqa, hqb⟩
    · have e1 : ¬ c * c ≤ n := fun z => e (decide_eq_true z)
      have hLb : SqL K H' b (high.map V.int) := SqL.of hqb
      walk_at "ev"
      intro r hr'
      generalize hG3 : upd _ r _ = H3
      obtain ⟨sm3, hq3⟩ := newO hG3 hr'
      have hqa3 := sm3 _ _ hqa
      have hsz : (low.map V.int).length + (high.map V.int).reverse.length ≤ sizeLine := by
        rw [List.length_map, List.length_reverse, List.length_map]
        exact szl (by omega)
      walk_at "ev"
      intro p hp
      generalize hG4 : upd _ p _ = H4
      obtain ⟨sm4, hq4⟩ := newO hG4 hp
      refine q (low ++ high.reverse) p H4 (hf.done h1 c1 (by omega)) ((sm.trans sm3).free hp) (sm.trans (sm3.trans sm4)) ?_
      rw [hq4, List.map_append, List.map_reverse]
end
/-! ### the sieve: mathematics -/
def pk (m j : Nat) : Bool := (List.range' 2 (m - 2)).all fun d => decide (j < d * d) || decide (j % d ≠ 0)
theorem pk_iff {m j : Nat} : pk m j = true ↔ ∀ d, 2 ≤ d → d < m → d * d ≤ j → ¬ d ∣ j := by
  unfold pk
  rw [List.all_eq_true]
  constructor
  · intro h d h1 h2 h3 h4
    have := h d (List.mem_range'_1.mpr ⟨h1, by omega⟩)
    rw [Bool.or_eq_true, decide_eq_true_iff, decide_eq_true_iff] at this
    rcases this with z | z
    · omega
    · exact z (Nat.mod_eq_zero_of_dvd h4)
  · intro h d hd
    have h1 := List.mem_range'_1.mp hd
    rw [Bool.or_eq_true, decide_eq_true_iff, decide_eq_true_iff]
    by_cases z : j < d * d
    · exact .inl z
    · exact .inr fun e => h d h1.1 (by omega) (by omega) (Nat.dvd_of_mod_eq_zero e)
/-- what is marked behind t turns at m -/
def mk (m t j : Nat) : Bool := pk m j && !(decide (m * m ≤ j) && decide (j % m = 0) && decide (j < m * m + t * m))
def prs (top : Nat) : List Int := ((List.range' 2 (top - 1)).filter (pk (top + 1))).map Int.ofNat
/-! ### the law's own dividing -/
theorem mem_prs {top : Nat} {x : Int} : x ∈ prs top ↔ ∃ j : Nat, x = (j : Int) ∧ 2 ≤ j ∧ j ≤ top ∧ pk (top + 1) j = true := by
  unfold prs
  rw [List.mem_map]
  constructor
  · rintro ⟨j, hj, e⟩
    have h1 := List.mem_filter.mp hj
    have h2 := List.mem_range'_1.mp h1.1
    exact ⟨j, e.symm, h2.1, by omega, h1.2⟩
  · rintro ⟨j, e, h1, h2, h3⟩
    exact ⟨j, List.mem_filter.mpr ⟨List.mem_range'_1.mpr ⟨h1, by omega⟩, h3⟩, e.symm⟩
/-! ### powers by rests -/
theorem emod_pow (a m : Int) : ∀ k : Nat, (a % m) ^ k % m = a ^ k % m
  | 0 => by rw [Int.pow_zero, Int.pow_zero]
  | k + 1 => by rw [Int.pow_succ, Int.pow_succ, Int.mul_emod, emod_pow a m k, Int.emod_emod_of_dvd _ (Int.dvd_refl m), ← Int.mul_emod]
theorem mul_pow_mod (t b m : Int) (k : Nat) : t * (b % m) ^ k % m = t * b ^ k % m := by
  rw [Int.mul_emod, emod_pow, ← Int.mul_emod]
theorem mod_mul_mod (t x m : Int) : t % m * x % m = t * x % m := by
  rw [Int.mul_emod, Int.emod_emod_of_dvd _ (Int.dvd_refl m), ← Int.mul_emod]
theorem pow_sq (b : Int) : ∀ k : Nat, (b * b) ^ k = b ^ (2 * k)
  | 0 => by rw [Nat.mul_zero, Int.pow_zero, Int.pow_zero]
  | k + 1 => by
    rw [Int.pow_succ, pow_sq b k, show 2 * (k + 1) = 2 * k + 1 + 1 by omega, Int.pow_succ, Int.pow_succ, Int.mul_assoc]
theorem step_odd {t b m e : Int} (h : e % 2 = 1) (he : 0 ≤ e) : t * b % m * (b * b % m) ^ (e / 2).toNat % m = t * b ^ e.toNat % m := by
  rw [mul_pow_mod, mod_mul_mod, pow_sq]
  have : e.toNat = 2 * (e / 2).toNat + 1 := by omega
  rw [this, Int.pow_succ, Int.mul_comm (b ^ _) b, ← Int.mul_assoc]
theorem step_even {t b m e : Int} (h : ¬ e % 2 = 1) (he : 0 ≤ e) : t * (b * b % m) ^ (e / 2).toNat % m = t * b ^ e.toNat % m := by
  rw [mul_pow_mod, pow_sq]
  have : e.toNat = 2 * (e / 2).toNat := by omega
  rw [← this]
abbrev s_power_rest : Stmt := top 17
abbrev N_power_rest : List Str := ["number", "power", "by", "told"]
abbrev P_power_rest : List Str := ["number", "power", "by"]
theorem sc_power_rest : FnScope N_power_rest P_power_rest (defScope s_power_rest) := ⟨rfl, rfl, rfl, by decide +kernel, rfl, by decide +kernel, by decide +kernel⟩
def spPow : Sp := fun vs H Q _ => ∃ (b e m : Int), vs = [.int b, .int e, .int m] ∧ 0 ≤ e ∧ 1 ≤ m ∧ m ≤ 1000000 ∧ Q (.int (b ^ e.toNat % m)) H
section
variable {P : Program} {w : World} {K : PySem.W.Frag} {mg : Str → Option Value} {base : Heap}
theorem ok_power {f : Addr} {fd : FuncData} {k : Nat} (F : Fun K "power_rest" "power_rest" s_power_rest f fd) : FnOk P w K mg base CX0 (k + 1) f fd P_power_rest spPow := by
  have nd := sc_power_rest.nd
  refine F.ok sc_power_rest (fun vs H Q E h => ?_) (fun cdv A outer s H vs Q E hr h => ?_)
  · obtain ⟨b, e, m, rfl, _⟩ := h
    rfl
  · obtain ⟨b, e, m, rfl, he, hm1, hm2, q⟩ := h
    refine ⟨_, (pss_cons (ps_set (i := 3) nd rfl (Or.inl rfl) (pe_op op_mod (pe_int) (pv 2)))
      (pss_cons (ps_set (i := 0) nd rfl (Or.inl rfl) (pe_op op_mod (pv 0) (pv 2)))
      (pss_cons (ps_while PassesOwn.never (pt_cmpR op_gt (pv 1) (pe_int) (nomark _))
      (pss_cons (ps_if (pt_cmpR op_eq (pe_op op_mod (pv 1) (pe_int)) (pe_int) (nomark _)) (pss_one (ps_set (i := 3) nd rfl (Or.inl rfl) (pe_op op_mod (pe_op op_mul (pv 3) (pv 0)) (pv 2)))) pss_nil)
      (pss_cons (ps_set (i := 0) nd rfl (Or.inl rfl) (pe_op op_mod (pe_op op_mul (pv 0) (pv 0)) (pv 2)))
      (pss_one (ps_aug (i := 1) nd rfl (Or.inl rfl) (pe_int) iop_fdivW)))))
      (pss_one (ps_ret (pv 3)))))), ?_⟩
    walk_at "ev"
    have r0 : ∀ x : Int, 0 ≤ x % m ∧ x % m < m := fun x => ⟨Int.emod_nonneg _ (by omega), Int.emod_lt_of_pos _ (by omega)⟩
    refine ⟨fun z σ H' => H' = H ∧ ∃ (x p t : Int), σ = [some (.int x), some (.int p), some (.int m), some (.int t)] ∧ z = p.toNat ∧ 0 ≤ p ∧ 0 ≤ t ∧ t < m ∧ 0 ≤ x ∧ x < m ∧ t * x ^ p.toNat % m = b ^ e.toNat % m, ⟨_, rfl, b % m, e, 1 % m, rfl, rfl, he, (r0 _).1, (r0 _).2, (r0 _).1, (r0 _).2, ?_⟩, ?_⟩
    · rw [mod_mul_mod, mul_pow_mod, Int.one_mul]
    · rintro z σ H' ⟨rfl, x, p, t, rfl, rfl, p0, t0, t1, x0, x1, inv⟩
      have cm1 : CMul t x := .inl ⟨by omega, by omega⟩
      have cm2 : CMul x x := .inl ⟨by omega, by omega⟩
      walk_at "ev"
      refine ite2 (fun c => ?_) (fun c => ?_)
      · have c1 : 0 < p := of_decide_eq_true c
        refine ⟨_, holdN, ?_⟩
        walk_at "ev"
        refine ite2 (fun d => ?_) (fun d => ?_)
        · have d1 : p % 2 = 1 := V.int.inj (of_decide_eq_true d)
          walk_at "ev"
          exact .mk ⟨(p / 2).toNat, by omega, rfl, x * x % m, p / 2, t * x % m, rfl, rfl, by omega, (r0 _).1, (r0 _).2, (r0 _).1, (r0 _).2, by rw [step_odd d1 p0]; exact inv⟩
        · have d1 : ¬ p % 2 = 1 := fun z => d (decide_eq_true (congrArg V.int z))
          walk_at "ev"
          exact .mk ⟨(p / 2).toNat, by omega, rfl, x * x % m, p / 2, t, rfl, rfl, by omega, t0, t1, (r0 _).1, (r0 _).2, by rw [step_even d1 p0]; exact inv⟩
      · have c1 : p = 0 := by
          have : ¬ 0 < p := fun z => c (decide_eq_true z)
          omega
        subst c1
        walk_at "ev"
        have et : t = b ^ e.toNat % m := by
          rw [← inv]
          show t = t * x ^ (0 : Nat) % m
          rw [Int.pow_zero, Int.mul_one, Int.emod_eq_of_lt t0 t1]
        rw [et]
        exact q
end
abbrev s_generator : Stmt := top 18
abbrev N_generator : List Str := ["prime", "early", "number", "factor", "power"]
abbrev P_generator : List Str := ["prime"]
theorem sc_generator : FnScope N_generator P_generator (defScope s_generator) := ⟨rfl, rfl, rfl, by decide +kernel, rfl, by decide +kernel, by decide +kernel⟩
/-- the exponents at which powers may come round too early -/
def erl (p : Int) (fs : List Int) : List Int := fs.map fun f => (p - 1) / f
def GenOk (p g : Int) (es : List Int) : Prop := ∀ e ∈ es, ¬ g ^ e.toNat % p = 1
def LeastGen (p g : Int) (es : List Int) : Prop := 1 ≤ g ∧ g < p ∧ GenOk p g es ∧ ∀ x, 1 ≤ x → x < g → ¬ GenOk p x es
def spGen : Sp := fun vs H Q _ => ∃ (p g0 : Int) (fs out : List Int), vs = [.int p] ∧ 2 ≤ p ∧ p ≤ 1000000 ∧ Fac (p - 1) fs ∧ out.Pairwise (· < ·) ∧ (∀ k, k ∈ out ↔ k ∈ fs) ∧ 1 ≤ g0 ∧ g0 < p ∧ GenOk p g0 (erl p out) ∧ ∀ g H', Same H H' → LeastGen p g (erl p out) → Q (.int g) H'
section
variable {P : Program} {w : World} {K : PySem.W.Frag} {mg : Str → Option Value} {base : Heap}
theorem ok_generator {f f1 f2 : Addr} {fd d1 d2 : FuncData} {k : Nat} (F : Fun K "generator" "generator" s_generator f fd) (T : Blt mg) (D_factors : Df K mg "factors" s_factors P_factors f1 d1) (D_power_rest : Df K mg "power_rest" s_power_rest P_power_rest f2 d2) : FnOk P w K mg base CX0 (k + 2) f fd P_generator spGen := by
  have G_factors : FnOk P w K mg base CX0 (k + 1) f1 d1 P_factors spFactors := ok_factors D_factors.F
  have G_power_rest : FnOk P w K mg base CX0 (k + 1) f2 d2 P_power_rest spPow := ok_power D_power_rest.F
  have nd := sc_generator.nd
  refine F.ok sc_generator (fun vs H Q E h => ?_) (fun cdv A outer s H vs Q E hr h => ?_)
  · obtain ⟨p, g0, fs, out, rfl, _⟩ := h
    rfl
  · obtain ⟨p, g0, fs, out, rfl, p2, p6, hfac, hso, hmo, g1, gp, hg0, q⟩ := h
    refine ⟨_, (pss_cons (ps_setLc (i := 1) (own := [("factor", 3)]) (g := gName 3) (by rfl) nd rfl rfl (sw_true rfl rfl rfl (by decide +kernel)) (pi_list (pe_sortSet (by rfl) T.b_sorted (by rfl) T.b_set (pe_call G_factors (hr.mono (by omega)) (by rfl) D_factors.g D_factors.F.kp D_factors.b .nil pass0 (pa_cons (pe_op op_sub (pv 0) (pe_int)) pa_nil)))) (blkOk_by (own := [("factor", 3)]) (N := N_generator) (sc := defScope s_generator) (by decide +kernel)) (fun _ _ _ _ _ => (pg_name (i := 3) nd rfl (Or.inl rfl))) (fun _ _ _ _ _ => pts_nil) (fun _ _ _ _ _ => (pe_op op_fdiv (pe_op op_sub (pv 0) (pe_int)) (pv 3))))
      (pss_cons (ps_set (i := 2) nd rfl (Or.inr rfl) (pe_int))
      (pss_cons (ps_while PassesOwn.never (pt_val (pe_callB (r := rAny K) (cr_any rfl) (by rfl) T.b_any (by decide +kernel) (pa_cons (pe_lc (own := [("power", 4)]) (g := gName 4) (by rfl) nd (pi_list (pv 1)) (blkOk_by (own := [("power", 4)]) (N := N_generator) (sc := defScope s_generator) (by decide +kernel)) (fun _ _ _ _ _ => (pg_name (i := 4) nd rfl (Or.inl rfl))) (fun _ _ _ _ _ => pts_nil) (fun _ _ _ _ _ => (pe_cmpR op_eq (pe_call G_power_rest (hr.mono (by omega)) (by rfl) D_power_rest.g D_power_rest.F.kp D_power_rest.b .nil pass0 (pa_cons (pv 2) (pa_cons (pv 4) (pa_cons (pv 0) pa_nil)))) (pe_int) (nomark _)))) pa_nil)))
      (pss_one (ps_aug (i := 2) nd rfl (Or.inr rfl) (pe_int) ip_add)))
      (pss_one (ps_ret (pv 2)))))), ?_⟩
    walk_at "ev"
    intro xs l H1 hf1 hl sm1 hq1
    have ex : xs = fs := hf1.uniq hfac
    subst ex
    have hxl := hfac.len (by omega)
    have hL1 : SqL K H1 l (xs.map V.int) := SqL.of hq1
    refine ⟨l, xs, rfl, hL1, by omega, ?_⟩
    intro out2 l2 hl2 hs2 hm2 ho2
    have eo : out2 = out := srt_ext hs2 hso fun k => (hm2 k).trans (hmo k).symm
    subst eo
    generalize hG2 : upd _ l2 _ = H2
    obtain ⟨sm2, hq2⟩ := newO hG2 hl2
    have hL2 : SqL K H2 l2 (out2.map V.int) := SqL.of hq2
    refine ⟨l2, rfl, ⟨_, hL2⟩, fun D hD => ?_⟩
    refine lc_list (K := K) (a := l2) (xs := out2.map V.int) (fun i H' => Hold (Same H2 H' ∧ H' D = some (.lst ((erl p (out2.take i)).map V.int)))) (.mk ⟨same_new hD, upd_same⟩) ?_ ?_ ?_
    · intro i H3 hi hP
      obtain ⟨sm3, hD3⟩ := hP.un
      exact sm3.seq hL2
    · intro i v H3 hv hP
      obtain ⟨sm3, hD3⟩ := hP.un
      rw [List.getElem?_map] at hv
      obtain ⟨x, hx, ev⟩ := Option.map_eq_some_iff.mp hv
      subst ev
      have hxm := (hmo x).mp (List.mem_of_getElem? hx)
      obtain ⟨x2, _⟩ := hfac.primes x hxm
      have hx6 : x ≤ p - 1 := hfac.le x hxm
      have hil : i < out2.length := (List.getElem?_eq_some_iff.mp hx).1
      have hsz : ((erl p (out2.take i)).map V.int).length < sizeLine := by
        unfold erl
        rw [List.length_map, List.length_map, List.length_take]
        exact szm (by omega)
      walk_at "ev"
      refine .mk ⟨same_mut sm3 hD, ?_⟩
      unfold erl
      rw [upd_same, List.take_add_one, hx, List.map_append, List.map_append]
      rfl
    · intro H3 hP
      obtain ⟨sm3, hD3⟩ := hP.un
      rw [List.length_map, List.take_length] at hD3
      have sm03 := sm1.trans (sm2.trans sm3)
      have hlE : (erl p out2).length ≤ 30 := by
        unfold erl
        rw [List.length_map]
        omega
      have he0 : ∀ e ∈ erl p out2, 0 ≤ e := by
        intro e he
        obtain ⟨x, hx, ee⟩ := List.mem_map.mp he
        obtain ⟨x2, _⟩ := hfac.primes x ((hmo x).mp hx)
        rw [← ee]
        exact Int.ediv_nonneg (by omega) (by omega)
      generalize erl p out2 = es at *
      clear hG2 hP
      have hD1 : H D = none := (sm1.trans sm2).free hD
      walk_at "ev"
      refine ⟨fun z σ H' => ∃ (x : Int) (s3 s4 : Option V), σ = [some (.int p), some (.ref D), some (.int x), s3, s4] ∧ z = (g0 - x).toNat ∧ 1 ≤ x ∧ x ≤ g0 ∧ (∀ y, 1 ≤ y → y < x → ¬ GenOk p y es) ∧ Same H3 H', ⟨_, 1, _, _, rfl, rfl, by omega, by omega, fun y a b => by omega, Same.refl _⟩, ?_⟩
      rintro z σ H4 ⟨x, s3, s4, rfl, rfl, x1, x2, hless, sm4⟩
      have hL4 : SqL K H4 D (es.map V.int) := SqL.of (sm4 _ _ hD3)
      have hL4' : ∃ xs, SqL K H4 D xs := ⟨_, hL4⟩
      walk_at "ev"
      intro D5 hD5
      refine lc_list (K := K) (a := D) (xs := es.map V.int) (fun i H' => Hold (Same H4 H' ∧ H' D5 = some (.lst (((es.take i).map fun e => decide (x ^ e.toNat % p = 1)).map V.bl)))) (.mk ⟨same_new hD5, upd_same⟩) ?_ ?_ ?_
      · intro i H5 hi hP
        obtain ⟨sm5, hq5⟩ := hP.un
        exact sm5.seq hL4
      · intro i v H5 hv hP
        obtain ⟨sm5, hq5⟩ := hP.un
        rw [List.getElem?_map] at hv
        obtain ⟨e, he, ev⟩ := Option.map_eq_some_iff.mp hv
        subst ev
        have e0 := he0 e (List.mem_of_getElem? he)
        have hil : i < es.length := (List.getElem?_eq_some_iff.mp he).1
        have hsz : (((es.take i).map fun e => decide (x ^ e.toNat % p = 1)).map V.bl).length < sizeLine := by
          rw [List.length_map, List.length_map, List.length_take]
          exact szm (by omega)
        walk_at "ev"
        refine .mk ⟨same_mut sm5 hD5, ?_⟩
        have ed : decide (V.int (x ^ e.toNat % p) = V.int 1) = decide (x ^ e.toNat % p = 1) := by
          by_cases c : x ^ e.toNat % p = 1
          · rw [decide_eq_true c, decide_eq_true (congrArg V.int c)]
          · rw [decide_eq_false c, decide_eq_false fun z => c (V.int.inj z)]
        rw [upd_same, List.take_add_one, he, List.map_append, List.map_append, ed]
        rfl
      · intro H5 hP
        obtain ⟨sm5, hq5⟩ := hP.un
        rw [List.length_map, List.take_length] at hq5
        refine ⟨D5, _, rfl, SqL.of hq5, _, rfl, ?_⟩
        refine ite2 (fun c => ?_) (fun c => ?_)
        · have bad : ¬ GenOk p x es := by
            obtain ⟨b, hb, eb⟩ := List.any_eq_true.mp c
            obtain ⟨e, he, ee⟩ := List.mem_map.mp hb
            intro ok
            refine ok e he ?_
            rw [← ee] at eb
            exact of_decide_eq_true eb
          have xne : x ≠ g0 := fun z => bad (z ▸ hg0)
          refine ⟨_, holdN, ?_⟩
          walk_at "ev"
          refine .mk ⟨(g0 - (x + 1)).toNat, by omega, x + 1, _, _, rfl, rfl, by omega, by omega, fun y a b => ?_, sm4.trans sm5⟩
          by_cases yx : y = x
          · rw [yx]; exact bad
          · exact hless y a (by omega)
        · have good : GenOk p x es := by
            intro e he z
            apply c
            rw [List.any_eq_true]
            exact ⟨true, List.mem_map.mpr ⟨e, he, decide_eq_true z⟩, rfl⟩
          walk_at "ev"
          exact q _ _ (sm03.trans (sm4.trans sm5)) ⟨x1, by omega, good, hless⟩
end
def IsPf (n : Int) (out : List Int) : Prop := out.Pairwise (· < ·) ∧ ∀ k, k ∈ out ↔ 2 ≤ k ∧ k ∣ n ∧ Rough k k
/-! ### what stands in a list of primes; counts to 300 -/
theorem Fac.dvds {n : Int} {xs : List Int} (h : Fac n xs) : ∀ q ∈ xs, q ∣ n := by
  induction h with
  | one => intro q hq; simp at hq
  | cons h1 h2 h3 h4 h5 ih =>
    rename_i n p q ps
    intro x hx
    rcases List.mem_cons.mp hx with e | e
    · rw [e]
      exact ⟨q, h2⟩
    · exact Int.dvd_trans (ih x e) ⟨p, by rw [h2, Int.mul_comm]⟩
theorem Fac.mem_iff {n : Int} {xs : List Int} (h : Fac n xs) : ∀ k, k ∈ xs ↔ 2 ≤ k ∧ k ∣ n ∧ Rough k k := by
  intro k
  constructor
  · intro hk
    obtain ⟨a, b⟩ := h.primes k hk
    exact ⟨a, h.dvds k hk, b⟩
  · rintro ⟨k2, kn, kr⟩
    induction h with
    | one =>
      have := Int.le_of_dvd (by decide) kn
      omega
    | cons h1 h2 h3 h4 h5 ih =>
      rename_i n p q ps
      have pr : Rough p p := fun c c1 c2 c3 => h4 c c1 c2 (Int.dvd_trans c3 ⟨q, h2⟩)
      have kn' : k ∣ q * p := by
        rw [Int.mul_comm, ← h2]
        exact kn
      rcases dv_prime (by omega) h1 pr kn' with z | ⟨e, he⟩
      · exact List.mem_cons_of_mem _ (ih z)
      · have pk : p ∣ k := ⟨e, by rw [he, Int.mul_comm]⟩
        have ple := Int.le_of_dvd (by omega) pk
        have : ¬ p < k := fun z => kr p h1 z pk
        have : k = p := by omega
        rw [this]
        exact List.mem_cons_self
theorem fac_ex : ∀ n : Nat, 1 ≤ n → ∃ xs, Fac (n : Int) xs := by
  intro n
  induction n using Nat.strongRecOn with
  | ind n ih =>
    intro h1
    by_cases n1 : n = 1
    · subst n1
      exact ⟨[], .one⟩
    · -- the least divisor
      have ex : ∃ d : Nat, 2 ≤ d ∧ d ∣ n := ⟨n, by omega, Nat.dvd_refl n⟩
      obtain ⟨d, ⟨d2, dn⟩, least⟩ : ∃ d : Nat, (2 ≤ d ∧ d ∣ n) ∧ ∀ c, c < d → ¬ (2 ≤ c ∧ c ∣ n) := by
        obtain ⟨m, hm⟩ := ex
        revert hm
        induction m using Nat.strongRecOn with
        | ind m im =>
          intro hm
          by_cases hc : ∃ c, c < m ∧ 2 ≤ c ∧ c ∣ n
          · obtain ⟨c, c1, c2⟩ := hc
            exact im c c1 c2
          · exact ⟨m, hm, fun c c1 c2 => hc ⟨_, c1, c2⟩⟩
      obtain ⟨q, hq⟩ := dn
      have q1 : 1 ≤ q := by
        apply Nat.pos_of_ne_zero
        intro z
        rw [z] at hq
        omega
      have qn : q < n := by
        have : 2 * q ≤ d * q := Nat.mul_le_mul_right q d2
        omega
      obtain ⟨xs, hx⟩ := ih q qn q1
      refine ⟨(d : Int) :: xs, .cons (by omega) (by rw [hq, Int.natCast_mul]) (by omega) ?_ hx⟩
      intro e e2 ed en
      refine least e.toNat (by omega) ⟨by omega, ?_⟩
      rw [← Int.natCast_dvd_natCast, Int.toNat_of_nonneg (by omega)]
      exact en
theorem pf_ex {n : Int} (h1 : 1 ≤ n) : ∃ fs out, Fac n fs ∧ out.Pairwise (· < ·) ∧ (∀ k, k ∈ out ↔ k ∈ fs) ∧ IsPf n out := by
  obtain ⟨fs, hf⟩ := fac_ex n.toNat (by omega)
  rw [Int.toNat_of_nonneg (by omega)] at hf
  have hs : (((List.range' 2 n.toNat : List Nat).filter (fun (k : Nat) => decide ((k : Int) ∈ fs))).map Int.ofNat).Pairwise (· < ·) := by
    rw [List.pairwise_map]
    refine List.Pairwise.imp (R := fun a b : Nat => a < b) (fun {a b} h => ?_) ((List.pairwise_lt_range' (s := 2) (n := n.toNat) (step := 1)).sublist List.filter_sublist)
    show (a : Int) < (b : Int)
    omega
  have hm : ∀ k, k ∈ ((List.range' 2 n.toNat : List Nat).filter (fun (k : Nat) => decide ((k : Int) ∈ fs))).map Int.ofNat ↔ k ∈ fs := by
    intro k
    rw [List.mem_map]
    constructor
    · rintro ⟨j, hj, e⟩
      have := of_decide_eq_true (List.mem_filter.mp hj).2
      rw [← e]
      exact this
    · intro hk
      obtain ⟨k2, kd, _⟩ := (hf.mem_iff k).mp hk
      have kn := Int.le_of_dvd (by omega) kd
      have ek : ((k.toNat : Nat) : Int) = k := Int.toNat_of_nonneg (by omega)
      refine ⟨k.toNat, List.mem_filter.mpr ⟨List.mem_range'_1.mpr ⟨by omega, by omega⟩, decide_eq_true (by rw [ek]; exact hk)⟩, ek⟩
  exact ⟨fs, _, hf, hs, hm, hs, fun k => (hm k).trans (hf.mem_iff k)⟩
/-! ### a list or a tuple -/
section
open PySem.Spec PyProof.Rows
variable {X : Cx}
def rIxQ (K : PySem.W.Frag) : R2 := fun x y H Q => ∃ p xs i v, x = .ref p ∧ y = .int i ∧ (SqL K H p xs ∨ SqT K H p xs) ∧ atI xs i = some v ∧ Q v H
theorem ix_seq : IxR X (rIxQ X.K) := by
  intro value slice pins s σ H x y v u Q I rx ry h hs
  obtain ⟨p, xs, i, z, e1, e2, hq | hq, he, q⟩ := h
  · exact ix_list value slice pins s σ H x y v u Q I rx ry ⟨p, xs, i, z, e1, e2, hq, he, q⟩ hs
  · exact ix_tup value slice pins s σ H x y v u Q I rx ry ⟨p, xs, i, z, e1, e2, hq, he, q⟩ hs
end
theorem sq_same {K : PySem.W.Frag} {H H' : Hp} {a : Addr} {xs : List V} (e : Same H H') (h : SqL K H a xs ∨ SqT K H a xs) : SqL K H' a xs ∨ SqT K H' a xs := by
  rcases h with h | h
  · exact .inl (e.seq h)
  · exact .inr (same_t e h)
/-! ### the refusals' own making -/
abbrev s_init : Stmt := inClass (top 6) 0
abbrev N_init : List Str := ["self", "what"]
theorem sc_init : FnScope N_init N_init (defScope s_init) := ⟨rfl, rfl, rfl, by decide +kernel, rfl, by decide +kernel, by decide +kernel⟩
def spInit (K : PySem.W.Frag) : Sp := fun vs H Q _ => ∃ (a C : Addr) (v : V), vs = [.ref a, v] ∧ OexC K C ∧ PySem.W.findIn K (.ref C) "what" = some none ∧ H a = some (exo a C none) ∧
  ∀ dx, H dx = none → dx ≠ a → Q .non (upd (upd H dx (exd dx [(("what" : Str), v)])) a (exo a C (some dx)))
section
variable {P : Program} {w : World} {K : PySem.W.Frag} {mg : Str → Option Value} {base : Heap}
theorem ok_init {f : Addr} {fd : FuncData} {k : Nat} (F : Fun K "__init__" "TurnError.__init__" s_init f fd) : FnOk P w K mg base CX0 (k + 1) f fd N_init (spInit K) := by
  refine F.ok sc_init (fun vs H Q E h => ?_) (fun cdv A outer s H vs Q E hr h => ?_)
  · obtain ⟨a, C, v, rfl, _⟩ := h
    rfl
  · obtain ⟨a, C, v, rfl, T, nw, ha, q⟩ := h
    refine ⟨_, pss_one (ps_ost (pv 0) (pv 1)), ?_⟩
    exact ⟨_, rfl, _, rfl, a, C, rfl, T, nw, .inl ⟨ha, q⟩⟩
end
/-- C(v), made to be raised -/
theorem mk_what {K : PySem.W.Frag} {C : Addr} {v : V} {Q : XK} {H1 : Hp} (E : ExK K C) (h : ∀ d H', H1 d = none → Same H1 H' → H' d = some (.xd [(("what" : Str), v)]) → Q (.ref C) (some d) H') : ∀ a, H1 a = none → spInit K (.ref a :: ([v] ++ [])) (upd H1 a (exo a C none))
    (fun v' H2 => v' = .non ∧ ∃ (d : Addr) (fs : List (Str × V)), H2 a = some (exo a C (some d)) ∧ H2 d = some (exd d fs) ∧ H1 d = none ∧ Q (.ref C) (some d) (upd (del H2 a) d (.xd fs))) (fun _ _ _ => False) := by
  intro a ha
  refine ⟨a, C, v, rfl, E.oex, E.nw, upd_same, fun dx hd ne => ?_⟩
  rw [upd_ne ne] at hd
  refine ⟨rfl, dx, _, upd_same, ?_, hd, h dx _ hd (fun b o e => ?_) upd_same⟩
  · rw [upd_ne ne, upd_same]
  · have n1 := ne_of_none e hd
    have n2 := ne_of_none e ha
    rw [upd_ne n1, del_ne n2, upd_ne n2, upd_ne n1, upd_ne n2]
    exact e
/-- what is told of the class of a refusal, under TurnError at CT -/
structure Ref (K : PySem.W.Frag) (CT C fI : Addr) : Prop where
  ek : ExK K C
  ini : PySem.W.findIn K (.ref C) "__init__" = some (some (.ref fI))
  em : PySem.W.exmOne K (.ref C) (.ref CT) = some true
  kv : PySem.W.kitOne K (.ref C) (.type "ValueError") = some true
  kt : PySem.W.kitOne K (.ref C) (.ref CT) = some true
/-! ### divisors in common -/
theorem gcd_step {a b : Int} (ha : 0 ≤ a) (hb : 0 ≤ b) : Int.gcd b (a % b) = Int.gcd a b := by
  obtain ⟨m, rfl⟩ := Int.eq_ofNat_of_zero_le ha
  obtain ⟨n, rfl⟩ := Int.eq_ofNat_of_zero_le hb
  have e : ((m : Int) % (n : Int)).natAbs = m % n := by rw [← Int.natCast_emod]; rfl
  show Nat.gcd n ((m : Int) % (n : Int)).natAbs = Nat.gcd m n
  rw [e, Nat.gcd_comm n, ← Nat.gcd_rec, Nat.gcd_comm]
/-- a product has the rest 1: no divisor in common -/
theorem gcd_of_inv {n x m : Int} (h : n * x % m = 1) : Int.gcd n m = 1 := by
  have h1 : ((Int.gcd n m : Nat) : Int) ∣ n * x := Int.dvd_mul_of_dvd_left (Int.gcd_dvd_left n m)
  have h2 : ((Int.gcd n m : Nat) : Int) ∣ m * (n * x / m) := Int.dvd_mul_of_dvd_left (Int.gcd_dvd_right n m)
  have h3 : n * x % m + m * (n * x / m) = n * x := Int.emod_add_mul_ediv _ _
  have h4 : ((Int.gcd n m : Nat) : Int) ∣ 1 := by
    have : (1 : Int) = n * x - m * (n * x / m) := by omega
    rw [this]
    exact Int.dvd_sub h1 h2
  have h5 := Int.le_of_dvd (by decide) h4
  have h6 : Int.gcd n m ≠ 0 := by
    intro z
    rw [z] at h4
    exact absurd (Int.zero_dvd.mp h4) (by decide)
  omega
abbrev s_inverse : Stmt := top 16
abbrev N_inverse : List Str := ["number", "by", "high", "low", "high_share", "low_share", "times", "found"]
abbrev P_inverse : List Str := ["number", "by"]
theorem sc_inverse : FnScope N_inverse P_inverse (defScope s_inverse) := ⟨rfl, rfl, rfl, by decide +kernel, rfl, by decide +kernel, by decide +kernel⟩
def spInv (C : Addr) : Sp := fun vs H Q E => ∃ (n m : Int), vs = [.int n, .int m] ∧ 0 ≤ n ∧ n ≤ 1000000000 ∧ 2 ≤ m ∧ m ≤ 1000000000 ∧ (Int.gcd n m = 1 → ∀ x, 0 ≤ x → x < m → n * x % m = 1 → ∀ H', Same H H' → Q (.int x) H') ∧
  (Int.gcd n m ≠ 1 → ∀ d H', H d = none → Same H H' → H' d = some (.xd [(("what" : Str), .int n)]) → E (.ref C) (some d) H')
theorem mod_of_sub {m u v : Int} (h : m ∣ u - v) : u % m = v % m := Int.emod_eq_emod_iff_emod_sub_eq_zero.mpr (Int.emod_eq_zero_of_dvd h)
section
variable {P : Program} {w : World} {K : PySem.W.Frag} {mg : Str → Option Value} {base : Heap}
theorem ok_inverse {f fI C CT : Addr} {fd fdI : FuncData} {k : Nat} (F : Fun K "inverse" "inverse" s_inverse f fd) (FI : Fun K "__init__" "TurnError.__init__" s_init fI fdI) (I_b : Binds K fdI N_init []) (I_ty : PySem.W.typeIn K (.ref fI) = some (.type "function"))
    (R : Ref K CT C fI) (M_NoInverse : mg "NoInverse" = some (.ref C)) : FnOk P w K mg base (L2.CX P w) (k + 3) f fd P_inverse (spInv C) := by
  have G_init : FnOk P w K mg base CX0 1 fI fdI N_init (spInit K) := ok_init FI
  have EK_NoInverse := R.ek
  have II_NoInverse := R.ini
  have nd := sc_inverse.nd
  refine F.okX sc_inverse (fun vs H Q E h => ?_) (fun cdv A outer s H vs Q E hr h => ?_)
  · obtain ⟨n, m, rfl, _⟩ := h
    rfl
  · obtain ⟨n, m, rfl, n0, n9, m2, m9, qy, qn⟩ := h
    refine ⟨_, (pss_cons (ps_par (i := 2) (j := 3) (by rfl) nd rfl rfl (by decide) rfl rfl (pa_cons (pv 1) (pa_cons (pe_op op_mod (pv 0) (pv 1)) pa_nil)) (by rfl))
      (pss_cons (ps_asg (pe_tup (pa_cons (pe_int) (pa_cons (pe_int) pa_nil))) (pg_tup (by rfl) (pgs_cons (pg_name (i := 4) nd rfl (Or.inl rfl)) (pgs_cons (pg_name (i := 5) nd rfl (Or.inl rfl)) pgs_nil))))
      (pss_cons (ps_while (passes_of rfl) (pt_cmpR op_ne (pv 3) (pe_int) (nomark _))
      (pss_cons (ps_set (i := 6) nd rfl (Or.inl rfl) (pe_op op_fdiv (pv 2) (pv 3)))
      (pss_cons (ps_par (i := 2) (j := 3) (by rfl) nd rfl rfl (by decide) rfl rfl (pa_cons (pv 3) (pa_cons (pe_op op_sub (pv 2) (pe_op op_mul (pv 6) (pv 3))) pa_nil)) (by rfl))
      (pss_one (ps_par (i := 4) (j := 5) (by rfl) nd rfl rfl (by decide) rfl rfl (pa_cons (pv 5) (pa_cons (pe_op op_sub (pv 4) (pe_op op_mul (pv 6) (pv 5))) pa_nil)) (by rfl))))))
      (pss_cons (ps_set (i := 7) nd rfl (Or.inl rfl) (pe_op op_mod (pv 4) (pv 1)))
      (pss_cons (ps_if (pt_cmpR op_ne (pe_op op_mod (pe_op op_mul (pv 0) (pv 7)) (pv 1)) (pe_int) (nomark _)) (pss_one (ps_raise rfl (takes_of rfl rfl rfl rfl) (pmk_oex EK_NoInverse.oex II_NoInverse I_ty G_init (hr.mono (by omega)) I_b .nil pass0 (by rfl) M_NoInverse (pa_cons (pv 0) pa_nil)))) pss_nil)
      (pss_one (ps_ret (pv 7)))))))), ?_⟩
    walk_at "ev"
    have l0 := Int.emod_nonneg n (show m ≠ 0 by omega)
    have l1 := Int.emod_lt_of_pos n (show 0 < m by omega)
    have ls : m ∣ n * 1 - n % m := by
      rw [Int.mul_one]
      have := Int.emod_add_mul_ediv n m
      exact ⟨n / m, by omega⟩
    intro tp hp
    generalize hG : upd _ tp _ = H1
    obtain ⟨sm1, hq1⟩ := newO hG hp
    have hT1 : SqT K H1 tp [.int 0, .int 1] := SqT.of hq1
    clear hG hq1
    walk_at "ev"
    refine ⟨fun z σ H' => H' = H1 ∧ ∃ (hi lo hs lo' : Int) (s6 : Option V), σ = [some (.int n), some (.int m), some (.int hi), some (.int lo), some (.int hs), some (.int lo'), s6, none] ∧ z = lo.toNat ∧ 0 ≤ hi ∧ hi ≤ m ∧ 0 ≤ lo ∧ lo ≤ m ∧ Int.gcd hi lo = Int.gcd m (n % m) ∧ m ∣ n * hs - hi ∧ m ∣ n * lo' - lo,
      ⟨_, rfl, m, n % m, 0, 1, none, rfl, rfl, by omega, by omega, l0, by omega, rfl, by rw [Int.mul_zero, Int.zero_sub]; exact Int.dvd_neg.mpr (Int.dvd_refl m), ls⟩, ?_⟩
    rintro z σ H' ⟨rfl, hi, lo, hs, lo', s6, rfl, rfl, h0, h1, g0, g1, hg, d1, d2⟩
    walk_at "ev"
    by_cases c : lo = 0
    · subst c
      refine iteFe (by simp) ?_
      have hgc : hi = ((Int.gcd n m : Nat) : Int) := by
        rw [gcd_step n0 (by omega), Int.gcd_zero_right] at hg
        omega
      have r0 := Int.emod_nonneg hs (show m ≠ 0 by omega)
      have r1 := Int.emod_lt_of_pos hs (show 0 < m by omega)
      have ep : n * (hs % m) % m = hi % m := by
        rw [Int.mul_emod, Int.emod_emod_of_dvd _ (Int.dvd_refl m), ← Int.mul_emod]
        exact mod_of_sub d1
      have cm : CMul n (hs % m) := .inl ⟨by omega, by omega⟩
      walk_at "ev"
      by_cases e : Int.gcd n m = 1
      · have e1 : n * (hs % m) % m = 1 := by
          rw [ep, hgc, e]
          exact Int.emod_eq_of_lt (by decide) (by show (1 : Int) < m; omega)
        refine iteFe (by simp [e1]) ?_
        walk_at "ev"
        exact qy e _ r0 r1 e1 _ sm1
      · have e1 : ¬ n * (hs % m) % m = 1 := fun z => e (gcd_of_inv z)
        refine iteTe (by simp [e1]) ?_
        refine ⟨_, rfl, (by show 1 ≤ 1000; decide), mk_what R.ek fun d H' hd sm hq => ?_⟩
        exact qn e d H' (sm1.free hd) (sm1.trans sm) hq
    · refine iteTe (by simp [c]) ?_
      refine ⟨_, holdN, ?_⟩
      have t0 : 0 ≤ hi / lo := Int.ediv_nonneg h0 g0
      have t1 : hi / lo ≤ hi := Int.ediv_le_self _ h0
      have cm1 : CMul (hi / lo) lo := .inl ⟨by omega, by omega⟩
      have cm2 : CMul (hi / lo) lo' := .inl ⟨by omega, by omega⟩
      have cd : CDiv hi lo := ⟨by omega, by omega⟩
      walk_at "ev"
      have em : hi - hi / lo * lo = hi % lo := by
        have := Int.emod_add_mul_ediv hi lo
        rw [Int.mul_comm lo] at this
        omega
      have u0 := Int.emod_nonneg hi c
      have u1 := Int.emod_lt_of_pos hi (show 0 < lo by omega)
      refine .mk ⟨(hi - hi / lo * lo).toNat, by omega, rfl, lo, hi - hi / lo * lo, lo', hs - hi / lo * lo', _, rfl, rfl, g0, g1, by omega, by omega, ?_, d2, ?_⟩
      · rw [em, gcd_step h0 g0]
        exact hg
      · have : n * (hs - hi / lo * lo') - (hi - hi / lo * lo) = (n * hs - hi) - hi / lo * (n * lo' - lo) := by
          rw [Int.mul_sub, Int.mul_sub, ← Int.mul_assoc, ← Int.mul_assoc, Int.mul_comm n (hi / lo)]
          omega
        rw [this]
        exact Int.dvd_sub d1 (Int.dvd_mul_of_dvd_right d2)
end
abbrev s_is_whole : Stmt := top 12
abbrev N_is_whole : List Str := ["thing"]
abbrev P_is_whole : List Str := ["thing"]
theorem sc_is_whole : FnScope N_is_whole P_is_whole (defScope s_is_whole) := ⟨rfl, rfl, rfl, by decide +kernel, rfl, by decide +kernel, by decide +kernel⟩
def spWhole (K : PySem.W.Frag) : Sp := fun vs H Q _ => ∃ (x : V) (t : String), vs = [x] ∧ Kd K H x t ∧ Q (.bl (t == "int")) H
section
variable {P : Program} {w : World} {K : PySem.W.Frag} {mg : Str → Option Value} {base : Heap}
theorem ok_whole {f : Addr} {fd : FuncData} {k : Nat} (F : Fun K "is_whole" "is_whole" s_is_whole f fd) (T : Blt mg) : FnOk P w K mg base CX0 (k + 1) f fd P_is_whole (spWhole K) := by
  have nd := sc_is_whole.nd
  refine F.ok sc_is_whole (fun vs H Q E h => ?_) (fun cdv A outer s H vs Q E hr h => ?_)
  · obtain ⟨x, t, rfl, _⟩ := h
    rfl
  · obtain ⟨x, t, rfl, kd, q⟩ := h
    refine ⟨_, (pss_one (ps_ret (pe_and (pe_callB (r := rIsi K) call_isi (by rfl) T.b_isinstance (by decide +kernel) (pa_cons (pv 0) (pa_cons (pe_bltn (v := .ty "int") (by rfl) T.b_int (by decide +kernel) rfl) pa_nil))) (pe_one (pe_not (pe_callB (r := rIsi K) call_isi (by rfl) T.b_isinstance (by decide +kernel) (pa_cons (pv 0) (pa_cons (pe_bltn (v := .ty "bool") (by rfl) T.b_bool (by decide +kernel) rfl) pa_nil)))))))), ?_⟩
    have ty := kd.ty
    obtain ⟨k1, k2, k3, k4, k5⟩ := kd.kit
    walk_at "ev"
    cases kd
    all_goals (walk_at "ev"; exact q)
end
abbrev s_is_prime : Stmt := top 13
abbrev N_is_prime : List Str := ["thing"]
abbrev P_is_prime : List Str := ["thing"]
theorem sc_is_prime : FnScope N_is_prime P_is_prime (defScope s_is_prime) := ⟨rfl, rfl, rfl, by decide +kernel, rfl, by decide +kernel, by decide +kernel⟩
def spPrime (K : PySem.W.Frag) : Sp := fun vs H Q _ => ∃ (x : V) (t : String), vs = [x] ∧ Kd K H x t ∧ (∀ n, x = .int n → n ≤ 1000000000) ∧ ∀ b H', Same H H' → (b = true ↔ ∃ n, x = .int n ∧ Fac n [n]) → Q (.bl b) H'
section
variable {P : Program} {w : World} {K : PySem.W.Frag} {mg : Str → Option Value} {base : Heap}
theorem ok_prime {f fW fF : Addr} {fd fdW fdF : FuncData} {k : Nat} (F : Fun K "is_prime" "is_prime" s_is_prime f fd) (T : Blt mg) (D_is_whole : Df K mg "is_whole" s_is_whole P_is_whole fW fdW) (D_factors : Df K mg "factors" s_factors P_factors fF fdF) : FnOk P w K mg base CX0 (k + 2) f fd P_is_prime (spPrime K) := by
  have G_is_whole : FnOk P w K mg base CX0 (k + 1) fW fdW P_is_whole (spWhole K) := ok_whole D_is_whole.F T
  have G_factors : FnOk P w K mg base CX0 (k + 1) fF fdF P_factors spFactors := ok_factors D_factors.F
  have nd := sc_is_prime.nd
  refine F.ok sc_is_prime (fun vs H Q E h => ?_) (fun cdv A outer s H vs Q E hr h => ?_)
  · obtain ⟨x, t, rfl, _⟩ := h
    rfl
  · obtain ⟨x, t, rfl, kd, hb, q⟩ := h
    refine ⟨_, (pss_one (ps_ret (pe_and (pe_call G_is_whole (hr.mono (by omega)) (by rfl) D_is_whole.g D_is_whole.F.kp D_is_whole.b .nil pass0 (pa_cons (pv 0) pa_nil)) (pe_and (pe_cmpR op_gt (pv 0) (pe_int) (nomark _)) (pe_one (pe_cmpR (r := rEqD K) (op_eqD hr.units) (pe_call G_factors (hr.mono (by omega)) (by rfl) D_factors.g D_factors.F.kp D_factors.b .nil pass0 (pa_cons (pv 0) pa_nil)) (pe_lst (pa_cons (pv 0) pa_nil)) (nomark _))))))), ?_⟩
    walk_at "ev"
    cases kd with
    | int n =>
      have hn := hb n rfl
      walk_at "ev"
      refine ite2 (fun e => ?_) (fun e => ?_)
      · have e1 : 1 < n := of_decide_eq_true e
        walk_at "ev"
        intro xs p H' hf hp sm hp'
        walk_at "ev"
        intro p2 hp2
        generalize hG : upd _ p2 _ = H2
        obtain ⟨sm2, hp3⟩ := newO hG hp2
        refine eqd_ints (ns := xs) (ms := [n]) (SqL.of (sm2 _ _ hp')) (SqL.of hp3) ?_
        refine q _ _ (sm.trans sm2) ?_
        rw [decide_eq_true_iff]
        constructor
        · intro z
          exact ⟨n, rfl, z ▸ hf⟩
        · rintro ⟨m, z, hm⟩
          cases z
          exact hf.uniq hm
      · have e1 : ¬ 1 < n := fun z => e (decide_eq_true z)
        refine q _ _ (Same.refl _) ⟨fun z => Bool.noConfusion z, ?_⟩
        rintro ⟨m, z, hm⟩
        cases z
        have := (Rough.of_fac hm).1
        omega
    | _ =>
      walk_at "ev"
      refine q _ _ (Same.refl _) ⟨fun z => Bool.noConfusion z, ?_⟩
      rintro ⟨m, z, hm⟩
      cases z
end
abbrev s__law_pick : Stmt := top 31
abbrev N__law_pick : List Str := ["_law_box_here", "_law_things"]
abbrev P__law_pick : List Str := ["_law_box_here", "_law_things"]
theorem sc__law_pick : FnScope N__law_pick P__law_pick (defScope s__law_pick) := ⟨rfl, rfl, rfl, by decide +kernel, rfl, by decide +kernel, by decide +kernel⟩
def spPick (K : PySem.W.Frag) : Sp := fun vs H Q _ => ∃ (b a : Addr) (xs : List V) (n : Int), vs = [.ref b, .ref a] ∧ BoxAt H b n ∧ SqL K H a xs ∧ a ≠ b ∧ 0 < (xs.length : Int) ∧ (xs.length : Int) < 1048576 ∧ n < 1048576 ∧ ∀ v H', v ∈ xs → Keep b H H' → BoxAt H' b (n + 1) → Q v H'
section
variable {P : Program} {w : World} {K : PySem.W.Frag} {mg : Str → Option Value} {base : Heap}
theorem ok_pick {f fT : Addr} {fd fdT : FuncData} {k : Nat} (F : Fun K "_law_pick" "_law_pick" s__law_pick f fd) (T : Blt mg) (D__law_take : Df K mg "_law_take" s__law_take P__law_take fT fdT) : FnOk P w K mg base CX0 (k + 2) f fd P__law_pick (spPick K) := by
  have G__law_take : FnOk P w K mg base CX0 (k + 1) fT fdT P__law_take spTake := ok_take D__law_take.F
  have nd := sc__law_pick.nd
  refine F.ok sc__law_pick (fun vs H Q E h => ?_) (fun cdv A outer s H vs Q E hr h => ?_)
  · obtain ⟨b, a, xs, n, rfl, _⟩ := h
    rfl
  · obtain ⟨b, a, xs, n, rfl, hb, hL, hne, h0, h1, hn, q⟩ := h
    refine ⟨_, (pss_one (ps_ret (pe_ix (r := rIxL K) ix_list (pv 1) (pe_call G__law_take (hr.mono (by omega)) (by rfl) D__law_take.g D__law_take.F.kp D__law_take.b .nil pass0 (pa_cons (pv 0) (pa_cons (pe_callB (r := rLenQ K) call_len_seq (by rfl) T.b_len (by decide +kernel) (pa_cons (pv 1) pa_nil)) pa_nil))) (fun _ _ => rfl)))), ?_⟩
    walk_at "ev"
    intro r H' hr0 hr1 hk hb'
    obtain ⟨v, hv, hat⟩ := at_some hr0 hr1
    have hL' := hk.seq hne hL
    walk_at "ev"
    exact q _ _ hv hk hb'
end
theorem keep_fresh {b D : Addr} {H H' : Hp} {o : HO} (h : Keep b H H') (n : H D = none) : Keep b H (upd H' D o) := fun a u na e => by
  rw [upd_ne (ne_of_none e n)]
  exact h a u na e
theorem BoxAt.upd {H : Hp} {b D : Addr} {n : Int} {o : HO} (h : BoxAt H b n) (e : D ≠ b) : BoxAt (L2.upd H D o) b n := by
  obtain ⟨x, y, z, a1, a2⟩ := h
  exact ⟨x, y, z, by rw [upd_ne e.symm]; exact a1, a2⟩
/-! ### a loop over enumerate -/
theorem for_enumL {K : PySem.W.Frag} {a : Addr} {xs : List V} {g : TG} {tb : TS} {D : Ends} {σ : L2.St} {H : Hp} (Pv : Nat → L2.St → Hp → Prop) (h0 : Pv 0 σ H) (hq : ∀ i σ H, Pv i σ H → SqL K H a xs)
    (hs : ∀ (i : Nat) (x : V) (T : Addr) (σ : L2.St) (H : Hp), xs[i]? = some x → Pv i σ H → H T = none → g (.ref T) σ (upd H T (.tup [.int (i : Nat), x])) fun σ2 H2 => tb { D with nx := Pv (i + 1), ct := Pv (i + 1), bk := D.nx } σ2 H2) (hd : ∀ σ H, Pv xs.length σ H → D.nx σ H) :
    ∃ W : Nat → Nat → L2.St → Hp → Prop, (∃ m, W 0 m σ H) ∧ ∀ i m σ H, W i m σ H →
      ((Ite K a).stop i H ∧ D.nx σ H) ∨ ((Ite K a).go i H ∧ ∃ N : L2.St → Hp → Prop, (∀ σ' H', N σ' H' → ∃ m', m' < m ∧ W (i + 1) m' σ' H') ∧ ∀ v H', (Ite K a).yld i H v H' → g v σ H' fun σ2 H2 => tb { D with nx := N, ct := N, bk := D.nx } σ2 H2) := by
  refine ⟨fun i m σ H => m = xs.length - i ∧ i ≤ xs.length ∧ Pv i σ H, ⟨xs.length, rfl, Nat.zero_le _, h0⟩, ?_⟩
  rintro i m σ H ⟨rfl, hi, p⟩
  have q := hq i σ H p
  by_cases hlt : i < xs.length
  · refine .inr ⟨⟨xs, xs[i], q, List.getElem?_eq_getElem hlt⟩, Pv (i + 1), fun σ' H' p' => ⟨xs.length - (i + 1), by omega, rfl, hlt, p'⟩, fun v H' y => ?_⟩
    obtain ⟨T, x', rfl, hT, rfl, f1⟩ := y
    exact hs i x' T σ H (f1 xs q) p hT
  · have e : i = xs.length := by omega
    subst e
    exact .inl ⟨⟨xs, q, Nat.le_refl _⟩, hd σ H p⟩
/-! ### enumerate of a tuple -/
section
open PySem.Spec PyProof.Rows
abbrev tIt (t : Addr) : Obj := { cls := .type "tuple_iterator", data := .fields #[.ref t, .int 0 0] }
abbrev tEn (i : Addr) : Obj := { cls := .type "enumerate", data := .fields #[.none, .bool false, .ref i, rawInt 0, .none, .none] }
theorem meets_enumT (l : Addr) (items : Array Value) (n : Nat) (dct : Option Addr) (sl : Array (Option Value)) :
    Meets (Builtin.«enumerate.__new__» ⟨[.type "enumerate", .ref l], []⟩) (fun _ R s => s.heap.get? l = some { cls := .type "tuple", dict := dct, data := .seq items n, slots := sl } ∧
      R (.ok (.ret (.ref (s.heap.push (tIt l)).objs.size))) { s with heap := (s.heap.push (tIt l)).push (tEn s.heap.objs.size) }) :=
  .of_wp fun prog w A R s h => by
    obtain ⟨hp, g, d, tk, os⟩ := s
    obtain ⟨hl, h⟩ := h
    have hsub := sub_enumerate
    have hT : Heap.IsTuple (Shared.heap ⟨hp, g, d, tk, os⟩) l items := ⟨_, hl, rfl, n, rfl⟩
    have q1 : ∀ {A' : Around} {E : Value → Shared → Prop} {Q : Value → Shared → Prop}, Q (.ref hp.objs.size) ⟨hp.push (tIt l), g, d, tk, os⟩ → wpAny (model prog w) A' (pyIter (.ref l)) Q E ⟨hp, g, d, tk, os⟩ := fun q => wpAny_pyIter_tuple hT q
    wp_walk using AutoSeq1.wpAny_loadPart' hl
    refine wpAny_stack_any fun st => wpAny_pure ?_
    split
    · rename_i c _ _ _ _ _
      cases (c == Value.type "enumerate")
      · wp_walk using AutoSeq1.wpAny_loadPart' hl, q1
        exact ⟨_, rfl, h⟩
      · wp_walk using AutoSeq1.wpAny_loadPart' hl, q1
        exact ⟨_, rfl, h⟩
    · wp_walk using AutoSeq1.wpAny_loadPart' hl, q1
      exact ⟨_, rfl, h⟩
theorem call_enumT {prog : Program} {w : World} {A : Around} {E : Value → Shared → Prop} {s : Shared} {l : Addr} {items : Array Value} {Q : Value → Shared → Prop} (hL : s.heap.IsTuple l items)
    (h : ∀ h', IsEnum h' (s.heap.objs.size + 1) s.heap.objs.size 0 .none → h'.IsTupleIter s.heap.objs.size l 0 → (∀ b o, s.heap.get? b = some o → h'.get? b = some o) → Q (.ref (s.heap.objs.size + 1)) { s with heap := h' }) :
    wpAny (model prog w) A (call (.type "enumerate") [.ref l]) Q E s := by
  obtain ⟨⟨c, dct, dt, sl⟩, hl, hc, n, hd⟩ := hL
  replace hc : c = .type "tuple" := hc
  replace hd : dt = .seq items n := hd
  subst hc hd
  refine callType_new F.called_enumerate (by decide) (F.typeCall_enumerate_1 _) (F.newCall_enumerate_1 _) (fun obj => F.args_object_init_2 obj _) F.entry_enumerate_new (meets_enumT l items n dct sl) ⟨hl, ?_⟩
  have hz : (s.heap.push (tIt l)).objs.size = s.heap.objs.size + 1 := Heap.size_push ..
  show _ ∧ _
  rw [hz]
  have he : IsEnum ((s.heap.push (tIt l)).push (tEn s.heap.objs.size)) (s.heap.objs.size + 1) s.heap.objs.size 0 .none := by
    have k := Heap.get?_push_size (s.heap.push (tIt l)) (o := tEn s.heap.objs.size) rfl
    rw [hz] at k
    exact k
  exact ⟨⟨_, he, rfl⟩, h _ he ⟨_, Heap.get?_push_of_some _ (Heap.get?_push_size _ rfl), rfl, rfl⟩ fun b o x => Heap.get?_push_of_some _ (Heap.get?_push_of_some _ x)⟩
/-- the tuple at a, each item in a new pair -/
def IteT (K : PySem.W.Frag) (a : Addr) : It :=
  ⟨fun i H => ∃ (xs : List V) (x : V), SqT K H a xs ∧ xs[i]? = some x, fun i H v H' => ∃ T x, v = .ref T ∧ H T = none ∧ H' = upd H T (.tup [.int (i : Nat), x]) ∧ ∀ xs, SqT K H a xs → xs[i]? = some x, fun i H => ∃ xs : List V, SqT K H a xs ∧ xs.length = i⟩
theorem turn_enumT {P : Program} {w : World} {K : PySem.W.Frag} {elts : List Expr} {kk : Nat} {tpos : Pos} (a e it : Addr) :
    Turn P w K (.Tuple elts kk tpos) (IteT K a) [e, it] e (fun i h => (∃ old, IsEnum h e it ((i : Nat) : Int) old) ∧ h.IsTupleIter it a i ∧ e ≠ it ∧ a ≠ it ∧ a ≠ e) where
  mem := by simp
  obj := fun i h st b hb => by
    obtain ⟨⟨old, he⟩, ⟨o, ho, hc, hd⟩, _⟩ := st
    have z : b = e ∨ b = it := by simpa using hb
    rcases z with z | z
    · rw [z]
      exact ⟨_, he, fun v q => nomatch q⟩
    · rw [z]
      exact ⟨o, ho, fun v q => by rw [hd] at q; cases q⟩
  keep := fun i h h' st k => by
    obtain ⟨⟨old, he⟩, hi, hne⟩ := st
    exact ⟨⟨old, k e (by simp) _ he⟩, hi.at fun o q => k it (by simp) o q, hne⟩
  item := by
    intro X hP hw hK hc i pins s σ H E I hf st hg
    subst hP hw hK
    obtain ⟨⟨old, he⟩, hit, hne, hna, hnb⟩ := st
    obtain ⟨xs, x, hq, hx⟩ := hg
    obtain ⟨its, rv, p, hz⟩ := I.tuple hq
    obtain ⟨u, hu, ru⟩ := rv.get hx
    have hel : e < s.heap.objs.size := Heap.lt_size he
    have hil : it < s.heap.objs.size := by
      obtain ⟨_, q, _⟩ := hit
      exact Heap.lt_size q
    have hlt : i < its.toArray.size := by
      rw [List.size_toArray]
      exact (List.getElem?_eq_some_iff.mp hu).1
    have dr : Draws X.prog X.w X.A.in1 it [it, a] its.toArray.size (fun i v => its.toArray[i]? = some v) (fun i h => h.IsTupleIter it a i ∧ h.IsTuple a its.toArray) := Draws.tuple (A := X.A.in1) (I.ok.hd hc) it a hna its.toArray
    refine wpAny_pyNext_enum_itemD dr he ⟨hit, p⟩ hlt hne (by simp [hne, hnb.symm]) fun y h' tk hy ho hst hT hsz hk => ?_
    have ey : y = u := by
      have h1 : its.toArray[i]? = some u := by simpa using hu
      rw [h1] at hy
      exact (Option.some.inj hy).symm
    subst ey
    refine ⟨_, rfl, wpAny_letOwnedTupleGo_enum (s := { s with heap := h', toks := tk + 1 }) ho fun h'' he' sb => ?_⟩
    have hT2 := (sb.2 _ (Nat.ne_of_gt hel)).trans hT
    have new : ObjOk X.prog X.w (upd H s.heap.objs.size (.tup [.int (i : Nat), x])) h'' s.heap.objs.size (.tup [.int (i : Nat), x]) := ⟨by show 2 ≤ sizeLine; decide, [.int i tk, y], .cons ⟨_, rfl⟩ (.cons ru .nil), ⟨_, hT2, rfl, _, rfl⟩⟩
    have I1 : Inv X pins σ (upd H s.heap.objs.size (.tup [.int (i : Nat), x])) { s with heap := h'', toks := tk + 1 } :=
      I.turnedNew (ch := [e, it]) (fun b ob hb q => (sb.2 b (fun z => hb (by simp [z]))).trans (hk b ob (fun z => hb (by simp [z])) (fun z => hb (by simp [z])) q)) hf (Nat.le_refl _) new
    refine ⟨.ref s.heap.objs.size, _, I1, rfl, ⟨_, x, rfl, I.hok.fresh (Nat.le_refl _), rfl, fun ys hy => by rw [I.tuple_inj hy hq]; exact hx⟩, ⟨⟨y, ?_⟩, hst.1.at fun o q => (sb.2 it hne.symm).trans q, hne, hna, hnb⟩, fun b hb => ?_⟩
    · rw [show ((i + 1 : Nat) : Int) = (i : Int) + 1 by omega]
      exact he'
    · have hb' : b < s.heap.objs.size := by
        have z : b = e ∨ b = it := by simpa using hb
        rcases z with z | z <;> rw [z]
        · exact hel
        · exact hil
      rw [upd_ne (Nat.ne_of_lt hb')]
      exact (hf b hb).1
  done := by
    intro X hP hw hK hc i pins s σ H E I hf st hg
    subst hP hw hK
    obtain ⟨⟨old, he⟩, hit, hne, hna, hnb⟩ := st
    obtain ⟨xs, hq, hx⟩ := hg
    obtain ⟨its, rv, p, hz⟩ := I.tuple hq
    obtain ⟨f0, f1, f2, f3, f4, f5⟩ := hf it (by simp)
    have hl : its.toArray.size = i := by
      rw [List.size_toArray, ← rv.length]
      exact hx
    have dr : Draws X.prog X.w X.A.in1 it [it, a] its.toArray.size (fun i v => its.toArray[i]? = some v) (fun i h => h.IsTupleIter it a i ∧ h.IsTuple a its.toArray) := Draws.tuple (A := X.A.in1) (I.ok.hd hc) it a hna its.toArray
    exact wpAny_pyNext_enum_endD dr he (by rw [hl]; exact ⟨hit, p⟩) fun h' eb => ⟨rfl, I.turned (t' := s.toks) (fun b o hb q => eb b o hb q) f0 f1 f3 f4 f5⟩
  self := fun A i s Q E st h => by
    obtain ⟨⟨_, he⟩, _⟩ := st
    exact wpAny_pyIter_enum he h
def iEnumT (K : PySem.W.Frag) (ta : TA) : TI := fun σ H R => ta σ H fun vs H1 => ∃ a xs, vs = [.ref a] ∧ SqT K H1 a xs ∧ R (IteT K a) H1
theorem pi_enumT {X : Cx} {e : Expr} {ta : TA} {p pos tpos : Pos} {elts : List Expr} {kk : Nat} (hg : Gl X "enumerate") (hm : X.mg "enumerate" = none) (ha : PA X [e] ta) (hs : starEach [e] X.env = [(false, eval e X.env)] := by rfl) :
    PI X (.Tuple elts kk tpos) (.Call (.Name "enumerate" p) [e] [] pos) (iEnumT X.K ta) := by
  refine ⟨fun pins s σ H R I h => ?_⟩
  refine Call_ (ld_blt I hg hm boot_enumerate (PyProof.Rows.callWith_type1 (thn (ha.run pos pins s σ H _ I h) fun us s1 ⟨vs, H1, I1, r1, q1⟩ => ?_) hs rfl))
  obtain ⟨a, xs, ex, hq, q⟩ := q1
  subst ex
  obtain ⟨u, rfl, ru⟩ := r1.one
  cases ru
  obtain ⟨its, rv, p', hz⟩ := I1.tuple hq
  have hal : a < s1.heap.objs.size := by
    obtain ⟨o, ho, _⟩ := p'
    exact Heap.lt_size ho
  refine call_enumT p' fun h' he hit hk => wpAny_pyIter_enum he ?_
  have I2 : Inv X pins σ H1 { s1 with heap := h' } := I1.kept (t' := s1.toks) hk
  refine ⟨s1.heap.objs.size + 1, [s1.heap.objs.size + 1, s1.heap.objs.size], _, _, H1, rfl, I2, turn_enumT a (s1.heap.objs.size + 1) s1.heap.objs.size, ⟨⟨.none, he⟩, hit, Nat.succ_ne_self _, Nat.ne_of_lt hal, Nat.ne_of_lt (Nat.lt_succ_of_lt hal)⟩, fun b hb => ?_, q⟩
  have hle : s1.heap.objs.size ≤ b := by
    have z : b = s1.heap.objs.size + 1 ∨ b = s1.heap.objs.size := by simpa using hb
    rcases z with z | z <;> rw [z]
    · exact Nat.le_add_right _ _
    · exact Nat.le_refl _
  exact I1.fpOk hle (I1.hok.fresh hle)
end
theorem for_enumT {K : PySem.W.Frag} {a : Addr} {xs : List V} {g : TG} {tb : TS} {D : Ends} {σ : L2.St} {H : Hp} (Pv : Nat → L2.St → Hp → Prop) (h0 : Pv 0 σ H) (hq : ∀ i σ H, Pv i σ H → SqT K H a xs)
    (hs : ∀ (i : Nat) (x : V) (T : Addr) (σ : L2.St) (H : Hp), xs[i]? = some x → Pv i σ H → H T = none → g (.ref T) σ (upd H T (.tup [.int (i : Nat), x])) fun σ2 H2 => tb { D with nx := Pv (i + 1), ct := Pv (i + 1), bk := D.nx } σ2 H2) (hd : ∀ σ H, Pv xs.length σ H → D.nx σ H) :
    ∃ W : Nat → Nat → L2.St → Hp → Prop, (∃ m, W 0 m σ H) ∧ ∀ i m σ H, W i m σ H →
      ((IteT K a).stop i H ∧ D.nx σ H) ∨ ((IteT K a).go i H ∧ ∃ N : L2.St → Hp → Prop, (∀ σ' H', N σ' H' → ∃ m', m' < m ∧ W (i + 1) m' σ' H') ∧ ∀ v H', (IteT K a).yld i H v H' → g v σ H' fun σ2 H2 => tb { D with nx := N, ct := N, bk := D.nx } σ2 H2) := by
  refine ⟨fun i m σ H => m = xs.length - i ∧ i ≤ xs.length ∧ Pv i σ H, ⟨xs.length, rfl, Nat.zero_le _, h0⟩, ?_⟩
  rintro i m σ H ⟨rfl, hi, p⟩
  have q := hq i σ H p
  by_cases hlt : i < xs.length
  · refine .inr ⟨⟨xs, xs[i], q, List.getElem?_eq_getElem hlt⟩, Pv (i + 1), fun σ' H' p' => ⟨xs.length - (i + 1), by omega, rfl, hlt, p'⟩, fun v H' y => ?_⟩
    obtain ⟨T, x', rfl, hT, rfl, f1⟩ := y
    exact hs i x' T σ H (f1 xs q) p hT
  · have e : i = xs.length := by omega
    subst e
    exact .inl ⟨⟨xs, q, rfl⟩, hd σ H p⟩
/-! ### repr of lists and tuples in one another, whatever repr is under way around them -/
section
open PySem.Spec PyProof.Rows
/-- things with their addresses -/
inductive AT where
  | leaf (d : PyData)
  | lst (a : Addr) (l : List AT)
  | tup (a : Addr) (l : List AT)
mutual
inductive Ap (K : PySem.W.Frag) (H : Hp) : V → AT → Prop
  | non : Ap K H .non (.leaf .none)
  | bl (b : Bool) : Ap K H (.bl b) (.leaf (.bool b))
  | int (i : Int) : Ap K H (.int i) (.leaf (.int i))
  | str (x : Str) : Ap K H (.str x) (.leaf (.str x))
  | lst {a : Addr} {xs : List V} {l : List AT} : SqL K H a xs → ApAll K H xs l → Ap K H (.ref a) (.lst a l)
  | tup {a : Addr} {xs : List V} {l : List AT} : SqT K H a xs → ApAll K H xs l → Ap K H (.ref a) (.tup a l)
inductive ApAll (K : PySem.W.Frag) (H : Hp) : List V → List AT → Prop
  | nil : ApAll K H [] []
  | cons {v : V} {vs : List V} {t : AT} {l : List AT} : Ap K H v t → ApAll K H vs l → ApAll K H (v :: vs) (t :: l)
end
/-- list.__repr__'s loop over this very list is under way -/
def loopF (self : Value) : Code × Pos → Bool := fun
  | (.builtin "list.__repr__.loop" ⟨v :: _, _⟩, _) => Builtin.List.listSameRef v self
  | _ => false
theorem loopF_pos (self : Value) (c : Code) (p : Pos) : loopF self (c, p) = loopF self (c, default) := by
  unfold loopF
  split
  · next v r k q heq =>
    cases heq
    rfl
  · next h =>
    split
    · next v r k q heq =>
      cases heq
      exact absurd rfl (h v r k p)
    · rfl
theorem loopF_off (self : Value) (c : Code) (p : Pos) (h : c.isGuard = false) : loopF self (c, p) = false := by
  unfold loopF
  split
  · next v r k q heq =>
    cases heq
    simp [Code.isGuard, guardIds] at h
  · rfl
def blkL (g : List Code) (b : Addr) : Bool := g.any fun c => loopF (.ref b) (c, default)
def blkT (g : List Code) (b : Addr) : Bool := g.any fun c => tupGuardF (.ref b) (c, default)
mutual
def AT.data : AT → PyData
  | .leaf d => d
  | .lst _ l => .list (AT.dataAll l)
  | .tup _ l => .tuple (AT.dataAll l)
def AT.dataAll : List AT → List PyData
  | [] => []
  | t :: l => AT.data t :: AT.dataAll l
end
mutual
def AT.txt (g : List Code) : AT → Str
  | .leaf d => d.shown
  | .lst _ [] => "[]"
  | .lst a (t :: l) => if blkL g a then "[...]" else listText (AT.txt g t :: AT.txtAll g l)
  | .tup a l => if blkT g a then "(...)" else tupleText (AT.txtAll g l)
def AT.txtAll (g : List Code) : List AT → List Str
  | [] => []
  | t :: l => AT.txt g t :: AT.txtAll g l
end
/-! how long it may come to be -/
mutual
def AT.wid : AT → Nat
  | .leaf d => d.shown.length
  | .lst _ l => 6 + AT.widAll l
  | .tup _ l => 6 + AT.widAll l
def AT.widAll : List AT → Nat
  | [] => 0
  | t :: l => AT.wid t + 2 + AT.widAll l
end
theorem txtAll_sum (g : List Code) : ∀ (l : List AT), (∀ t ∈ l, (AT.txt g t).length ≤ AT.wid t) → ((AT.txtAll g l).map (·.length)).sum + 2 * (AT.txtAll g l).length ≤ AT.widAll l
  | [], _ => by simp [AT.txtAll, AT.widAll]
  | t :: l, h => by
    have h1 := h t List.mem_cons_self
    have h2 := txtAll_sum g l fun u hu => h u (List.mem_cons_of_mem _ hu)
    simp only [AT.txtAll, AT.widAll, List.map_cons, List.sum_cons, List.length_cons]
    omega
mutual
theorem txt_wid (g : List Code) : ∀ t : AT, (AT.txt g t).length ≤ AT.wid t
  | .leaf d => by rw [AT.txt, AT.wid]; exact Nat.le_refl _
  | .lst a [] => by
    rw [AT.txt, AT.wid]
    have : (("[]" : String) : Str).length = 2 := rfl
    omega
  | .lst a (t :: l) => by
    rw [AT.txt, AT.wid]
    split
    · have : (("[...]" : String) : Str).length = 5 := rfl
      omega
    · have h := listText_len_le (AT.txt g t :: AT.txtAll g l)
      have h2 := txtAll_sum g (t :: l) (txt_widAll g (t :: l))
      rw [AT.txtAll] at h2
      omega
  | .tup a l => by
    rw [AT.txt, AT.wid]
    split
    · have : (("(...)" : String) : Str).length = 5 := rfl
      omega
    · have h := tupleText_len_le (AT.txtAll g l)
      have h2 := txtAll_sum g l (txt_widAll g l)
      omega
theorem txt_widAll (g : List Code) : ∀ l : List AT, ∀ t ∈ l, (AT.txt g t).length ≤ AT.wid t
  | [], _, h => nomatch h
  | u :: l, t, h => by
    rcases List.mem_cons.mp h with e | h
    · rw [e]
      exact txt_wid g u
    · exact txt_widAll g l t h
end
def Agr (g0 g : List Code) (as : List Addr) : Prop := ∀ b ∈ as, blkL g b = blkL g0 b ∧ blkT g b = blkT g0 b
theorem Agr.refl (g : List Code) (as : List Addr) : Agr g g as := fun _ _ => ⟨rfl, rfl⟩
theorem ref_beq {a b : Addr} (n : a ≠ b) : (Value.ref a == Value.ref b) = false := beq_eq_false_iff_ne.mpr fun e => n (Value.ref.inj e)
theorem Agr.cons {g0 g : List Code} {as : List Addr} {a : Addr} {id : String} {rest : List Value} {kw : List (Str × Value)} (h : Agr g0 g as) (n : a ∉ as) : Agr g0 (.builtin id ⟨.ref a :: rest, kw⟩ :: g) as := by
  intro b hb
  have ne : a ≠ b := fun e => n (e ▸ hb)
  obtain ⟨h1, h2⟩ := h b hb
  constructor
  · rw [← h1]
    unfold blkL
    rw [List.any_cons]
    have : loopF (.ref b) (Code.builtin id ⟨.ref a :: rest, kw⟩, default) = false := by
      unfold loopF
      split
      · next v r k q heq =>
        cases heq
        exact listSameRef_of_ne fun e => ne (Value.ref.inj e)
      · rfl
    rw [this, Bool.false_or]
  · rw [← h2]
    unfold blkT
    rw [List.any_cons]
    have : tupGuardF (.ref b) (Code.builtin id ⟨.ref a :: rest, kw⟩, default) = false := by
      simp only [tupGuardF, ref_beq ne, Bool.false_and]
    rw [this, Bool.false_or]
end
section
open PySem.Spec PyProof.Rows
open Sem (wp)
open Builtin Builtin.List
variable {prog : Program} {w : World} {g0 : List Code}
def ReprD (prog : Program) (w : World) (g0 : List Code) (as : List Addr) (h0 : Heap) (d : Nat) (x : Value) (t : Str) : Prop :=
  ∀ (n : Nat), n + t.length ≤ sizeLine → ∀ (A : Around) (g : List Code) (E : Value → Shared → Prop) (s : Shared) (Q : Str → Shared → Prop), A.guards = some g → Agr g0 g as → A.units + d < cLine →
    (∀ b o, h0.get? b = some o → s.heap.get? b = some o) → (∀ h' tk, (∀ b o, s.heap.get? b = some o → h'.get? b = some o) → Q t { s with heap := h', toks := tk }) → wpAny (model prog w) A (pyReprUnder n x) Q E s
theorem ReprD.leaf {x : Value} {t : Str} (h : ReprIs prog w x t) (as : List Addr) (h0 : Heap) (d : Nat) : ReprD prog w g0 as h0 d x t :=
  fun n hn A _ E s Q _ _ _ _ q => h n hn A E s Q fun tk => q s.heap tk fun _ _ e => e
theorem ReprD.wide {as bs : List Addr} {h0 : Heap} {d e : Nat} {x : Value} {t : Str} (h : ReprD prog w g0 as h0 d x t) (i : ∀ b ∈ as, b ∈ bs) (l : d ≤ e) : ReprD prog w g0 bs h0 e x t :=
  fun n hn A g E s Q hg ha hu hk q => h n hn A g E s Q hg (fun b hb => ha b (i b hb)) (by omega) hk q
/-- the loop of list.__repr__ -/
theorem loopD {A : Around} {R : Result → Shared → Prop} {a P : Addr} (hne : a ≠ P) {items : Array Value} {ts : List Str} {as : List Addr} {h0 : Heap} {d n : Nat} {g : List Code} (hg : A.guards = some g) (hag : Agr g0 g as)
    (hu : A.units + (d + 1) < cLine) (hna : a ∉ as) (hPf : h0.get? P = none) (hlen : ts.length = items.size)
    (hT : ∀ (i : Nat) (x : Value), items[i]? = some x → ∃ t, ts[i]? = some t ∧ ReprD prog w g0 as h0 d x t) (hsz : n + (listText ts).length ≤ sizeLine) :
    ∀ (k i : Nat) (s : Shared) (oa : Obj) (na : Nat) (acc : Array Value) (c : Nat) (done : List (Str × Tok)), items.size - i = k → i ≤ items.size → (∀ b o, h0.get? b = some o → s.heap.get? b = some o) →
      s.heap.get? a = some oa → oa.data = .seq items na → s.heap.get? P = some { cls := .type "list", dict := none, data := .seq acc c, slots := #[] } → acc.toList = strValues done → done.map (·.1) = ts.take i →
      (∀ h' u tk, (∀ b o, b ≠ P → s.heap.get? b = some o → h'.get? b = some o) → R (.ok (.ret (.str (listText ts) u))) { s with heap := h', toks := tk }) →
      codeAny (model prog w) A (.builtin "list.__repr__.loop" ⟨[.ref a, rawInt i, .ref P, rawInt ((n + piled (ts.take i) : Nat) : Int)], []⟩) R s := by
  have hX : (listText ts).length = (textFrom 0 "[" ts).length + 1 := by
    show ((textFrom 0 "[" ts) ++ ("]" : Str)).length = _
    rw [strLen_append]
    rfl
  obtain ⟨hL1, hL2, _⟩ := textFrom_len ts 0 "["
  rw [if_neg (Nat.lt_irrefl 0)] at hL1
  have hsz1 : items.size ≤ sizeLine := by omega
  have hp3 := piled_le_listText ts
  intro k
  induction k with
  | zero =>
    intro i s oa na acc c done hk hi hk0 ha hda hP hacc hdone hR
    have hin : i = items.size := by omega
    refine codeAny_builtin F.entry_list_repr_loop ?_
    show wpAny _ _ («list.__repr__.loop» ⟨[.ref a, .int i 0, .ref P, .int ((n + piled (ts.take i) : Nat) : Int) 0], []⟩) _ _ s
    rw [repr_loop_tree]
    refine wpAny_bind (wpAny_listItems ha hda ?_)
    have e0 : items[(i : Int).toNat]? = none := by simp [hin]
    simp only [e0]
    unfold reprEnd
    refine wpAny_bind (wpAny_listItems hP rfl ?_)
    rw [hacc, repr_fold]
    refine wpAny_bind (wpAny_pure ?_)
    have e1 : done.map (·.1) = ts := by rw [hdone, hin, ← hlen, List.take_length]
    rw [e1]
    exact wpAny_bind (wpAny_mkStr (wpAny_pure (hR s.heap _ _ fun _ _ _ e => e)) (show (listText ts).length ≤ sizeLine by omega))
  | succ k ih =>
    intro i s oa na acc c done hk hi hk0 ha hda hP hacc hdone hR
    have hlt : i < items.size := by omega
    obtain ⟨t, ht, hrep⟩ := hT i items[i] (by simp [hlt])
    have hp1 := piled_take_succ ht
    have hp2 := piled_take_le ts (i + 1)
    have ht2 := hL2 t (List.mem_of_getElem? ht)
    refine codeAny_builtin F.entry_list_repr_loop ?_
    show wpAny _ _ («list.__repr__.loop» ⟨[.ref a, .int i 0, .ref P, .int ((n + piled (ts.take i) : Nat) : Int) 0], []⟩) _ _ s
    rw [repr_loop_tree]
    refine wpAny_bind (wpAny_listItems ha hda ?_)
    have e0 : items[(i : Int).toNat]? = some items[i] := by simp [hlt]
    simp only [e0]
    rw [Int.toNat_natCast]
    refine wpAny_bind (wpAny_holding (hrep (n + piled (ts.take i) + 1) (by omega) _ _ _ _ _ (guards_under_guard (isGuard_list_loop _) hg) (hag.cons (a := a) hna) (by rw [units_under_list_loop]; omega) hk0 fun h' tk hkp => ?_))
    refine wpAny_bind (wpAny_mkStr ?_ (by omega))
    refine wpAny_bind ?_
    show wpAny _ _ (updateSeq P _) _ _ _
    have hasz : acc.size ≤ sizeLine := by
      have e1 : acc.toList.length = acc.size := by simp
      have e2 : (strValues done).length = (done.map (·.1)).length := by simp [strValues]
      rw [hdone, List.length_take] at e2
      rw [hacc] at e1
      omega
    refine wpAny_updateSeq (hkp _ _ hP) rfl (wpAny_pure ⟨F.quiet_list_repr_loop _, ?_⟩) hasz
    have f1 : ((i : Int) + 1) = ((i + 1 : Nat) : Int) := by omega
    have f2 : n + piled (ts.take i) + (t.length + 2) = n + piled (ts.take (i + 1)) := by omega
    rw [f1, f2]
    have out : ∀ {b : Addr}, b ≠ P → P ≠ b := fun z e => z e.symm
    refine ih (i + 1) _ oa na (acc.push (.str t tk)) _ (done ++ [(t, tk)]) (by omega) hlt (fun b o e => (Heap.get?_update_other _ _ (out fun z => by rw [z, hPf] at e; cases e)).trans (hkp _ _ (hk0 _ _ e)))
      ((Heap.get?_update_other _ _ (out hne)).trans (hkp _ _ ha)) hda (Heap.get?_update_self _ (hkp _ _ hP) rfl) (by simp [hacc, strValues]) (by simp [List.take_add_one, ht, hdone]) fun h'' u tk' hh => ?_
    exact hR h'' u tk' fun b o hb e => hh b o hb ((Heap.get?_update_other _ _ (out hb)).trans (hkp _ _ e))
end
section
open PySem.Spec PyProof.Rows
open Sem (wp)
open Builtin Builtin.List
variable {prog : Program} {w : World} {g0 : List Code}
abbrev finE (prog : Program) (w : World) (A : Around) (R : Result → Shared → Prop) : Fin → Shared → Prop := fun f s => match f with
  | .done v => R (.ok v) s
  | .again c => c.quiet = true ∧ codeAny (model prog w) A c R s
/-- the list is being shown already -/
theorem list_way {A : Around} {g : List Code} {c : Code} {a : Addr} {o : Obj} {x : Value} {l : List Value} {m n : Nat} {s : Shared} {Q : Fin → Shared → Prop} {E : Value → Shared → Prop} (hg : A.guards = some g) (hb : blkL g a = true)
    (ha : s.heap.get? a = some o) (hd : o.data = .seq (x :: l).toArray m) (h : ∀ u tk, Q (.done (.ret (.str "[...]" u))) { s with toks := tk }) : wpOwn (model prog w) A c (listReprAt n ⟨[.ref a], []⟩) Q E s := by
  intro Γ p hc hΓ
  have k : wpAny (model prog w) (A.under c) (do rule "list.__repr__.in-itself"; retStr "[...]") Q E s :=
    wpAny_bind (wpAny_rule (wpAny_bind (wpAny_mkStr (wpAny_pure (h _ _)) (by decide +kernel))))
  have k1 := k Γ p (hc ▸ hΓ.in)
  unfold listReprAt
  simp [slotArgs, listItems, seqItems?, Sem.wp_load_of (h := ha), hd, stack]
  show wp _ Γ (if (Γ.below.any (loopF (.ref a))) = true then _ else _) _ _ p s
  rw [if_pos]
  · exact k1
  · rw [any_eq_guards (loopF_off _) (loopF_pos _), hΓ.2.2.2.1 g hg]
    exact hb
theorem list_no {g : List Code} {a : Addr} (h : blkL g a = false) (v : Value) (rest : List Value) (kw : List (Str × Value)) (hm : Code.builtin "list.__repr__.loop" ⟨v :: rest, kw⟩ ∈ g) : listSameRef v (.ref a) = false := by
  have := List.any_eq_false.mp h _ hm
  simpa [loopF] using this
theorem list_at {as : List Addr} {h0 : Heap} {d : Nat} {a : Addr} {oa : Obj} {x : Value} {l : List Value} {na : Nat} {ts : List Str} (ha : h0.get? a = some oa) (hda : oa.data = .seq (x :: l).toArray na) (hna : a ∉ as)
    (hlen : ts.length = (x :: l).toArray.size) (hT : ∀ (i : Nat) (y : Value), (x :: l).toArray[i]? = some y → ∃ t, ts[i]? = some t ∧ ReprD prog w g0 as h0 d y t) {A : Around} {g : List Code} {s : Shared} {R : Result → Shared → Prop} {n : Nat} {id : String} {rest : List Value}
    (hpl : plainId id = true) (hg : A.guards = some g) (hag : Agr g0 g (a :: as)) (hu : A.units + (d + 1) < cLine) (hk0 : ∀ b o, h0.get? b = some o → s.heap.get? b = some o)
    (hR : ∀ h' u tk, (∀ b o, s.heap.get? b = some o → h'.get? b = some o) → R (.ok (.ret (.str (if blkL g0 a then "[...]" else listText ts) u))) { s with heap := h', toks := tk })
    (hsz : blkL g0 a = false → n + (listText ts).length ≤ sizeLine) : wpOwn (model prog w) A (.builtin id ⟨.ref a :: rest, []⟩) (listReprAt n ⟨[.ref a], []⟩) (finE prog w A R) (fun e s' => R (.error e) s') s := by
  have e := (hag a List.mem_cons_self).1
  cases hB : blkL g0 a with
  | true =>
    rw [hB] at e
    simp only [hB] at hR
    exact list_way hg e (hk0 _ _ ha) hda fun u tk => hR s.heap u tk fun _ _ z => z
  | false =>
    rw [hB] at e
    simp only [hB] at hR
    have hPf : h0.get? s.heap.objs.size = none := by
      cases q : h0.get? s.heap.objs.size with
      | none => rfl
      | some o => exact absurd (Heap.lt_size (hk0 _ _ q)) (Nat.lt_irrefl _)
    refine wpOwn_of_wpAny ?_
    rw [Around.under_plainId hpl]
    refine wpAny_list_repr_head (A := A.in1) hg (list_no e) (hk0 _ _ ha) hda ?_
    refine wpAny_bind (m := newList []) (wpAny_newObj_type (wpAny_pure ⟨F.quiet_list_repr_loop _, ?_⟩))
    refine loopD (P := s.heap.objs.size) (g0 := g0) (Nat.ne_of_lt (Heap.lt_size (hk0 _ _ ha))) hg (fun b hb => hag b (List.mem_cons_of_mem _ hb)) hu hna hPf hlen hT (hsz hB) _ 0 _ oa na #[] _ [] rfl (Nat.zero_le _)
      (fun b o z => Heap.get?_push_of_some _ (hk0 _ _ z)) (Heap.get?_push_of_some _ (hk0 _ _ ha)) hda (Heap.get?_push_size _ rfl) rfl (by simp) fun h' u tk hk => ?_
    exact hR h' u tk fun b o z => hk b o (Nat.ne_of_lt (Heap.lt_size z)) (Heap.get?_push_of_some _ z)
inductive ReprDs (prog : Program) (w : World) (g0 : List Code) (as : List Addr) (h0 : Heap) (d : Nat) : List Value → List Str → Prop
  | nil : ReprDs prog w g0 as h0 d [] []
  | cons {x : Value} {t : Str} {l : List Value} {ts : List Str} : ReprD prog w g0 as h0 d x t → ReprDs prog w g0 as h0 d l ts → ReprDs prog w g0 as h0 d (x :: l) (t :: ts)
theorem ReprDs.len {as : List Addr} {h0 : Heap} {d : Nat} : ∀ {l : List Value} {ts : List Str}, ReprDs prog w g0 as h0 d l ts → ts.length = l.length
  | _, _, .nil => rfl
  | _, _, .cons _ h => by rw [List.length_cons, List.length_cons, h.len]
theorem ReprDs.item {as : List Addr} {h0 : Heap} {d : Nat} : ∀ {l : List Value} {ts : List Str}, ReprDs prog w g0 as h0 d l ts → ∀ (i : Nat) (y : Value), l[i]? = some y → ∃ t, ts[i]? = some t ∧ ReprD prog w g0 as h0 d y t
  | _, _, .nil, i, y, e => by simp at e
  | _, _, .cons hx _, 0, y, e => by
    cases Option.some.inj e
    exact ⟨_, rfl, hx⟩
  | _, _, .cons _ hl, i + 1, y, e => hl.item i y e
theorem ReprDs.wide {as bs : List Addr} {h0 : Heap} {d e : Nat} (i : ∀ b ∈ as, b ∈ bs) (l : d ≤ e) : ∀ {vs : List Value} {ts : List Str}, ReprDs prog w g0 as h0 d vs ts → ReprDs prog w g0 bs h0 e vs ts
  | _, _, .nil => .nil
  | _, _, .cons hx hl => .cons (hx.wide i l) (hl.wide i l)
theorem tup_fold {A : Around} {E : Value → Shared → Prop} {as : List Addr} {h0 : Heap} {d : Nat} {g : List Code} (hg : A.guards = some g) (hag : Agr g0 g as) (hu : A.units + d < cLine) :
    ∀ (l : List Value) (ts : List Str) (acc : Array Str) (n : Nat) (s : Shared) (Q : (Array Str × Nat) → Shared → Prop), ReprDs prog w g0 as h0 d l ts → n + piled ts ≤ sizeLine → (∀ b o, h0.get? b = some o → s.heap.get? b = some o) →
      (∀ h' tk, (∀ b o, s.heap.get? b = some o → h'.get? b = some o) → Q ⟨acc ++ ts.toArray, n + piled ts⟩ { s with heap := h', toks := tk }) → wpAny (model prog w) A (forIn l (⟨acc, n⟩ : (Array Str × Nat)) tupBody) Q E s := by
  intro l
  induction l with
  | nil =>
    intro ts acc n s Q hT _ _ q
    cases hT
    have q0 := q s.heap s.toks fun _ _ e => e
    simp only [List.forIn_nil]
    exact wpAny_pure (by simpa [piled] using q0)
  | cons x l ih =>
    intro ts acc n s Q hT hn hk0 q
    cases hT with
    | cons hx hl =>
      rename_i t ts'
      rw [piled_cons] at hn
      rw [List.forIn_cons]
      refine wpAny_bind (wpAny_bind (hx (n + 1) (by omega) _ _ _ _ _ hg hag hu hk0 fun h' tk hk1 => wpAny_pure ?_))
      refine ih ts' (acc.push t) (n + (t.length + 2)) _ Q hl (by omega) (fun b o z => hk1 _ _ (hk0 _ _ z)) fun h'' tk' hk2 => ?_
      have q1 := q h'' tk' fun b o z => hk2 _ _ (hk1 _ _ z)
      rw [show n + piled (t :: ts') = n + (t.length + 2) + piled ts' by rw [piled_cons]; omega] at q1
      simpa using q1
theorem tup_at {as : List Addr} {h0 : Heap} {d : Nat} {a : Addr} {o : Obj} {items : Array Value} {na : Nat} {ts : List Str} (ha : h0.get? a = some o) (hd : o.data = .seq items na) (hna : a ∉ as) (hT : ReprDs prog w g0 as h0 d items.toList ts)
    {A : Around} {g : List Code} {s : Shared} {R : Result → Shared → Prop} {n : Nat} {id : String} {rest : List Value} (hcg : (Code.builtin id ⟨.ref a :: rest, []⟩).isGuard = true) (hcu : (A.under (.builtin id ⟨.ref a :: rest, []⟩)).units = A.units + 1)
    (hg : A.guards = some g) (hag : Agr g0 g (a :: as)) (hu : A.units + (d + 1) < cLine) (hk0 : ∀ b o, h0.get? b = some o → s.heap.get? b = some o)
    (hR : ∀ h' u tk, (∀ b o, s.heap.get? b = some o → h'.get? b = some o) → R (.ok (.ret (.str (if blkT g0 a then "(...)" else tupleText ts) u))) { s with heap := h', toks := tk })
    (hsz : blkT g0 a = false → n + (tupleText ts).length ≤ sizeLine) : wpOwn (model prog w) A (.builtin id ⟨.ref a :: rest, []⟩) (tupleReprAt n ⟨[.ref a], []⟩) (finE prog w A R) (fun e s' => R (.error e) s') s := by
  have e := (hag a List.mem_cons_self).2
  unfold blkT at e
  have hlen : ts.length = items.size := by simpa using hT.len
  have hp := piled_le_tupleText ts
  rw [tuple_repr_tree, tupleReprUnderWay_eq]
  refine wpOwn_bind (wpOwn_stackTailAny hg (tupGuardF_off _) (tupGuardF_pos _) ?_)
  rw [e]
  show wpOwn _ _ _ (if blkT g0 a = true then _ else _) _ _ _
  refine wpOwn_of_wpAny ?_
  cases hB : blkT g0 a with
  | true =>
    simp only [hB] at hR
    refine PySem.W.KFB.if_so rfl ?_
    exact wpAny_bind (wpAny_rule (wpAny_bind (wpAny_mkStr (wpAny_pure (hR s.heap _ _ fun _ _ z => z)) (by decide +kernel))))
  | false =>
    simp only [hB] at hR
    have hz := hsz hB
    refine PySem.W.KFB.if_not rfl ?_
    unfold tupleReprRest Builtin.Tuple.tupleItemsOf
    refine wpAny_bind (wpAny_bind (wpAny_seqItems (hk0 _ _ ha) hd (wpAny_pure ?_)))
    rw [← Array.forIn_toList]
    refine wpAny_bind (tup_fold (g0 := g0) (guards_under_guard hcg hg) (Agr.cons (a := a) (fun b hb => hag b (List.mem_cons_of_mem _ hb)) hna) (by rw [hcu]; omega) _ ts _ _ _ _ hT (by omega) hk0 fun h' tk hk1 => ?_)
    refine wpAny_bind (wpAny_mkStr (wpAny_pure ?_) (by simpa [tupleText, hlen] using (show (tupleText ts).length ≤ sizeLine by omega)))
    have q := hR h' tk (tk + 1) hk1
    simpa [tupleText, hlen] using q
end
section
open PySem.Spec PyProof.Rows
open Sem (wp)
open Builtin Builtin.List
variable {prog : Program} {w : World} {g0 : List Code}
theorem ReprD.lst {as : List Addr} {h0 : Heap} {d : Nat} {a : Addr} {oa : Obj} {x : Value} {l : List Value} {na : Nat} {ts : List Str} (ha : h0.get? a = some oa) (hc : oa.cls = .type "list") (hda : oa.data = .seq (x :: l).toArray na) (hna : a ∉ as)
    (hT : ReprDs prog w g0 as h0 d (x :: l) ts) : ReprD prog w g0 (a :: as) h0 (d + 1) (.ref a) (if blkL g0 a then "[...]" else listText ts) := by
  intro n hn A g E s Q hg hag hu hk q
  have hl : ts.length = (x :: l).toArray.size := by simpa using hT.len
  refine wpAny_pyReprUnder_ref (by omega) (wpAny_pyReprObjUnder_twin (twin := "list.__repr__.under") ⟨oa, hk _ _ ha, hc⟩ F.slot_list_repr.toG rfl (by omega) ?_)
  refine call_twin_own (Code.quiet_builtin _ (by decide +kernel)) F.entry_list_repr_under F.check_list_repr_under ⟨oa, hk _ _ ha, hc⟩ F.slot_list_repr.toG (F.args_list_repr_1 _) ?_
  refine list_at (R := callEnd _ E) ha hda hna hl (fun i y e => hT.item i y (by simpa using e)) F.plain_list_repr_under hg hag hu hk (fun h' u tk hk1 => ⟨⟨_, _, rfl⟩, _, _, rfl, q h' tk hk1⟩) fun hB => ?_
  rw [hB] at hn
  exact hn
theorem ReprD.bare {as : List Addr} {h0 : Heap} {d : Nat} {a : Addr} {oa : Obj} {na : Nat} (ha : h0.get? a = some oa) (hc : oa.cls = .type "list") (hda : oa.data = .seq #[] na) : ReprD prog w g0 as h0 d (.ref a) "[]" := by
  intro n hn A g E s Q _ _ hu hk q
  exact wpAny_pyReprUnder_ref (by omega) (wpAny_pyReprObjUnder_list_empty ⟨oa, hk _ _ ha, hc⟩ (by omega) (hk _ _ ha) hda ⟨_, _, rfl, q s.heap _ fun _ _ e => e⟩)
theorem ReprD.tup {as : List Addr} {h0 : Heap} {d : Nat} {a : Addr} {oa : Obj} {items : Array Value} {na : Nat} {ts : List Str} (ha : h0.get? a = some oa) (hc : oa.cls = .type "tuple") (hda : oa.data = .seq items na) (hna : a ∉ as)
    (hT : ReprDs prog w g0 as h0 d items.toList ts) : ReprD prog w g0 (a :: as) h0 (d + 1) (.ref a) (if blkT g0 a then "(...)" else tupleText ts) := by
  intro n hn A g E s Q hg hag hu hk q
  refine wpAny_pyReprUnder_ref (by omega) (wpAny_pyReprObjUnder_twin (twin := "tuple.__repr__.under") ⟨oa, hk _ _ ha, hc⟩ F.slot_tuple_repr rfl (by omega) ?_)
  refine call_twin_own (F.quiet_tuple_repr_under _) F.entry_tuple_repr_under F.check_tuple_repr_under ⟨oa, hk _ _ ha, hc⟩ F.slot_tuple_repr (F.args_tuple_repr_1 _) ?_
  refine tup_at (R := callEnd _ E) ha hda hna hT (isGuard_tuple_repr_under _) (units_under_tuple_repr_under _ _) hg hag hu hk (fun h' u tk hk1 => ⟨⟨_, _, rfl⟩, _, _, rfl, q h' tk hk1⟩) fun hB => ?_
  rw [hB] at hn
  exact hn
mutual
theorem Ap.dp {K : PySem.W.Frag} {H : Hp} : ∀ {v : V} {t : AT}, Ap K H v t → Dp K H v t.data
  | _, _, .non => .non
  | _, _, .bl b => .bl b
  | _, _, .int i => .int i
  | _, _, .str x => .str x
  | _, _, .lst h a => by rw [AT.data]; exact .lst h a.dp
  | _, _, .tup h a => by rw [AT.data]; exact .tup h a.dp
theorem ApAll.dp {K : PySem.W.Frag} {H : Hp} : ∀ {vs : List V} {l : List AT}, ApAll K H vs l → DpAll K H vs (AT.dataAll l)
  | _, _, .nil => by rw [AT.dataAll]; exact .nil
  | _, _, .cons h a => by rw [AT.dataAll]; exact .cons h.dp a.dp
end
mutual
theorem Ap.same {K : PySem.W.Frag} {H H' : Hp} (e : Same H H') : ∀ {v : V} {t : AT}, Ap K H v t → Ap K H' v t
  | _, _, .non => .non
  | _, _, .bl b => .bl b
  | _, _, .int i => .int i
  | _, _, .str x => .str x
  | _, _, .lst h a => .lst (e.seq h) (ApAll.same e a)
  | _, _, .tup h a => .tup (same_t e h) (ApAll.same e a)
theorem ApAll.same {K : PySem.W.Frag} {H H' : Hp} (e : Same H H') : ∀ {vs : List V} {l : List AT}, ApAll K H vs l → ApAll K H' vs l
  | _, _, .nil => .nil
  | _, _, .cons h a => .cons (Ap.same e h) (ApAll.same e a)
end
section
variable {X : Cx} {pins : List (Addr × Obj)} {σ : L2.St} {H : Hp} {s : Shared}
mutual
theorem repr_of (I : Inv X pins σ H s) : ∀ (t : AT) (v : V) (u : Value), Ap X.K H v t → RelV v u → t.data.showable = true → t.wid ≤ sizeLine → ∃ bs, ReadAtMost s.heap t.data.depth bs ∧ ReprD X.prog X.w g0 bs s.heap t.data.depth u (t.txt g0)
  | .leaf d, v, u, h, r, hs, hw => by
    refine ⟨[], (fun _ z => nomatch z), ?_⟩
    rw [AT.txt]
    rw [AT.wid] at hw
    cases h with
    | non =>
      cases r
      exact .leaf ReprIs.none _ _ _
    | bl b =>
      cases r
      exact .leaf (ReprIs.bool b) _ _ _
    | int i =>
      obtain ⟨k, rfl⟩ := r
      exact .leaf (ReprIs.int k (by simpa [AT.data, PyData.showable] using hs)) _ _ _
    | str x =>
      obtain ⟨k, rfl⟩ := r
      exact .leaf (ReprIs.str x k (by simpa only [PyData.shown] using hw)) _ _ _
  | .lst a [], v, u, h, r, hs, hw => by
    cases h with
    | lst hq ha =>
      cases ha
      cases r
      obtain ⟨its, rv, ⟨o, n, ho, hc, _, hd⟩, _⟩ := I.list hq
      cases rv
      rw [AT.txt]
      exact ⟨[], (fun _ z => nomatch z), ReprD.bare ho hc hd⟩
  | .lst a (t :: l), v, u, h, r, hs, hw => by
    obtain ⟨as, hR⟩ := Dp.reads I _ v u h.dp r
    cases h with
    | lst hq ha =>
      cases r
      obtain ⟨its, rv, ⟨o, n, ho, hc, _, hd⟩, _⟩ := I.list hq
      rw [AT.data, PyData.showable] at hs
      rw [AT.wid] at hw
      obtain ⟨bs, hb, hk⟩ := repr_ofAll I (t :: l) _ its ha rv hs (by omega)
      rw [AT.data] at hR
      have hna : a ∉ bs := not_mem_of_deeper hR (by simp only [PyData.depth]; omega) hb
      refine ⟨a :: bs, ?_, ?_⟩
      · rw [AT.data]
        exact ReadAtMost.cons hR (by simp only [PyData.depth]; omega) hb
      · rw [AT.txt, AT.data, PyData.depth]
        cases ha with
        | cons h1 h2 =>
          cases rv with
          | cons r1 r2 =>
            rw [AT.txtAll] at hk
            exact .lst ho hc hd hna hk
  | .tup a l, v, u, h, r, hs, hw => by
    obtain ⟨as, hR⟩ := Dp.reads I _ v u h.dp r
    cases h with
    | tup hq ha =>
      cases r
      obtain ⟨its, rv, ⟨o, ho, hc, n, hd⟩, _⟩ := I.tuple hq
      rw [AT.data, PyData.showable] at hs
      rw [AT.wid] at hw
      obtain ⟨bs, hb, hk⟩ := repr_ofAll I l _ its ha rv hs (by omega)
      rw [AT.data] at hR
      have hna : a ∉ bs := not_mem_of_deeper hR (by simp only [PyData.depth]; omega) hb
      refine ⟨a :: bs, ?_, ?_⟩
      · rw [AT.data]
        exact ReadAtMost.cons hR (by simp only [PyData.depth]; omega) hb
      · rw [AT.txt, AT.data, PyData.depth]
        exact .tup ho hc hd hna (by simpa using hk)
theorem repr_ofAll (I : Inv X pins σ H s) : ∀ (l : List AT) (vs : List V) (us : List Value), ApAll X.K H vs l → Vals vs us → PyData.showableAll (AT.dataAll l) = true → AT.widAll l ≤ sizeLine → ∃ bs, ReadAtMost s.heap (PyData.depthAll (AT.dataAll l)) bs ∧ ReprDs X.prog X.w g0 bs s.heap (PyData.depthAll (AT.dataAll l)) us (AT.txtAll g0 l)
  | [], _, _, h, r, _, _ => by
    cases h
    cases r
    exact ⟨[], (fun _ z => nomatch z), by rw [AT.txtAll]; exact .nil⟩
  | t :: l, _, _, h, r, hs, hw => by
    cases h with
    | cons h1 h2 =>
      cases r with
      | cons r1 r2 =>
        have hs' : t.data.showable = true ∧ PyData.showableAll (AT.dataAll l) = true := by simpa [AT.dataAll, PyData.showableAll] using hs
        rw [AT.widAll] at hw
        obtain ⟨b1, k1, m1⟩ := repr_of I t _ _ h1 r1 hs'.1 (by omega)
        obtain ⟨b2, k2, m2⟩ := repr_ofAll I l _ _ h2 r2 hs'.2 (by omega)
        rw [AT.dataAll, AT.txtAll, PyData.depthAll]
        exact ⟨b1 ++ b2, (k1.mono (Nat.le_max_left _ _)).append (k2.mono (Nat.le_max_right _ _)), .cons (m1.wide (fun b hb => List.mem_append_left _ hb) (Nat.le_max_left _ _)) (m2.wide (fun b hb => List.mem_append_right _ hb) (Nat.le_max_right _ _))⟩
end
end
end
section
open PySem.Spec PyProof.Rows
variable {X : Cx}
def rRepr (K : PySem.W.Frag) (g : List Code) : List V → Hp → VK → Prop := fun xs H Q => ∃ (v : V) (t : AT), xs = [v] ∧ Ap K H v t ∧ t.data.showable = true ∧ t.wid ≤ sizeLine ∧ t.data.depth ≤ 40 ∧ Q (.str (t.txt g)) H
theorem call_reprA {g : List Code} (hg : X.A.guards = some g) (hu : X.A.units + 64 < cLine) : CallR X (.builtin "repr") (rRepr X.K g) := by
  intro pins s σ H xs us Q I r h
  obtain ⟨v, t, rfl, ha, hs, hw, hd, q⟩ := h
  obtain ⟨u, rfl, ru⟩ := r.one
  have fin : ∀ (h' : Heap) (k tk : Tok), (∀ b o, s.heap.get? b = some o → h'.get? b = some o) → EP X pins σ Q (.str (t.txt g) k) { s with heap := h', toks := tk } := fun h' k tk hk => ⟨.str _, H, I.kept hk, ⟨_, rfl⟩, q⟩
  have fin0 : EP X pins σ Q (.str (t.txt g) s.toks) { s with toks := s.toks + 1 } := fin s.heap _ _ fun _ _ e => e
  cases t with
  | leaf d =>
    rw [AT.txt] at fin0
    rw [AT.wid] at hw
    cases ha with
    | non =>
      cases ru
      exact PySem.P.repr_of_none fin0
    | bl b =>
      cases ru
      exact PySem.P.repr_of_bool fin0
    | int i =>
      obtain ⟨k, rfl⟩ := ru
      exact PySem.P.repr_of_int (by simpa [AT.data, PyData.showable] using hs) fin0
    | str x =>
      obtain ⟨k, rfl⟩ := ru
      exact PySem.P.repr_of_str fin0 (by simpa only [PyData.shown] using hw)
  | lst a l =>
    have ha0 := ha
    obtain ⟨as, hR⟩ := Dp.reads I _ v u ha.dp ru
    cases ha with
    | lst hq hl =>
      cases ru
      obtain ⟨its, rv, ⟨o, n, ho, hc, _, hdt⟩, _⟩ := I.list hq
      refine call_repr_slot (by omega) ⟨o, ho, hc⟩ F.slot_list_repr.toG ?_
      cases l with
      | nil =>
        cases hl
        cases rv
        rw [AT.txt] at fin
        exact call_list_repr_empty ⟨o, ho, hc⟩ ho hdt ⟨_, _, rfl, fin s.heap _ _ fun _ _ e => e⟩
      | cons t l =>
        rw [AT.data, PyData.showable] at hs
        rw [AT.wid] at hw
        rw [AT.data, PyData.depth] at hd
        obtain ⟨bs, hb, hk⟩ := repr_ofAll (g0 := g) I (t :: l) _ its hl rv hs (by omega)
        rw [AT.data] at hR
        have hna : a ∉ bs := not_mem_of_deeper hR (by simp only [PyData.depth]; omega) hb
        cases hl with
        | cons h1 h2 =>
          cases rv with
          | cons r1 r2 =>
            rw [AT.txtAll] at hk
            rw [AT.txt] at fin
            have hz := txt_wid g (AT.lst a (t :: l))
            rw [AT.txt, AT.wid] at hz
            refine wpAny_call (codeAny_call_builtin_own (Code.quiet_builtin _ (by decide +kernel)) F.entry_list_repr (F.slot_list_repr.toG.check _ _ _ _ _ _ _ _ ⟨o, ho, hc⟩ (F.args_list_repr_1 _) ?_))
            refine list_at (R := callEnd _ _) (n := 0) ho hdt hna (by simpa using hk.len) (fun i y e => hk.item i y (by simpa using e)) F.slot_list_repr.plain hg (Agr.refl _ _) (by show X.A.units + 1 + _ < _; omega) (fun _ _ e => e) (fun h' u tk hk1 => ⟨_, _, rfl, fin h' u tk hk1⟩) fun hB => ?_
            rw [hB] at hz
            have hz2 : (listText (AT.txt g t :: AT.txtAll g l)).length ≤ 6 + AT.widAll (t :: l) := hz
            omega
  | tup a l =>
    obtain ⟨as, hR⟩ := Dp.reads I _ v u ha.dp ru
    cases ha with
    | tup hq hl =>
      cases ru
      obtain ⟨its, rv, ⟨o, ho, hc, n, hdt⟩, _⟩ := I.tuple hq
      refine call_repr_slot (by omega) ⟨o, ho, hc⟩ F.slot_tuple_repr ?_
      rw [AT.data, PyData.showable] at hs
      rw [AT.wid] at hw
      rw [AT.data, PyData.depth] at hd
      obtain ⟨bs, hb, hk⟩ := repr_ofAll (g0 := g) I l _ its hl rv hs (by omega)
      rw [AT.data] at hR
      have hna : a ∉ bs := not_mem_of_deeper hR (by simp only [PyData.depth]; omega) hb
      rw [AT.txt] at fin
      have hz := txt_wid g (AT.tup a l)
      rw [AT.txt, AT.wid] at hz
      refine wpAny_call (codeAny_call_builtin_own (Code.quiet_builtin _ (by decide +kernel)) F.entry_tuple_repr (F.slot_tuple_repr.check _ _ _ _ _ _ _ _ ⟨o, ho, hc⟩ (F.args_tuple_repr_1 _) ?_))
      refine tup_at (R := callEnd _ _) (n := 0) ho hdt hna (by simpa using hk) (isGuard_tuple_repr _) (units_under_tuple_repr _ _) hg (Agr.refl _ _) (by show X.A.units + 1 + _ < _; omega) (fun _ _ e => e) (fun h' u tk hk1 => ⟨_, _, rfl, fin h' u tk hk1⟩) fun hB => ?_
      rw [hB] at hz
      have hz2 : (tupleText (AT.txtAll g l)).length ≤ 6 + AT.widAll l := hz
      omega
end
/-! ### repr, where none is under way: by what the thing is -/
mutual
def dw : PyData → Nat
  | .list xs => 6 + dwAll xs
  | .tuple xs => 6 + dwAll xs
  | d => d.shown.length
def dwAll : List PyData → Nat
  | [] => 0
  | x :: xs => dw x + 2 + dwAll xs
end
section
open PySem.Spec PyProof.Rows
mutual
theorem dp_ap {K : PySem.W.Frag} {H : Hp} : ∀ {v : V} {d : PyData}, Dp K H v d → ∃ t : AT, Ap K H v t ∧ t.data = d ∧ t.wid = dw d ∧ t.txt [] = d.shown
  | _, _, .non => ⟨.leaf .none, .non, by rw [AT.data], by rw [AT.wid, dw] <;> nofun, by rw [AT.txt]⟩
  | _, _, .bl b => ⟨.leaf (.bool b), .bl b, by rw [AT.data], by rw [AT.wid, dw] <;> nofun, by rw [AT.txt]⟩
  | _, _, .int i => ⟨.leaf (.int i), .int i, by rw [AT.data], by rw [AT.wid, dw] <;> nofun, by rw [AT.txt]⟩
  | _, _, .str x => ⟨.leaf (.str x), .str x, by rw [AT.data], by rw [AT.wid, dw] <;> nofun, by rw [AT.txt]⟩
  | _, _, .lst (a := a) h q => by
    obtain ⟨l, h1, h2, h3, h4⟩ := dp_apAll q
    refine ⟨.lst a l, .lst h h1, by rw [AT.data, h2], by rw [AT.wid, dw, h3], ?_⟩
    rw [PyData.shown, ← h4]
    cases l with
    | nil =>
      rw [AT.txt, AT.txtAll]
      exact listText_nil.symm
    | cons t l =>
      rw [AT.txt, AT.txtAll]
      rfl
  | _, _, .tup (a := a) h q => by
    obtain ⟨l, h1, h2, h3, h4⟩ := dp_apAll q
    refine ⟨.tup a l, .tup h h1, by rw [AT.data, h2], by rw [AT.wid, dw, h3], ?_⟩
    rw [PyData.shown, ← h4, AT.txt]
    rfl
theorem dp_apAll {K : PySem.W.Frag} {H : Hp} : ∀ {vs : List V} {ds : List PyData}, DpAll K H vs ds → ∃ l : List AT, ApAll K H vs l ∧ AT.dataAll l = ds ∧ AT.widAll l = dwAll ds ∧ AT.txtAll [] l = PyData.shownAll ds
  | _, _, .nil => ⟨[], .nil, by rw [AT.dataAll], by rw [AT.widAll, dwAll], by rw [AT.txtAll, PyData.shownAll]⟩
  | _, _, .cons h q => by
    obtain ⟨t, a1, a2, a3, a4⟩ := dp_ap h
    obtain ⟨l, b1, b2, b3, b4⟩ := dp_apAll q
    exact ⟨t :: l, .cons a1 b1, by rw [AT.dataAll, a2, b2], by rw [AT.widAll, dwAll, a3, b3], by rw [AT.txtAll, PyData.shownAll, a4, b4]⟩
end
structure Shn (d : PyData) : Prop where
  s : d.showable = true
  w : dw d ≤ sizeLine
  d : d.depth ≤ 40
def rRepG (K : PySem.W.Frag) : List V → Hp → VK → Prop := fun xs H Q => ∃ (v : V) (d : PyData), xs = [v] ∧ Dp K H v d ∧ Shn d ∧ Q (.str d.shown) H
theorem call_reprG {X : Cx} (hg : X.A.guards = some []) (hu : X.A.units + 64 < cLine) : CallR X (.builtin "repr") (rRepG X.K) := by
  intro pins s σ H xs us Q I r h
  obtain ⟨v, d, rfl, hd, hs, q⟩ := h
  obtain ⟨t, h1, h2, h3, h4⟩ := dp_ap hd
  refine call_reprA hg hu pins s σ H _ us Q I r ⟨v, t, rfl, h1, by rw [h2]; exact hs.s, by rw [h3]; exact hs.w, by rw [h2]; exact hs.d, ?_⟩
  rw [h4]
  exact q
end
/-! ### defs that are called while nothing is being shown -/
section
open PySem.Spec PyProof.Rows
/-- a def's promise where no repr is under way -/
structure FnG (P : Program) (w : World) (K : PySem.W.Frag) (mg : Str → Option Value) (base : Heap) (CX : CXT) (k : Nat) (f : Addr) (fd : FuncData) (ps : List Str) (sp : Sp) : Prop where
  len : ∀ vs H Q E, sp vs H Q E → vs.length = ps.length
  run : ∀ (A : Around) (outer : List Env) (s : Shared) (H : Hp) (args : Args) (us : List Value) (vs : List V) (Q : VK) (E : XK), A.guards = some [] → Room k A → Env0 P w K mg base A outer s H → BindsTo s fd args (ps.zip us) → Vals vs us → sp vs H Q E →
    codeAny (model P w) A (.call (.ref f) args) (CR CX outer P w H s Q E) s
variable {P : Program} {w : World} {K : PySem.W.Frag} {mg : Str → Option Value} {base : Heap} {CX : CXT} {k : Nat} {f : Addr} {fd : FuncData} {N ps : List Str} {sp : Sp}
theorem FnG.of (F : FnOk P w K mg base CX k f fd ps sp) : FnG P w K mg base CX k f fd ps sp := ⟨F.len, fun A outer s H args us vs Q E _ => F.run A outer s H args us vs Q E⟩
theorem okG {x qual : Str} {st : Stmt} (F : Fun K x qual st f fd) (S : FnScope N ps (defScope st)) (len : ∀ vs H Q E, sp vs H Q E → vs.length = ps.length)
    (body : ∀ (cdv : Value) (A : Around) (outer : List Env) (s : Shared) (H : Hp) (vs : List V) (Q : VK) (E : XK), A.guards = some [] → Room k (A.deeper (envOfC qual (defScope st) s.heap.objs.size f cdv)) → sp vs H Q E →
      ∃ t, PSs (cxOf CX0 P w K mg base N qual (defScope st) f cdv A outer s H E).nox (defBody st) t ∧ t { nx := fun _ H' => Q .non H', rt := Q } (L2.start N vs) H) : FnG P w K mg base CX0 (k + 1) f fd ps sp := by
  obtain ⟨oc, od, kV, doc, pm, an, cdv, ct, osl, rfl, lk, hcd⟩ := F.ex
  refine ⟨len, fun A outer s H args us vs Q E hgd hr e0 hb r hsp => ?_⟩
  have keeps : ∀ b o, base.get? b = some o → s.heap.get? b = some o := fun b o e => (e0.bs b o e).1
  have KX : K.In s.heap := e0.mod.kin.keeps keeps
  have kinds : ∀ y ∈ ps.zip us, (defScope st).names.lookup y.1 = some .local ∨ ((defScope st).names.lookup y.1 = some .cell ∧ ((cellsFrom (s.heap.objs.size + 1) (defScope st).names []).lookup y.1).isSome = true) := by
    rintro ⟨n, v⟩ hy
    rcases S.par n (List.of_mem_zip hy).1 with q | q
    · exact .inl q
    · exact .inr ⟨q, PySem.W.cellsFrom_some _ _ _ (.inl q)⟩
  refine codeAny_call_function hr.depth (KX _ _ lk) rfl S.co S.gen rfl (PySem.W.codeRec_of KX hcd) (hb _ _ _ _ (wpAny_newFunctionEnv_cells S.kind kinds fun env he s1 x => ?_))
  subst he
  refine ⟨(e0.mod.nolimit.keeps keeps).keeps x.toInCall.keep, codeAny_func ?_⟩
  obtain ⟨t, ht, hq⟩ := body cdv A outer s H vs Q E hgd (hr.deeper _) hsp
  have I := inv_start (CX := CX0) (E := E) S hr.hd e0 (len _ _ _ _ hsp) r x
  refine wpAny_mono (ht.nox.run [] s1 (L2.start N vs) H _ I hq) (fun fl s' z => ?_) fun e s' z => z
  cases fl with
  | ret u =>
    obtain ⟨v, σ', H', J, rv, z⟩ := z
    exact ⟨v, H', J.os, J.bare, J.base, J.hok, rv, z⟩
  | next =>
    obtain ⟨σ', H', J, z⟩ := z
    exact ⟨V.non, H', J.os, J.bare, J.base, J.hok, rfl, z⟩
  | brk =>
    obtain ⟨_, _, _, z⟩ := z
    exact z.elim
  | cont =>
    obtain ⟨_, _, _, z⟩ := z
    exact z.elim
variable {X : Cx} {dvs : List V} {ds : List Value} {E : XK} {x : Str} {p pos : Pos} {e : Expr} {es : List Expr} {t : TA}
theorem pe_callG (F : FnG X.prog X.w X.K X.mg X.base CX k f fd ps sp) (gd : X.A.guards = some []) (hr : Room k X.A) (hg : Gl X x) (hm : X.mg x = some (.ref f)) (hk : PySem.W.keepIn X.K (.ref f) = true) (hb : Binds X.K fd ps ds) (hd : Vals dvs ds) (hx : Passes CX X E) (ha : PA X (e :: es) t)
    (hdb : (x == ("__debug__" : Str)) = false := by decide) (he : starEach (e :: es) X.env = (false, eval e X.env) :: starEach es X.env := by rfl) (hpl : (backTo pos (starEach es X.env)).any (·.1) = false := by rfl) : PE X (.Call (.Name x p) (e :: es) [] pos) (tCall sp dvs E t) := by
  refine ⟨fun pins s σ H Q I h => wpAny_Call_Name_kw (ld_glob I hg hm ?_ hdb)⟩
  refine PySem.W.callWith_K (h₀ := X.base) I.ok.mod.kin hk (thn (ha.run pos pins s σ H _ I h) fun us s1 ⟨vs, H1, J, r, q⟩ => ⟨J.kIn, ?_⟩) he hpl
  have r2 : Vals (vs ++ dvs) (us ++ ds) := r.append hd
  refine wpAny_call (codeAny_mono (F.run X.A X.stack s1 H1 ⟨us, []⟩ (us ++ ds) (vs ++ dvs) Q E gd hr J.env0 (hb s1 us J.kIn (by rw [← r2.length]; exact F.len _ _ _ _ q)) r2 q) fun z s' hz => ?_)
  cases z with
  | error u => exact hx pins σ H1 s1 u s' J hz
  | ok fl =>
    cases fl with
    | ret u => exact J.after hz
    | next => exact hz.elim
    | brk => exact hz.elim
    | cont => exact hz.elim
end
section
open PySem.Spec PyProof.Rows
/-- the law's own call: nothing is being shown around it -/
theorem law_callG {P : Program} {w : World} {K : PySem.W.Frag} {mg mb : Str → Option Value} {k : Nat} {fa a : Addr} {fd : FuncData} {x : Str} {sp : Sp} {s1 : Shared} {vs : List Value} {ns : List Int} (KX : K.In s1.heap) (hns : s1.heap.Ns mainGlobals mg) (hb : s1.heap.Ns builtinsNs mb)
    (hbb : ∀ x : Str, x ≠ "__name__" → mb x = bootBuiltins x) (hlim : s1.heap.NoLimit) (hg : s1.gens = #[]) (ha : s1.heap.get? a = some { cls := .type "list", data := .seq vs.toArray }) (hi : IntsAre vs ns) (hl : ns.length ≤ sizeLine) (hr : Room k callerA)
    (F : ∀ base : Heap, K.In base → base.Ns mainGlobals mg → FnG P w K mg base CX0 k fa fd [x] sp) (hbind : ∀ (s : Shared) (u : Value), BindsTo s fd ⟨[u], []⟩ [(x, u)]) (hsp : ∀ H : Hp, Only H → SqL K H a (ns.map V.int) → sp [.ref a] H (fun v _ => v = .bl true) fun _ _ _ => False)
    : codeAny (model P w) callerA (.call (.ref fa) ⟨[.ref a], []⟩) (fun r s' => r = .ok (.ret (.bool true)) ∧ OldK s1.heap s'.heap ∧ s'.os = s1.os ∧ AllBare s'.gens) s1 := by
  have rv := vals_ints hi
  have lv := hi.length
  have main : ∀ H : Hp, Only H → SqL K H a (ns.map V.int) → HOk P w H s1.heap → (∀ b u, H b = some u → b = a) → (∀ u, H a = some u → K.lookup a = none) →
      codeAny (model P w) callerA (.call (.ref fa) ⟨[.ref a], []⟩) (fun r s' => r = .ok (.ret (.bool true)) ∧ OldK s1.heap s'.heap ∧ s'.os = s1.os ∧ AllBare s'.gens) s1 := by
    intro H hO hS hok hA hK
    have isn : ∀ {b : Addr}, b ≠ a → H b = none := fun {b} n => by
      cases q : H b with
      | none => rfl
      | some u => exact absurd (hA b u q) n
    have bn : ∀ {b : Addr} {m : Str → Option Value}, s1.heap.Ns b m → (hidT s1.heap H).Ns b m := by
      rintro b m ⟨o, es, ep, e, d, r⟩
      refine ⟨o, es, ep, hidT_get e (isn fun z => ?_), d, r⟩
      rw [z, ha] at e
      cases e
      cases d
    have bK : K.In (hidT s1.heap H) := fun b o e => hidT_get (KX b o e) (by
      cases q : H b with
      | none => rfl
      | some u =>
        have z := hA b u q
        subst z
        rw [hK u q] at e
        cases e)
    have lm : (hidT s1.heap H).NoLimit := by
      obtain ⟨mc, h1, h2⟩ := hlim
      exact ⟨mc, bn h1, h2⟩
    have e0 : Env0 P w K mg (hidT s1.heap H) callerA [] s1 H := ⟨rfl, ⟨bK, bn hns, ⟨mb, bn hb, hbb⟩, lm⟩, fun b o e => of_hidT e, Nat.le_of_eq (hidT_size _ _), trivial, (fun b z => nomatch z), hok, .of_eq hg⟩
    refine codeAny_mono ((F _ bK (bn hns)).run callerA [] s1 H ⟨[.ref a], []⟩ [.ref a] [.ref a] _ _ rfl hr e0 (hbind s1 (.ref a)) (.cons rfl .nil) (hsp H hO hS)) fun r s' h => ?_
    cases r with
    | error e => exact False.elim h
    | ok fl =>
      cases fl with
      | next => exact False.elim h
      | brk => exact False.elim h
      | cont => exact False.elim h
      | ret u =>
        obtain ⟨v, H', os, bare, un, hok', r', q⟩ := h
        have qv : v = .bl true := q
        subst qv
        obtain rfl : u = Value.bool true := r'
        refine ⟨rfl, OldK.of_keep fun b o e => ?_, os, bare⟩
        cases q : H b with
        | none => exact un.keep b o e q (fun z => nomatch z) (fun z => nomatch z)
        | some u =>
          rcases hO b with z | ⟨ob, xs, z⟩
          · rw [z] at q
            cases q
          · obtain ⟨e1, _⟩ := hok b _ z
            obtain ⟨e2, _⟩ := hok' b _ (un.frzs b ob _ z)
            rw [e1] at e
            cases e
            exact e2
  cases hk : K.lookup a with
  | some o =>
    have e := (KX a o hk).symm.trans ha
    cases e
    exact main (fun _ => none) (fun _ => .inl rfl) (.inr ⟨_, vs.toArray, _, hk, rfl, rfl, rfl, by rw [List.size_toArray, lv]; exact hl, by simpa using rv⟩) (fun b u z => nomatch z) (fun b u z => nomatch z) fun u z => nomatch z
  | none =>
    have gA : ∀ b u, (if b = a then some (HO.frz { cls := .type "list", data := .seq vs.toArray } (.lst (ns.map V.int))) else none) = some u → b = a ∧ u = HO.frz { cls := .type "list", data := .seq vs.toArray } (.lst (ns.map V.int)) := by
      intro b u z
      by_cases c : b = a
      · rw [if_pos c] at z
        exact ⟨c, (Option.some.inj z).symm⟩
      · rw [if_neg c] at z
        cases z
    refine main (fun b => if b = a then some (.frz { cls := .type "list", data := .seq vs.toArray } (.lst (ns.map V.int))) else none) (fun b => ?_) (.inl (.inr ⟨{ cls := .type "list", data := .seq vs.toArray }, if_pos rfl⟩)) (fun b u z => ?_) (fun b u z => (gA b u z).1) fun _ _ => hk
    · by_cases c : b = a
      · exact .inr ⟨_, _, if_pos c⟩
      · exact .inl (if_neg c)
    · obtain ⟨rfl, rfl⟩ := gA b u z
      exact ⟨ha, by rw [List.length_map]; exact hl, vs, _, rv, ha⟩
theorem walk_ofG {l : PySem.W.OpenLaw} {n k : Nat} {q : Program} {loose : List Str} {XP : (Str → Option Value) → Heap → Prop} {YP : World → Heap → Prop} {d : DefRec} {K : Params → PySem.W.Frag} {sp : World → Sp} {x : Str} (hn : l.most = some n) (hn2 : n ≤ sizeLine) (hdf : d.params.defaults = []) (hr : Room k callerA)
    (hY : ∀ (w : World) (h : Heap), YP w h → (K w.params).In h)
    (F : ∀ (w : World) (mg : Str → Option Value) (fa : Addr) (h : Heap), (K w.params).In h → h.Ns mainGlobals mg → mg d.name = some (.ref fa) → ∃ fd : FuncData, (∀ (s : Shared) (u : Value), BindsTo s fd ⟨[u], []⟩ [(x, u)]) ∧ ∀ base : Heap, (K w.params).In base → base.Ns mainGlobals mg → FnG l.prog w (K w.params) mg base CX0 k fa fd [x] (sp w))
    (hsp : ∀ (w : World) (H : Hp) (a : Addr) (ns : List Int), ns.length ≤ n → Only H → SqL (K w.params) H a (ns.map V.int) → sp w [.ref a] H (fun v _ => v = .bl true) fun _ _ _ => False) : PySem.W.WalkO q loose XP YP l.row.toRowW d [] (fun f vs => PySem.call f vs) := by
  refine Att.attach_call hn hdf fun w s₀ s1 mg mb fa o pm cd doc a vs ns G Y ho hd hcd hmg hobj hints hlen hg => ?_
  obtain ⟨fd, hb, hF⟩ := F w mg fa _ (hY w _ Y) G.T.g hmg
  exact law_callG (hY w _ Y) G.T.g G.T.b G.T.builtins G.T.nolimit hg hobj hints (Nat.le_trans hlen hn2) hr hF hb fun H hO hS => hsp w H a ns hlen hO hS
end
/-! ### things, by what they are -/
def intD : PyData → Bool
  | .int _ => true
  | _ => false
def tyD : PyData → String
  | .none => "NoneType"
  | .bool _ => "bool"
  | .int _ => "int"
  | .str _ => "str"
  | .list _ => "list"
  | .tuple _ => "tuple"
  | .dict _ => "dict"
theorem kdD {K : PySem.W.Frag} {H : Hp} {v : V} {d : PyData} (h : Dp K H v d) : Kd K H v (tyD d) := by
  cases h with
  | non => exact .non
  | bl b => exact .bl b
  | int i => exact .int i
  | str x => exact .str x
  | lst h _ => exact .lst h
  | tup h _ => exact .tup h
theorem tyD_int (d : PyData) : (tyD d == "int") = intD d := by
  cases d <;> rfl
/-! ### small things -/
structure Sm (B k : Nat) (d : PyData) : Prop where
  l : d.canLay0 = true
  s : d.showable = true
  w : dw d ≤ B
  p : d.depth ≤ k
theorem Sm.up {B k B' k' : Nat} {d : PyData} (h : Sm B k d) (e : B ≤ B') (f : k ≤ k') : Sm B' k' d := ⟨h.l, h.s, Nat.le_trans h.w e, Nat.le_trans h.p f⟩
theorem sm_all {B k : Nat} : ∀ {ds : List PyData}, (∀ d ∈ ds, Sm B k d) → PyData.canLayAll0 ds = true ∧ PyData.showableAll ds = true ∧ dwAll ds ≤ (B + 2) * ds.length ∧ PyData.depthAll ds ≤ k
  | [], _ => ⟨by rw [PyData.canLayAll0], by rw [PyData.showableAll], by rw [dwAll]; exact Nat.zero_le _, by rw [PyData.depthAll]; exact Nat.zero_le _⟩
  | d :: r, h => by
    obtain ⟨a, b, c, e⟩ := sm_all fun x hx => h x (List.mem_cons_of_mem _ hx)
    have hd := h d List.mem_cons_self
    refine ⟨by rw [PyData.canLayAll0, hd.l, a]; rfl, by rw [PyData.showableAll, hd.s, b]; rfl, ?_, by rw [PyData.depthAll]; exact Nat.max_le.mpr ⟨hd.p, e⟩⟩
    have := hd.w
    rw [dwAll, List.length_cons, Nat.mul_succ]
    omega
theorem Sm.lst {B k n : Nat} {ds : List PyData} (hn : ds.length ≤ n) (h : ∀ d ∈ ds, Sm B k d) : Sm (6 + (B + 2) * n) (k + 1) (.list ds) := by
  obtain ⟨a, b, c, e⟩ := sm_all h
  have := Nat.mul_le_mul_left (B + 2) hn
  exact ⟨by rw [PyData.canLay0]; exact a, by rw [PyData.showable]; exact b, by rw [dw]; omega, by rw [PyData.depth]; omega⟩
theorem Sm.tup {B k n : Nat} {ds : List PyData} (hn : ds.length ≤ n) (h : ∀ d ∈ ds, Sm B k d) : Sm (6 + (B + 2) * n) (k + 1) (.tuple ds) := by
  obtain ⟨a, b, c, e⟩ := sm_all h
  have := Nat.mul_le_mul_left (B + 2) hn
  exact ⟨by rw [PyData.canLay0]; exact a, by rw [PyData.showable]; exact b, by rw [dw]; omega, by rw [PyData.depth]; omega⟩
theorem Sm.shn {B k : Nat} {d : PyData} (h : Sm B k d) (e : B ≤ 16777216) (f : k ≤ 40) : Shn d := by
  have hz : sizeLine = 16777216 := by decide
  exact ⟨h.s, by have := h.w; omega, Nat.le_trans h.p f⟩
theorem Sm.shaped {B k : Nat} {d : PyData} (h : Sm B k d) (f : k ≤ 64) : SeqAt.shaped d = true := by
  unfold SeqAt.shaped
  rw [h.l, decide_eq_true (Nat.le_trans h.p f)]
  rfl
theorem sm_int {i : Int} (h : i.natAbs ≤ 100000000000) : Sm 13 0 (.int i) := by
  have h1 : PyData.showable (.int i) = true := by
    rw [PyData.showable]
    refine decide_eq_true ?_
    have h1 : i.natAbs < 2 ^ 40 := by
      have : (2 : Nat) ^ 40 = 1099511627776 := by decide
      omega
    by_cases c : i.natAbs = 0
    · rw [c]
      decide
    · exact Nat.lt_trans ((Nat.log2_lt c).mpr h1) (by decide)
  have h2 : (PyData.shown (.int i)).length ≤ 13 := PyData.shown_int_le2 (by omega) (by omega)
  have h3 : dw (.int i) = (PyData.shown (.int i)).length := by rw [dw] <;> nofun
  exact ⟨by rw [PyData.canLay0], h1, by omega, by rw [PyData.depth]; exact Nat.le_refl _⟩
theorem sm_non : Sm 13 0 .none := ⟨by rw [PyData.canLay0], by rw [PyData.showable], by decide +kernel, by rw [PyData.depth]; exact Nat.le_refl _⟩
theorem sm_bl (b : Bool) : Sm 13 0 (.bool b) := ⟨by rw [PyData.canLay0], by rw [PyData.showable], by cases b <;> decide +kernel, by rw [PyData.depth]; exact Nat.le_refl _⟩
theorem sm_e : Sm 13 0 (.str "") := ⟨by decide +kernel, by rw [PyData.showable], by decide +kernel, by rw [PyData.depth]; exact Nat.le_refl _⟩
theorem sm_0 : Sm 13 0 (.str "0") := ⟨by decide +kernel, by rw [PyData.showable], by decide +kernel, by rw [PyData.depth]; exact Nat.le_refl _⟩
section
open PySem.Spec PyProof.Rows
variable {P : Program} {w : World} {K : PySem.W.Frag} {mg : Str → Option Value} {base : Heap}
theorem fnor {CX : CXT} {k : Nat} {f : Addr} {fd : FuncData} {ps : List Str} {sp sp1 sp2 : Sp} (G1 : FnOk P w K mg base CX k f fd ps sp1) (G2 : FnOk P w K mg base CX k f fd ps sp2) (h : ∀ vs H Q E, sp vs H Q E → sp1 vs H Q E ∨ sp2 vs H Q E) : FnOk P w K mg base CX k f fd ps sp :=
  ⟨fun vs H Q E x => (h vs H Q E x).elim (G1.len vs H Q E) (G2.len vs H Q E), fun A outer s H args us vs Q E hr e0 hb r x => (h vs H Q E x).elim (G1.run A outer s H args us vs Q E hr e0 hb r) (G2.run A outer s H args us vs Q E hr e0 hb r)⟩
end
/-! ### each prime has a generator: looked up by the kernel -/
def pm (m : Nat) : Nat → Nat → Nat → Nat
  | 0, _, _ => 1 % m
  | k + 1, b, e => if e % 2 = 1 then b * pm m k (b * b % m) (e / 2) % m else pm m k (b * b % m) (e / 2)
theorem npow_mod (a m : Nat) (k : Nat) : (a % m) ^ k % m = a ^ k % m := (Nat.pow_mod a k m).symm
theorem npow_sq (b k : Nat) : (b * b) ^ k = b ^ (2 * k) := by
  rw [Nat.pow_mul, Nat.pow_two]
theorem pm_eq (m : Nat) : ∀ k b e : Nat, e < 2 ^ k → pm m k b e = b ^ e % m
  | 0, b, e, h => by
    have : e = 0 := by
      have : (2 : Nat) ^ 0 = 1 := rfl
      omega
    subst this
    show 1 % m = b ^ 0 % m
    rw [Nat.pow_zero]
  | k + 1, b, e, h => by
    have he : e / 2 < 2 ^ k := by
      rw [Nat.pow_succ] at h
      omega
    have ih := pm_eq m k (b * b % m) (e / 2) he
    show (if e % 2 = 1 then b * pm m k (b * b % m) (e / 2) % m else pm m k (b * b % m) (e / 2)) = _
    rw [ih, npow_mod, npow_sq]
    split
    · rename_i o
      have e2 : e = 2 * (e / 2) + 1 := by omega
      conv => rhs; rw [e2, Nat.pow_succ, Nat.mul_comm (b ^ _) b, Nat.mul_mod]
      rw [Nat.mul_mod, Nat.mod_mod]
    · have e2 : e = 2 * (e / 2) := by omega
      conv => rhs; rw [e2]
def okGn (p g d : Nat) : Bool := if (p - 1) % d = 0 then (pm p 20 g ((p - 1) / d) != 1) && (decide (d = p - 1) || (pm p 20 g d != 1)) else true
def okAll (p g s : Nat) : Bool := decide (2 ≤ g) && (decide (g < p) && (List.range' 2 (s - 1)).all (okGn p g))
def fnd (p s : Nat) : Nat → Nat → Nat
  | 0, g => g
  | k + 1, g => if okAll p g s = true then g else fnd p s k (g + 1)
def isPr (p : Nat) : Bool := (List.range' 2 99).all fun d => decide (p < d * d) || decide (p % d ≠ 0)
def chk (p : Nat) : Bool := !isPr p || okAll p (fnd p 100 60 2) 100
theorem chk1 : (List.range' 3 2498).all chk = true := by decide +kernel
theorem chk2 : (List.range' 2501 2500).all chk = true := by decide +kernel
theorem chk3 : (List.range' 5001 2500).all chk = true := by decide +kernel
theorem chk4 : (List.range' 7501 2500).all chk = true := by decide +kernel
theorem okG_at {p g s : Nat} (h : okAll p g s = true) {d : Nat} (d2 : 2 ≤ d) (ds : d ≤ s) (hd : d ∣ p - 1) (hp : p ≤ 1048576) (hp3 : 3 ≤ p) : ¬ g ^ ((p - 1) / d) % p = 1 ∧ (d ≠ p - 1 → ¬ g ^ d % p = 1) := by
  unfold okAll at h
  simp only [Bool.and_eq_true, decide_eq_true_eq, List.all_eq_true] at h
  have h1 := h.2.2 d (List.mem_range'_1.mpr ⟨d2, by omega⟩)
  unfold okGn at h1
  rw [if_pos (Nat.mod_eq_zero_of_dvd hd)] at h1
  have e20 : (2 : Nat) ^ 20 = 1048576 := by decide
  have dle : d ≤ p - 1 := Nat.le_of_dvd (by omega) hd
  have qle : (p - 1) / d ≤ p - 1 := Nat.div_le_self _ _
  rw [pm_eq p 20 g _ (by omega), pm_eq p 20 g _ (by omega)] at h1
  simp only [Bool.and_eq_true, Bool.or_eq_true, decide_eq_true_eq, bne_iff_ne, ne_eq] at h1
  exact ⟨h1.1, fun z => h1.2.resolve_left z⟩
/-- what was looked up is enough -/
theorem gen_of {p g s : Nat} (h : okAll p g s = true) (hp : p ≤ 1048576) (hp3 : 3 ≤ p) (hs : p ≤ (s + 1) * (s + 1)) {out : List Int} (ho : ∀ k ∈ out, 2 ≤ k ∧ k ∣ (p : Int) - 1) : 1 ≤ (g : Int) ∧ (g : Int) < p ∧ GenOk p g (erl p out) := by
  have h0 := h
  unfold okAll at h0
  simp only [Bool.and_eq_true, decide_eq_true_eq] at h0
  refine ⟨by omega, by omega, ?_⟩
  intro e he z
  obtain ⟨f, hf, ef⟩ := List.mem_map.mp he
  obtain ⟨f2, fd⟩ := ho f hf
  -- all in naturals
  have ep : ((p - 1 : Nat) : Int) = (p : Int) - 1 := by omega
  have fN : ((f.toNat : Nat) : Int) = f := Int.toNat_of_nonneg (by omega)
  have fdN : f.toNat ∣ p - 1 := by
    rw [← Int.natCast_dvd_natCast, fN, ep]
    exact fd
  have eN : e.toNat = (p - 1) / f.toNat := by
    rw [← ef]
    have : ((p : Int) - 1) / f = (((p - 1) / f.toNat : Nat) : Int) := by
      rw [Int.natCast_ediv, ep, fN]
    rw [this]
    rfl
  have zN : g ^ e.toNat % p = 1 := by
    have : ((g ^ e.toNat % p : Nat) : Int) = 1 := by
      rw [Int.natCast_emod, Int.natCast_pow]
      exact z
    omega
  rw [eN] at zN
  by_cases fs : f.toNat ≤ s
  · exact (okG_at h (by omega) fs fdN hp hp3).1 zN
  · -- the partner is small
    have hq : (p - 1) / f.toNat * f.toNat = p - 1 := Nat.div_mul_cancel fdN
    have hqs : (p - 1) / f.toNat ≤ s := by
      apply Nat.le_of_not_gt
      intro v
      have : (s + 1) * (s + 1) ≤ (p - 1) / f.toNat * f.toNat := Nat.mul_le_mul v (by omega)
      omega
    have hq0 : (p - 1) / f.toNat ≠ 0 := fun v => by
      rw [v] at hq
      omega
    by_cases q1 : (p - 1) / f.toNat = 1
    · rw [q1, Nat.pow_one, Nat.mod_eq_of_lt h0.2.1] at zN
      omega
    · refine (okG_at h (d := (p - 1) / f.toNat) (by omega) hqs ⟨f.toNat, hq.symm⟩ hp hp3).2 ?_ zN
      intro v
      have : (p - 1) / f.toNat * 2 ≤ (p - 1) / f.toNat * f.toNat := Nat.mul_le_mul_left _ (by omega)
      omega
theorem isPr_of {p : Nat} (hp : p ≤ 10000) (h : ∀ d, 2 ≤ d → d * d ≤ p → ¬ d ∣ p) : isPr p = true := by
  unfold isPr
  rw [List.all_eq_true]
  intro d hd
  have h1 := List.mem_range'_1.mp hd
  rw [Bool.or_eq_true, decide_eq_true_iff, decide_eq_true_iff]
  by_cases z : p < d * d
  · exact .inl z
  · exact .inr fun e => h d h1.1 (by omega) (Nat.dvd_of_mod_eq_zero e)
theorem gen_small {p : Nat} (h3 : 3 ≤ p) (hp : p ≤ 10000) (h : ∀ d, 2 ≤ d → d * d ≤ p → ¬ d ∣ p) {out : List Int} (ho : ∀ k ∈ out, 2 ≤ k ∧ k ∣ (p : Int) - 1) : ∃ g0 : Int, 1 ≤ g0 ∧ g0 < p ∧ GenOk p g0 (erl p out) := by
  have hc : chk p = true := by
    by_cases a : p ≤ 2500
    · exact (List.all_eq_true.mp chk1) p (List.mem_range'_1.mpr ⟨h3, by omega⟩)
    · by_cases b : p ≤ 5000
      · exact (List.all_eq_true.mp chk2) p (List.mem_range'_1.mpr ⟨by omega, by omega⟩)
      · by_cases c : p ≤ 7500
        · exact (List.all_eq_true.mp chk3) p (List.mem_range'_1.mpr ⟨by omega, by omega⟩)
        · exact (List.all_eq_true.mp chk4) p (List.mem_range'_1.mpr ⟨by omega, by omega⟩)
  unfold chk at hc
  rw [isPr_of hp h] at hc
  have hk : okAll p (fnd p 100 60 2) 100 = true := by simpa using hc
  obtain ⟨a, b, c⟩ := gen_of hk (by omega) h3 (by omega) ho
  exact ⟨_, a, b, c⟩
abbrev s__law_same : Stmt := top 32
abbrev N__law_same : List Str := ["_law_found", "_law_due", "_law_one", "_law_two"]
abbrev P__law_same : List Str := ["_law_found", "_law_due"]
theorem sc__law_same : FnScope N__law_same P__law_same (defScope s__law_same) := ⟨rfl, rfl, rfl, by decide +kernel, rfl, by decide +kernel, by decide +kernel⟩
section
variable {P : Program} {w : World} {K : PySem.W.Frag} {mg : Str → Option Value} {base : Heap}
end
theorem all_gen {p x : Int} {out : List Int} : ((out.map fun f => !decide (x ^ ((p - 1) / f).toNat % p = 1)).all id = true) ↔ GenOk p x (erl p out) := by
  rw [List.all_eq_true]
  constructor
  · intro h e he
    obtain ⟨f, hf, ef⟩ := List.mem_map.mp he
    have := h _ (List.mem_map.mpr ⟨f, hf, rfl⟩)
    rw [← ef]
    simpa using this
  · intro h b hb
    obtain ⟨f, hf, ef⟩ := List.mem_map.mp hb
    have := h _ (List.mem_map.mpr ⟨f, hf, rfl⟩)
    rw [← ef]
    simpa using this
theorem ne_dec (x y : Int) : (!decide (V.int x = V.int y)) = !decide (x = y) := by
  by_cases c : x = y
  · rw [decide_eq_true c, decide_eq_true (congrArg V.int c)]
  · rw [decide_eq_false c, decide_eq_false fun z => c (V.int.inj z)]
def spPowL (lim : Int) : Sp := fun vs H Q _ => ∃ (b e m : Int), vs = [.int b, .int e, .int m] ∧ 0 ≤ e ∧ e < lim ∧ 1 ≤ m ∧ m ≤ 1000000 ∧ 0 ≤ b ∧ b ≤ 1000000 ∧ Q (.int (b ^ e.toNat % m)) H
abbrev s__law_is_plain_prime : Stmt := top 34
abbrev N__law_is_plain_prime : List Str := ["_law_number", "_law_small", "_law_part"]
abbrev P__law_is_plain_prime : List Str := ["_law_number"]
theorem sc__law_is_plain_prime : FnScope N__law_is_plain_prime P__law_is_plain_prime (defScope s__law_is_plain_prime) := ⟨rfl, rfl, rfl, by decide +kernel, rfl, by decide +kernel, by decide +kernel⟩
def spPrm : Sp := fun vs H Q _ => ∃ (n : Int), vs = [.int n] ∧ 0 ≤ n ∧ n ≤ 3000 ∧ ∀ (b : Bool) H', Same H H' → (b = true ↔ 2 ≤ n ∧ Rough n n) → Q (.bl b) H'
theorem rough_sq {n : Int} (h2 : 2 ≤ n) : Rough n n ↔ ∀ d, 2 ≤ d → d * d ≤ n → ¬ d ∣ n := by
  constructor
  · intro r d d2 dd
    have : 2 * d ≤ d * d := Int.mul_le_mul_of_nonneg_right d2 (by omega)
    exact r d d2 (by omega)
  · intro h e e2 en ed
    obtain ⟨q, hq⟩ := ed
    have q0 : 0 < q := by
      apply Int.lt_of_not_ge
      intro z
      have : e * q ≤ 0 := Int.mul_nonpos_of_nonneg_of_nonpos (by omega) z
      omega
    have q1 : q ≠ 1 := fun z => by
      rw [z, Int.mul_one] at hq
      omega
    by_cases le : e ≤ q
    · have : e * e ≤ e * q := Int.mul_le_mul_of_nonneg_left le (by omega)
      exact h e e2 (by omega) ⟨q, hq⟩
    · have : q * q ≤ e * q := Int.mul_le_mul_of_nonneg_right (by omega) (by omega)
      exact h q (by omega) (by omega) ⟨e, by rw [hq, Int.mul_comm]⟩
section
variable {P : Program} {w : World} {K : PySem.W.Frag} {mg : Str → Option Value} {base : Heap}
theorem ok_prm {f : Addr} {fd : FuncData} {k : Nat} (F : Fun K "_law_is_plain_prime" "_law_is_plain_prime" s__law_is_plain_prime f fd) (T : Blt mg) : FnOk P w K mg base CX0 (k + 1) f fd P__law_is_plain_prime spPrm := by
  have nd := sc__law_is_plain_prime.nd
  refine F.ok sc__law_is_plain_prime (fun vs H Q E h => ?_) (fun cdv A outer s H vs Q E hr h => ?_)
  · obtain ⟨n, rfl, _⟩ := h
    rfl
  · obtain ⟨n, rfl, h0, h1, q⟩ := h
    refine ⟨_, (pss_cons (ps_setLc (i := 1) (own := [("_law_part", 2)]) (g := gName 2) (by rfl) nd rfl rfl (sw_true rfl rfl rfl (by decide +kernel)) (pi_range2 (by rfl) T.b_range (pa_cons (pe_int) (pa_cons (pv 0) pa_nil))) (blkOk_by (own := [("_law_part", 2)]) (N := N__law_is_plain_prime) (sc := defScope s__law_is_plain_prime) (by decide +kernel)) (fun _ _ _ _ _ => (pg_name (i := 2) nd rfl (Or.inl rfl))) (fun _ _ _ _ _ => pts_one (pt_cmpR op_le (pe_op op_mul (pv 2) (pv 2)) (pv 0) (nomark _))) (fun _ _ _ _ _ => (pv 2)))
      (pss_one (ps_ret (pe_and (pe_cmpR op_gt (pv 0) (pe_int) (nomark _)) (pe_one (pe_callB (r := rAll K) (cr_all rfl) (by rfl) T.b_all (by decide +kernel) (pa_cons (pe_lc (own := [("_law_part", 2)]) (g := gName 2) (by rfl) nd (pi_list (pv 1)) (blkOk_by (own := [("_law_part", 2)]) (N := N__law_is_plain_prime) (sc := defScope s__law_is_plain_prime) (by decide +kernel)) (fun _ _ _ _ _ => (pg_name (i := 2) nd rfl (Or.inl rfl))) (fun _ _ _ _ _ => pts_nil) (fun _ _ _ _ _ => (pe_cmpR op_gt (pe_op op_mod (pv 0) (pv 2)) (pe_int) (nomark _)))) pa_nil))))))), ?_⟩
    walk_at "ev"
    intro D hD
    refine lc_range (lo := 2) (n := _) (fun i H' => Hold (∃ ms : List Int, Same H H' ∧ H' D = some (.lst (ms.map V.int)) ∧ ms.length ≤ i ∧ (∀ m, m ∈ ms ↔ 2 ≤ m ∧ m < 2 + (i : Int) ∧ m * m ≤ n))) (.mk ⟨[], same_new hD, upd_same, Nat.zero_le _, fun m => ⟨fun z => by simp at z, fun z => by omega⟩⟩) ?_ ?_
    · intro i H2 hi hP
      obtain ⟨ms, sm2, hD2, hl, hm⟩ := hP.un
      have hcm : CMul (2 + (i : Int)) (2 + i) := .inl ⟨by omega, by omega⟩
      have hfl : (ms.map V.int).length < sizeLine := by
        rw [List.length_map]
        exact szm (by omega)
      walk_at "ev"
      refine ite2 (fun e => ?_) (fun e => ?_)
      · have e1 : (2 + (i : Int)) * (2 + i) ≤ n := of_decide_eq_true e
        walk_at "ev"
        refine .mk ⟨ms ++ [2 + (i : Int)], same_mut sm2 hD, ?_, ?_, fun m => ?_⟩
        · rw [upd_same, List.map_append]
          rfl
        · simp
          omega
        · rw [List.mem_append, List.mem_singleton, hm]
          constructor
          · rintro (⟨a, b, c⟩ | z)
            · exact ⟨a, by omega, c⟩
            · rw [z]
              exact ⟨by omega, by omega, e1⟩
          · rintro ⟨a, b, c⟩
            by_cases z : m = 2 + (i : Int)
            · exact .inr z
            · exact .inl ⟨a, by omega, c⟩
      · have e1 : ¬ (2 + (i : Int)) * (2 + i) ≤ n := fun z => e (decide_eq_true z)
        refine .mk ⟨ms, sm2, hD2, by omega, fun m => ?_⟩
        rw [hm]
        constructor
        · rintro ⟨a, b, c⟩
          exact ⟨a, by omega, c⟩
        · rintro ⟨a, b, c⟩
          refine ⟨a, ?_, c⟩
          have : m ≠ 2 + (i : Int) := fun z => e1 (z ▸ c)
          omega
    · intro H2 hP
      obtain ⟨ms, sm2, hD2, hl, hm⟩ := hP.un
      have hL : SqL K H2 D (ms.map V.int) := SqL.of hD2
      have hL' : ∃ xs, SqL K H2 D xs := ⟨_, hL⟩
      walk_at "ev"
      refine ite2 (fun e => ?_) (fun e => ?_)
      · have e1 : 1 < n := of_decide_eq_true e
        walk_at "ev"
        intro D3 hD3
        refine lc_list (K := K) (a := D) (xs := ms.map V.int) (fun i H' => Hold (Same H2 H' ∧ H' D3 = some (.lst (((ms.take i).map fun m => decide (0 < n % m)).map V.bl)))) (.mk ⟨same_new hD3, upd_same⟩) ?_ ?_ ?_
        · intro i H3 hi hP3
          obtain ⟨sm3, hD4⟩ := hP3.un
          exact sm3.seq hL
        · intro i v H3 hv hP3
          obtain ⟨sm3, hD4⟩ := hP3.un
          rw [List.getElem?_map] at hv
          obtain ⟨m, hmm, ev⟩ := Option.map_eq_some_iff.mp hv
          subst ev
          obtain ⟨m2, _, _⟩ := (hm m).mp (List.mem_of_getElem? hmm)
          have hil : i < ms.length := (List.getElem?_eq_some_iff.mp hmm).1
          have hsz : (((ms.take i).map fun m => decide (0 < n % m)).map V.bl).length < sizeLine := by
            rw [List.length_map, List.length_map, List.length_take]
            exact szm (by omega)
          walk_at "ev"
          refine .mk ⟨same_mut sm3 hD3, ?_⟩
          rw [upd_same, List.take_add_one, hmm, List.map_append, List.map_append]
          rfl
        · intro H3 hP3
          obtain ⟨sm3, hD4⟩ := hP3.un
          rw [List.length_map, List.take_length] at hD4
          refine ⟨D3, _, rfl, SqL.of hD4, q _ _ (sm2.trans sm3) ?_⟩
          rw [List.all_eq_true, rough_sq (by omega)]
          constructor
          · intro h
            refine ⟨by omega, fun d d2 dd hdv => ?_⟩
            have dn : d < 2 + ((n - 2).toNat : Int) := by
              have : 2 * d ≤ d * d := Int.mul_le_mul_of_nonneg_right d2 (by omega)
              omega
            have := h _ (List.mem_map.mpr ⟨d, (hm d).mpr ⟨d2, dn, dd⟩, rfl⟩)
            have z := of_decide_eq_true this
            rw [Int.emod_eq_zero_of_dvd hdv] at z
            omega
          · rintro ⟨_, h⟩ b hb
            obtain ⟨d, hd, ed⟩ := List.mem_map.mp hb
            obtain ⟨d2, _, dd⟩ := (hm d).mp hd
            rw [← ed]
            refine decide_eq_true ?_
            have : n % d ≠ 0 := fun z => h d d2 dd (Int.dvd_of_emod_eq_zero z)
            have := Int.emod_nonneg n (show d ≠ 0 by omega)
            omega
      · have e1 : ¬ 1 < n := fun z => e (decide_eq_true z)
        exact q _ _ sm2 ⟨fun z => Bool.noConfusion z, fun z => by omega⟩
end
abbrev s__law_raised : Stmt := top 33
abbrev N__law_raised : List Str := ["_law_base", "_law_exponent", "_law_by", "_law_found", "_law_turn"]
abbrev P__law_raised : List Str := ["_law_base", "_law_exponent", "_law_by"]
theorem sc__law_raised : FnScope N__law_raised P__law_raised (defScope s__law_raised) := ⟨rfl, rfl, rfl, by decide +kernel, rfl, by decide +kernel, by decide +kernel⟩
section
variable {P : Program} {w : World} {K : PySem.W.Frag} {mg : Str → Option Value} {base : Heap}
theorem ok_raised {f : Addr} {fd : FuncData} {k : Nat} (F : Fun K "_law_raised" "_law_raised" s__law_raised f fd) (T : Blt mg) : FnOk P w K mg base CX0 (k + 1) f fd P__law_raised (spPowL 16384) := by
  have nd := sc__law_raised.nd
  refine F.ok sc__law_raised (fun vs H Q E h => ?_) (fun cdv A outer s H vs Q E hr h => ?_)
  · obtain ⟨b, e, m, rfl, _⟩ := h
    rfl
  · obtain ⟨b, e, m, rfl, he, he2, hm1, hm2, hb0, hb1, q⟩ := h
    refine ⟨_, (pss_cons (ps_set (i := 3) nd rfl (Or.inl rfl) (pe_op op_mod (pe_int) (pv 2)))
      (pss_cons (ps_for PassesOwn.never rfl (pi_range1 (by rfl) T.b_range (pa_cons (pe_int) pa_nil)) (pg_name (i := 4) nd rfl (Or.inl rfl))
      (pss_cons (ps_if (pt_cmpR op_eq (pe_op op_mod (pv 1) (pe_int)) (pe_int) (nomark _)) (pss_one (ps_set (i := 3) nd rfl (Or.inl rfl) (pe_op op_mod (pe_op op_mul (pv 3) (pv 0)) (pv 2)))) pss_nil)
      (pss_one (ps_par (i := 0) (j := 1) (by rfl) nd rfl rfl (by decide) rfl rfl (pa_cons (pe_op op_mod (pe_op op_mul (pv 0) (pv 0)) (pv 2)) (pa_cons (pe_op op_fdiv (pv 1) (pe_int)) pa_nil)) (by rfl)))))
      (pss_one (ps_ret (pv 3))))), ?_⟩
    have r0 : ∀ x : Int, 0 ≤ x % m ∧ x % m < m := fun x => ⟨Int.emod_nonneg _ (by omega), Int.emod_lt_of_pos _ (by omega)⟩
    walk_at "ev"
    refine for_range (lo := 0) (n := (14 : Int).toNat) (fun i σ H' => Hold (∃ (x p t : Int) (s5 : Option V), σ = [some (.int x), some (.int p), some (.int m), some (.int t), s5] ∧ 0 ≤ p ∧ p * 2 ^ i ≤ e ∧ 0 ≤ t ∧ t < m ∧ 0 ≤ x ∧ x ≤ 1000000 ∧ t * x ^ p.toNat % m = b ^ e.toNat % m ∧ H' = H)) (.mk ⟨b, e, 1 % m, none, rfl, he, by simp, (r0 _).1, (r0 _).2, hb0, hb1, by rw [mod_mul_mod, Int.one_mul], rfl⟩) ?_ ?_
    · intro i σ H' hi hP
      obtain ⟨x, p, t, s5, rfl, p0, pe, t0, t1, x0, x1, inv, rfl⟩ := hP.un
      have cm1 : CMul t x := .inl ⟨by omega, by omega⟩
      have cm2 : CMul x x := .inl ⟨by omega, by omega⟩
      have rx := r0 (x * x)
      have pe2 : p / 2 * 2 ^ (i + 1) ≤ e := by
        have h1 : p / 2 * 2 ≤ p := Int.ediv_mul_le p (by decide)
        have h2 : p / 2 * 2 * 2 ^ i ≤ p * 2 ^ i := Int.mul_le_mul_of_nonneg_right h1 (Int.pow_nonneg (by decide))
        rw [Int.pow_succ, Int.mul_comm (2 ^ i) 2, ← Int.mul_assoc]
        omega
      walk_at "ev"
      refine ite2 (fun d => ?_) (fun d => ?_)
      · have d1 : p % 2 = 1 := V.int.inj (of_decide_eq_true d)
        walk_at "ev"
        exact .mk ⟨x * x % m, p / 2, t * x % m, _, rfl, by omega, pe2, (r0 _).1, (r0 _).2, rx.1, by omega, by rw [step_odd d1 p0]; exact inv, rfl⟩
      · have d1 : ¬ p % 2 = 1 := fun z => d (decide_eq_true (congrArg V.int z))
        walk_at "ev"
        exact .mk ⟨x * x % m, p / 2, t, _, rfl, by omega, pe2, t0, t1, rx.1, by omega, by rw [step_even d1 p0]; exact inv, rfl⟩
    · intro σ H' hP
      obtain ⟨x, p, t, s5, rfl, p0, pe, t0, t1, x0, x1, inv, rfl⟩ := hP.un
      have p00 : p = 0 := by
        have e14 : (2 : Int) ^ (14 : Int).toNat = 16384 := by decide
        rw [e14] at pe
        omega
      subst p00
      walk_at "ev"
      have et : t = b ^ e.toNat % m := by
        rw [← inv]
        show t = t * x ^ (0 : Nat) % m
        rw [Int.pow_zero, Int.mul_one, Int.emod_eq_of_lt t0 t1]
      rw [et]
      exact q
end
abbrev s__law_least_generator : Stmt := top 35
abbrev N__law_least_generator : List Str := ["_law_prime", "_law_parts", "_law_one", "_law_part"]
abbrev P__law_least_generator : List Str := ["_law_prime"]
theorem sc__law_least_generator : FnScope N__law_least_generator P__law_least_generator (defScope s__law_least_generator) := ⟨rfl, rfl, rfl, by decide +kernel, rfl, by decide +kernel, by decide +kernel⟩
def spLG : Sp := fun vs H Q _ => ∃ (p g : Int) (out : List Int), vs = [.int p] ∧ 2 ≤ p ∧ p < 3000 ∧ IsPf (p - 1) out ∧ LeastGen p g (erl p out) ∧ ∀ H', Same H H' → Q (.int g) H'
section
variable {P : Program} {w : World} {K : PySem.W.Frag} {mg : Str → Option Value} {base : Heap}
theorem ok_least {f f1 f2 : Addr} {fd d1 d2 : FuncData} {k : Nat} (F : Fun K "_law_least_generator" "_law_least_generator" s__law_least_generator f fd) (T : Blt mg) (D__law_is_plain_prime : Df K mg "_law_is_plain_prime" s__law_is_plain_prime P__law_is_plain_prime f1 d1) (D__law_raised : Df K mg "_law_raised" s__law_raised P__law_raised f2 d2) : FnOk P w K mg base CX0 (k + 2) f fd P__law_least_generator spLG := by
  have G__law_is_plain_prime : FnOk P w K mg base CX0 (k + 1) f1 d1 P__law_is_plain_prime spPrm := ok_prm D__law_is_plain_prime.F T
  have G__law_raised : FnOk P w K mg base CX0 (k + 1) f2 d2 P__law_raised (spPowL 16384) := ok_raised D__law_raised.F T
  have nd := sc__law_least_generator.nd
  refine F.ok sc__law_least_generator (fun vs H Q E h => ?_) (fun cdv A outer s H vs Q E hr h => ?_)
  · obtain ⟨p, g, out, rfl, _⟩ := h
    rfl
  · obtain ⟨p, g, out, rfl, p2, p3, hpf, hg, q⟩ := h
    refine ⟨_, (pss_cons (ps_setLc (i := 1) (own := [("_law_part", 3)]) (g := gName 3) (by rfl) nd rfl rfl (sw_true rfl rfl rfl (by decide +kernel)) (pi_range2 (by rfl) T.b_range (pa_cons (pe_int) (pa_cons (pv 0) pa_nil))) (blkOk_by (own := [("_law_part", 3)]) (N := N__law_least_generator) (sc := defScope s__law_least_generator) (by decide +kernel)) (fun _ _ _ _ _ => (pg_name (i := 3) nd rfl (Or.inl rfl))) (fun _ _ _ _ _ => pts_one (PW.pt (pw_and (pt_cmpR op_eq (pe_op op_mod (pe_op op_sub (pv 0) (pe_int)) (pv 3)) (pe_int) (nomark _)) (pw_and1 (pt_val (pe_call G__law_is_plain_prime (hr.mono (by omega)) (by rfl) D__law_is_plain_prime.g D__law_is_plain_prime.F.kp D__law_is_plain_prime.b .nil pass0 (pa_cons (pv 3) pa_nil))))))) (fun _ _ _ _ _ => (pv 3)))
      (pss_cons (ps_for PassesOwn.never rfl (pi_range2 (by rfl) T.b_range (pa_cons (pe_int) (pa_cons (pv 0) pa_nil))) (pg_name (i := 2) nd rfl (Or.inr rfl))
      (pss_one (ps_if (pt_val (pe_callB (r := rAll K) (cr_all rfl) (by rfl) T.b_all (by decide +kernel) (pa_cons (pe_lc (own := [("_law_part", 3)]) (g := gName 3) (by rfl) nd (pi_list (pv 1)) (blkOk_by (own := [("_law_part", 3)]) (N := N__law_least_generator) (sc := defScope s__law_least_generator) (by decide +kernel)) (fun _ _ _ _ _ => (pg_name (i := 3) nd rfl (Or.inl rfl))) (fun _ _ _ _ _ => pts_nil) (fun _ _ _ _ _ => (pe_cmpR op_ne (pe_call G__law_raised (hr.mono (by omega)) (by rfl) D__law_raised.g D__law_raised.F.kp D__law_raised.b .nil pass0 (pa_cons (pv 2) (pa_cons (pe_op op_fdiv (pe_op op_sub (pv 0) (pe_int)) (pv 3)) (pa_cons (pv 0) pa_nil)))) (pe_int) (nomark _)))) pa_nil))) (pss_one (ps_ret (pv 2))) pss_nil)))
      (pss_one (ps_ret (pe_int))))), ?_⟩
    walk_at "ev"
    intro D hD
    refine lc_range (lo := 2) (n := _) (fun i H' => Hold (∃ ms : List Int, Same H H' ∧ H' D = some (.lst (ms.map V.int)) ∧ ms.length ≤ i ∧ ms.Pairwise (· < ·) ∧ ∀ m, m ∈ ms ↔ 2 ≤ m ∧ m < 2 + (i : Int) ∧ m ∣ p - 1 ∧ Rough m m)) (.mk ⟨[], same_new hD, upd_same, Nat.zero_le _, .nil, fun m => ⟨fun z => by simp at z, fun z => by omega⟩⟩) ?_ ?_
    · intro i H2 hi hP
      obtain ⟨ms, sm2, hD2, hl, hs, hm⟩ := hP.un
      have hfl : (ms.map V.int).length < sizeLine := by
        rw [List.length_map]
        exact szm (by omega)
      have no : ∀ (H' : Hp), Same H2 H' → ¬ ((2 + (i : Int)) ∣ p - 1 ∧ Rough (2 + (i : Int)) (2 + (i : Int))) → Hold (∃ ms : List Int, Same H H' ∧ H' D = some (.lst (ms.map V.int)) ∧ ms.length ≤ i + 1 ∧ ms.Pairwise (· < ·) ∧ ∀ m, m ∈ ms ↔ 2 ≤ m ∧ m < 2 + ((i + 1 : Nat) : Int) ∧ m ∣ p - 1 ∧ Rough m m) := by
        intro H' sm' bad
        refine .mk ⟨ms, sm2.trans sm', sm' _ _ hD2, by omega, hs, fun m => ?_⟩
        rw [hm]
        constructor
        · rintro ⟨a, b, c⟩
          exact ⟨a, by omega, c⟩
        · rintro ⟨a, b, c⟩
          refine ⟨a, ?_, c⟩
          have : m ≠ 2 + (i : Int) := fun z => bad (z ▸ c)
          omega
      walk_at "ev"
      refine ite2 (fun e => ?_) (fun e => ?_)
      · have e1 : (p - 1) % (2 + (i : Int)) = 0 := V.int.inj (of_decide_eq_true e)
        walk_at "ev"
        intro b H3 sm3 hb
        have hD3 := sm3 _ _ hD2
        walk_at "ev"
        refine ite2 (fun e2 => ?_) (fun e2 => ?_)
        · have r := (hb.mp e2).2
          walk_at "ev"
          refine .mk ⟨ms ++ [2 + (i : Int)], same_mut (sm2.trans sm3) hD, ?_, ?_, ?_, fun m => ?_⟩
          · rw [upd_same, List.map_append]
            rfl
          · simp
            omega
          · rw [List.pairwise_append]
            refine ⟨hs, List.pairwise_singleton _ _, fun a ha c hc => ?_⟩
            have e3 : c = 2 + (i : Int) := by simpa using hc
            have := ((hm a).mp ha).2.1
            omega
          · rw [List.mem_append, List.mem_singleton, hm]
            constructor
            · rintro (⟨a, b, c⟩ | z)
              · exact ⟨a, by omega, c⟩
              · rw [z]
                exact ⟨by omega, by omega, dvd_iff.mp e1, r⟩
            · rintro ⟨a, b, c⟩
              by_cases z : m = 2 + (i : Int)
              · exact .inr z
              · exact .inl ⟨a, by omega, c⟩
        · exact no H3 sm3 fun z => e2 (hb.mpr ⟨by omega, z.2⟩)
      · have e1 : ¬ (p - 1) % (2 + (i : Int)) = 0 := fun z => e (decide_eq_true (congrArg V.int z))
        walk_at "ev"
        exact no H2 (Same.refl _) fun z => e1 (dvd_iff.mpr z.1)
    · intro H2 hP
      obtain ⟨ms, sm2, hD2, hl, hs, hm⟩ := hP.un
      have eo : ms = out := srt_ext hs hpf.1 fun k => by
        rw [hm, hpf.2]
        constructor
        · rintro ⟨a, b, c⟩
          exact ⟨a, c⟩
        · rintro ⟨a, c⟩
          refine ⟨a, ?_, c⟩
          have := Int.le_of_dvd (by omega) c.1
          omega
      subst eo
      have hL : SqL K H2 D (ms.map V.int) := SqL.of hD2
      have hml : ms.length ≤ 3000 := by omega
      have hmk : ∀ k ∈ ms, 2 ≤ k ∧ k ≤ p - 1 := fun k hk => by
        obtain ⟨a, b, _⟩ := (hpf.2 k).mp hk
        exact ⟨a, Int.le_of_dvd (by omega) b⟩
      walk_at "ev"
      refine for_range (lo := 1) (n := _) (fun i σ H' => Hold (∃ s2 s3, σ = [some (.int p), some (.ref D), s2, s3] ∧ Same H2 H' ∧ (1 : Int) + i ≤ g)) (.mk ⟨_, _, rfl, Same.refl _, by have := hg.1; omega⟩) ?_ ?_
      · intro i σ H3 hi hP
        obtain ⟨s2, s3, rfl, sm3, hig⟩ := hP.un
        have hL3 := sm3.seq hL
        have hL3' : ∃ xs, SqL K H3 D xs := ⟨_, hL3⟩
        obtain ⟨g1, gp, gok, gless⟩ := id hg
        walk_at "ev"
        intro D4 hD4
        refine lc_list (K := K) (a := D) (xs := ms.map V.int) (fun j H' => Hold (Same H3 H' ∧ H' D4 = some (.lst (((ms.take j).map fun f => !decide ((1 + (i : Int)) ^ ((p - 1) / f).toNat % p = 1)).map V.bl)))) (.mk ⟨same_new hD4, upd_same⟩) ?_ ?_ ?_
        · intro j H4 hj hP4
          obtain ⟨sm4, hq4⟩ := hP4.un
          exact sm4.seq hL3
        · intro j v H4 hv hP4
          obtain ⟨sm4, hq4⟩ := hP4.un
          rw [List.getElem?_map] at hv
          obtain ⟨f, hf, ev⟩ := Option.map_eq_some_iff.mp hv
          subst ev
          obtain ⟨f2, fp⟩ := hmk f (List.mem_of_getElem? hf)
          have hil : j < ms.length := (List.getElem?_eq_some_iff.mp hf).1
          have e0 : 0 ≤ (p - 1) / f := Int.ediv_nonneg (by omega) (by omega)
          have e1 : (p - 1) / f ≤ p - 1 := Int.ediv_le_self _ (by omega)
          have e2 : (p - 1) / f < 16384 := by omega
          have hsz : (((ms.take j).map fun f => !decide ((1 + (i : Int)) ^ ((p - 1) / f).toNat % p = 1)).map V.bl).length < sizeLine := by
            rw [List.length_map, List.length_map, List.length_take]
            exact szm (by omega)
          walk_at "ev"
          refine .mk ⟨same_mut sm4 hD4, ?_⟩
          rw [upd_same, List.take_add_one, hf, List.map_append, List.map_append, ne_dec]
          rfl
        · intro H4 hP4
          obtain ⟨sm4, hq4⟩ := hP4.un
          rw [List.length_map, List.take_length] at hq4
          refine ⟨D4, _, rfl, SqL.of hq4, _, rfl, ?_⟩
          refine ite2 (fun e => ?_) (fun e => ?_)
          · have ok := all_gen.mp e
            have eg : 1 + (i : Int) = g := by
              apply Int.le_antisymm hig
              apply Int.le_of_not_gt
              intro z
              exact gless _ (by omega) z ok
            walk_at "ev"
            rw [eg]
            exact q _ (sm2.trans (sm3.trans sm4))
          · have nok : ¬ GenOk p (1 + (i : Int)) (erl p ms) := fun z => e (all_gen.mpr z)
            have neg : 1 + (i : Int) ≠ g := fun z => nok (z ▸ gok)
            refine .mk ⟨_, _, rfl, sm3.trans sm4, by omega⟩
      · intro σ H3 hP
        obtain ⟨s2, s3, rfl, sm3, hig⟩ := hP.un
        exfalso
        have := hg.2.1
        omega
end
/-! ### a list comprehension whose element may let a callee's exception out -/
abbrev blkX (X : Cx) (s : Shared) (H : Hp) (scope : Scope) (cenv : Env) (fp : List Addr) (xe : Value → Shared → Prop) : Cx := { X.blk s H scope cenv fp with xe := xe }
theorem inv_xe {X : Cx} {pins : List (Addr × Obj)} {σ : L2.St} {H : Hp} {s : Shared} (xe : Value → Shared → Prop) (I : Inv X pins σ H s) : Inv { X with xe := xe } pins σ H s :=
  ⟨⟨I.ok.mod, I.ok.kind, I.ok.glob, I.ok.blt, I.ok.above, I.ok.inj, I.ok.has, I.ok.cab, I.ok.hd, I.ok.frames, I.ok.stk, I.ok.exf, I.ok.bs, I.ok.bsz, I.ok.noex, I.ok.exfs, I.ok.funs, I.ok.frf⟩, I.os, I.bare, I.base, I.loc, I.cell, I.free, I.freeC, I.pin, I.hok, I.len⟩
theorem hid {h : Heap} {C b : Addr} {o : Obj} (e : h.get? b = some o) (n : b ≠ C) : (PySem.W.hideAll h [C]).get? b = some o := PySem.W.hideAll_get _ e (by simpa using n)
theorem unhid {h : Heap} {C b : Addr} {o : Obj} (e : (PySem.W.hideAll h [C]).get? b = some o) : h.get? b = some o ∧ b ≠ C := ⟨PySem.W.of_hideAll _ e, fun z => by
  rw [z, PySem.W.hideAll_none _ (by simp)] at e
  cases e⟩
theorem hok_hid {P : Program} {w : World} {H : Hp} {h : Heap} {C : Addr} (x : HOk P w H h) (n : H C = none) : HOk P w H (PySem.W.hideAll h [C]) := fun b u e =>
  (x b u e).stay (fun c v hc q => hid q (by
    rintro rfl
    rcases hc with z | z
    · rw [← z, n] at e
      cases e
    · rw [n] at z
      cases z)) (fun _ q => q) (fun _ _ q => q)
theorem ff_hid {h h' b1 b2 : Heap} : ∀ {l : List Env}, h.FunFrames b1 l → (∀ L ∈ frs l, ∀ o, h.get? L = some o → h'.get? L = some o) → (∀ L ∈ frs l, b1.get? L = none → b2.get? L = none) → h'.FunFrames b2 l
  | [], _, _, _ => trivial
  | e :: r, ⟨hk, ⟨L, o, hf, hb, ho, hd⟩, hr⟩, k, n => by
    have hm : ∀ x ∈ frs r, x ∈ frs (e :: r) := fun x hx => by
      unfold frs
      rw [List.filterMap_cons, hf]
      exact List.mem_cons_of_mem _ hx
    have hL : L ∈ frs (e :: r) := by
      unfold frs
      rw [List.filterMap_cons, hf]
      exact List.mem_cons_self
    exact ⟨hk, ⟨L, o, hf, n L hL hb, k L hL o ho, hd⟩, ff_hid hr (fun x hx => k x (hm x hx)) (fun x hx => n x (hm x hx))⟩
theorem tr_hid {h h' b1 b2 : Heap} {e : Addr} {Z : Obj → Prop} {fl : Value} (t : HandSPX.TracedZ h b1 e Z fl) (k : ∀ b o vs, h.get? b = some o → o.data = .fields vs → h'.get? b = some o) (n : ∀ b, b1.get? b = none → b2.get? b = none) : HandSPX.TracedZ h' b2 e Z fl := by
  obtain ⟨oe, vs, T, oT, ts, he, hz, hd, h1, hnT, hTe, hT, hdT, h3⟩ := t
  exact ⟨oe, vs, T, oT, ts, k _ _ _ he hd, hz, hd, h1, n _ hnT, hTe, k _ _ _ hT hdT, hdT, h3⟩
section
variable {X : Cx}
/-- an exception of a call in the block goes on in the def -/
theorem out_of_block {E : XK} {pins pins' : List (Addr × Obj)} {σ σ' : L2.St} {H3 H5 : Hp} {s3 s5 s' : Shared} {scope : Scope} {ce : Env} {fp : List Addr} {xe : Value → Shared → Prop} {e : Value} {E1 : Value → Shared → Prop}
    (hs : X.stack = X.env :: X.outer) (hf : X.env.frame = some X.env.locals) (tk : Takes X (fun cls d _ H => E cls d H)) (I3 : Inv X pins σ H3 s3)
    (f3 : ∀ b ∈ fp, FpOk X pins H3 b ∧ b < s3.heap.objs.size) (cf : ce.frame = X.env.frame) (cL : ce.locals = s3.heap.objs.size)
    (J : Inv (blkX X s3 H3 scope ce fp xe) pins' σ' H5 s5) (c : L2.CX X.prog X.w X.stack H5 s5 E e s') :
    notedBy (model X.prog X.w) X.A ce (fun e s'' => CompFails (model X.prog X.w) X.A X.xe ce e s'') e s' := by
  obtain ⟨a, B, H', cls, d, rfl, fl, hok, ub, na, os, ag, hE⟩ := c
  have hfr : X.A.frames = some (X.env :: X.outer) := by rw [I3.ok.frames, hs]
  generalize hC : ce.locals = C at cL
  have nC5 : H5 C = none := by
    have z : H5 ce.locals = none := J.free
    rw [hC] at z
    exact z
  obtain ⟨m, hn5, _⟩ := J.loc
  have hn5 : s5.heap.Ns ce.locals m := hn5
  rw [hC] at hn5
  obtain ⟨oC, es, ep, hoC, hdC, rC⟩ := hn5
  have nCst : C ∉ frs X.stack := fun hm => by
    rcases List.mem_cons.mp (I3.stkSub C hm) with z | z
    · exact absurd (z ▸ I3.lt) (by rw [cL]; exact Nat.lt_irrefl _)
    · exact I3.nofs (Nat.le_of_eq cL.symm) z
  have n3 : ∀ b o, s3.heap.get? b = some o → b ≠ C := fun b o e z => by
    have := Heap.lt_size e
    rw [z, cL] at this
    exact absurd this (Nat.lt_irrefl _)
  have nC' : H' C = none := ub.free C oC hoC nC5
  have BC : B.get? C = some oC := ub.keep C oC hoC nC5 nCst
  have stB : B.StaysIn s'.heap := fl.1
  -- the def's own state, the block's frame hidden
  have I5 : Inv X pins σ H5 { s5 with heap := PySem.W.hideAll s5.heap [C] } := by
    have u := J.base
    have u : Un (frs X.stack) fp H3 H5 s3.heap s5.heap := u
    refine I3.call' (ch := fp) J.os ⟨fun b o e n hb hx => hid (u.keep b o e n hb hx) (n3 b o e), fun b o e n hb hx => ?_, u.free, fun b o e hx => ?_, u.tups, u.frzs, u.tbls⟩ (hok_hid J.hok nC5) J.bare
      (fun b hb => ⟨(f3 b hb).1.2.2.2.1, (f3 b hb).1.2.1, (f3 b hb).1.2.2.2.2.1, (f3 b hb).1.2.2.2.2.2⟩)
    · obtain ⟨sl, q⟩ := u.slot b o e n hb hx
      exact ⟨sl, hid q (n3 b o e)⟩
    · obtain ⟨o', q⟩ := u.there b o e hx
      exact ⟨o', hid q (n3 b o e)⟩
  have hcC : ∀ b o (vs : Array Value), s'.heap.get? b = some o → o.data = .fields vs → b ≠ C := fun b o vs e dd z => by
    rw [z, stB C oC BC] at e
    cases e
    rw [hdC] at dd
    cases dd
  have c' : L2.CX X.prog X.w X.stack H5 { s5 with heap := PySem.W.hideAll s5.heap [C] } E (.ref a) { s' with heap := PySem.W.hideAll s'.heap [C] } := by
    obtain ⟨f1, f2, f4, f5⟩ := fl
    have nB : ∀ b, B.get? b = none → (PySem.W.hideAll B [C]).get? b = none := fun b e => by
      cases q : (PySem.W.hideAll B [C]).get? b with
      | none => rfl
      | some o =>
        have := (unhid q).1
        rw [e] at this
        cases this
    refine ⟨a, PySem.W.hideAll B [C], H', cls, d, rfl, ⟨fun b o e => ?_, nB _ f2, ff_hid f4 (fun L hL o e => hid e (fun z => nCst (z ▸ hL))) (fun L _ => nB L), tr_hid f5 (fun b o vs e dd => hid e (hcC b o vs e dd)) nB⟩, hok_hid hok nC',
      ⟨fun b o e n hb => ?_, fun b o e hb => ?_, fun b o e n => ub.free b o (unhid e).1 n, fun b o e hb => ?_, ub.tups, ub.frzs, ub.tbls⟩, na, os, ag, hE⟩
    · obtain ⟨q, z⟩ := unhid e
      exact hid (f1 b o q) z
    · obtain ⟨q, z⟩ := unhid e
      exact hid (ub.keep b o q n hb) z
    · obtain ⟨q, z⟩ := unhid e
      obtain ⟨sl, r⟩ := ub.slot b o q hb
      exact ⟨sl, hid r z⟩
    · obtain ⟨q, z⟩ := unhid e
      obtain ⟨o', r⟩ := ub.there b o q hb
      exact ⟨o', hid r z⟩
  obtain ⟨a2, B2, sI, pins2, σ2, H2, cls2, d2, ea, I2, nb, up, sky, na2, os2, ag2, w2⟩ := XE.of_call (W := fun cls d _ H => E cls d H) I5 (fun _ _ _ h => h) c'
  cases ea
  have stB2 : B2.StaysIn (PySem.W.hideAll s'.heap [C]) := by
    rcases sky with z | z | z
    · exact z.1
    · exact z.1
    · exact z.1
  have B2C : B2.get? C = none := by
    cases q : B2.get? C with
    | none => rfl
    | some o => exact absurd rfl (unhid (stB2 C o q)).2
  have sIC : ∀ b o, sI.heap.get? b = some o → b ≠ C := fun b o e z => by
    rw [z] at e
    rw [nb C o e nCst] at B2C
    cases B2C
  have back : ∀ b o, (PySem.W.hideAll s'.heap [C]).get? b = some o → s'.heap.get? b = some o := fun b o e => (unhid e).1
  have sky2 : Sky B2 (X.env :: X.outer) a (Zc cls2 d2) X.env.locals s'.heap := by
    rw [hs] at sky
    have ff : ∀ {l : List Env}, (PySem.W.hideAll s'.heap [C]).FunFrames B2 l → s'.heap.FunFrames B2 l := fun z => ff_hid z (fun L _ o e => back L o e) (fun _ _ q => q)
    rcases sky with ⟨z1, z2, z3, oe, vs, z4, z5⟩ | ⟨z1, z2, z3, z4⟩ | ⟨z1, z2, z3, z4⟩
    · exact .inl ⟨fun b o e => back b o (z1 b o e), z2, ff z3, oe, vs, back _ _ z4, z5⟩
    · exact .inr (.inl ⟨fun b o e => back b o (z1 b o e), z2, ff z3, tr_hid z4 (fun b o _ e _ => back b o e) (fun _ q => q)⟩)
    · exact .inr (.inr ⟨fun b o e => back b o (z1 b o e), z2, ff z3, tr_hid z4 (fun b o _ e _ => back b o e) (fun _ q => q)⟩)
  show wpAny _ X.A (noteFrame (.ref a) ce) _ _ s'
  rw [noteFrame_env _ cf]
  have fin : ∀ h1, HandSPX.HeldZ B2 (X.env :: X.outer) a (Zc cls2 d2) X.env.locals h1 → s'.heap.UpToSlots h1 → CompFails (model X.prog X.w) X.A X.xe ce (.ref a) { s' with heap := h1 } := fun h1 hh up1 => by
    have nf : ∀ vs, oC.data ≠ .fields vs := fun vs q => by
      rw [hdC] at q
      cases q
    obtain ⟨sl, hC1⟩ := up1 C oC (stB C oC BC) nf
    refine ⟨m, by rw [hC]; exact ⟨_, es, ep, hC1, hdC, rC⟩, fun h2 m2 hn2 sb => ?_⟩
    rw [hC] at hn2 sb
    have hh2 : HandSPX.HeldZ B2 (X.env :: X.outer) a (Zc cls2 d2) X.env.locals h2 := by
      obtain ⟨f1, f2, f4, f5⟩ := hh
      refine ⟨fun b o e => (sb.2 b (fun z => by rw [z, B2C] at e; cases e)).trans (f1 b o e), f2, Heap.FunFrames.sameBut sb hn2 f4, tr_hid f5 (fun b o vs e dd => (sb.2 b fun z => ?_).trans e) (fun _ q => q)⟩
      rw [z, hC1] at e
      cases e
      exact nf vs dd
    obtain ⟨k1, k2, k3, k4⟩ := id hh2
    obtain ⟨oe, vs, T, oT, ts, he, hz, hd, h1', r⟩ := id k4
    unfold PySem.passOn
    refine wpAny_bind (wpAny_field he hd h1' ?_)
    rw [if_neg (show ¬ ((Value.ref T == Value.none) = true) from by simp)]
    have last : wpAny (model X.prog X.w) X.A (setFlight (.ref a) ce.frame) (fun _ s4 => wpAny (model X.prog X.w) X.A (throw (.ref a) : Sem Value) (fun _ _ => False) X.xe s4) X.xe { s' with heap := h2 } := by
      rw [cf, hf]
      refine HandSPX.setFlight_anyZ k1 k3 k4 fun h4 q1 q2 q3 q4 => wpAny_throw (tk _ _ ?_)
      refine ⟨a, B2, sI, pins2, σ2, H2, cls2, d2, rfl, I2, nb, fun b o e hb => ?_, .inr (.inr (by rw [hs]; exact ⟨q1, k2, q2, q3⟩)), na2, os2, ag2, w2⟩
      have bC := sIC b o e
      obtain ⟨sl1, r1⟩ := up b o e hb
      obtain ⟨sl2, r2⟩ := up1 b _ (back _ _ r1) hb
      obtain ⟨sl3, r3⟩ := q4 b _ ((sb.2 b bC).trans r2) hb
      exact ⟨sl3, r3⟩
    first
      | exact wpAny_bind (wpAny_pure (wpAny_bind last))
      | exact wpAny_bind last
  rcases sky2 with ⟨z1, z2, z3, oe, vs, z4, z5, z6, z7⟩ | z | z
  · exact HandSPX.look_newZ Zc.steady hfr z3 hf z4 z1 z2 z6 z7 z5 fin
  · exact HandSPX.looks_onZ Zc.steady hfr hf z fin
  · exact HandSPX.againZ hf z.2.2.2 (fin s'.heap z (Heap.UpToSlots.refl _))
end
section
variable {X : Cx}
theorem lc_coreX {E : XK} {pins : List (Addr × Obj)} {s : Shared} {σ : L2.St} {H : Hp} {Q : VK} {elt tg iter : Expr} {ifs : List Expr} {scope : Scope} {own : List (Str × Nat)} {pos pos' : Pos} {wi : TI} {g : TG} {tt : TT} {te : TE} {use : Option (Value → Sem Unit)} {Qf : Value → Shared → Prop}
    (hst : X.stack = X.env :: X.outer) (hfx : X.env.frame = some X.env.locals) (tk : Takes X (fun cls d _ H => E cls d H))
    (hc : X.calm = true) (hN : X.N.Nodup) (I : Inv X pins σ H s) (hi : PI X tg iter wi) (ok : BlkOk X.N X.env.scope scope own)
    (hg : ∀ (s : Shared) (H : Hp) (C : Addr) (cl : List (Str × Addr)) (fp : List Addr) (xe : Value → Shared → Prop), PG (blkX X s H scope (compEnvC scope cl C X.env) fp xe) tg g)
    (ht : ∀ (s : Shared) (H : Hp) (C : Addr) (cl : List (Str × Addr)) (fp : List Addr) (xe : Value → Shared → Prop), PTs (blkX X s H scope (compEnvC scope cl C X.env) fp xe) ifs tt)
    (he : ∀ (s : Shared) (H : Hp) (C : Addr) (cl : List (Str × Addr)) (fp : List Addr) (xe : Value → Shared → Prop), Passes (L2.CX X.prog X.w) (blkX X s H scope (compEnvC scope cl C X.env) fp xe) E → PE (blkX X s H scope (compEnvC scope cl C X.env) fp xe) elt te)
    (hs : ∀ x, foldedSetIterable iter X.env x = pure x)
    (h : tLc wi g tt te (own.map (·.2)) σ H Q)
    (hRR : ∀ D ce s' m H', Inv X pins σ H' s' → Q (.ref D) H' → s'.heap.Ns ce.locals m → FpOk X pins H' ce.locals → compEnds (model X.prog X.w) X.A X.xe use Qf (.ref D) ce (.ok .next) s') :
    wpAny (model X.prog X.w) X.A (comprehension (.ListComp elt [⟨tg, iter, ifs, 0⟩] scope pos) scope X.env pos' (newList []) false (eval iter X.env) use) Qf X.xe s := by
  have hfree : ∀ y ∈ scope.names, y.2 = .free → ∃ c, X.env.cells.lookup y.1 = some c := fun y hy e => by
    rcases ok.free y hy e with k | k
    · exact I.ok.has _ (.inl k)
    · exact I.ok.has _ (.inr k)
  refine comprehension_at (use := use) rfl hs (closure_ok hfree) ok.kind (fun y hy e => by rw [ok.uniq y hy, e])
    (thn (hi.run pins s σ H _ I h) fun xv s1 hx => thn hx fun itv s2 h2 => ?_)
  obtain ⟨it, fp, tn, J, H2, e, I2, T, st2, f2, q⟩ := h2
  subst e
  refine wpAny_newObj_type (newEnv_comp ?_) (by show 0 ≤ sizeLine; decide)
  generalize hD : s2.heap.objs.size = D
  have hDn : H2 D = none := I2.hok.fresh (Nat.le_of_eq hD)
  obtain ⟨W, ⟨m0, w0⟩, turn⟩ := q D hDn
  generalize hs3 : ({ s2 with heap := s2.heap.push { cls := .type "list", data := .seq ([] : List Value).toArray } } : Shared) = s3
  have I3 : Inv X pins σ (upd H2 D (.lst [])) s3 := by
    rw [← hs3]
    refine I2.laid (t' := s2.toks) (fun b o e => Heap.get?_push_of_some _ e) (Nat.le_of_eq hD) ⟨Nat.zero_le _, [], 0, .nil, ?_⟩
    rw [← hD]
    exact Heap.get?_push_size _ rfl
  have h3 : s3.heap = s2.heap.push { cls := .type "list", data := .seq ([] : List Value).toArray } := by rw [← hs3]
  have f3 : ∀ b ∈ fp, FpOk X pins (upd H2 D (.lst [])) b ∧ b < s3.heap.objs.size := fun b hb => by
    obtain ⟨o, e, _⟩ := T.obj _ _ st2 b hb
    have hlt := Heap.lt_size e
    refine ⟨⟨?_, (f2 b hb).2⟩, by rw [h3, Heap.size_push]; exact Nat.lt_succ_of_lt hlt⟩
    rw [upd_ne (by rw [← hD]; exact Nat.ne_of_lt hlt)]
    exact (f2 b hb).1
  have st3 : tn 0 s3.heap := T.keep _ _ _ st2 fun b _ o e => by rw [h3]; exact Heap.get?_push_of_some _ e
  have I4 := block_start I3 ok hN f3
  show codeAny _ _ (.compStart (.ListComp elt [⟨tg, iter, ifs, 0⟩] scope pos) 0 (.ref it) (.ref D) (compEnvC scope (cellsFrom (s3.heap.objs.size + 1) scope.names (cloFrom X.env.cells scope.names [])) s3.heap.objs.size X.env))
    (compEnds (model X.prog X.w) X.A X.xe use Qf (.ref D) (compEnvC scope (cellsFrom (s3.heap.objs.size + 1) scope.names (cloFrom X.env.cells scope.names [])) s3.heap.objs.size X.env)) { s3 with heap := pushCells (s3.heap.push { cls := .type "dict", data := .dict #[] }) scope.names }
  have nfp : ∀ b ∈ fp, (upd H2 D (.lst [])) b = none := fun b hb => (f3 b hb).1.1
  have pg := fun xe => hg s3 (upd H2 D (.lst [])) s3.heap.objs.size (cellsFrom (s3.heap.objs.size + 1) scope.names (cloFrom X.env.cells scope.names [])) fp xe
  have pt := fun xe => ht s3 (upd H2 D (.lst [])) s3.heap.objs.size (cellsFrom (s3.heap.objs.size + 1) scope.names (cloFrom X.env.cells scope.names [])) fp xe
  have pe := fun xe => he s3 (upd H2 D (.lst [])) s3.heap.objs.size (cellsFrom (s3.heap.objs.size + 1) scope.names (cloFrom X.env.cells scope.names [])) fp xe
  generalize hce : compEnvC scope (cellsFrom (s3.heap.objs.size + 1) scope.names (cloFrom X.env.cells scope.names [])) s3.heap.objs.size X.env = ce at I4 pg pt pe ⊢
  have cL : ce.locals = s3.heap.objs.size := by subst hce; rfl
  have cf : ce.frame = X.env.frame := by subst hce; rfl
  generalize hH3 : upd H2 D (.lst []) = H3 at I3 I4 pg pt pe w0 nfp f3
  generalize hs4 : ({ s3 with heap := pushCells (s3.heap.push { cls := .type "dict", data := .dict #[] }) scope.names } : Shared) = s4 at I4 ⊢
  have st4 : tn 0 s4.heap := T.keep _ _ _ st3 fun b _ o e => by rw [← hs4]; exact pushCells_keeps _ _ _ _ (Heap.get?_push_of_some _ e)
  generalize hxe : (notedBy (model X.prog X.w) X.A ce fun e s' => compEnds (model X.prog X.w) X.A X.xe use Qf (.ref D) ce (.error e) s') = xe
  have I4 : Inv (blkX X s3 H3 scope ce fp xe) [] (wipe σ (own.map (·.2))) H3 s4 := inv_xe xe I4
  have pg := pg xe
  have pt := pt xe
  have pe := pe xe (fun pins' σ' H' s' e s'' J' c => by
    show xe e s''
    rw [← hxe]
    have z := out_of_block (ce := ce) (E1 := xe) hst hfx tk I3 f3 cf cL J' c
    cases use <;> exact z)
  have stat : ∀ {σ' : L2.St} {H' : Hp} {s' : Shared}, Inv (blkX X s3 H3 scope ce fp xe) [] σ' H' s' → (∀ b ∈ fp, H' b = none) → ∀ b ∈ fp, FpOk (blkX X s3 H3 scope ce fp xe) [] H' b := fun {σ' H' s'} I' hn b hb =>
    ⟨hn b hb, (I'.ok.exf b hb).1, I'.ok.exfs b hb, .inl hb, fun x c e => (I'.ok.exf b hb).2 x c e, fun p hp => absurd (show p ∈ ([] : List (Addr × Obj)) ++ [] from hp) (by simp)⟩
  have loop : codeAny (model X.prog X.w) X.A (.compLoop (.ListComp elt [⟨tg, iter, ifs, 0⟩] scope pos) 0 (.ref it) (.ref D) ce) (compEnds (model X.prog X.w) X.A X.xe use Qf (.ref D) ce) s4 := by
    refine compLoop_any (fun n s' => ∃ i H', Inv (blkX X s3 H3 scope ce fp xe) [] (wipe σ (own.map (·.2))) H' s' ∧ tn i s'.heap ∧ (∀ b ∈ fp, H' b = none) ∧ W i n H') ?_ m0 ⟨0, H3, I4, st4, nfp, w0⟩
    rw [hxe]
    rintro n s5 ⟨i, H5, I5, st5, n5, w5⟩
    rcases turn i n H5 w5 with ⟨stop, qq⟩ | ⟨go, Nx, hNx, step⟩
    · have td := T.done (blkX X s3 H3 scope ce fp xe) rfl rfl rfl hc i [] s5 _ H5 (fun _ _ => False) I5 (stat I5 n5) st5 stop
      refine thnF td fun r s6 ⟨hr, I6⟩ => ?_
      subst hr
      have I7 : Inv X pins σ H5 s6 := I3.call' (ch := fp) I6.os I6.base I6.hok I6.bare fun b hb => ⟨(f3 b hb).1.2.2.2.1, (f3 b hb).1.2.1, (f3 b hb).1.2.2.2.2.1, (f3 b hb).1.2.2.2.2.2⟩
      have nC : H5 s3.heap.objs.size = none := by
        have z : H5 ce.locals = none := I6.free
        rw [cL] at z
        exact z
      obtain ⟨m, hn, _⟩ := I6.loc
      have hn : s6.heap.Ns ce.locals m := hn
      exact hRR D ce s6 m H5 I7 qq hn (by rw [cL]; exact I3.fpOk (Nat.le_refl _) nC)
    · have ti := T.item (blkX X s3 H3 scope ce fp xe) rfl rfl rfl hc i [] s5 _ H5 (fun _ _ => False) I5 (stat I5 n5) st5 go
      refine thnF ti fun r s6 ⟨u, hr, h6⟩ => ?_
      subst hr
      refine thnF h6 fun _ s7 ⟨x, H7, I7, r7, y7, st7, n7⟩ => ?_
      have I7' := I7.pinned (stat I7 n7) (T.obj _ _ st7)
      refine thn (pg.run _ s7 _ H7 x u _ I7' r7 (step x H7 y7)) fun _ s8 ⟨σ8, H8, I8, hw8, q8⟩ => ?_
      refine thn (pt.run _ s8 σ8 H8 _ I8 q8) fun b s9 ⟨H9, I9, q9⟩ => ?_
      have fin : ∀ {s' : Shared} {H' : Hp}, Inv (blkX X s3 H3 scope ce fp xe) ([] ++ pinsAt fp s7.heap) σ8 H' s' → Nx H' → ∃ m, m < n ∧ ∃ i H', Inv (blkX X s3 H3 scope ce fp xe) [] (wipe σ (own.map (·.2))) H' s' ∧ tn i s'.heap ∧ (∀ b ∈ fp, H' b = none) ∧ W i m H' := fun {s' H'} I' nx => by
        obtain ⟨m', hm, w'⟩ := hNx H' nx
        have pin' : ∀ b ∈ fp, ∀ o, s7.heap.get? b = some o → s'.heap.get? b = some o ∧ H' b = none := fun b hb o e =>
          let z := I'.pin (b, o) (List.mem_append_right _ (List.mem_append_right _ (mem_pinsAt hb e)))
          ⟨z.1, z.2.1⟩
        have hl : (wipe σ (own.map (·.2))).length = σ8.length := by rw [← hw8, wipe_length]
        refine ⟨m', hm, i + 1, H', (I'.unpinned (pins := [])).weak hl (fun j v e => ?_), T.keep _ _ _ st7 fun b hb o e => (pin' b hb o e).1, fun b hb => ?_, w'⟩
        · rw [← hw8] at e
          exact (wipe_some e).1
        · obtain ⟨o, e, _⟩ := T.obj _ _ st7 b hb
          exact (pin' b hb o e).2
      cases b with
      | false =>
        simp only [Bool.false_eq_true, if_false] at q9 ⊢
        exact fin I9 q9
      | true =>
        simp only [if_true] at q9 ⊢
        refine thn (pe.run _ s9 σ8 H9 _ I9 q9) fun z s10 ⟨yv, H10, I10, r10, acc, hD10, hz10, nx⟩ => ?_
        exact app_ok (X := blkX X s3 H3 scope ce fp xe) I10 hD10 hz10 r10 fun s11 I11 => fin I11 nx
  exact codeAny_compStart_list loop (T.self X.A 0 _ _ _ st4 loop)
theorem pe_lcX {E : XK} {elt tg iter : Expr} {ifs : List Expr} {scope : Scope} {own : List (Str × Nat)} {pos : Pos} {wi : TI} {g : TG} {tt : TT} {te : TE}
    (hst : X.stack = X.env :: X.outer) (hfx : X.env.frame = some X.env.locals) (tk : Takes X (fun cls d _ H => E cls d H)) (hc : X.calm = true) (hN : X.N.Nodup) (hi : PI X tg iter wi) (ok : BlkOk X.N X.env.scope scope own)
    (hg : ∀ (s : Shared) (H : Hp) (C : Addr) (cl : List (Str × Addr)) (fp : List Addr) (xe : Value → Shared → Prop), PG (blkX X s H scope (compEnvC scope cl C X.env) fp xe) tg g)
    (ht : ∀ (s : Shared) (H : Hp) (C : Addr) (cl : List (Str × Addr)) (fp : List Addr) (xe : Value → Shared → Prop), PTs (blkX X s H scope (compEnvC scope cl C X.env) fp xe) ifs tt)
    (he : ∀ (s : Shared) (H : Hp) (C : Addr) (cl : List (Str × Addr)) (fp : List Addr) (xe : Value → Shared → Prop), Passes (L2.CX X.prog X.w) (blkX X s H scope (compEnvC scope cl C X.env) fp xe) E → PE (blkX X s H scope (compEnvC scope cl C X.env) fp xe) elt te)
    (hs : ∀ x, foldedSetIterable iter X.env x = pure x := by intro _; rfl) :
    PE X (.ListComp elt [⟨tg, iter, ifs, 0⟩] scope pos) (tLc wi g tt te (own.map (·.2))) := by
  refine ⟨fun pins s σ H Q I h => ?_⟩
  rw [eval_ListComp]
  refine lc_coreX hst hfx tk hc hN I hi ok hg ht he hs h fun D ce s' m H' I' q hn f => ⟨m, hn, fun h'' sb => ?_⟩
  obtain ⟨f0, f1, f2, f3, f4, f5⟩ := f
  exact ⟨.ref D, H', I'.turned (t' := s'.toks) (fun b o hb e => (sb.2 b hb).trans e) f0 f1 f3 f4 f5, rfl, q⟩
end
/-! ### long division of rows, as the program walks it -/
def subAt (start : Nat) (top : Int) (bs : List Int) (r : List Int) : Nat → List Int
  | 0 => r
  | i + 1 => (subAt start top bs r i).set (start + i) ((subAt start top bs r i).getD (start + i) 0 - top * bs.getD i 0)
theorem subAt_len {start : Nat} {top : Int} {bs r : List Int} {i : Nat} : (subAt start top bs r i).length = r.length := by
  induction i with
  | zero => rfl
  | succ i ih => rw [subAt, List.length_set, ih]
def dvS (bs : List Int) (x : List Int × List Int) : List Int × List Int :=
  (subAt (x.1.length - 1 - (bs.length - 1)) (x.1.getD (x.1.length - 1) 0) bs x.1.dropLast (bs.length - 1), x.2 ++ [x.1.getD (x.1.length - 1) 0])
def dvN (bs : List Int) (row : List Int) : Nat → List Int × List Int
  | 0 => (row, [])
  | n + 1 => dvS bs (dvN bs row n)
theorem dvN_len {bs row : List Int} {n : Nat} : (dvN bs row n).1.length = row.length - n ∧ (dvN bs row n).2.length = n := by
  induction n with
  | zero => exact ⟨rfl, rfl⟩
  | succ n ih =>
    rw [dvN, dvS]
    refine ⟨?_, ?_⟩
    · show (subAt _ _ _ _ _).length = _
      rw [subAt_len, List.length_dropLast, ih.1]
      omega
    · show List.length (_ ++ _) = _
      rw [List.length_append, ih.2]
      rfl
theorem at_nat {xs : List V} {v : V} {i : Int} {j : Nat} (h : xs[j]? = some v) (e : i = (j : Int)) : atI xs i = some v := at_of (j := j) (by omega) (by rw [← h])
theorem at_map {ns : List Int} {i : Int} {j : Nat} (h : j < ns.length) (e : i = (j : Int)) : atI (ns.map V.int) i = some (.int (ns.getD j 0)) := by
  refine at_nat ?_ e
  rw [List.getElem?_map, List.getD_eq_getElem?_getD, List.getElem?_eq_getElem h]
  rfl
theorem ixn_of {n j : Nat} {i : Int} (h : j < n) (e : i = (j : Int)) : ixN n i = some j := by
  subst e
  unfold ixN
  simp [h]
theorem rep_len {n : Nat} {v : V} : (List.replicate n [v]).flatten.length = n := by
  induction n with
  | zero => rfl
  | succ n ih =>
    rw [List.replicate_succ, List.flatten_cons, List.length_append, ih]
    show 1 + n = n + 1
    omega
/-- the share of row by bs -/
def dvQ (bs row : List Int) : List Int := (dvN bs row (row.length - (bs.length - 1))).2.reverse
/-- the rest of row by bs -/
def dvR (bs row : List Int) : List Int := (dvN bs row (row.length - (bs.length - 1))).1 ++ List.replicate (bs.length - 1 - (dvN bs row (row.length - (bs.length - 1))).1.length) 0
theorem rep_flat2 {n : Nat} {v : V} : (List.replicate n [v]).flatten = List.replicate n v := by
  induction n with
  | zero => rfl
  | succ n ih =>
    rw [List.replicate_succ, List.flatten_cons, ih]
    rfl
section
open PySem.Spec PyProof.Rows
variable {P : Program} {w : World} {K : PySem.W.Frag} {mg : Str → Option Value} {base : Heap}
theorem fnsub {CX : CXT} {k : Nat} {f : Addr} {fd : FuncData} {ps : List Str} {sp sp1 : Sp} (G1 : FnOk P w K mg base CX k f fd ps sp1) (h : ∀ vs H Q E, sp vs H Q E → sp1 vs H Q E) : FnOk P w K mg base CX k f fd ps sp :=
  ⟨fun vs H Q E x => G1.len vs H Q E (h vs H Q E x), fun A outer s H args us vs Q E hr e0 hb r x => G1.run A outer s H args us vs Q E hr e0 hb r (h vs H Q E x)⟩
end
abbrev s_divided : Stmt := top 24
abbrev N_divided : List Str := ["row", "by", "degree", "rest", "falling", "top", "start", "at"]
abbrev P_divided : List Str := ["row", "by"]
theorem sc_divided : FnScope N_divided P_divided (defScope s_divided) := ⟨rfl, rfl, rfl, by decide +kernel, rfl, by decide +kernel, by decide +kernel⟩
def spDvd (K : PySem.W.Frag) : Sp := fun vs H Q _ => ∃ (a b : Addr) (row bs : List Int), vs = [.ref a, .ref b] ∧ SqL K H a (row.map V.int) ∧ SqL K H b (bs.map V.int) ∧ 1 ≤ bs.length ∧ bs.length ≤ 1000 ∧ row.length ≤ 1000 ∧ (∀ x ∈ bs, -1000000 ≤ x ∧ x ≤ 1000000) ∧
  ∀ t q z H', H q = none → Same H H' → SqT K H' t [.ref q, .ref z] → H' q = some (.lst ((dvQ bs row).map V.int)) → Q (.ref t) H'
def spDvd2 (K : PySem.W.Frag) : Sp := fun vs H Q _ => ∃ (a b : Addr) (row bs : List Int), vs = [.ref a, .ref b] ∧ SqL K H a (row.map V.int) ∧ (SqL K H b (bs.map V.int) ∨ SqT K H b (bs.map V.int)) ∧ 1 ≤ bs.length ∧ bs.length ≤ 1000 ∧ row.length ≤ 1000 ∧ (∀ x ∈ bs, -1000000 ≤ x ∧ x ≤ 1000000) ∧
  ∀ t q z H', H q = none → Same H H' → SqT K H' t [.ref q, .ref z] → H' q = some (.lst ((dvQ bs row).map V.int)) → H z = none → H' z = some (.lst ((dvR bs row).map V.int)) → Q (.ref t) H'
section
variable {P : Program} {w : World} {K : PySem.W.Frag} {mg : Str → Option Value} {base : Heap}
theorem ok_divided2 {f : Addr} {fd : FuncData} {k : Nat} (F : Fun K "divided" "divided" s_divided f fd) (T : Blt mg) : FnOk P w K mg base CX0 (k + 1) f fd P_divided (spDvd2 K) := by
  have nd := sc_divided.nd
  refine F.ok sc_divided (fun vs H Q E h => ?_) (fun cdv A outer s H vs Q E hr h => ?_)
  · obtain ⟨a, b, row, bs, rfl, _⟩ := h
    rfl
  · obtain ⟨a, b, row, bs, rfl, ha, hb, b1, b2, r1, hbb, q⟩ := h
    refine ⟨_, (pss_cons (ps_set (i := 2) nd rfl (Or.inl rfl) (pe_op op_sub (pe_callB (r := rLenQ K) call_len_seq (by rfl) T.b_len (by decide +kernel) (pa_cons (pv 1) pa_nil)) (pe_int)))
      (pss_cons (ps_set (i := 3) nd rfl (Or.inl rfl) (pe_callTy call_list_of (by rfl) T.b_list (by decide +kernel) (pa_cons (pv 0) pa_nil)))
      (pss_cons (ps_set (i := 4) nd rfl (Or.inl rfl) (pe_lst pa_nil))
      (pss_cons (ps_while PassesOwn.never (pt_cmpR op_gt (pe_callB (r := rLenQ K) call_len_seq (by rfl) T.b_len (by decide +kernel) (pa_cons (pv 3) pa_nil)) (pv 2) (nomark _))
      (pss_cons (ps_set (i := 5) nd rfl (Or.inl rfl) (pe_bm0 PySem.F.plainAttrs_list PySem.F.slot_list_pop PySem.F.type_list_pop mt_pop (pv 3)))
      (pss_cons (ps_expr (pe_bm PySem.F.plainAttrs_list PySem.F.slot_list_append PySem.F.type_list_append mt_append (pv 4) (pa_cons (pv 5) pa_nil)))
      (pss_cons (ps_set (i := 6) nd rfl (Or.inl rfl) (pe_op op_sub (pe_callB (r := rLenQ K) call_len_seq (by rfl) T.b_len (by decide +kernel) (pa_cons (pv 3) pa_nil)) (pv 2)))
      (pss_one (ps_for PassesOwn.never rfl (pi_range1 (by rfl) T.b_range (pa_cons (pv 2) pa_nil)) (pg_name (i := 7) nd rfl (Or.inl rfl))
      (pss_one (ps_augS (pv 3) (pe_op op_add (pv 6) (pv 7)) (get_list (X := _)) (pe_op op_mul (pv 5) (pe_ix (r := rIxQ K) ix_seq (pv 1) (pv 7) (fun _ _ => rfl))) ip_sub set_list))))))))
      (pss_one (ps_ret (pe_tup (pa_cons (pe_revL (pv 4)) (pa_cons (pe_op op_cat (pv 3) (pe_op op_rep (pe_lst (pa_cons (pe_int) pa_nil)) (pe_op op_sub (pv 2) (pe_callB (r := rLenQ K) call_len_seq (by rfl) T.b_len (by decide +kernel) (pa_cons (pv 3) pa_nil))))) pa_nil))))))))), ?_⟩
    walk_at "ev"
    intro l1 hl1
    generalize hG : upd _ l1 _ = H1
    obtain ⟨sm1, hq1⟩ := newO hG hl1
    clear hG
    walk_at "ev"
    intro l2 hl2
    generalize hG : upd _ l2 _ = H2
    obtain ⟨sm2, hq2⟩ := newO hG hl2
    clear hG
    have n12 : l1 ≠ l2 := ne_of_none hq1 hl2
    have f2 : H l2 = none := sm1.free hl2
    walk_at "ev"
    refine ⟨fun m σ H' => ∃ (n : Nat) (s5 s6 s7 : Option V), σ = [some (.ref a), some (.ref b), some (.int (((bs.map V.int).length : Int) - 1)), some (.ref l1), some (.ref l2), s5, s6, s7] ∧ m = row.length - n ∧ n ≤ row.length - (bs.length - 1) ∧ Same H H' ∧ H' l1 = some (.lst ((dvN bs row n).1.map V.int)) ∧ H' l2 = some (.lst ((dvN bs row n).2.map V.int)), ⟨_, 0, none, none, none, rfl, rfl, Nat.zero_le _, sm1.trans sm2, sm2 _ _ hq1, hq2⟩, ?_⟩
    rintro m σ H3 ⟨n, s5, s6, s7, rfl, rfl, hn, sm3, h1, h2⟩
    obtain ⟨e1, e2⟩ := dvN_len (bs := bs) (row := row) (n := n)
    have hL1 := SqL.of (K := K) h1
    walk_at "ev"
    refine ite2 (fun c => ?_) (fun c => ?_)
    · have c1 := of_decide_eq_true c
      simp only [List.length_map, e1] at c1
      refine ⟨_, holdN, ?_⟩
      have hy : ((dvN bs row n).1.map V.int)[((dvN bs row n).1.map V.int).length - 1]? = some (.int ((dvN bs row n).1.getD ((dvN bs row n).1.length - 1) 0)) := by
        rw [List.getElem?_map, List.length_map, List.getD_eq_getElem?_getD, List.getElem?_eq_getElem (by omega)]
        rfl
      have etop : ∃ top, (dvN bs row n).1.getD ((dvN bs row n).1.length - 1) 0 = top := ⟨_, rfl⟩
      obtain ⟨top, htop⟩ := etop
      rw [htop] at hy
      walk_at "ev"
      generalize hG : upd _ l1 _ = H4
      obtain ⟨k4, hq4⟩ := mutO hG
      have sm4 : Same H H4 := by rw [← hG]; exact same_mut sm3 hl1
      clear hG
      have h24 := k4 _ _ n12.symm h2
      have h14 : upd H4 l2 (.lst ((dvN bs row n).2.map V.int ++ [.int top])) l1 = some (.lst ((dvN bs row n).1.map V.int).dropLast) := by
        rw [upd_ne n12]
        exact hq4
      have hL5 := SqL.of (K := K) h14
      walk_at "ev"
      generalize hG : upd H4 l2 _ = H5
      have sm5 : Same H H5 := by rw [← hG]; exact same_mut sm4 f2
      have h25 := (mutO hG).2
      rw [hG] at h14
      clear hG hL5
      have edl : ((dvN bs row n).1.map V.int).dropLast = (dvN bs row n).1.dropLast.map V.int := by
        rw [List.map_dropLast]
      rw [edl] at h14
      refine for_range (lo := 0) (n := (((bs.map V.int).length : Int) - 1).toNat) (fun i σ H' => Hold (∃ s7, σ = [some (.ref a), some (.ref b), some (.int (((bs.map V.int).length : Int) - 1)), some (.ref l1), some (.ref l2), some (.int top), some (.int (((((dvN bs row n).1.map V.int).dropLast).length : Int) - (((bs.map V.int).length : Int) - 1))), s7] ∧ Same H H' ∧ H' l1 = some (.lst ((subAt ((dvN bs row n).1.length - 1 - (bs.length - 1)) top bs (dvN bs row n).1.dropLast i).map V.int)) ∧ H' l2 = some (.lst ((dvN bs row n).2.map V.int ++ [.int top])))) (.mk ⟨_, rfl, sm5, h14, h25⟩) ?_ ?_
      · intro i σ H6 hi hP
        obtain ⟨s7, rfl, sm6, h16, h26⟩ := hP.un
        have hi1 : i < bs.length - 1 := by
          rw [List.length_map] at hi
          omega
        have hb6 := sq_same sm6 hb
        have hL6 := SqL.of (K := K) h16
        have hsl := subAt_len (start := (dvN bs row n).1.length - 1 - (bs.length - 1)) (top := top) (bs := bs) (r := (dvN bs row n).1.dropLast) (i := i)
        rw [List.length_dropLast] at hsl
        have eix : ((((dvN bs row n).1.map V.int).dropLast).length : Int) - (((bs.map V.int).length : Int) - 1) + (0 + (i : Int)) = (((dvN bs row n).1.length - 1 - (bs.length - 1) + i : Nat) : Int) := by
          rw [List.length_dropLast, List.length_map, List.length_map]
          omega
        have hlt : (dvN bs row n).1.length - 1 - (bs.length - 1) + i < (dvN bs row n).1.length - 1 := by omega
        have at1 : atI ((subAt ((dvN bs row n).1.length - 1 - (bs.length - 1)) top bs (dvN bs row n).1.dropLast i).map V.int) (((((dvN bs row n).1.map V.int).dropLast).length : Int) - (((bs.map V.int).length : Int) - 1) + (0 + (i : Int))) = some (.int ((subAt ((dvN bs row n).1.length - 1 - (bs.length - 1)) top bs (dvN bs row n).1.dropLast i).getD ((dvN bs row n).1.length - 1 - (bs.length - 1) + i) 0)) := by
          refine at_nat ?_ eix
          rw [List.getElem?_map, List.getD_eq_getElem?_getD, List.getElem?_eq_getElem (by omega)]
          rfl
        have hix : ixN ((subAt ((dvN bs row n).1.length - 1 - (bs.length - 1)) top bs (dvN bs row n).1.dropLast i).map V.int).length (((((dvN bs row n).1.map V.int).dropLast).length : Int) - (((bs.map V.int).length : Int) - 1) + (0 + (i : Int))) = some ((dvN bs row n).1.length - 1 - (bs.length - 1) + i) := by
          exact ixn_of (by rw [List.length_map]; omega) eix
        have at2 : atI (bs.map V.int) (0 + (i : Int)) = some (.int (bs.getD i 0)) := by
          refine at_nat (j := i) ?_ (by omega)
          rw [List.getElem?_map, List.getD_eq_getElem?_getD, List.getElem?_eq_getElem (by omega)]
          rfl
        have hbi : -1000000 ≤ bs.getD i 0 ∧ bs.getD i 0 ≤ 1000000 := by
          rw [List.getD_eq_getElem?_getD, List.getElem?_eq_getElem (by omega)]
          exact hbb _ (List.getElem_mem _)
        have cm : CMul top (bs.getD i 0) := .inr ⟨by omega, by omega⟩
        walk_at "ev"
        refine .mk ⟨_, rfl, same_mut sm6 hl1, ?_, ?_⟩
        · rw [upd_same, subAt, List.map_set]
        · rw [upd_ne n12.symm]
          exact h26
      · intro σ H6 hP
        obtain ⟨s7, rfl, sm6, h16, h26⟩ := hP.un
        have edg : (((bs.map V.int).length : Int) - 1).toNat = bs.length - 1 := by
          rw [List.length_map]
          omega
        rw [edg] at h16
        refine .mk ⟨row.length - (n + 1), by omega, n + 1, _, _, _, rfl, rfl, by omega, sm6, ?_, ?_⟩
        · rw [h16, dvN, dvS, htop]
        · rw [h26, dvN, dvS, htop]
          show _ = some (HO.lst (List.map _ (_ ++ _)))
          rw [List.map_append]
          rfl
    · have c1 : ¬ _ := fun z => c (decide_eq_true z)
      simp only [List.length_map, e1] at c1
      have hL2 := SqL.of (K := K) h2
      have en : n = row.length - (bs.length - 1) := by omega
      walk_at "ev"
      intro q1 hq
      generalize hG : upd _ q1 _ = H4
      obtain ⟨sm4, hq4⟩ := newO hG hq
      clear hG
      have hL4 := sm4.seq hL1
      walk_at "ev"
      intro l5 hl5
      generalize hG : upd _ l5 _ = H5
      obtain ⟨sm5, hq5⟩ := newO hG hl5
      clear hG
      have hL5 := sm5.seq hL4
      have z1 : ([V.int 0] : List V).length * ((((bs.map V.int).length : Int) - 1) - (((dvN bs row n).1.map V.int).length : Int)).toNat ≤ sizeLine := szl (by rw [List.length_map, List.length_map]; show 1 * _ ≤ 60000; omega)
      have z2 : -(2 ^ 63) ≤ (((bs.map V.int).length : Int) - 1) - (((dvN bs row n).1.map V.int).length : Int) := by rw [List.length_map, List.length_map]; omega
      have z3 : (((bs.map V.int).length : Int) - 1) - (((dvN bs row n).1.map V.int).length : Int) < 2 ^ 63 := by rw [List.length_map, List.length_map]; omega
      walk_at "ev"
      intro l6 hl6
      generalize hG : upd _ l6 _ = H6
      obtain ⟨sm6, hq6⟩ := newO hG hl6
      clear hG
      have h16 := (sm4.trans (sm5.trans sm6)) _ _ h1
      have z4 : ((dvN bs row n).1.map V.int).length + (List.replicate ((((bs.map V.int).length : Int) - 1) - (((dvN bs row n).1.map V.int).length : Int)).toNat [V.int 0]).flatten.length ≤ sizeLine := szl (by
        rw [rep_len, List.length_map, List.length_map]
        show _ ≤ 60000
        omega)
      walk_at "ev"
      intro l7 hl7
      generalize hG : upd _ l7 _ = H7
      obtain ⟨sm7, hq7⟩ := newO hG hl7
      clear hG
      walk_at "ev"
      intro t8 ht8
      generalize hG : upd _ t8 _ = H8
      obtain ⟨sm8, hq8⟩ := newO hG ht8
      clear hG
      have s48 := sm5.trans (sm6.trans (sm7.trans sm8))
      refine q t8 q1 l7 H8 (sm3.free hq) (sm3.trans (sm4.trans s48)) (SqT.of hq8) ?_ ((sm3.trans (sm4.trans (sm5.trans sm6))).free hl7) ?_
      · rw [s48 _ _ hq4, dvQ, ← en, List.map_reverse]
      · rw [sm8 _ _ hq7, dvR, ← en, List.map_append, rep_flat2, List.map_replicate, List.length_map, List.length_map]
        congr 4
        omega
theorem ok_divided {f : Addr} {fd : FuncData} {k : Nat} (F : Fun K "divided" "divided" s_divided f fd) (T : Blt mg) : FnOk P w K mg base CX0 (k + 1) f fd P_divided (spDvd K) :=
  fnsub (ok_divided2 F T) fun vs H Q E ⟨a, b, row, bs, h1, h2, h3, h4, h5, h6, h7, q⟩ => ⟨a, b, row, bs, h1, h2, .inl h3, h4, h5, h6, h7, fun t y z H' e1 e2 e3 e4 _ _ => q t y z H' e1 e2 e3 e4⟩
end
/-! ### wheels to thirty, by a table -/
def WT : List (List Int) := [[], [-1, 1], [1, 1], [1, 1, 1], [1, 0, 1], [1, 1, 1, 1, 1], [1, -1, 1], [1, 1, 1, 1, 1, 1, 1], [1, 0, 0, 0, 1], [1, 0, 0, 1, 0, 0, 1], [1, -1, 1, -1, 1], [1, 1, 1, 1, 1, 1, 1, 1, 1, 1, 1], [1, 0, -1, 0, 1], [1, 1, 1, 1, 1, 1, 1, 1, 1, 1, 1, 1, 1], [1, -1, 1, -1, 1, -1, 1], [1, -1, 0, 1, -1, 1, 0, -1, 1], [1, 0, 0, 0, 0, 0, 0, 0, 1], [1, 1, 1, 1, 1, 1, 1, 1, 1, 1, 1, 1, 1, 1, 1, 1, 1], [1, 0, 0, -1, 0, 0, 1], [1, 1, 1, 1, 1, 1, 1, 1, 1, 1, 1, 1, 1, 1, 1, 1, 1, 1, 1], [1, 0, -1, 0, 1, 0, -1, 0, 1], [1, -1, 0, 1, -1, 0, 1, 0, -1, 1, 0, -1, 1], [1, -1, 1, -1, 1, -1, 1, -1, 1, -1, 1], [1, 1, 1, 1, 1, 1, 1, 1, 1, 1, 1, 1, 1, 1, 1, 1, 1, 1, 1, 1, 1, 1, 1], [1, 0, 0, 0, -1, 0, 0, 0, 1], [1, 0, 0, 0, 0, 1, 0, 0, 0, 0, 1, 0, 0, 0, 0, 1, 0, 0, 0, 0, 1], [1, -1, 1, -1, 1, -1, 1, -1, 1, -1, 1, -1, 1], [1, 0, 0, 0, 0, 0, 0, 0, 0, 1, 0, 0, 0, 0, 0, 0, 0, 0, 1], [1, 0, -1, 0, 1, 0, -1, 0, 1, 0, -1, 0, 1], [1, 1, 1, 1, 1, 1, 1, 1, 1, 1, 1, 1, 1, 1, 1, 1, 1, 1, 1, 1, 1, 1, 1, 1, 1, 1, 1, 1, 1], [1, 1, 0, -1, -1, -1, 0, 1, 1]]
def whl (n : Nat) : List Int := WT.getD n []
def pdv (n : Nat) : List Nat := (List.range' 1 (n - 1)).filter fun d => decide (n % d = 0)
def whS (n : Nat) : List Int := [-1] ++ List.replicate (n - 1) 0 ++ [1]
theorem whl_ok : ∀ n < 31, 1 ≤ n → (pdv n).foldl (fun t d => dvQ (whl d) t) (whS n) = whl n := by decide +kernel
theorem whl_len : ∀ n < 31, 1 ≤ n → 1 ≤ (whl n).length ∧ (whl n).length ≤ 31 := by decide +kernel
theorem whl_bnd : ∀ n < 31, ∀ x ∈ whl n, -1000000 ≤ x ∧ x ≤ 1000000 := by decide +kernel
theorem dvQ_len {bs row : List Int} : (dvQ bs row).length ≤ row.length := by
  unfold dvQ
  rw [List.length_reverse, dvN_len.2]
  omega
theorem pdv_dv {n : Nat} (h : 1 ≤ n) : IsDv (n : Int) ((pdv n ++ [n]).map Int.ofNat) := by
  refine ⟨?_, fun k => ?_⟩
  · rw [List.pairwise_map, List.pairwise_append]
    refine ⟨?_, List.pairwise_singleton _ _, fun x hx y hy => ?_⟩
    · refine (List.Pairwise.filter _ (List.pairwise_lt_range' (s := 1) (n := n - 1))).imp fun {x y} z => ?_
      exact Int.ofNat_lt.mpr z
    · have h1 := (List.mem_filter.mp hx).1
      rw [List.mem_range'_1] at h1
      rw [List.mem_singleton.mp hy]
      exact Int.ofNat_lt.mpr (by omega)
  · rw [List.mem_map]
    constructor
    · rintro ⟨x, hx, rfl⟩
      rcases List.mem_append.mp hx with z | z
      · obtain ⟨h1, h2⟩ := List.mem_filter.mp z
        rw [List.mem_range'_1] at h1
        exact ⟨Int.ofNat_le.mpr h1.1, Int.ofNat_dvd.mpr (Nat.dvd_of_mod_eq_zero (of_decide_eq_true h2))⟩
      · rw [List.mem_singleton.mp z]
        exact ⟨Int.ofNat_le.mpr h, Int.dvd_refl _⟩
    · rintro ⟨h1, h2⟩
      obtain ⟨m, rfl⟩ := Int.eq_ofNat_of_zero_le (show 0 ≤ k by omega)
      have h3 : m ∣ n := Int.ofNat_dvd.mp h2
      have h4 := Nat.le_of_dvd (by omega) h3
      refine ⟨m, List.mem_append.mpr ?_, rfl⟩
      by_cases c : m = n
      · exact .inr (by rw [c]; exact List.mem_singleton.mpr rfl)
      · refine .inl (List.mem_filter.mpr ⟨?_, decide_eq_true (Nat.mod_eq_zero_of_dvd h3)⟩)
        rw [List.mem_range'_1]
        omega
theorem rep_flat {n : Nat} {v : V} : (List.replicate n [v]).flatten = List.replicate n v := by
  induction n with
  | zero => rfl
  | succ n ih =>
    rw [List.replicate_succ, List.flatten_cons, ih]
    rfl
theorem cut_last {xs : List V} {v : V} : cutV (xs ++ [v]) none (some (-1)) = xs := by
  unfold cutV
  have e : HT.sIx (xs ++ [v]).length (xs ++ [v]).length (some (-1)) = xs.length := by
    simp [HT.sIx]
    try omega
  have e0 : HT.sIx (xs ++ [v]).length 0 none = 0 := by simp [HT.sIx]
  rw [e, e0, List.drop_zero, Nat.sub_zero, List.take_left]
abbrev s_wheel : Stmt := top 26
abbrev N_wheel : List Str := ["order", "told", "divisor"]
abbrev P_wheel : List Str := ["order"]
theorem sc_wheel : FnScope N_wheel P_wheel (defScope s_wheel) := ⟨rfl, rfl, rfl, by decide +kernel, rfl, by decide +kernel, by decide +kernel⟩
def spWheel (j : Nat) : Sp := fun vs H Q _ => ∃ (n : Nat), vs = [.int (n : Int)] ∧ 1 ≤ n ∧ n < 31 ∧ n < 2 ^ j ∧ ∀ l H', H l = none → Same H H' → H' l = some (.lst ((whl n).map V.int)) → Q (.ref l) H'
section
variable {P : Program} {w : World} {K : PySem.W.Frag} {mg : Str → Option Value} {base : Heap}
theorem wheel_step {f f1 f2 : Addr} {fd d1 d2 : FuncData} {j : Nat} (D_wheel : Df K mg "wheel" s_wheel P_wheel f fd) (T : Blt mg) (D_divisors : Df K mg "divisors" s_divisors P_divisors f1 d1) (D_divided : Df K mg "divided" s_divided P_divided f2 d2)
    (G_wheel : FnOk P w K mg base CX0 (j + 1) f fd P_wheel (spWheel j)) : FnOk P w K mg base CX0 (j + 2) f fd P_wheel (spWheel (j + 1)) := by
  have F := D_wheel.F
  have G_divisors : FnOk P w K mg base CX0 1 f1 d1 P_divisors spDiv := ok_divisors D_divisors.F T
  have G_divided : FnOk P w K mg base CX0 1 f2 d2 P_divided (spDvd K) := ok_divided D_divided.F T
  have nd := sc_wheel.nd
  refine F.ok sc_wheel (fun vs H Q E h => ?_) (fun cdv A outer s H vs Q E hr h => ?_)
  · obtain ⟨n, rfl, _⟩ := h
    rfl
  · obtain ⟨n, rfl, n1, n31, nj, q⟩ := h
    refine ⟨_, (pss_cons (ps_set (i := 1) nd rfl (Or.inl rfl) (pe_op op_cat (pe_op op_cat (pe_lst (pa_cons (pe_un un_neg (pe_int)) pa_nil)) (pe_op op_rep (pe_lst (pa_cons (pe_int) pa_nil)) (pe_op op_sub (pv 0) (pe_int)))) (pe_lst (pa_cons (pe_int) pa_nil))))
      (pss_cons (ps_for PassesOwn.never rfl (pi_list (pe_slice (r := rSlL K) sl_list (pe_call G_divisors (hr.mono (by omega)) (by rfl) D_divisors.g D_divisors.F.kp D_divisors.b .nil pass0 (pa_cons (pv 0) pa_nil)) po_none (po_some (pe_un un_neg (pe_int))))) (pg_name (i := 2) nd rfl (Or.inl rfl))
      (pss_one (ps_set (i := 1) nd rfl (Or.inl rfl) (pe_ix (r := rIxT K) ix_tup (pe_call G_divided (hr.mono (by omega)) (by rfl) D_divided.g D_divided.F.kp D_divided.b .nil pass0 (pa_cons (pv 1) (pa_cons (pe_call G_wheel (hr.mono (by omega)) (by rfl) D_wheel.g D_wheel.F.kp D_wheel.b .nil pass0 (pa_cons (pv 2) pa_nil)) pa_nil))) (pe_int) (fun _ _ => rfl)))))
      (pss_one (ps_ret (pv 1))))), ?_⟩
    walk_at "ev"
    intro l1 hl1
    generalize hG : upd _ l1 _ = H1
    obtain ⟨sm1, hq1⟩ := newO hG hl1
    clear hG
    walk_at "ev"
    intro l2 hl2
    generalize hG : upd _ l2 _ = H2
    obtain ⟨sm2, hq2⟩ := newO hG hl2
    clear hG
    have z1 : ([V.int 0] : List V).length * ((n : Int) - 1).toNat ≤ sizeLine := szl (by show 1 * _ ≤ 60000; omega)
    walk_at "ev"
    intro l3 hl3
    generalize hG : upd _ l3 _ = H3
    obtain ⟨sm3, hq3⟩ := newO hG hl3
    clear hG
    have h13 := (sm2.trans sm3) _ _ hq1
    have z2 : ([(fun i => V.int (-i)) 1] : List V).length + (List.replicate ((n : Int) - 1).toNat [V.int 0]).flatten.length ≤ sizeLine := szl (by rw [rep_len]; show 1 + _ ≤ 60000; omega)
    walk_at "ev"
    intro l4 hl4
    generalize hG : upd _ l4 _ = H4
    obtain ⟨sm4, hq4⟩ := newO hG hl4
    clear hG
    walk_at "ev"
    intro l5 hl5
    generalize hG : upd _ l5 _ = H5
    obtain ⟨sm5, hq5⟩ := newO hG hl5
    clear hG
    have h45 := sm5 _ _ hq4
    have z3 : ([(fun i => V.int (-i)) 1] ++ (List.replicate ((n : Int) - 1).toNat [V.int 0]).flatten).length + ([V.int 1] : List V).length ≤ sizeLine := szl (by rw [List.length_append, rep_len]; show 1 + _ + 1 ≤ 60000; omega)
    walk_at "ev"
    intro l6 hl6
    generalize hG : upd _ l6 _ = H6
    obtain ⟨sm6, hq6⟩ := newO hG hl6
    clear hG
    have ew : [(fun i => V.int (-i)) 1] ++ (List.replicate ((n : Int) - 1).toNat [V.int 0]).flatten ++ [V.int 1] = (whS n).map V.int := by
      unfold whS
      rw [List.map_append, List.map_append, show ((n : Int) - 1).toNat = n - 1 by omega, List.map_replicate, rep_flat]
      rfl
    rw [ew] at hq6
    have s06 := sm1.trans (sm2.trans (sm3.trans (sm4.trans (sm5.trans sm6))))
    have f6 : H l6 = none := (sm1.trans (sm2.trans (sm3.trans (sm4.trans sm5)))).free hl6
    walk_at "ev"
    intro ds l7 H7 hdv hl7 sm7 hq7
    have eds := hdv.uniq (pdv_dv n1)
    subst eds
    have hL7 := SqL.of (K := K) hq7
    walk_at "ev"
    intro l8 hl8
    generalize hG : upd _ l8 _ = H8
    obtain ⟨sm8, hq8⟩ := newO hG hl8
    clear hG
    have ec : cutV (((pdv n ++ [n]).map Int.ofNat).map V.int) none (some (-1)) = (pdv n).map fun (d : Nat) => V.int (d : Int) := by
      rw [List.map_map, List.map_append]
      exact cut_last
    have hq8' : H8 l8 = some (.lst ((pdv n).map fun (d : Nat) => V.int (d : Int))) := by
      rw [hq8, ← ec]
    clear hq8
    have s08 := s06.trans (sm7.trans sm8)
    have f8 : H l8 = none := (s06.trans sm7).free hl8
    refine ⟨l8, rfl, ⟨_, SqL.of hq8'⟩, ?_⟩
    refine for_list (K := K) (a := l8) (xs := (pdv n).map fun (d : Nat) => V.int (d : Int)) (fun i σ H' => Hold (∃ (lt : Addr) (s2 : Option V), σ = [some (.int (n : Int)), some (.ref lt), s2] ∧ H lt = none ∧ Same H H' ∧ H' l8 = some (.lst ((pdv n).map fun (d : Nat) => V.int (d : Int))) ∧ (((pdv n).take i).foldl (fun t d => dvQ (whl d) t) (whS n)).length ≤ 1000 ∧ H' lt = some (.lst ((((pdv n).take i).foldl (fun t d => dvQ (whl d) t) (whS n)).map V.int)))) (.mk ⟨l6, _, rfl, f6, s08, hq8', ?_, (sm7.trans sm8) _ _ hq6⟩) ?_ ?_ ?_
    · show (whS n).length ≤ 1000
      unfold whS
      rw [List.length_append, List.length_append, List.length_replicate]
      show 1 + (n - 1) + 1 ≤ 1000
      omega
    · intro i σ Hx hi hP
      obtain ⟨lt, s2, rfl, ft, smx, hx8, hlen, hxt⟩ := hP.un
      exact SqL.of hx8
    · intro i v σ Hx hv hP
      obtain ⟨lt, s2, rfl, ft, smx, hx8, hlen, hxt⟩ := hP.un
      rw [List.getElem?_map] at hv
      obtain ⟨d, hd, ev⟩ := Option.map_eq_some_iff.mp hv
      subst ev
      obtain ⟨hd1, hd2⟩ := List.mem_filter.mp (List.mem_of_getElem? hd)
      rw [List.mem_range'_1] at hd1
      have hd3 := of_decide_eq_true hd2
      have hdn : 2 * d ≤ n := by
        obtain ⟨c, hc⟩ := Nat.dvd_of_mod_eq_zero hd3
        have c2 : 2 ≤ c := by
          apply Nat.le_of_not_lt
          intro z
          have : c = 0 ∨ c = 1 := by omega
          rcases this with z | z <;> subst z <;> omega
        have := Nat.mul_le_mul_left d c2
        omega
      have hdj : d < 2 ^ j := by
        rw [Nat.pow_succ] at nj
        omega
      have hd31 : d < 31 := by omega
      have hd0 : 1 ≤ d := hd1.1
      have hLt := SqL.of (K := K) hxt
      obtain ⟨wl1, wl2⟩ := whl_len d hd31 hd0
      have wl3 : (whl d).length ≤ 1000 := by omega
      have wb := whl_bnd d hd31
      walk_at "ev"
      intro lw H9 hlw sm9 hq9
      have hLw := SqL.of (K := K) hq9
      have hLt9 := sm9.seq hLt
      have et : ((pdv n).take (i + 1)).foldl (fun t d => dvQ (whl d) t) (whS n) = dvQ (whl d) (((pdv n).take i).foldl (fun t d => dvQ (whl d) t) (whS n)) := by
        rw [List.take_succ, hd, List.foldl_append]
        rfl
      have el := dvQ_len (bs := whl d) (row := ((pdv n).take i).foldl (fun t d => dvQ (whl d) t) (whS n))
      walk_at "ev"
      intro t10 q10 z10 H10 hq sm10 hT hq10
      have at0 : atI [V.ref q10, V.ref z10] 0 = some (.ref q10) := rfl
      walk_at "ev"
      refine .mk ⟨q10, _, rfl, (smx.trans sm9).free hq, smx.trans (sm9.trans sm10), (sm9.trans sm10) _ _ hx8, ?_, ?_⟩
      · rw [et]
        omega
      · rw [et]
        exact hq10
    · intro σ Hx hP
      obtain ⟨lt, s2, rfl, ft, smx, hx8, hlen, hxt⟩ := hP.un
      rw [List.length_map, List.take_length, whl_ok n n31 n1] at hxt
      walk_at "ev"
      exact q lt Hx ft smx hxt
theorem ok_wheel {f f1 f2 : Addr} {fd d1 d2 : FuncData} (D_wheel : Df K mg "wheel" s_wheel P_wheel f fd) (T : Blt mg) (D_divisors : Df K mg "divisors" s_divisors P_divisors f1 d1) (D_divided : Df K mg "divided" s_divided P_divided f2 d2) : ∀ j : Nat, FnOk P w K mg base CX0 (j + 1) f fd P_wheel (spWheel j)
  | 0 => ⟨fun _ _ _ _ ⟨n, _, h1, _, h2, _⟩ => absurd h2 (by rw [Nat.pow_zero]; omega), fun _ _ _ _ _ _ _ _ _ _ _ _ _ ⟨n, _, h1, _, h2, _⟩ => absurd h2 (by rw [Nat.pow_zero]; omega)⟩
  | j + 1 => wheel_step D_wheel T D_divisors D_divided (ok_wheel D_wheel T D_divisors D_divided j)
end
/-! ### the law's own dividing -/
def ldN (bs row : List Int) : Nat → List Int × List Int
  | 0 => (row, [])
  | n + 1 => (subAt (row.length - bs.length - n) ((ldN bs row n).1.getD (row.length - bs.length - n + bs.length - 1) 0) bs (ldN bs row n).1 bs.length, (ldN bs row n).2 ++ [(ldN bs row n).1.getD (row.length - bs.length - n + bs.length - 1) 0])
theorem ldN_len {bs row : List Int} {n : Nat} : (ldN bs row n).1.length = row.length ∧ (ldN bs row n).2.length = n := by
  induction n with
  | zero => exact ⟨rfl, rfl⟩
  | succ n ih =>
    rw [ldN]
    refine ⟨?_, ?_⟩
    · show (subAt _ _ _ _ _).length = _
      rw [subAt_len, ih.1]
    · show List.length (_ ++ _) = _
      rw [List.length_append, ih.2]
      rfl
def ldQ (bs row : List Int) : List Int := (ldN bs row (row.length + 1 - bs.length)).2.reverse
theorem ldQ_len {bs row : List Int} (h : 1 ≤ bs.length) : (ldQ bs row).length ≤ row.length := by
  unfold ldQ
  rw [List.length_reverse, ldN_len.2]
  omega
abbrev s__law_divided : Stmt := top 36
abbrev N__law_divided : List Str := ["_law_top", "_law_low", "_law_rest", "_law_found", "_law_place", "_law_many", "_law_spot", "_law_number"]
abbrev P__law_divided : List Str := ["_law_top", "_law_low"]
theorem sc__law_divided : FnScope N__law_divided P__law_divided (defScope s__law_divided) := ⟨rfl, rfl, rfl, by decide +kernel, rfl, by decide +kernel, by decide +kernel⟩
def spLdv (K : PySem.W.Frag) : Sp := fun vs H Q _ => ∃ (a b : Addr) (row bs : List Int), vs = [.ref a, .ref b] ∧ SqL K H a (row.map V.int) ∧ SqL K H b (bs.map V.int) ∧ 1 ≤ bs.length ∧ bs.length ≤ 1000 ∧ row.length ≤ 1000 ∧ (∀ x ∈ bs, -1000000 ≤ x ∧ x ≤ 1000000) ∧
  ∀ q H', H q = none → Same H H' → H' q = some (.lst ((ldQ bs row).map V.int)) → Q (.ref q) H'
section
variable {P : Program} {w : World} {K : PySem.W.Frag} {mg : Str → Option Value} {base : Heap}
theorem ok_ldv {f : Addr} {fd : FuncData} {k : Nat} (F : Fun K "_law_divided" "_law_divided" s__law_divided f fd) (T : Blt mg) : FnOk P w K mg base CX0 (k + 1) f fd P__law_divided (spLdv K) := by
  have nd := sc__law_divided.nd
  refine F.ok sc__law_divided (fun vs H Q E h => ?_) (fun cdv A outer s H vs Q E hr h => ?_)
  · obtain ⟨a, b, row, bs, rfl, _⟩ := h
    rfl
  · obtain ⟨a, b, row, bs, rfl, ha, hb, b1, b2, r1, hbb, q⟩ := h
    refine ⟨_, (pss_cons (ps_par (i := 2) (j := 3) (by rfl) nd rfl rfl (by decide) rfl rfl (pa_cons (pe_callTy call_list_of (by rfl) T.b_list (by decide +kernel) (pa_cons (pv 0) pa_nil)) (pa_cons (pe_lst pa_nil) pa_nil)) (by rfl))
      (pss_cons (ps_for PassesOwn.never rfl (pi_range3 (by rfl) T.b_range (pa_cons (pe_op op_sub (pe_callB (r := rLenQ K) call_len_seq (by rfl) T.b_len (by decide +kernel) (pa_cons (pv 0) pa_nil)) (pe_callB (r := rLenQ K) call_len_seq (by rfl) T.b_len (by decide +kernel) (pa_cons (pv 1) pa_nil))) (pa_cons (pe_un un_neg (pe_int)) (pa_cons (pe_un un_neg (pe_int)) pa_nil)))) (pg_name (i := 4) nd rfl (Or.inl rfl))
      (pss_cons (ps_set (i := 5) nd rfl (Or.inl rfl) (pe_ix (r := rIxL K) ix_list (pv 2) (pe_op op_sub (pe_op op_add (pv 4) (pe_callB (r := rLenQ K) call_len_seq (by rfl) T.b_len (by decide +kernel) (pa_cons (pv 1) pa_nil))) (pe_int)) (fun _ _ => rfl)))
      (pss_cons (ps_expr (pe_bm PySem.F.plainAttrs_list PySem.F.slot_list_append PySem.F.type_list_append mt_append (pv 3) (pa_cons (pv 5) pa_nil)))
      (pss_one (ps_for PassesOwn.never rfl (pi_enum (by rfl) T.b_enumerate (pa_cons (pv 1) pa_nil)) (pg_tup (by rfl) (pgs_cons (pg_name (i := 6) nd rfl (Or.inl rfl)) (pgs_cons (pg_name (i := 7) nd rfl (Or.inl rfl)) pgs_nil)))
      (pss_one (ps_asg (pe_op op_sub (pe_ix (r := rIxL K) ix_list (pv 2) (pe_op op_add (pv 4) (pv 6)) (fun _ _ => rfl)) (pe_op op_mul (pv 5) (pv 7))) (pg_sub (pv 2) (pe_op op_add (pv 4) (pv 6)) set_list))))))))
      (pss_one (ps_ret (pe_revL (pv 3)))))), ?_⟩
    walk_at "ev"
    intro l1 hl1
    generalize hG : upd _ l1 _ = H1
    obtain ⟨sm1, hq1⟩ := newO hG hl1
    clear hG
    walk_at "ev"
    intro l2 hl2
    generalize hG : upd _ l2 _ = H2
    obtain ⟨sm2, hq2⟩ := newO hG hl2
    clear hG
    have n12 : l1 ≠ l2 := ne_of_none hq1 hl2
    have f2 : H l2 = none := sm1.free hl2
    have sm02 := sm1.trans sm2
    have ha2 := sm02.seq ha
    have hb2 := sm02.seq hb
    have rg : RgC (((row.map V.int).length : Int) - ((bs.map V.int).length : Int)) (-1) (-1) ((((row.map V.int).length : Int) - ((bs.map V.int).length : Int)) - (-1)).toNat := RgC.neg (by rw [List.length_map, List.length_map]; omega) (by rw [List.length_map, List.length_map]; omega) (by decide) (by decide)
    walk_at "ev"
    have en : ((((row.map V.int).length : Int) - ((bs.map V.int).length : Int)) - (-1)).toNat = row.length + 1 - bs.length := by
      rw [List.length_map, List.length_map]
      omega
    refine for_rangeC (lo := _) (c := _) (n := _) (fun n σ H' => Hold (∃ (s4 s5 s6 s7 : Option V), σ = [some (.ref a), some (.ref b), some (.ref l1), some (.ref l2), s4, s5, s6, s7] ∧ Same H H' ∧ H' l1 = some (.lst ((ldN bs row n).1.map V.int)) ∧ H' l2 = some (.lst ((ldN bs row n).2.map V.int)))) (.mk ⟨none, none, none, none, rfl, sm02, sm2 _ _ hq1, hq2⟩) ?_ ?_
    · intro n σ H3 hn hP
      obtain ⟨s4, s5, s6, s7, rfl, sm3, h1, h2⟩ := hP.un
      rw [en] at hn
      obtain ⟨e1, e2⟩ := ldN_len (bs := bs) (row := row) (n := n)
      have hL1 := SqL.of (K := K) h1
      have hb3 := sm3.seq hb
      have epl : (((row.map V.int).length : Int) - ((bs.map V.int).length : Int)) + (n : Nat) * (-1) = ((row.length - bs.length - n : Nat) : Int) := by
        rw [List.length_map, List.length_map]
        omega
      rw [epl]
      have at1 : atI ((ldN bs row n).1.map V.int) (((row.length - bs.length - n : Nat) : Int) + ((bs.map V.int).length : Int) - 1) = some (.int ((ldN bs row n).1.getD (row.length - bs.length - n + bs.length - 1) 0)) := at_map (by omega) (by rw [List.length_map]; omega)
      obtain ⟨top, htop⟩ : ∃ top, (ldN bs row n).1.getD (row.length - bs.length - n + bs.length - 1) 0 = top := ⟨_, rfl⟩
      rw [htop] at at1
      walk_at "ev"
      generalize hG : upd _ l2 _ = H4
      obtain ⟨k4, hq4⟩ := mutO hG
      have sm4 : Same H H4 := by rw [← hG]; exact same_mut sm3 f2
      clear hG
      have h14 := k4 _ _ n12 h1
      have hb4 := sm4.seq hb
      refine ⟨hb4, for_enumL (K := K) (a := b) (xs := bs.map V.int) (fun i σ H' => Hold (∃ (s6 s7 : Option V), σ = [some (.ref a), some (.ref b), some (.ref l1), some (.ref l2), some (.int ((row.length - bs.length - n : Nat) : Int)), some (.int top), s6, s7] ∧ Same H H' ∧ H' l1 = some (.lst ((subAt (row.length - bs.length - n) top bs (ldN bs row n).1 i).map V.int)) ∧ H' l2 = some (.lst ((ldN bs row n).2.map V.int ++ [.int top])))) (.mk ⟨_, _, rfl, sm4, h14, hq4⟩) ?_ ?_ ?_⟩
      · intro i σ H5 hP
        obtain ⟨s6, s7, rfl, sm5, h15, h25⟩ := hP.un
        exact sm5.seq hb
      · intro i v T' σ H5 hv hP hT
        obtain ⟨s6, s7, rfl, sm5, h15, h25⟩ := hP.un
        rw [List.getElem?_map] at hv
        obtain ⟨x, hx, ev⟩ := Option.map_eq_some_iff.mp hv
        subst ev
        have hil : i < bs.length := (List.getElem?_eq_some_iff.mp hx).1
        have exi : bs.getD i 0 = x := by rw [List.getD_eq_getElem?_getD, hx]; rfl
        have hxb := hbb x (List.mem_of_getElem? hx)
        generalize hG : upd _ T' _ = H6
        obtain ⟨sm6, hq6⟩ := newO hG hT
        clear hG
        have hT6 : SqT K H6 T' [.int (i : Nat), .int x] := SqT.of hq6
        have h16 := sm6 _ _ h15
        have hL6 := SqL.of (K := K) h16
        have hsl := subAt_len (start := row.length - bs.length - n) (top := top) (bs := bs) (r := (ldN bs row n).1) (i := i)
        have at2 : atI ((subAt (row.length - bs.length - n) top bs (ldN bs row n).1 i).map V.int) (((row.length - bs.length - n : Nat) : Int) + (i : Nat)) = some (.int ((subAt (row.length - bs.length - n) top bs (ldN bs row n).1 i).getD (row.length - bs.length - n + i) 0)) := at_map (by omega) (by omega)
        have hix : ixN ((subAt (row.length - bs.length - n) top bs (ldN bs row n).1 i).map V.int).length (((row.length - bs.length - n : Nat) : Int) + (i : Nat)) = some (row.length - bs.length - n + i) := ixn_of (by rw [List.length_map]; omega) (by omega)
        have cm : CMul top x := .inr ⟨by omega, by omega⟩
        walk_at "ev"
        refine .mk ⟨_, _, rfl, same_mut (sm5.trans sm6) hl1, ?_, ?_⟩
        · rw [upd_same, subAt, List.map_set, exi]
        · rw [upd_ne n12.symm]
          exact sm6 _ _ h25
      · intro σ H5 hP
        obtain ⟨s6, s7, rfl, sm5, h15, h25⟩ := hP.un
        rw [List.length_map] at h15
        refine .mk ⟨_, _, _, _, rfl, sm5, ?_, ?_⟩
        · rw [h15, ldN, htop]
        · rw [h25, ldN, htop, List.map_append]
          rfl
    · intro σ H3 hP
      obtain ⟨s4, s5, s6, s7, rfl, sm3, h1, h2⟩ := hP.un
      rw [en] at h2
      have hL2 := SqL.of (K := K) h2
      walk_at "ev"
      intro q1 hq
      generalize hG : upd _ q1 _ = H4
      obtain ⟨sm4, hq4⟩ := newO hG hq
      clear hG
      refine q q1 H4 (sm3.free hq) (sm3.trans sm4) ?_
      rw [hq4, ldQ, List.map_reverse]
end
theorem owl_ok : ∀ n < 31, 1 ≤ n → (pdv n).foldl (fun t d => ldQ (whl d) t) (whS n) = whl n := by decide +kernel
theorem pdv_step {n i : Nat} (h : i < n - 1) : (List.range' 1 (i + 1)).filter (fun d => decide (n % d = 0)) = (List.range' 1 i).filter (fun d => decide (n % d = 0)) ++ (if n % (1 + i) = 0 then [1 + i] else []) := by
  rw [List.range'_concat, List.filter_append, Nat.one_mul]
  congr 1
  by_cases c : n % (1 + i) = 0
  · rw [if_pos c]
    simp [c]
  · rw [if_neg c]
    simp [c]
abbrev s__law_own_wheel : Stmt := top 37
abbrev N__law_own_wheel : List Str := ["_law_number", "_law_found", "_law_part"]
abbrev P__law_own_wheel : List Str := ["_law_number"]
theorem sc__law_own_wheel : FnScope N__law_own_wheel P__law_own_wheel (defScope s__law_own_wheel) := ⟨rfl, rfl, rfl, by decide +kernel, rfl, by decide +kernel, by decide +kernel⟩
section
variable {P : Program} {w : World} {K : PySem.W.Frag} {mg : Str → Option Value} {base : Heap}
theorem own_step {f f2 : Addr} {fd d2 : FuncData} {j : Nat} (D__law_own_wheel : Df K mg "_law_own_wheel" s__law_own_wheel P__law_own_wheel f fd) (T : Blt mg) (D__law_divided : Df K mg "_law_divided" s__law_divided P__law_divided f2 d2)
    (G__law_own_wheel : FnOk P w K mg base CX0 (j + 1) f fd P__law_own_wheel (spWheel j)) : FnOk P w K mg base CX0 (j + 2) f fd P__law_own_wheel (spWheel (j + 1)) := by
  have F := D__law_own_wheel.F
  have G__law_divided : FnOk P w K mg base CX0 1 f2 d2 P__law_divided (spLdv K) := ok_ldv D__law_divided.F T
  have nd := sc__law_own_wheel.nd
  refine F.ok sc__law_own_wheel (fun vs H Q E h => ?_) (fun cdv A outer s H vs Q E hr h => ?_)
  · obtain ⟨n, rfl, _⟩ := h
    rfl
  · obtain ⟨n, rfl, n1, n31, nj, q⟩ := h
    refine ⟨_, (pss_cons (ps_set (i := 1) nd rfl (Or.inl rfl) (pe_op op_cat (pe_op op_cat (pe_lst (pa_cons (pe_un un_neg (pe_int)) pa_nil)) (pe_op op_rep (pe_lst (pa_cons (pe_int) pa_nil)) (pe_op op_sub (pv 0) (pe_int)))) (pe_lst (pa_cons (pe_int) pa_nil))))
      (pss_cons (ps_for PassesOwn.never rfl (pi_range2 (by rfl) T.b_range (pa_cons (pe_int) (pa_cons (pv 0) pa_nil))) (pg_name (i := 2) nd rfl (Or.inl rfl))
      (pss_one (ps_if (pt_cmpR op_eq (pe_op op_mod (pv 0) (pv 2)) (pe_int) (nomark _)) (pss_one (ps_set (i := 1) nd rfl (Or.inl rfl) (pe_call G__law_divided (hr.mono (by omega)) (by rfl) D__law_divided.g D__law_divided.F.kp D__law_divided.b .nil pass0 (pa_cons (pv 1) (pa_cons (pe_call G__law_own_wheel (hr.mono (by omega)) (by rfl) D__law_own_wheel.g D__law_own_wheel.F.kp D__law_own_wheel.b .nil pass0 (pa_cons (pv 2) pa_nil)) pa_nil))))) pss_nil)))
      (pss_one (ps_ret (pv 1))))), ?_⟩
    walk_at "ev"
    intro l1 hl1
    generalize hG : upd _ l1 _ = H1
    obtain ⟨sm1, hq1⟩ := newO hG hl1
    clear hG
    walk_at "ev"
    intro l2 hl2
    generalize hG : upd _ l2 _ = H2
    obtain ⟨sm2, hq2⟩ := newO hG hl2
    clear hG
    have z1 : ([V.int 0] : List V).length * ((n : Int) - 1).toNat ≤ sizeLine := szl (by show 1 * _ ≤ 60000; omega)
    walk_at "ev"
    intro l3 hl3
    generalize hG : upd _ l3 _ = H3
    obtain ⟨sm3, hq3⟩ := newO hG hl3
    clear hG
    have h13 := (sm2.trans sm3) _ _ hq1
    have z2 : ([(fun i => V.int (-i)) 1] : List V).length + (List.replicate ((n : Int) - 1).toNat [V.int 0]).flatten.length ≤ sizeLine := szl (by rw [rep_len]; show 1 + _ ≤ 60000; omega)
    walk_at "ev"
    intro l4 hl4
    generalize hG : upd _ l4 _ = H4
    obtain ⟨sm4, hq4⟩ := newO hG hl4
    clear hG
    walk_at "ev"
    intro l5 hl5
    generalize hG : upd _ l5 _ = H5
    obtain ⟨sm5, hq5⟩ := newO hG hl5
    clear hG
    have h45 := sm5 _ _ hq4
    have z3 : ([(fun i => V.int (-i)) 1] ++ (List.replicate ((n : Int) - 1).toNat [V.int 0]).flatten).length + ([V.int 1] : List V).length ≤ sizeLine := szl (by rw [List.length_append, rep_len]; show 1 + _ + 1 ≤ 60000; omega)
    walk_at "ev"
    intro l6 hl6
    generalize hG : upd _ l6 _ = H6
    obtain ⟨sm6, hq6⟩ := newO hG hl6
    clear hG
    have ew : [(fun i => V.int (-i)) 1] ++ (List.replicate ((n : Int) - 1).toNat [V.int 0]).flatten ++ [V.int 1] = (whS n).map V.int := by
      unfold whS
      rw [List.map_append, List.map_append, show ((n : Int) - 1).toNat = n - 1 by omega, List.map_replicate, rep_flat]
      rfl
    rw [ew] at hq6
    have s06 := sm1.trans (sm2.trans (sm3.trans (sm4.trans (sm5.trans sm6))))
    have f6 : H l6 = none := (sm1.trans (sm2.trans (sm3.trans (sm4.trans sm5)))).free hl6
    walk_at "ev"
    refine for_range (lo := 1) (n := _) (fun i σ H' => Hold (∃ (lt : Addr) (s2 : Option V), σ = [some (.int (n : Int)), some (.ref lt), s2] ∧ H lt = none ∧ Same H H' ∧ ((((List.range' 1 i).filter fun d => decide (n % d = 0))).foldl (fun t d => ldQ (whl d) t) (whS n)).length ≤ 1000 ∧ H' lt = some (.lst (((((List.range' 1 i).filter fun d => decide (n % d = 0))).foldl (fun t d => ldQ (whl d) t) (whS n)).map V.int)))) (.mk ⟨l6, _, rfl, f6, s06, ?_, hq6⟩) ?_ ?_
    · show (whS n).length ≤ 1000
      unfold whS
      rw [List.length_append, List.length_append, List.length_replicate]
      show 1 + (n - 1) + 1 ≤ 1000
      omega
    · intro i σ Hx hi hP
      obtain ⟨lt, s2, rfl, ft, smx, hlen, hxt⟩ := hP.un
      have hi1 : i < n - 1 := by omega
      have hst := pdv_step hi1
      have ei : (1 : Int) + (i : Nat) = ((1 + i : Nat) : Int) := by omega
      rw [ei]
      walk_at "ev"
      refine ite2 (fun c => ?_) (fun c => ?_)
      · have c1 : n % (1 + i) = 0 := by
          have := V.int.inj (of_decide_eq_true c)
          omega
        rw [if_pos c1] at hst
        have hdn : 2 * (1 + i) ≤ n := by
          obtain ⟨m, hc⟩ := Nat.dvd_of_mod_eq_zero c1
          have c2 : 2 ≤ m := by
            apply Nat.le_of_not_lt
            intro z
            have : m = 0 ∨ m = 1 := by omega
            rcases this with z | z <;> subst z <;> omega
          have := Nat.mul_le_mul_left (1 + i) c2
          omega
        have hdj : 1 + i < 2 ^ j := by
          rw [Nat.pow_succ] at nj
          omega
        have hd31 : 1 + i < 31 := by omega
        have hd0 : 1 ≤ 1 + i := by omega
        have hLt := SqL.of (K := K) hxt
        obtain ⟨wl1, wl2⟩ := whl_len (1 + i) hd31 hd0
        have wl3 : (whl (1 + i)).length ≤ 1000 := by omega
        have wb := whl_bnd (1 + i) hd31
        walk_at "ev"
        intro lw H9 hlw sm9 hq9
        have hLw := SqL.of (K := K) hq9
        have hLt9 := sm9.seq hLt
        have el := ldQ_len (bs := whl (1 + i)) (row := ((List.range' 1 i).filter fun d => decide (n % d = 0)).foldl (fun t d => ldQ (whl d) t) (whS n)) wl1
        walk_at "ev"
        intro q10 H10 hq sm10 hq10
        refine .mk ⟨q10, _, rfl, (smx.trans sm9).free hq, smx.trans (sm9.trans sm10), ?_, ?_⟩
        · rw [hst, List.foldl_append]
          show (ldQ _ _).length ≤ 1000
          omega
        · rw [hst, List.foldl_append]
          exact hq10
      · have c1 : ¬ n % (1 + i) = 0 := fun z => c (decide_eq_true (congrArg V.int (by omega)))
        rw [if_neg c1, List.append_nil] at hst
        walk_at "ev"
        refine .mk ⟨lt, _, rfl, ft, smx, ?_, ?_⟩
        · rw [hst]
          exact hlen
        · rw [hst]
          exact hxt
    · intro σ Hx hP
      obtain ⟨lt, s2, rfl, ft, smx, hlen, hxt⟩ := hP.un
      have en : ((n : Int) - 1).toNat = n - 1 := by omega
      rw [en] at hxt
      have hk := owl_ok n n31 n1
      unfold pdv at hk
      rw [hk] at hxt
      walk_at "ev"
      exact q lt Hx ft smx hxt
theorem ok_own {f f2 : Addr} {fd d2 : FuncData} (D__law_own_wheel : Df K mg "_law_own_wheel" s__law_own_wheel P__law_own_wheel f fd) (T : Blt mg) (D__law_divided : Df K mg "_law_divided" s__law_divided P__law_divided f2 d2) : ∀ j : Nat, FnOk P w K mg base CX0 (j + 1) f fd P__law_own_wheel (spWheel j)
  | 0 => ⟨fun _ _ _ _ ⟨n, _, h1, _, h2, _⟩ => absurd h2 (by rw [Nat.pow_zero]; omega), fun _ _ _ _ _ _ _ _ _ _ _ _ _ ⟨n, _, h1, _, h2, _⟩ => absurd h2 (by rw [Nat.pow_zero]; omega)⟩
  | j + 1 => own_step D__law_own_wheel T D__law_divided (ok_own D__law_own_wheel T D__law_divided j)
end
/-! ### the law's own multiplying -/
def addAt (start : Nat) (top : Int) (bs : List Int) (r : List Int) : Nat → List Int
  | 0 => r
  | i + 1 => (addAt start top bs r i).set (start + i) ((addAt start top bs r i).getD (start + i) 0 + top * bs.getD i 0)
theorem addAt_len {start : Nat} {top : Int} {bs r : List Int} {i : Nat} : (addAt start top bs r i).length = r.length := by
  induction i with
  | zero => rfl
  | succ i ih => rw [addAt, List.length_set, ih]
def pmN (one two : List Int) : Nat → List Int
  | 0 => List.replicate (one.length + two.length - 1) 0
  | n + 1 => addAt n (one.getD n 0) two (pmN one two n) two.length
theorem pmN_len {one two : List Int} {n : Nat} : (pmN one two n).length = one.length + two.length - 1 := by
  induction n with
  | zero => rw [pmN, List.length_replicate]
  | succ n ih => rw [pmN, addAt_len, ih]
def pmul (one two : List Int) : List Int := pmN one two one.length
theorem set_same {l : List Int} {k : Nat} (h : k < l.length) : l.set k (l.getD k 0) = l := by
  rw [List.getD_eq_getElem?_getD, List.getElem?_eq_getElem h]
  exact List.set_getElem_self h
theorem addAt_zero {start : Nat} {bs r : List Int} : ∀ {i : Nat}, start + i ≤ r.length → addAt start 0 bs r i = r
  | 0, _ => rfl
  | i + 1, h => by
    rw [addAt, addAt_zero (by omega), Int.zero_mul, Int.add_zero]
    exact set_same (by omega)
abbrev s_multiplied : Stmt := top 25
abbrev N_multiplied : List Str := ["one", "other", "told", "at", "part", "place", "worth"]
abbrev P_multiplied : List Str := ["one", "other"]
theorem sc_multiplied : FnScope N_multiplied P_multiplied (defScope s_multiplied) := ⟨rfl, rfl, rfl, by decide +kernel, rfl, by decide +kernel, by decide +kernel⟩
def spMulT (K : PySem.W.Frag) : Sp := fun vs H Q _ => ∃ (a b : Addr) (one two : List Int), vs = [.ref a, .ref b] ∧ SqT K H a (one.map V.int) ∧ SqT K H b (two.map V.int) ∧ 1 ≤ two.length ∧ two.length ≤ 1000 ∧ one.length ≤ 1000 ∧ (∀ x ∈ one, x.natAbs < 2 ^ 9000) ∧ (∀ x ∈ two, x.natAbs < 2 ^ 9000) ∧
  ∀ q H', H q = none → Same H H' → H' q = some (.lst ((pmul one two).map V.int)) → Q (.ref q) H'
section
variable {P : Program} {w : World} {K : PySem.W.Frag} {mg : Str → Option Value} {base : Heap}
theorem ok_mulT {f : Addr} {fd : FuncData} {k : Nat} (F : Fun K "multiplied" "multiplied" s_multiplied f fd) (T : Blt mg) : FnOk P w K mg base CX0 (k + 1) f fd P_multiplied (spMulT K) := by
  have nd := sc_multiplied.nd
  refine F.ok sc_multiplied (fun vs H Q E h => ?_) (fun cdv A outer s H vs Q E hr h => ?_)
  · obtain ⟨a, b, one, two, rfl, _⟩ := h
    rfl
  · obtain ⟨a, b, one, two, rfl, ha, hb, b1, b2, r1, hbo, hbb, q⟩ := h
    refine ⟨_, (pss_cons (ps_set (i := 2) nd rfl (Or.inl rfl) (pe_op op_rep (pe_lst (pa_cons (pe_int) pa_nil)) (pe_op op_sub (pe_op op_add (pe_callB (r := rLenQ K) call_len_seq (by rfl) T.b_len (by decide +kernel) (pa_cons (pv 0) pa_nil)) (pe_callB (r := rLenQ K) call_len_seq (by rfl) T.b_len (by decide +kernel) (pa_cons (pv 1) pa_nil))) (pe_int))))
      (pss_cons (ps_for PassesOwn.never rfl (pi_enumT (by rfl) T.b_enumerate (pa_cons (pv 0) pa_nil)) (pg_tup (by rfl) (pgs_cons (pg_name (i := 3) nd rfl (Or.inl rfl)) (pgs_cons (pg_name (i := 4) nd rfl (Or.inl rfl)) pgs_nil)))
      (pss_one (ps_if (pt_cmpR op_ne (pv 4) (pe_int) (nomark _)) (pss_one (ps_for PassesOwn.never rfl (pi_enumT (by rfl) T.b_enumerate (pa_cons (pv 1) pa_nil)) (pg_tup (by rfl) (pgs_cons (pg_name (i := 5) nd rfl (Or.inl rfl)) (pgs_cons (pg_name (i := 6) nd rfl (Or.inl rfl)) pgs_nil)))
      (pss_one (ps_augS (pv 2) (pe_op op_add (pv 3) (pv 5)) (get_list (X := _)) (pe_op op_mulW (pv 4) (pv 6)) ip_add set_list)))) pss_nil)))
      (pss_one (ps_ret (pv 2))))), ?_⟩
    have z2 : -(2 ^ 63) ≤ ((one.map V.int).length : Int) + ((two.map V.int).length : Int) - 1 := by rw [List.length_map, List.length_map]; omega
    have z3 : ((one.map V.int).length : Int) + ((two.map V.int).length : Int) - 1 < 2 ^ 63 := by rw [List.length_map, List.length_map]; omega
    have z1 : ([V.int 0] : List V).length * (((one.map V.int).length : Int) + ((two.map V.int).length : Int) - 1).toNat ≤ sizeLine := szl (by rw [List.length_map, List.length_map]; show 1 * _ ≤ 60000; omega)
    walk_at "ev"
    intro l0 hl0
    generalize hG : upd _ l0 _ = H0
    obtain ⟨sm0, hq0⟩ := newO hG hl0
    clear hG
    have ha0 := same_t sm0 ha
    have hb0 := same_t sm0 hb
    walk_at "ev"
    intro l1 hl1
    generalize hG : upd _ l1 _ = H1
    obtain ⟨sm1, hq1⟩ := newO hG hl1
    clear hG
    have en : (((one.map V.int).length : Int) + ((two.map V.int).length : Int) - 1).toNat = one.length + two.length - 1 := by
      rw [List.length_map, List.length_map]
      omega
    have hq1' : H1 l1 = some (.lst ((pmN one two 0).map V.int)) := by
      rw [hq1, pmN, en, rep_flat, List.map_replicate]
    clear hq1
    have sm01 := sm0.trans sm1
    have ha1 := same_t sm01 ha
    have f1 : H l1 = none := sm0.free hl1
    walk_at "ev"
    refine for_enumT (K := K) (a := a) (xs := one.map V.int) (fun n σ H' => Hold (∃ (s3 s4 s5 s6 : Option V), σ = [some (.ref a), some (.ref b), some (.ref l1), s3, s4, s5, s6] ∧ Same H H' ∧ H' l1 = some (.lst ((pmN one two n).map V.int)))) (.mk ⟨none, none, none, none, rfl, sm01, hq1'⟩) ?_ ?_ ?_
    · intro i σ H5 hP
      obtain ⟨s3, s4, s5, s6, rfl, sm5, h15⟩ := hP.un
      exact same_t sm5 ha
    · intro n v T' σ H5 hv hP hT
      obtain ⟨s3, s4, s5, s6, rfl, sm5, h15⟩ := hP.un
      rw [List.getElem?_map] at hv
      obtain ⟨top, hx, ev⟩ := Option.map_eq_some_iff.mp hv
      subst ev
      have hnl : n < one.length := (List.getElem?_eq_some_iff.mp hx).1
      have exn : one.getD n 0 = top := by rw [List.getD_eq_getElem?_getD, hx]; rfl
      generalize hG : upd _ T' _ = H6
      obtain ⟨sm6, hq6⟩ := newO hG hT
      clear hG
      have hT6 : SqT K H6 T' [.int (n : Nat), .int top] := SqT.of hq6
      have h16 := sm6 _ _ h15
      have sm06 := sm5.trans sm6
      have hb6 := same_t sm06 hb
      walk_at "ev"
      by_cases c0 : top = 0
      · subst c0
        refine iteFe rfl ?_
        walk_at "ev"
        refine .mk ⟨_, _, _, _, rfl, sm06, ?_⟩
        rw [h16, pmN, exn, addAt_zero (by rw [pmN_len]; omega)]
      refine iteTe (by simp [c0]) ?_
      walk_at "ev"
      refine for_enumT (K := K) (a := b) (xs := two.map V.int) (fun i σ H' => Hold (∃ (s5 s6 : Option V), σ = [some (.ref a), some (.ref b), some (.ref l1), some (.int (n : Nat)), some (.int top), s5, s6] ∧ Same H H' ∧ H' l1 = some (.lst ((addAt n top two (pmN one two n) i).map V.int)))) (.mk ⟨_, _, rfl, sm06, h16⟩) ?_ ?_ ?_
      · intro i σ H7 hP
        obtain ⟨s5, s6, rfl, sm7, h17⟩ := hP.un
        exact same_t sm7 hb
      · intro i v T2 σ H7 hv hP hT2
        obtain ⟨s5, s6, rfl, sm7, h17⟩ := hP.un
        rw [List.getElem?_map] at hv
        obtain ⟨x, hx2, ev⟩ := Option.map_eq_some_iff.mp hv
        subst ev
        have hil : i < two.length := (List.getElem?_eq_some_iff.mp hx2).1
        have exi : two.getD i 0 = x := by rw [List.getD_eq_getElem?_getD, hx2]; rfl
        have hxb := hbb x (List.mem_of_getElem? hx2)
        generalize hG : upd _ T2 _ = H8
        obtain ⟨sm8, hq8⟩ := newO hG hT2
        clear hG
        have hT8 : SqT K H8 T2 [.int (i : Nat), .int x] := SqT.of hq8
        have h18 := sm8 _ _ h17
        have hL8 := SqL.of (K := K) h18
        have hsl := addAt_len (start := n) (top := top) (bs := two) (r := pmN one two n) (i := i)
        rw [pmN_len] at hsl
        have at2 : atI ((addAt n top two (pmN one two n) i).map V.int) ((n : Nat) + (i : Nat)) = some (.int ((addAt n top two (pmN one two n) i).getD (n + i) 0)) := at_map (by omega) (by omega)
        have hix : ixN ((addAt n top two (pmN one two n) i).map V.int).length ((n : Nat) + (i : Nat)) = some (n + i) := ixn_of (by rw [List.length_map]; omega) (by omega)
        have cm : CMulW top x := wide_mul (hbo top (List.mem_of_getElem? hx)) hxb (by decide) (by decide) (by decide)
        walk_at "ev"
        refine .mk ⟨_, _, rfl, same_mut (sm7.trans sm8) f1, ?_⟩
        rw [upd_same, addAt, List.map_set, exi]
      · intro σ H7 hP
        obtain ⟨s5, s6, rfl, sm7, h17⟩ := hP.un
        rw [List.length_map] at h17
        refine .mk ⟨_, _, _, _, rfl, sm7, ?_⟩
        rw [h17, pmN, exn]
    · intro σ H5 hP
      obtain ⟨s3, s4, s5, s6, rfl, sm5, h15⟩ := hP.un
      rw [List.length_map] at h15
      walk_at "ev"
      exact q l1 H5 f1 sm5 h15
end
/-! ### the rest, as the law walks it -/
def lrN (bs row : List Int) : Nat → List Int
  | 0 => row
  | n + 1 => subAt (row.length - 1 - n - (bs.length - 1)) ((lrN bs row n).getD (row.length - 1 - n) 0) bs (lrN bs row n) bs.length
theorem lrN_len {bs row : List Int} : ∀ n : Nat, (lrN bs row n).length = row.length
  | 0 => rfl
  | n + 1 => by rw [lrN, subAt_len, lrN_len n]
def lrR (bs row : List Int) : List Int := ((lrN bs row (row.length - (bs.length - 1))) ++ List.replicate (bs.length - 1) 0).take (bs.length - 1)
theorem getD_app {x y : List Int} {k : Nat} (h : k < x.length) : (x ++ y).getD k 0 = x.getD k 0 := by
  rw [List.getD_eq_getElem?_getD, List.getD_eq_getElem?_getD, List.getElem?_append_left h]
theorem subAt_app {start : Nat} {top : Int} {bs x y : List Int} : ∀ {i : Nat}, start + i ≤ x.length → subAt start top bs (x ++ y) i = subAt start top bs x i ++ y
  | 0, _ => rfl
  | i + 1, h => by
    have ih := subAt_app (start := start) (top := top) (bs := bs) (x := x) (y := y) (i := i) (by omega)
    have hl := subAt_len (start := start) (top := top) (bs := bs) (r := x) (i := i)
    rw [subAt, subAt, ih, getD_app (by omega), List.set_append_left _ _ (by omega)]
theorem lr_dv {bs row : List Int} (h1 : 1 ≤ bs.length) (h2 : bs.getD (bs.length - 1) 0 = 1) : ∀ n : Nat, n ≤ row.length - (bs.length - 1) → lrN bs row n = (dvN bs row n).1 ++ List.replicate n 0
  | 0, _ => by
    rw [lrN, dvN]
    exact (List.append_nil row).symm
  | n + 1, hn => by
    have ih := lr_dv (row := row) h1 h2 n (by omega)
    obtain ⟨e1, _⟩ := dvN_len (bs := bs) (row := row) (n := n)
    rw [lrN, ih, dvN, dvS, show bs.length = bs.length - 1 + 1 by omega, subAt]
    generalize hr : (dvN bs row n).1 = r at *
    have hrl : r.length = row.length - n := e1
    have hr0 : r ≠ [] := fun z => by rw [z, List.length_nil] at hrl; omega
    obtain ⟨top, htop⟩ : ∃ top, r.getD (r.length - 1) 0 = top := ⟨_, rfl⟩
    have es : r = r.dropLast ++ [top] := by
      have h := List.dropLast_concat_getLast hr0
      rw [← htop, List.getD_eq_getElem?_getD, List.getElem?_eq_getElem (by omega)]
      show r = r.dropLast ++ [r[r.length - 1]]
      rw [← List.getLast_eq_getElem hr0]
      exact h.symm
    have hpl : row.length - 1 - n = r.length - 1 := by omega
    have hdl : r.dropLast.length = r.length - 1 := List.length_dropLast
    rw [show bs.length - 1 + 1 - 1 = bs.length - 1 by omega, hpl, getD_app (by omega), htop]
    show (subAt (r.length - 1 - (bs.length - 1)) top bs (r ++ List.replicate n 0) (bs.length - 1)).set (r.length - 1 - (bs.length - 1) + (bs.length - 1)) ((subAt (r.length - 1 - (bs.length - 1)) top bs (r ++ List.replicate n 0) (bs.length - 1)).getD (r.length - 1 - (bs.length - 1) + (bs.length - 1)) 0 - top * bs.getD (bs.length - 1) 0) = subAt (r.length - 1 - (bs.length - 1)) top bs r.dropLast (bs.length - 1) ++ List.replicate (n + 1) 0
    have e2 : r ++ List.replicate n 0 = r.dropLast ++ ([top] ++ List.replicate n 0) := by
      rw [← List.append_assoc, ← es]
    rw [e2, subAt_app (by omega), show r.length - 1 - (bs.length - 1) + (bs.length - 1) = r.length - 1 by omega, h2, Int.mul_one]
    have hsl := subAt_len (start := r.length - 1 - (bs.length - 1)) (top := top) (bs := bs) (r := r.dropLast) (i := bs.length - 1)
    generalize hZ : subAt (r.length - 1 - (bs.length - 1)) top bs r.dropLast (bs.length - 1) = Z at *
    rw [List.set_append_right _ _ (by omega), show r.length - 1 - Z.length = 0 by omega, List.getD_eq_getElem?_getD, List.getElem?_append_right (by omega), show r.length - 1 - Z.length = 0 by omega]
    show Z ++ (top - top) :: List.replicate n 0 = Z ++ List.replicate (n + 1) 0
    rw [Int.sub_self]
    rfl
theorem lrR_eq {bs row : List Int} (h1 : 1 ≤ bs.length) (h2 : bs.getD (bs.length - 1) 0 = 1) : lrR bs row = dvR bs row := by
  unfold lrR dvR
  rw [lr_dv h1 h2 _ (Nat.le_refl _)]
  obtain ⟨e1, _⟩ := dvN_len (bs := bs) (row := row) (n := row.length - (bs.length - 1))
  generalize (dvN bs row (row.length - (bs.length - 1))).1 = r at *
  rw [List.append_assoc, List.replicate_append_replicate, List.take_append, List.take_of_length_le (by omega), List.take_replicate]
  congr 2
  omega
/-! ### how great they get -/
def Bd (A : Nat) (l : List Int) : Prop := ∀ x ∈ l, x.natAbs ≤ A
theorem Bd.up {A B : Nat} {l : List Int} (h : Bd A l) (e : A ≤ B) : Bd B l := fun x hx => Nat.le_trans (h x hx) e
theorem Bd.getD {A : Nat} {l : List Int} (h : Bd A l) (k : Nat) : (l.getD k 0).natAbs ≤ A := by
  rw [List.getD_eq_getElem?_getD]
  cases e : l[k]? with
  | none => exact Nat.zero_le _
  | some x => exact h x (List.mem_of_getElem? e)
theorem Bd.set {A : Nat} {l : List Int} {k : Nat} {v : Int} (h : Bd A l) (hv : v.natAbs ≤ A) : Bd A (l.set k v) := fun x hx => by
  rcases List.mem_or_eq_of_mem_set hx with z | z
  · exact h x z
  · rw [z]
    exact hv
theorem dvR_len {bs row : List Int} : (dvR bs row).length = bs.length - 1 := by
  unfold dvR
  obtain ⟨e1, _⟩ := dvN_len (bs := bs) (row := row) (n := row.length - (bs.length - 1))
  rw [List.length_append, List.length_replicate]
  omega
theorem pmul_len {one two : List Int} : (pmul one two).length = one.length + two.length - 1 := pmN_len
/-! ### either way about -/
def isum (f : Nat → Int) : Nat → Int
  | 0 => 0
  | n + 1 => isum f n + f n
theorem isum_congr {f g : Nat → Int} : ∀ {n : Nat}, (∀ i < n, f i = g i) → isum f n = isum g n
  | 0, _ => rfl
  | n + 1, h => by rw [isum, isum, isum_congr fun i hi => h i (by omega), h n (by omega)]
theorem isum_add {f g : Nat → Int} : ∀ {n : Nat}, isum (fun i => f i + g i) n = isum f n + isum g n
  | 0 => rfl
  | n + 1 => by
    rw [isum, isum, isum, isum_add]
    omega
theorem isum_zero : ∀ {n : Nat}, isum (fun _ => 0) n = 0
  | 0 => rfl
  | n + 1 => by rw [isum, isum_zero]; rfl
theorem isum_comm {f : Nat → Nat → Int} {m : Nat} : ∀ {n : Nat}, isum (fun i => isum (fun j => f i j) m) n = isum (fun j => isum (fun i => f i j) n) m
  | 0 => by rw [isum]; exact (isum_zero (n := m)).symm
  | n + 1 => by
    rw [isum, isum_comm (n := n), ← isum_add]
    exact isum_congr fun j _ => rfl
theorem addAt_get {start : Nat} {top : Int} {bs r : List Int} : ∀ {i : Nat}, start + i ≤ r.length → ∀ k, (addAt start top bs r i).getD k 0 = r.getD k 0 + isum (fun j => if start + j = k then top * bs.getD j 0 else 0) i
  | 0, _, k => by
    rw [addAt, isum]
    omega
  | i + 1, h, k => by
    have ih := addAt_get (top := top) (bs := bs) (i := i) (r := r) (start := start) (by omega)
    have hl := addAt_len (start := start) (top := top) (bs := bs) (r := r) (i := i)
    rw [addAt, isum]
    by_cases c : start + i = k
    · subst c
      rw [if_pos rfl, List.getD_eq_getElem?_getD, List.getElem?_set_self (by omega)]
      show _ + _ = _
      rw [ih]
      omega
    · rw [if_neg c, List.getD_eq_getElem?_getD, List.getElem?_set_ne c, ← List.getD_eq_getElem?_getD, ih]
      omega
theorem pmN_get {one two : List Int} (h2 : 1 ≤ two.length) : ∀ {n : Nat}, n ≤ one.length → ∀ k, (pmN one two n).getD k 0 = isum (fun i => isum (fun j => if i + j = k then one.getD i 0 * two.getD j 0 else 0) two.length) n
  | 0, _, k => by
    rw [pmN, isum, List.getD_eq_getElem?_getD]
    by_cases c : k < one.length + two.length - 1
    · rw [List.getElem?_replicate, if_pos c]
      rfl
    · rw [List.getElem?_replicate, if_neg c]
      rfl
  | n + 1, h, k => by
    rw [pmN, addAt_get (by rw [pmN_len]; omega), pmN_get h2 (by omega), isum]
theorem pmul_comm {one two : List Int} (h1 : 1 ≤ one.length) (h2 : 1 ≤ two.length) : pmul one two = pmul two one := by
  have e : ∀ k, (pmul one two).getD k 0 = (pmul two one).getD k 0 := fun k => by
    unfold pmul
    rw [pmN_get h2 (Nat.le_refl _), pmN_get h1 (Nat.le_refl _), isum_comm]
    refine isum_congr fun j _ => isum_congr fun i _ => ?_
    rw [Nat.add_comm i j, Int.mul_comm]
  have l1 : (pmul one two).length = (pmul two one).length := by rw [pmul_len, pmul_len, Nat.add_comm]
  refine List.ext_getElem l1 fun k a b => ?_
  have := e k
  rw [List.getD_eq_getElem?_getD, List.getD_eq_getElem?_getD, List.getElem?_eq_getElem a, List.getElem?_eq_getElem b] at this
  exact this
abbrev s__law_rest_by : Stmt := top 44
abbrev N__law_rest_by : List Str := ["_law_ring", "_law_numbers", "_law_rest", "_law_many", "_law_place", "_law_top", "_law_spot", "_law_number", "_law_at"]
abbrev P__law_rest_by : List Str := ["_law_ring", "_law_numbers"]
theorem sc__law_rest_by : FnScope N__law_rest_by P__law_rest_by (defScope s__law_rest_by) := ⟨rfl, rfl, rfl, by decide +kernel, rfl, by decide +kernel, by decide +kernel⟩
def spRest (K : PySem.W.Frag) : Sp := fun vs H Q _ => ∃ (a b : Addr) (bs row : List Int), vs = [.ref b, .ref a] ∧ SqL K H b (bs.map V.int) ∧ SqL K H a (row.map V.int) ∧ 2 ≤ bs.length ∧ bs.length ≤ 1000 ∧ row.length ≤ 1000 ∧ (∀ x ∈ bs, -1000000 ≤ x ∧ x ≤ 1000000) ∧ bs.getD (bs.length - 1) 0 = 1 ∧
  ∀ q H', H q = none → Same H H' → H' q = some (.tup ((dvR bs row).map V.int)) → Q (.ref q) H'
section
variable {P : Program} {w : World} {K : PySem.W.Frag} {mg : Str → Option Value} {base : Heap}
theorem ok_rest {f : Addr} {fd : FuncData} {k : Nat} (F : Fun K "_law_rest_by" "_law_rest_by" s__law_rest_by f fd) (T : Blt mg) : FnOk P w K mg base CX0 (k + 1) f fd P__law_rest_by (spRest K) := by
  have nd := sc__law_rest_by.nd
  refine F.ok sc__law_rest_by (fun vs H Q E h => ?_) (fun cdv A outer s H vs Q E hr h => ?_)
  · obtain ⟨a, b, bs, row, rfl, _⟩ := h
    rfl
  · obtain ⟨a, b, bs, row, rfl, hb, ha, b1, b2, r1, hbb, blast, q⟩ := h
    refine ⟨_, (pss_cons (ps_par (i := 2) (j := 3) (by rfl) nd rfl rfl (by decide) rfl rfl (pa_cons (pe_callTy call_list_of (by rfl) T.b_list (by decide +kernel) (pa_cons (pv 1) pa_nil)) (pa_cons (pe_op op_sub (pe_callB (r := rLenQ K) call_len_seq (by rfl) T.b_len (by decide +kernel) (pa_cons (pv 0) pa_nil)) (pe_int)) pa_nil)) (by rfl))
      (pss_cons (ps_for PassesOwn.never rfl (pi_range3 (by rfl) T.b_range (pa_cons (pe_op op_sub (pe_callB (r := rLenQ K) call_len_seq (by rfl) T.b_len (by decide +kernel) (pa_cons (pv 2) pa_nil)) (pe_int)) (pa_cons (pe_op op_sub (pv 3) (pe_int)) (pa_cons (pe_un un_neg (pe_int)) pa_nil)))) (pg_name (i := 4) nd rfl (Or.inl rfl))
      (pss_cons (ps_set (i := 5) nd rfl (Or.inl rfl) (pe_ix (r := rIxL K) ix_list (pv 2) (pv 4) (fun _ _ => rfl)))
      (pss_one (ps_for PassesOwn.never rfl (pi_enum (by rfl) T.b_enumerate (pa_cons (pv 0) pa_nil)) (pg_tup (by rfl) (pgs_cons (pg_name (i := 6) nd rfl (Or.inl rfl)) (pgs_cons (pg_name (i := 7) nd rfl (Or.inl rfl)) pgs_nil)))
      (pss_cons (ps_set (i := 8) nd rfl (Or.inl rfl) (pe_op op_add (pe_op op_sub (pv 4) (pv 3)) (pv 6)))
      (pss_one (ps_asg (pe_op op_sub (pe_ix (r := rIxL K) ix_list (pv 2) (pv 8) (fun _ _ => rfl)) (pe_op op_mul (pv 5) (pv 7))) (pg_sub (pv 2) (pv 8) set_list))))))))
      (pss_one (ps_ret (pe_callTy call_tuple_of (by rfl) T.b_tuple (by decide +kernel) (pa_cons (pe_slice (r := rSlL K) sl_list (pe_op op_cat (pv 2) (pe_op op_rep (pe_lst (pa_cons (pe_int) pa_nil)) (pv 3))) po_none (po_some (pv 3))) pa_nil)))))), ?_⟩
    walk_at "ev"
    w_cond _1
    have hb1 := sm1.seq hb
    have hL1 := SqL.of (K := K) hq1
    have rg : RgC (((row.map V.int).length : Int) - 1) (((bs.map V.int).length : Int) - 1 - 1) (-1) ((((row.map V.int).length : Int) - 1) - (((bs.map V.int).length : Int) - 1 - 1)).toNat := RgC.neg (by rw [List.length_map]; omega) (by rw [List.length_map]; omega) (by rw [List.length_map]; omega) (by rw [List.length_map]; omega)
    walk_at "ev"
    have en : ((((row.map V.int).length : Int) - 1) - (((bs.map V.int).length : Int) - 1 - 1)).toNat = row.length - (bs.length - 1) := by
      rw [List.length_map, List.length_map]
      omega
    refine for_rangeC (lo := _) (c := _) (n := _) (fun n σ H' => Hold (∃ (s4 s5 s6 s7 s8 : Option V), σ = [some (.ref b), some (.ref a), some (.ref l1), some (.int (((bs.map V.int).length : Int) - 1)), s4, s5, s6, s7, s8] ∧ Same H H' ∧ H' l1 = some (.lst ((lrN bs row n).map V.int)))) (.mk ⟨none, none, none, none, none, rfl, sm1, hq1⟩) ?_ ?_
    · intro n σ H3 hn hP
      obtain ⟨s4, s5, s6, s7, s8, rfl, sm3, h1⟩ := hP.un
      rw [en] at hn
      have e1 := lrN_len (bs := bs) (row := row) n
      have hL3 := SqL.of (K := K) h1
      have hb3 := sm3.seq hb
      have epl : (((row.map V.int).length : Int) - 1) + (n : Nat) * (-1) = ((row.length - 1 - n : Nat) : Int) := by
        rw [List.length_map]
        omega
      rw [epl]
      have at1 : atI ((lrN bs row n).map V.int) ((row.length - 1 - n : Nat) : Int) = some (.int ((lrN bs row n).getD (row.length - 1 - n) 0)) := at_map (by omega) rfl
      obtain ⟨top, htop⟩ : ∃ top, (lrN bs row n).getD (row.length - 1 - n) 0 = top := ⟨_, rfl⟩
      rw [htop] at at1
      walk_at "ev"
      refine for_enumL (K := K) (a := b) (xs := bs.map V.int) (fun i σ H' => Hold (∃ (s6 s7 s8 : Option V), σ = [some (.ref b), some (.ref a), some (.ref l1), some (.int (((bs.map V.int).length : Int) - 1)), some (.int ((row.length - 1 - n : Nat) : Int)), some (.int top), s6, s7, s8] ∧ Same H H' ∧ H' l1 = some (.lst ((subAt (row.length - 1 - n - (bs.length - 1)) top bs (lrN bs row n) i).map V.int)))) (.mk ⟨_, _, _, rfl, sm3, h1⟩) ?_ ?_ ?_
      · intro i σ H5 hP
        obtain ⟨s6, s7, s8, rfl, sm5, h15⟩ := hP.un
        exact sm5.seq hb
      · intro i v T' σ H5 hv hP hT
        obtain ⟨s6, s7, s8, rfl, sm5, h15⟩ := hP.un
        rw [List.getElem?_map] at hv
        obtain ⟨x, hx, ev⟩ := Option.map_eq_some_iff.mp hv
        subst ev
        have hil : i < bs.length := (List.getElem?_eq_some_iff.mp hx).1
        have exi : bs.getD i 0 = x := by rw [List.getD_eq_getElem?_getD, hx]; rfl
        have hxb := hbb x (List.mem_of_getElem? hx)
        generalize hG : upd _ T' _ = H6
        obtain ⟨sm6, hq6⟩ := newO hG hT
        clear hG
        have hT6 : SqT K H6 T' [.int (i : Nat), .int x] := SqT.of hq6
        have h16 := sm6 _ _ h15
        have hL6 := SqL.of (K := K) h16
        have hsl := subAt_len (start := row.length - 1 - n - (bs.length - 1)) (top := top) (bs := bs) (r := lrN bs row n) (i := i)
        have eix : ((row.length - 1 - n : Nat) : Int) - (((bs.map V.int).length : Int) - 1) + (i : Nat) = ((row.length - 1 - n - (bs.length - 1) + i : Nat) : Int) := by
          rw [List.length_map]
          omega
        have at2 : atI ((subAt (row.length - 1 - n - (bs.length - 1)) top bs (lrN bs row n) i).map V.int) (((row.length - 1 - n : Nat) : Int) - (((bs.map V.int).length : Int) - 1) + (i : Nat)) = some (.int ((subAt (row.length - 1 - n - (bs.length - 1)) top bs (lrN bs row n) i).getD (row.length - 1 - n - (bs.length - 1) + i) 0)) := at_map (by omega) eix
        have hix : ixN ((subAt (row.length - 1 - n - (bs.length - 1)) top bs (lrN bs row n) i).map V.int).length (((row.length - 1 - n : Nat) : Int) - (((bs.map V.int).length : Int) - 1) + (i : Nat)) = some (row.length - 1 - n - (bs.length - 1) + i) := ixn_of (by rw [List.length_map]; omega) eix
        have cm : CMul top x := .inr ⟨by omega, by omega⟩
        walk_at "ev"
        refine .mk ⟨_, _, _, rfl, same_mut (sm5.trans sm6) hl1, ?_⟩
        rw [upd_same, subAt, List.map_set, exi]
      · intro σ H5 hP
        obtain ⟨s6, s7, s8, rfl, sm5, h15⟩ := hP.un
        rw [List.length_map] at h15
        refine .mk ⟨_, _, _, _, _, rfl, sm5, ?_⟩
        rw [h15, lrN, htop]
    · intro σ H3 hP
      obtain ⟨s4, s5, s6, s7, s8, rfl, sm3, h1⟩ := hP.un
      rw [en] at h1
      have z1 : ([V.int 0] : List V).length * (((bs.map V.int).length : Int) - 1).toNat ≤ sizeLine := szl (by rw [List.length_map]; show 1 * _ ≤ 60000; omega)
      have z2 : ((bs.map V.int).length : Int) - 1 < 2 ^ 63 := by rw [List.length_map]; omega
      walk_at "ev"
      w_cond _4
      walk_at "ev"
      w_cond _5
      have h15 := (sm4.trans sm5) _ _ h1
      have e1 := lrN_len (bs := bs) (row := row) (row.length - (bs.length - 1))
      have z3 : ((lrN bs row (row.length - (bs.length - 1))).map V.int).length + (List.replicate (((bs.map V.int).length : Int) - 1).toNat [V.int 0]).flatten.length ≤ sizeLine := szl (by rw [rep_flat, List.length_replicate, List.length_map, List.length_map]; omega)
      walk_at "ev"
      w_cond _6
      have hL6 := SqL.of (K := K) hq6
      walk_at "ev"
      w_cond _7
      walk_at "ev"
      refine .inl ⟨SqL.of hq7, ?_⟩
      w_cond _8
      refine q l8 H8 ((sm3.trans (sm4.trans (sm5.trans (sm6.trans sm7)))).free hl8) (sm3.trans (sm4.trans (sm5.trans (sm6.trans (sm7.trans sm8))))) ?_
      rw [hq8, rep_flat, ← lrR_eq (by omega) blast, lrR, List.map_take, List.map_append, List.map_replicate]
      have ek : ((bs.map V.int).length : Int) - 1 = ((bs.length - 1 : Nat) : Int) := by
        rw [List.length_map]
        omega
      rw [ek]
      have ec : ∀ (xs : List V) (k : Nat), k ≤ xs.length → cutV xs none (some ((k : Nat) : Int)) = xs.take k := fun xs k hk => by
        have z : cutV xs none (some ((k : Nat) : Int)) = (xs.drop 0).take (HT.sIx xs.length xs.length (some ((k : Nat) : Int)) - 0) := rfl
        rw [z, HT.sIx_nat, Nat.min_eq_left hk]
        rfl
      rw [Int.toNat_natCast, ec _ _ (by rw [List.length_append, List.length_replicate]; omega)]
end
/-! ### the primes that are drawn -/
def GenAt (p : Int) : Prop := 2 ≤ p ∧ p ≤ 1000000 ∧ ∃ (fs out : List Int) (g0 : Int), Fac (p - 1) fs ∧ out.Pairwise (· < ·) ∧ (∀ k, k ∈ out ↔ k ∈ fs) ∧ IsPf (p - 1) out ∧ 1 ≤ g0 ∧ g0 < p ∧ GenOk p g0 (erl p out)
theorem gen_two : GenAt 2 := by
  refine ⟨by decide, by decide, [], [], 1, .one, .nil, fun k => Iff.rfl, ⟨.nil, fun k => ⟨fun h => by simp at h, fun ⟨a, b, _⟩ => ?_⟩⟩, by decide, by decide, fun e he => by simp [erl] at he⟩
  have := Int.le_of_dvd (by decide) b
  omega
theorem gen_odd {p : Nat} (h3 : 3 ≤ p) (hp : p ≤ 1000000) (h : ∀ out : List Int, (∀ k ∈ out, 2 ≤ k ∧ k ∣ (p : Int) - 1) → ∃ g0 : Int, 1 ≤ g0 ∧ g0 < p ∧ GenOk p g0 (erl p out)) : GenAt (p : Int) := by
  obtain ⟨fs, out, a, b, c, d⟩ := pf_ex (n := (p : Int) - 1) (by omega)
  obtain ⟨g0, e, f, g⟩ := h out fun k hk => by
    obtain ⟨u, v, _⟩ := (d.2 k).mp hk
    exact ⟨u, v⟩
  exact ⟨by omega, by omega, fs, out, g0, a, b, c, d, e, f, g⟩
theorem gen_prs {x : Int} (h : x ∈ prs 10000) : GenAt x := by
  obtain ⟨j, ej, j1, j2, j3⟩ := mem_prs.mp h
  rw [ej]
  by_cases j2' : j = 2
  · rw [j2']
    exact gen_two
  · refine gen_odd (by omega) (by omega) fun out ho => gen_small (by omega) (by omega) ?_ ho
    intro d d2 dd
    have : d * 2 ≤ d * d := Nat.mul_le_mul_left d d2
    exact pk_iff.mp j3 d d2 (by omega) dd
/-- a prime to ten thousand, as the law's sieve and as factors have it -/
theorem prs_iff {x : Int} : x ∈ prs 10000 ↔ x ≤ 10000 ∧ Fac x [x] := by
  constructor
  · intro h
    obtain ⟨j, ej, j1, j2, j3⟩ := mem_prs.mp h
    refine ⟨by omega, Fac.self (by omega) fun e e2 e3 k => ?_⟩
    obtain ⟨q, hq⟩ := k
    have q0 : 0 < q := by
      apply Int.lt_of_not_ge
      intro z
      have : e * q ≤ 0 := Int.mul_nonpos_of_nonneg_of_nonpos (by omega) z
      omega
    have q1 : q ≠ 1 := fun z => by
      rw [z, Int.mul_one] at hq
      omega
    have nat : ∀ u v : Int, 2 ≤ u → 2 ≤ v → u ≤ v → x = u * v → False := fun u v u2 v2 uv e => by
      have h1 : u * u ≤ x := by rw [e]; exact Int.mul_le_mul_of_nonneg_left uv (by omega)
      have h2 : u * 2 ≤ u * u := Int.mul_le_mul_of_nonneg_left u2 (by omega)
      have hu : ((u.toNat : Nat) : Int) = u := Int.toNat_of_nonneg (by omega)
      refine pk_iff.mp j3 u.toNat (by omega) (by omega) ?_ ?_
      · have : ((u.toNat * u.toNat : Nat) : Int) ≤ (j : Int) := by rw [Int.natCast_mul, hu]; omega
        omega
      · rw [← Int.natCast_dvd_natCast, hu, ← ej, e]
        exact ⟨v, rfl⟩
    rcases Int.le_total e q with z | z
    · exact nat e q e2 (by omega) z hq
    · exact nat q e (by omega) e2 z (by rw [Int.mul_comm]; exact hq)
  · rintro ⟨h1, h2⟩
    obtain ⟨h3, h4⟩ := Rough.of_fac h2
    refine mem_prs.mpr ⟨x.toNat, by omega, by omega, by omega, pk_iff.mpr fun d d2 _ dd k => ?_⟩
    have e : ((x.toNat : Nat) : Int) = x := Int.toNat_of_nonneg (by omega)
    have k2 := Int.natCast_dvd_natCast.mpr k
    rw [e] at k2
    have : d * 2 ≤ d * d := Nat.mul_le_mul_left d d2
    exact h4 (d : Int) (by omega) (by omega) k2
theorem du {k : Nat} {A : Around} (h : Room k A) : A.units + 1 < cLine := by
  have := h.units
  omega
theorem keep_free {b p : Addr} {H H' : Hp} (k : Keep b H H') (n : p ≠ b) (h : H' p = none) : H p = none := by
  cases u : H p with
  | none => rfl
  | some o =>
    rw [k p o n u] at h
    cases h
abbrev wrldK (n : Nat) (l : Addr) : List (Key × V) := [(.inr "kind", .str "roots"), (.inr "by", .int (n : Int)), (.inr "wheel", .ref l), (.inr "first", .non)]

abbrev wrldR (p g : Int) : List (Key × V) := [(.inr "kind", .str "rests"), (.inr "by", .int p), (.inr "wheel", .non), (.inr "first", .int g)]
inductive Gk
  | rests (p : Int)
  | roots (n : Nat)
def numM : Gk → Int
  | .rests p => p - 1
  | .roots n => (n : Int)
def GkOk : Gk → Prop
  | .rests p => p ∈ prs 10000
  | .roots n => 1 ≤ n ∧ n < 31
def prL : List Int := [97, 13, 31, 37, 61, 73, 181, 241, 337, 421, 257, 2521, 41, 17, 7, 5, 3, 2]
theorem prL_b : ∀ x ∈ prL, 2 ≤ x ∧ x ≤ 2521 := by decide
theorem prL_in : ∀ x ∈ prL, x ∈ prs 10000 := by
  have h : ∀ x ∈ prL, ∃ j : Nat, x = (j : Int) ∧ 2 ≤ j ∧ j ≤ 10000 ∧ pk 10001 j = true := by
    intro x hx
    simp only [prL, List.mem_cons, List.not_mem_nil, or_false] at hx
    rcases hx with z | z | z | z | z | z | z | z | z | z | z | z | z | z | z | z | z | z <;> subst z
    · exact ⟨97, rfl, by decide, by decide, by decide +kernel⟩
    · exact ⟨13, rfl, by decide, by decide, by decide +kernel⟩
    · exact ⟨31, rfl, by decide, by decide, by decide +kernel⟩
    · exact ⟨37, rfl, by decide, by decide, by decide +kernel⟩
    · exact ⟨61, rfl, by decide, by decide, by decide +kernel⟩
    · exact ⟨73, rfl, by decide, by decide, by decide +kernel⟩
    · exact ⟨181, rfl, by decide, by decide, by decide +kernel⟩
    · exact ⟨241, rfl, by decide, by decide, by decide +kernel⟩
    · exact ⟨337, rfl, by decide, by decide, by decide +kernel⟩
    · exact ⟨421, rfl, by decide, by decide, by decide +kernel⟩
    · exact ⟨257, rfl, by decide, by decide, by decide +kernel⟩
    · exact ⟨2521, rfl, by decide, by decide, by decide +kernel⟩
    · exact ⟨41, rfl, by decide, by decide, by decide +kernel⟩
    · exact ⟨17, rfl, by decide, by decide, by decide +kernel⟩
    · exact ⟨7, rfl, by decide, by decide, by decide +kernel⟩
    · exact ⟨5, rfl, by decide, by decide, by decide +kernel⟩
    · exact ⟨3, rfl, by decide, by decide, by decide +kernel⟩
    · exact ⟨2, rfl, by decide, by decide, by decide +kernel⟩
  intro x hx
  exact mem_prs.mpr (h x hx)
theorem prs_b {p : Int} (h : p ∈ prs 10000) : 2 ≤ p ∧ p ≤ 10000 := by
  obtain ⟨j, e, h1, h2, _⟩ := mem_prs.mp h
  omega
/-- a world of one kind -/
def WdM (H : Hp) (b d : Addr) (g : Gk) : Prop := d ≠ b ∧ match g with
  | .rests p => p ∈ prs 10000 ∧ ∃ q, (∃ out, IsPf (p - 1) out ∧ LeastGen p q (erl p out)) ∧ H d = some (.dK (wrldR p q))
  | .roots n => (1 ≤ n ∧ n < 31) ∧ ∃ l, l ≠ b ∧ H d = some (.dK (wrldK n l)) ∧ H l = some (.lst ((whl n).map V.int))
theorem WdM.ok {H : Hp} {b d : Addr} {g : Gk} (h : WdM H b d g) : GkOk g := by
  cases g with
  | rests p => exact h.2.1
  | roots n => exact h.2.1
theorem WdM.keep {H H' : Hp} {b d : Addr} {g : Gk} (h : WdM H b d g) (e : Keep b H H') : WdM H' b d g := by
  cases g with
  | rests p =>
    obtain ⟨h1, h2, q, hq, h3⟩ := h
    exact ⟨h1, h2, q, hq, e _ _ h1 h3⟩
  | roots n =>
    obtain ⟨h1, h2, l, h3, h4, h5⟩ := h
    exact ⟨h1, h2, l, h3, e _ _ h1 h4, e _ _ h3 h5⟩
theorem WdM.up {H H' : Hp} {b d : Addr} {g : Gk} (h : WdM H b d g) (e : Same H H') : WdM H' b d g := h.keep (keepS e)
theorem dget_w {H : Hp} {d l : Addr} {n : Nat} (h : H d = some (.dK (wrldK n l))) : DGet H d (.str "kind") (some (.str "roots")) ∧ DGet H d (.str "by") (some (.int (n : Int))) ∧ DGet H d (.str "wheel") (some (.ref l)) :=
  ⟨DGet.k (k := .inr "kind") h, DGet.k (k := .inr "by") h, DGet.k (k := .inr "wheel") h⟩
theorem dget_r {H : Hp} {d : Addr} {p g : Int} (h : H d = some (.dK (wrldR p g))) : DGet H d (.str "kind") (some (.str "rests")) ∧ DGet H d (.str "by") (some (.int p)) :=
  ⟨DGet.k (k := .inr "kind") h, DGet.k (k := .inr "by") h⟩
theorem whl_l23 : ∀ n < 31, 1 ≤ n → 2 ≤ (whl n).length ∧ (whl n).length ≤ 31 := by decide +kernel
theorem least_ex {p g0 : Int} {es : List Int} (h1 : 1 ≤ g0) (h2 : g0 < p) (h : GenOk p g0 es) : ∃ g, LeastGen p g es := by
  obtain ⟨n, rfl⟩ := Int.eq_ofNat_of_zero_le (show 0 ≤ g0 by omega)
  induction n using Nat.strongRecOn with
  | _ n ih =>
    by_cases c : ∃ m : Nat, 1 ≤ m ∧ m < n ∧ GenOk p (m : Int) es
    · obtain ⟨m, m1, m2, m3⟩ := c
      exact ih m m2 (by omega) (by omega) m3
    · refine ⟨n, h1, h2, h, fun x x1 x2 hx => ?_⟩
      obtain ⟨m, rfl⟩ := Int.eq_ofNat_of_zero_le (show 0 ≤ x by omega)
      exact c ⟨m, by omega, by omega, hx⟩
theorem least_prs {p : Int} (h : p ∈ prs 10000) : ∃ g out, IsPf (p - 1) out ∧ LeastGen p g (erl p out) := by
  obtain ⟨_, _, fs, out, g0, _, _, _, hpf, g1, gp, gok⟩ := gen_prs h
  obtain ⟨g, hg⟩ := least_ex g1 gp gok
  exact ⟨g, out, hpf, hg⟩
theorem least_un {p x y : Int} {o1 o2 : List Int} (h1 : IsPf (p - 1) o1) (h2 : IsPf (p - 1) o2) (a : LeastGen p x (erl p o1)) (b : LeastGen p y (erl p o2)) : x = y := by
  have e : o1 = o2 := srt_ext h1.1 h2.1 fun k => by rw [h1.2, h2.2]
  subst e
  obtain ⟨a1, a2, a3, a4⟩ := a
  obtain ⟨b1, b2, b3, b4⟩ := b
  rcases Int.lt_trichotomy x y with z | z | z
  · exact absurd a3 (b4 x a1 z)
  · exact z
  · exact absurd b3 (a4 y b1 z)
abbrev s__law_world : Stmt := top 38
abbrev N__law_world : List Str := ["_law_box_here", "_law_primes", "_law_prime", "_law_number"]
abbrev P__law_world : List Str := ["_law_box_here"]
theorem sc__law_world : FnScope N__law_world P__law_world (defScope s__law_world) := ⟨rfl, rfl, rfl, by decide +kernel, rfl, by decide +kernel, by decide +kernel⟩
def spWorld : Sp := fun vs H Q _ => ∃ (b : Addr) (c : Int), vs = [.ref b] ∧ BoxAt H b c ∧ c < 900000 ∧ ∀ d H', H d = none → Keep b H H' → BoxAt H' b (c + 4) → ∀ g, WdM H' b d g → Q (.ref d) H'
section
variable {P : Program} {w : World} {K : PySem.W.Frag} {mg : Str → Option Value} {base : Heap}
theorem ok_world {f f1 f2 f3 f4 f5 f6 : Addr} {fd d1 d2 d3 d4 d5 d6 : FuncData} (F : Fun K "_law_world" "_law_world" s__law_world f fd) (T : Blt mg) (D__law_take : Df K mg "_law_take" s__law_take P__law_take f1 d1) (D__law_own_wheel : Df K mg "_law_own_wheel" s__law_own_wheel P__law_own_wheel f2 d2) (D__law_divided : Df K mg "_law_divided" s__law_divided P__law_divided f3 d3)
    (D__law_least_generator : Df K mg "_law_least_generator" s__law_least_generator P__law_least_generator f4 d4) (D__law_is_plain_prime : Df K mg "_law_is_plain_prime" s__law_is_plain_prime P__law_is_plain_prime f5 d5) (D__law_raised : Df K mg "_law_raised" s__law_raised P__law_raised f6 d6) : FnOk P w K mg base CX0 7 f fd P__law_world spWorld := by
  have G__law_take : FnOk P w K mg base CX0 1 f1 d1 P__law_take spTake := ok_take D__law_take.F
  have G__law_own_wheel : FnOk P w K mg base CX0 6 f2 d2 P__law_own_wheel (spWheel 5) := ok_own D__law_own_wheel T D__law_divided 5
  have G__law_least_generator : FnOk P w K mg base CX0 2 f4 d4 P__law_least_generator spLG := ok_least (k := 0) D__law_least_generator.F T D__law_is_plain_prime D__law_raised
  have nd := sc__law_world.nd
  refine F.ok sc__law_world (fun vs H Q E h => ?_) (fun cdv A outer s H vs Q E hr h => ?_)
  · obtain ⟨b, c, rfl, _⟩ := h
    rfl
  · obtain ⟨b, c, rfl, hb, hc, q⟩ := h
    refine ⟨_, (pss_cons (ps_if (pt_cmpR op_gt (pe_call G__law_take (hr.mono (by omega)) (by rfl) D__law_take.g D__law_take.F.kp D__law_take.b .nil pass0 (pa_cons (pv 0) (pa_cons (pe_int) pa_nil))) (pe_int) (nomark _)) (pss_cons (ps_set (i := 1) nd rfl (Or.inl rfl) (pe_lst (pa_cons (pe_int) (pa_cons (pe_int) (pa_cons (pe_int) (pa_cons (pe_int) (pa_cons (pe_int) (pa_cons (pe_int) (pa_cons (pe_int) (pa_cons (pe_int) (pa_cons (pe_int) (pa_cons (pe_int) (pa_cons (pe_int) (pa_cons (pe_int) (pa_cons (pe_int) (pa_cons (pe_int) (pa_cons (pe_int) (pa_cons (pe_int) (pa_cons (pe_int) (pa_cons (pe_int) pa_nil))))))))))))))))))))
      (pss_cons (ps_set (i := 2) nd rfl (Or.inl rfl) (pe_ix (r := rIxL K) ix_list (pv 1) (pe_call G__law_take (hr.mono (by omega)) (by rfl) D__law_take.g D__law_take.F.kp D__law_take.b .nil pass0 (pa_cons (pv 0) (pa_cons (pe_ix (r := rIxL K) ix_list (pe_lst (pa_cons (pe_int) (pa_cons (pe_int) pa_nil))) (pe_call G__law_take (hr.mono (by omega)) (by rfl) D__law_take.g D__law_take.F.kp D__law_take.b .nil pass0 (pa_cons (pv 0) (pa_cons (pe_int) pa_nil))) (fun _ _ => rfl)) pa_nil))) (fun _ _ => rfl)))
      (pss_one (ps_ret (pe_disp (pps_cons (pe_str) (pe_str) (pps_cons (pe_str) (pv 2) (pps_cons (pe_str) (pe_non) (pps_cons (pe_str) (pe_call G__law_least_generator (hr.mono (by omega)) (by rfl) D__law_least_generator.g D__law_least_generator.F.kp D__law_least_generator.b .nil pass0 (pa_cons (pv 2) pa_nil)) pps_nil)))) (by rfl) (by rfl) (by simp) (by decide)))))) pss_nil)
      (pss_cons (ps_set (i := 3) nd rfl (Or.inl rfl) (pe_ix (r := rIxL K) ix_list (pe_lst (pa_cons (pe_int) (pa_cons (pe_int) (pa_cons (pe_int) (pa_cons (pe_int) (pa_cons (pe_int) (pa_cons (pe_int) (pa_cons (pe_op op_add (pe_int) (pe_call G__law_take (hr.mono (by omega)) (by rfl) D__law_take.g D__law_take.F.kp D__law_take.b .nil pass0 (pa_cons (pv 0) (pa_cons (pe_int) pa_nil)))) (pa_cons (pe_op op_add (pe_int) (pe_call G__law_take (hr.mono (by omega)) (by rfl) D__law_take.g D__law_take.F.kp D__law_take.b .nil pass0 (pa_cons (pv 0) (pa_cons (pe_int) pa_nil)))) pa_nil))))))))) (pe_call G__law_take (hr.mono (by omega)) (by rfl) D__law_take.g D__law_take.F.kp D__law_take.b .nil pass0 (pa_cons (pv 0) (pa_cons (pe_int) pa_nil))) (fun _ _ => rfl)))
      (pss_one (ps_ret (pe_disp (pps_cons (pe_str) (pe_str) (pps_cons (pe_str) (pv 3) (pps_cons (pe_str) (pe_call G__law_own_wheel (hr.mono (by omega)) (by rfl) D__law_own_wheel.g D__law_own_wheel.F.kp D__law_own_wheel.b .nil pass0 (pa_cons (pv 3) pa_nil)) (pps_cons (pe_str) (pe_non) pps_nil)))) (by rfl) (by rfl) (by simp) (by decide)))))), ?_⟩
    walk_at "ev"
    intro r1 H1 r10 r11 k1 hb1
    walk_at "ev"
    refine ite2 (fun c1 => ?_) (fun c1 => ?_)
    · walk_at "ev"
      w_cond _2
      have hb2 := hb1.same sm2
      have n2b := hb1.ne hl2
      walk_at "ev"
      w_cond _3
      have hb3 := hb2.same sm3
      have n3b := hb2.ne hl3
      walk_at "ev"
      intro r4 H4 r40 r41 k4 hb4
      have hL4 := SqL.of (K := K) (k4 _ _ n3b hq3)
      obtain ⟨t, ht, hat⟩ : ∃ t : Int, (1 ≤ t ∧ t ≤ 18) ∧ atI [V.int 8, V.int 18] r4 = some (.int t) := by
        have : r4 = 0 ∨ r4 = 1 := by omega
        rcases this with z | z <;> subst z
        · exact ⟨8, by omega, rfl⟩
        · exact ⟨18, by omega, rfl⟩
      obtain ⟨t1, t2⟩ := ht
      walk_at "ev"
      intro r5 H5 r50 r51 k5 hb5
      have hL5 : SqL K H5 l2 (prL.map V.int) := SqL.of (k5 _ _ n2b (k4 _ _ n2b (sm3 _ _ hq2)))
      obtain ⟨pr, hpm, hpa⟩ := at_ints (ns := prL) (k := r5) r50 (by show r5 < 18; omega)
      obtain ⟨p2, p3⟩ := prL_b pr hpm
      obtain ⟨g, out, hpf, hlg⟩ := least_prs (prL_in _ hpm)
      have p3000 : pr < 3000 := by omega
      walk_at "ev"
      intro p hp
      generalize hG : upd H5 p _ = H6
      obtain ⟨sm6, hq6⟩ := newO hG hp
      clear hG
      have hb6 := hb5.same sm6
      have npb : p ≠ b := hb5.ne hp
      walk_at "ev"
      intro H7 sm7
      have hq7 := sm7 _ _ hq6
      have em : mergeK [] (wrldR pr g) = wrldR pr g := rfl
      have k15 : Keep b H H5 := k1.trans ((keepS (sm2.trans sm3)).trans (k4.trans k5))
      walk_at "ev"
      refine ⟨(show _ = List.map (fun kv : Key × V => (kV kv.1, kv.2)) (wrldR pr g) from rfl), (by show 4 ≤ 15; decide), ?_⟩
      rw [em]
      exact q p _ (keep_free k15 npb hp) (keep_fresh (k15.trans (keepS (sm6.trans sm7))) (keep_free k15 npb hp)) (((hb6.same sm7).upd npb).mono (by omega)) (.rests pr) ⟨npb, prL_in _ hpm, g, ⟨out, hpf, hlg⟩, upd_same⟩
    · walk_at "ev"
      intro r2 H2 r20 r21 k2 hb2
      walk_at "ev"
      intro r3 H3 r30 r31 k3 hb3
      walk_at "ev"
      w_cond _4
      have hb4 := hb3.same sm4
      have n4b := hb3.ne hl4
      walk_at "ev"
      intro r5 H5 r50 r51 k5 hb5
      have hL5 := SqL.of (K := K) (k5 _ _ n4b hq4)
      obtain ⟨n, hn, hat⟩ : ∃ n : Nat, (1 ≤ n ∧ n < 31) ∧ atI [V.int 12, V.int 4, V.int 6, V.int 8, V.int 12, V.int 20, V.int (1 + r2), V.int (1 + r3)] r5 = some (.int (n : Int)) := by
        have : r5 = 0 ∨ r5 = 1 ∨ r5 = 2 ∨ r5 = 3 ∨ r5 = 4 ∨ r5 = 5 ∨ r5 = 6 ∨ r5 = 7 := by omega
        rcases this with z | z | z | z | z | z | z | z <;> subst z
        · exact ⟨12, by decide, rfl⟩
        · exact ⟨4, by decide, rfl⟩
        · exact ⟨6, by decide, rfl⟩
        · exact ⟨8, by decide, rfl⟩
        · exact ⟨12, by decide, rfl⟩
        · exact ⟨20, by decide, rfl⟩
        · obtain ⟨m, hm⟩ := Int.eq_ofNat_of_zero_le (show 0 ≤ 1 + r2 by omega)
          exact ⟨m, by omega, by rw [← hm]; rfl⟩
        · obtain ⟨m, hm⟩ := Int.eq_ofNat_of_zero_le (show 0 ≤ 1 + r3 by omega)
          exact ⟨m, by omega, by rw [← hm]; rfl⟩
      obtain ⟨n1, n31⟩ := hn
      have n32 : n < 2 ^ 5 := by omega
      walk_at "ev"
      intro p hp
      generalize hG : upd H5 p _ = H6
      obtain ⟨sm6, hq6⟩ := newO hG hp
      clear hG
      have hb6 := hb5.same sm6
      walk_at "ev"
      intro l H7 hl sm7 hq7
      have hq67 := sm7 _ _ hq6
      have npl : l ≠ p := (ne_of_none hq6 hl).symm
      have npb : p ≠ b := hb5.ne hp
      have nlb : l ≠ b := hb6.ne hl
      have em : mergeK [] (wrldK n l) = wrldK n l := rfl
      have k15 : Keep b H H5 := k1.trans (k2.trans (k3.trans ((keepS sm4).trans k5)))
      walk_at "ev"
      refine ⟨(show _ = List.map (fun kv : Key × V => (kV kv.1, kv.2)) (wrldK n l) from rfl), (by show 4 ≤ 15; decide), ?_⟩
      rw [em]
      exact q p _ (keep_free k15 npb hp) (keep_fresh (k15.trans (keepS (sm6.trans sm7))) (keep_free k15 npb hp)) (((hb6.same sm7).upd npb).mono (by omega)) (.roots n) ⟨npb, ⟨n1, n31⟩, l, nlb, upd_same, by rw [upd_ne npl]; exact hq7⟩
end
/-! ### worths of either ground, by their numbers -/
inductive Wt
  | i (x : Int)
  | v (xs : List Int)
theorem sqt_mut {K : PySem.W.Frag} {H : Hp} {a D : Addr} {xs ys : List V} {o : HO} (h : SqT K H a xs) (e : H D = some (.lst ys)) : SqT K (upd H D o) a xs := by
  rcases h with (h | ⟨u, h⟩) | h
  · exact .inl (.inl (by rw [upd_ne (fun z => by rw [z, e] at h; cases h)]; exact h))
  · exact .inl (.inr ⟨u, by rw [upd_ne (fun z => by rw [z, e] at h; cases h)]; exact h⟩)
  · exact .inr h
theorem sqt_keep {K : PySem.W.Frag} {H H' : Hp} {a b : Addr} {xs : List V} {c : Int} (h : SqT K H a xs) (hb : BoxAt H b c) (k : Keep b H H') : SqT K H' a xs := by
  obtain ⟨x, y, z, a1, a2⟩ := hb
  rcases h with (h | ⟨u, h⟩) | h
  · exact .inl (.inl (k _ _ (fun z => by rw [z, a1] at h; cases h) h))
  · exact .inl (.inr ⟨u, k _ _ (fun z => by rw [z, a1] at h; cases h) h⟩)
  · exact .inr h
def WtAt (K : PySem.W.Frag) (H : Hp) (u : V) : Wt → Prop
  | .i x => u = .int x
  | .v xs => ∃ t, u = .ref t ∧ SqT K H t (xs.map V.int)
theorem WtAt.same {K : PySem.W.Frag} {H H' : Hp} {u : V} {w : Wt} (h : WtAt K H u w) (e : Same H H') : WtAt K H' u w := by
  cases w with
  | i x => exact h
  | v xs =>
    obtain ⟨t, h1, h2⟩ := h
    exact ⟨t, h1, same_t e h2⟩
theorem WtAt.mut {K : PySem.W.Frag} {H : Hp} {u : V} {w : Wt} {D : Addr} {xs : List V} {o : HO} (h : WtAt K H u w) (e : H D = some (.lst xs)) : WtAt K (upd H D o) u w := by
  cases w with
  | i x => exact h
  | v ys =>
    obtain ⟨t, h1, h2⟩ := h
    exact ⟨t, h1, sqt_mut h2 e⟩
theorem WtAt.keep {K : PySem.W.Frag} {H H' : Hp} {u : V} {w : Wt} {b : Addr} {c : Int} (h : WtAt K H u w) (hb : BoxAt H b c) (k : Keep b H H') : WtAt K H' u w := by
  cases w with
  | i x => exact h
  | v ys =>
    obtain ⟨t, h1, h2⟩ := h
    exact ⟨t, h1, sqt_keep h2 hb k⟩
def wl (n : Nat) : Nat := (whl n).length - 1
def nm : Gk → Wt → Prop
  | .rests p, .i x => 0 ≤ x ∧ x < p
  | .roots n, .v xs => xs.length = wl n
  | _, _ => False
def bw : Wt → Prop
  | .i _ => True
  | .v xs => ∀ x ∈ xs, x.natAbs < 2 ^ 9000
def gz : Gk → Wt
  | .rests _ => .i 0
  | .roots n => .v (List.replicate (wl n) 0)
def gadd : Gk → Wt → Wt → Wt
  | .rests p, .i a, .i b => .i ((a + b) % p)
  | .roots _, .v a, .v b => .v (List.zipWith (· + ·) a b)
  | g, _, _ => gz g
def gmul : Gk → Wt → Wt → Wt
  | .rests p, .i a, .i b => .i (a * b % p)
  | .roots n, .v a, .v b => .v (dvR (whl n) (pmul a b))
  | g, _, _ => gz g
def co : Wt → Nat → Int
  | .i x, t => if t = 0 then x else 0
  | .v xs, t => xs.getD t 0
def nr : Gk → Int → Int
  | .rests p, x => x % p
  | .roots _, x => x
theorem wl1 {n : Nat} (h1 : 1 ≤ n) (h : n < 31) : 1 ≤ wl n ∧ wl n ≤ 30 := by
  have h2 := whl_l23 n h h1
  unfold wl
  omega
theorem nm_z {g : Gk} (h : GkOk g) : nm g (gz g) := by
  cases g with
  | rests p =>
    have := prs_b h
    exact ⟨by omega, by omega⟩
  | roots n => exact List.length_replicate
theorem nm_add {g : Gk} {a b : Wt} (h : GkOk g) (ha : nm g a) (hb : nm g b) : nm g (gadd g a b) := by
  cases g with
  | rests p =>
    have := prs_b h
    cases a with
    | v xs => exact ha.elim
    | i a =>
      cases b with
      | v xs => exact hb.elim
      | i b => exact ⟨Int.emod_nonneg _ (by omega), Int.emod_lt_of_pos _ (by omega)⟩
  | roots n =>
    cases a with
    | i a => exact ha.elim
    | v a =>
      cases b with
      | i b => exact hb.elim
      | v b =>
        have h1 : a.length = wl n := ha
        have h2 : b.length = wl n := hb
        show (List.zipWith (· + ·) a b).length = wl n
        rw [List.length_zipWith]
        omega
theorem nm_mul {g : Gk} {a b : Wt} (h : GkOk g) (ha : nm g a) (hb : nm g b) : nm g (gmul g a b) := by
  cases g with
  | rests p =>
    have := prs_b h
    cases a with
    | v xs => exact ha.elim
    | i a =>
      cases b with
      | v xs => exact hb.elim
      | i b => exact ⟨Int.emod_nonneg _ (by omega), Int.emod_lt_of_pos _ (by omega)⟩
  | roots n =>
    cases a with
    | i a => exact ha.elim
    | v a =>
      cases b with
      | i b => exact hb.elim
      | v b => exact dvR_len
theorem mul_cm {g : Gk} {a b : Wt} (h : GkOk g) (ha : nm g a) (hb : nm g b) : gmul g a b = gmul g b a := by
  cases g with
  | rests p =>
    cases a with
    | v xs => exact ha.elim
    | i a =>
      cases b with
      | v xs => exact hb.elim
      | i b =>
        show Wt.i _ = Wt.i _
        rw [Int.mul_comm]
  | roots n =>
    obtain ⟨w1, w2⟩ := wl1 h.1 h.2
    cases a with
    | i a => exact ha.elim
    | v a =>
      cases b with
      | i b => exact hb.elim
      | v b =>
        have h1 : a.length = wl n := ha
        have h2 : b.length = wl n := hb
        show Wt.v _ = Wt.v _
        rw [pmul_comm (by omega) (by omega)]
theorem co_z {g : Gk} {t : Nat} : co (gz g) t = 0 := by
  cases g with
  | rests p =>
    show (if t = 0 then (0 : Int) else 0) = 0
    split <;> rfl
  | roots n =>
    show (List.replicate (wl n) (0 : Int)).getD t 0 = 0
    rw [List.getD_eq_getElem?_getD, List.getElem?_replicate]
    split <;> rfl
theorem co_add {g : Gk} {a b : Wt} (ha : nm g a) (hb : nm g b) (t : Nat) : co (gadd g a b) t = nr g (co a t + co b t) := by
  cases g with
  | rests p =>
    cases a with
    | v xs => exact ha.elim
    | i a =>
      cases b with
      | v xs => exact hb.elim
      | i b =>
        show (if t = 0 then (a + b) % p else 0) = ((if t = 0 then a else 0) + (if t = 0 then b else 0)) % p
        split
        · rfl
        · show (0 : Int) = 0 % p
          rw [Int.zero_emod]
  | roots n =>
    cases a with
    | i a => exact ha.elim
    | v a =>
      cases b with
      | i b => exact hb.elim
      | v b =>
        have h1 : a.length = wl n := ha
        have h2 : b.length = wl n := hb
        show (List.zipWith (· + ·) a b).getD t 0 = a.getD t 0 + b.getD t 0
        rw [List.getD_eq_getElem?_getD, List.getD_eq_getElem?_getD, List.getD_eq_getElem?_getD, List.getElem?_zipWith]
        by_cases c : t < wl n
        · rw [List.getElem?_eq_getElem (by omega), List.getElem?_eq_getElem (by omega)]
          rfl
        · rw [List.getElem?_eq_none (by omega), List.getElem?_eq_none (by omega)]
          rfl
theorem nr_co {g : Gk} {a : Wt} (ha : nm g a) (t : Nat) : nr g (co a t) = co a t := by
  cases g with
  | rests p =>
    cases a with
    | v xs => exact ha.elim
    | i a =>
      show (if t = 0 then a else 0) % p = (if t = 0 then a else 0)
      split
      · exact Int.emod_eq_of_lt ha.1 ha.2
      · exact Int.zero_emod _
  | roots n => rfl
theorem w_ext {g : Gk} {a b : Wt} (ha : nm g a) (hb : nm g b) (h : ∀ t, co a t = co b t) : a = b := by
  cases g with
  | rests p =>
    cases a with
    | v xs => exact ha.elim
    | i a =>
      cases b with
      | v xs => exact hb.elim
      | i b => exact congrArg Wt.i (h 0)
  | roots n =>
    cases a with
    | i a => exact ha.elim
    | v a =>
      cases b with
      | i b => exact hb.elim
      | v b =>
        have h1 : a.length = wl n := ha
        have h2 : b.length = wl n := hb
        refine congrArg Wt.v (List.ext_getElem? fun t => ?_)
        by_cases c : t < wl n
        · have := h t
          have h3 : a.getD t 0 = b.getD t 0 := this
          rw [List.getD_eq_getElem?_getD, List.getD_eq_getElem?_getD, List.getElem?_eq_getElem (by omega), List.getElem?_eq_getElem (by omega)] at h3
          rw [List.getElem?_eq_getElem (by omega), List.getElem?_eq_getElem (by omega)]
          exact congrArg some h3
        · rw [List.getElem?_eq_none (by omega), List.getElem?_eq_none (by omega)]
/-! ### sums of rows -/
def Nms (g : Gk) (ws : List Wt) : Prop := ∀ w ∈ ws, nm g w
theorem Nms.getD {g : Gk} {ws : List Wt} (h : GkOk g) (hw : Nms g ws) (k : Nat) : nm g (ws.getD k (gz g)) := by
  rw [List.getD_eq_getElem?_getD]
  cases e : ws[k]? with
  | none => exact nm_z h
  | some w => exact hw w (List.mem_of_getElem? e)
theorem Nms.set {g : Gk} {ws : List Wt} {k : Nat} {w : Wt} (hw : Nms g ws) (h : nm g w) : Nms g (ws.set k w) := fun x hx => by
  rcases List.mem_or_eq_of_mem_set hx with z | z
  · exact hw x z
  · rw [z]
    exact h
/-! ### the ground of rests -/
abbrev restF (p g : Int) : List (Str × V) := [(("prime" : Str), .int p), (("base" : Str), .int g)]
def RestAt (C : Addr) (H : Hp) (a : Addr) (p : Int) : Prop := ∃ dx g, H a = some (.ins C dx (restF p g)) ∧ ∃ out, IsPf (p - 1) out ∧ LeastGen p g (erl p out)
theorem RestAt.same {C : Addr} {H H' : Hp} {a : Addr} {p : Int} (h : RestAt C H a p) (e : Same H H') : RestAt C H' a p := by
  obtain ⟨dx, g, h1, h2⟩ := h
  exact ⟨dx, g, e _ _ h1, h2⟩
theorem RestAt.keep {C b : Addr} {H H' : Hp} {a : Addr} {p : Int} (h : RestAt C H a p) (n : a ≠ b) (e : Keep b H H') : RestAt C H' a p := by
  obtain ⟨dx, g, h1, h2⟩ := h
  exact ⟨dx, g, e _ _ n h1, h2⟩
theorem RestAt.some {C : Addr} {H : Hp} {a : Addr} {p : Int} (h : RestAt C H a p) : ∃ o, H a = some o := by
  obtain ⟨dx, g, h1, h2⟩ := h
  exact ⟨_, h1⟩
abbrev s_Rests___init__ : Stmt := inClass (top 21) 0
abbrev N_Rests___init__ : List Str := ["self", "prime"]
abbrev P_Rests___init__ : List Str := ["self", "prime"]
theorem sc_Rests___init__ : FnScope N_Rests___init__ P_Rests___init__ (defScope s_Rests___init__) := ⟨rfl, rfl, rfl, by decide +kernel, rfl, by decide +kernel, by decide +kernel⟩
/-- Rests(v): a new one of each prime to ten thousand; BadGround of all else -/
def spRI (K : PySem.W.Frag) (C CB : Addr) : Sp := fun vs H Q E => ∃ (a dx : Addr) (v : V) (t : String), vs = [.ref a, v] ∧ H a = some (.ins C dx []) ∧ Kd K H v t ∧
  (∀ p, v = .int p → p ∈ prs 10000 → ∀ H', Keep a H H' → RestAt C H' a p → Q .non H') ∧
  ((¬ ∃ p, v = .int p ∧ p ∈ prs 10000) → ∀ d H', H d = none → Same H H' → H' d = some (.xd [(("what" : Str), v)]) → E (.ref CB) (some d) H')
structure RestC (K : PySem.W.Frag) (C : Addr) : Prop where
  cl : L2.Cls K C
  np : NoAttr K C "prime"
  nb : NoAttr K C "base"
section
variable {P : Program} {w : World} {K : PySem.W.Frag} {mg : Str → Option Value} {base : Heap}
theorem ok_ri {f f1 f2 f3 f4 f5 fI C CB CT : Addr} {fd d1 d2 d3 d4 d5 fdI : FuncData} {k : Nat} {tM : Tok} (F : Fun K "__init__" "Rests.__init__" s_Rests___init__ f fd) (T : Blt mg) (RC : RestC K C) (D_is_whole : Df K mg "is_whole" s_is_whole P_is_whole f1 d1) (D_factors : Df K mg "factors" s_factors P_factors f2 d2) (D_is_prime : Df K mg "is_prime" s_is_prime P_is_prime f3 d3)
    (D_power_rest : Df K mg "power_rest" s_power_rest P_power_rest f4 d4) (D_generator : Df K mg "generator" s_generator P_generator f5 d5) (M_MOST_PRIME : mg "MOST_PRIME" = some (.int 10000 tM)) (FI : Fun K "__init__" "TurnError.__init__" s_init fI fdI) (I_b : Binds K fdI N_init []) (I_ty : PySem.W.typeIn K (.ref fI) = some (.type "function"))
    (R : Ref K CT CB fI) (M_BadGround : mg "BadGround" = some (.ref CB)) : FnOk P w K mg base (L2.CX P w) (k + 3) f fd P_Rests___init__ (spRI K C CB) := by
  have G_is_whole : FnOk P w K mg base CX0 (k + 1) f1 d1 P_is_whole (spWhole K) := ok_whole D_is_whole.F T
  have G_is_prime : FnOk P w K mg base CX0 (k + 2) f3 d3 P_is_prime (spPrime K) := ok_prime D_is_prime.F T D_is_whole D_factors
  have G_generator : FnOk P w K mg base CX0 (k + 2) f5 d5 P_generator spGen := ok_generator D_generator.F T D_factors D_power_rest
  have G_init : FnOk P w K mg base CX0 1 fI fdI N_init (spInit K) := ok_init FI
  have EK_BadGround := R.ek
  have II_BadGround := R.ini
  have nd := sc_Rests___init__.nd
  refine F.okX sc_Rests___init__ (fun vs H Q E h => ?_) (fun cdv A outer s H vs Q E hr h => ?_)
  · obtain ⟨a, dx, v, t, rfl, _⟩ := h
    rfl
  · obtain ⟨a, dx, v, t, rfl, ha, kd, qy, qn⟩ := h
    refine ⟨_, (pss_cons (ps_if (PW.pt (pw_or (pt_not (pt_val (pe_call G_is_whole (hr.mono (by omega)) (by rfl) D_is_whole.g D_is_whole.F.kp D_is_whole.b .nil pass0 (pa_cons (pv 1) pa_nil)))) (pw_or (pt_cmpR op_gt (pv 1) (pe_glob (v := .int 10000) (by rfl) M_MOST_PRIME ⟨_, rfl⟩) (nomark _)) (pw_or1 (pt_not (pt_val (pe_call G_is_prime (hr.mono (by omega)) (by rfl) D_is_prime.g D_is_prime.F.kp D_is_prime.b .nil pass0 (pa_cons (pv 1) pa_nil)))))))) (pss_one (ps_raise rfl (takes_of rfl rfl rfl rfl) (pmk_oex EK_BadGround.oex II_BadGround I_ty G_init (hr.mono (by omega)) I_b .nil pass0 (by rfl) M_BadGround (pa_cons (pv 1) pa_nil)))) pss_nil)
      (pss_cons (ps_fld (pv 0) (pv 1) (by rfl))
      (pss_one (ps_fld (pv 0) (pe_call G_generator (hr.mono (by omega)) (by rfl) D_generator.g D_generator.F.kp D_generator.b .nil pass0 (pa_cons (pv 1) pa_nil)) (by rfl))))), ?_⟩
    obtain ⟨cl, np, nb⟩ := RC
    have bad : ∀ H1, Same H H1 → (¬ ∃ p, v = .int p ∧ p ∈ prs 10000) → ∀ z, H1 z = none → _ := fun H1 sm1 no => mk_what (v := v) (Q := E) R.ek fun d H2 hd sm2 hq => qn no d H2 (sm1.free hd) (sm1.trans sm2) hq
    walk_at "ev"
    cases kd with
    | int p =>
      walk_at "ev"
      refine ite2 (fun e => ?_) (fun e => ?_)
      · have e1 : 10000 < p := of_decide_eq_true e
        refine ⟨_, rfl, (by show 1 ≤ 1000; decide), bad _ (Same.refl _) ?_⟩
        rintro ⟨p', h1, h2⟩
        cases h1
        have := (prs_iff.mp h2).1
        omega
      · have e1 : ¬ 10000 < p := fun z => e (decide_eq_true z)
        have kdp : Kd K H (.int p) "int" := .int p
        have bnd : ∀ n, V.int p = .int n → n ≤ 1000000000 := fun n z => by
          cases z
          omega
        walk_at "ev"
        intro b H1 sm1 hb
        walk_at "ev"
        cases b with
        | false =>
          have no : ¬ ∃ q, V.int p = .int q ∧ q ∈ prs 10000 := by
            rintro ⟨p', h1, h2⟩
            cases h1
            exact Bool.noConfusion (hb.mpr ⟨p, rfl, (prs_iff.mp h2).2⟩)
          walk_at "ev"
          exact bad _ sm1 no
        | true =>
          obtain ⟨p', h1, h2⟩ := hb.mp rfl
          cases h1
          have hp : p ∈ prs 10000 := prs_iff.mpr ⟨by omega, h2⟩
          obtain ⟨p2, p6, fs, out, g0, hf, hso, hmo, hpf, g1, gp, gok⟩ := gen_prs hp
          have ha1 := sm1 _ _ ha
          walk_at "ev"
          generalize hG : upd H1 a _ = H2
          obtain ⟨k2, hq2⟩ := mutO hG
          clear hG
          walk_at "ev"
          intro g H3 sm3 hg
          have ha3 := sm3 _ _ hq2
          walk_at "ev"
          refine ⟨(by show 1 < 1000; decide), ?_⟩
          exact qy p rfl hp _ (((keepS sm1).trans (k2.trans (keepS sm3))).trans (keep_upd (Keep.refl _ _))) ⟨dx, g, upd_same, out, hpf, hg⟩
    | _ =>
      walk_at "ev"
      refine bad _ (Same.refl _) ?_
      rintro ⟨p', h1, h2⟩
      cases h1
end
abbrev s_Rests_sum_of : Stmt := inClass (top 21) 7
abbrev N_Rests_sum_of : List Str := ["self", "one", "other"]
abbrev P_Rests_sum_of : List Str := ["self", "one", "other"]
theorem sc_Rests_sum_of : FnScope N_Rests_sum_of P_Rests_sum_of (defScope s_Rests_sum_of) := ⟨rfl, rfl, rfl, by decide +kernel, rfl, by decide +kernel, by decide +kernel⟩
def sp_sum_of (C : Addr) : Sp := fun vs H Q _ => ∃ (a : Addr) (p x y : Int), vs = [.ref a, .int x, .int y] ∧ RestAt C H a p ∧ 2 ≤ p ∧ p ≤ 10000 ∧ 0 ≤ x ∧ x < p ∧ 0 ≤ y ∧ y < p ∧ Q (.int ((x + y) % p)) H
section
variable {P : Program} {w : World} {K : PySem.W.Frag} {mg : Str → Option Value} {base : Heap}
theorem ok_sum_of {f C : Addr} {fd : FuncData} {k : Nat} (F : Fun K "sum_of" "Rests.sum_of" s_Rests_sum_of f fd) (RC : RestC K C) : FnOk P w K mg base CX0 (k + 1) f fd P_Rests_sum_of (sp_sum_of C) := by
  have nd := sc_Rests_sum_of.nd
  refine F.ok sc_Rests_sum_of (fun vs H Q E h => ?_) (fun cdv A outer s H vs Q E hr h => ?_)
  · obtain ⟨a, p, x, y, rfl, _⟩ := h
    rfl
  · obtain ⟨a, p, x, y, rfl, ⟨dx, g, ha, hg⟩, p2, p6, x0, x1, y0, y1, q⟩ := h
    refine ⟨_, (pss_one (ps_ret (pe_op op_mod (pe_op op_add (pv 1) (pv 2)) (pe_fld (pv 0) (by rfl))))), ?_⟩
    obtain ⟨cl, np, nb⟩ := RC
    have cm : CMul x y := .inl ⟨by omega, by omega⟩
    walk_at "ev"
    exact q
end
abbrev s_Rests_product_of : Stmt := inClass (top 21) 9
abbrev N_Rests_product_of : List Str := ["self", "one", "other"]
abbrev P_Rests_product_of : List Str := ["self", "one", "other"]
theorem sc_Rests_product_of : FnScope N_Rests_product_of P_Rests_product_of (defScope s_Rests_product_of) := ⟨rfl, rfl, rfl, by decide +kernel, rfl, by decide +kernel, by decide +kernel⟩
def sp_product_of (C : Addr) : Sp := fun vs H Q _ => ∃ (a : Addr) (p x y : Int), vs = [.ref a, .int x, .int y] ∧ RestAt C H a p ∧ 2 ≤ p ∧ p ≤ 10000 ∧ 0 ≤ x ∧ x < p ∧ 0 ≤ y ∧ y < p ∧ Q (.int ((x * y) % p)) H
section
variable {P : Program} {w : World} {K : PySem.W.Frag} {mg : Str → Option Value} {base : Heap}
theorem ok_product_of {f C : Addr} {fd : FuncData} {k : Nat} (F : Fun K "product_of" "Rests.product_of" s_Rests_product_of f fd) (RC : RestC K C) : FnOk P w K mg base CX0 (k + 1) f fd P_Rests_product_of (sp_product_of C) := by
  have nd := sc_Rests_product_of.nd
  refine F.ok sc_Rests_product_of (fun vs H Q E h => ?_) (fun cdv A outer s H vs Q E hr h => ?_)
  · obtain ⟨a, p, x, y, rfl, _⟩ := h
    rfl
  · obtain ⟨a, p, x, y, rfl, ⟨dx, g, ha, hg⟩, p2, p6, x0, x1, y0, y1, q⟩ := h
    refine ⟨_, (pss_one (ps_ret (pe_op op_mod (pe_op op_mul (pv 1) (pv 2)) (pe_fld (pv 0) (by rfl))))), ?_⟩
    obtain ⟨cl, np, nb⟩ := RC
    have cm : CMul x y := .inl ⟨by omega, by omega⟩
    walk_at "ev"
    exact q
end
abbrev s_Rests_has_root : Stmt := inClass (top 21) 4
abbrev N_Rests_has_root : List Str := ["self", "length"]
abbrev P_Rests_has_root : List Str := ["self", "length"]
theorem sc_Rests_has_root : FnScope N_Rests_has_root P_Rests_has_root (defScope s_Rests_has_root) := ⟨rfl, rfl, rfl, by decide +kernel, rfl, by decide +kernel, by decide +kernel⟩
def sp_hasroot (C : Addr) : Sp := fun vs H Q _ => ∃ (a : Addr) (p l : Int), vs = [.ref a, .int l] ∧ RestAt C H a p ∧ 1 ≤ l ∧ l ≤ 1000000 ∧ Q (.bl (decide ((p - 1) % l = 0))) H
abbrev s_Rests_root_at : Stmt := inClass (top 21) 10
abbrev N_Rests_root_at : List Str := ["self", "length", "power"]
abbrev P_Rests_root_at : List Str := ["self", "length", "power"]
theorem sc_Rests_root_at : FnScope N_Rests_root_at P_Rests_root_at (defScope s_Rests_root_at) := ⟨rfl, rfl, rfl, by decide +kernel, rfl, by decide +kernel, by decide +kernel⟩
/-- root_at: the power of the least generator; NoRoot -/
def sp_rootat (C CR : Addr) : Sp := fun vs H Q E => ∃ (a : Addr) (p l e : Int), vs = [.ref a, .int l, .int e] ∧ RestAt C H a p ∧ p ∈ prs 10000 ∧ 1 ≤ l ∧ l ≤ 1000000 ∧
  ((p - 1) % l = 0 → ∀ g out, IsPf (p - 1) out → LeastGen p g (erl p out) → Q (.int (g ^ ((p - 1) / l * (e % l)).toNat % p)) H) ∧
  (¬ (p - 1) % l = 0 → ∀ d H', H d = none → Same H H' → H' d = some (.xd [(("what" : Str), .int l)]) → E (.ref CR) (some d) H')
section
variable {P : Program} {w : World} {K : PySem.W.Frag} {mg : Str → Option Value} {base : Heap}
theorem ok_hasroot {f C : Addr} {fd : FuncData} {k : Nat} (F : Fun K "has_root" "Rests.has_root" s_Rests_has_root f fd) (RC : RestC K C) : FnOk P w K mg base CX0 (k + 1) f fd P_Rests_has_root (sp_hasroot C) := by
  have nd := sc_Rests_has_root.nd
  refine F.ok sc_Rests_has_root (fun vs H Q E h => ?_) (fun cdv A outer s H vs Q E hr h => ?_)
  · obtain ⟨a, p, l, rfl, _⟩ := h
    rfl
  · obtain ⟨a, p, l, rfl, ⟨dx, g, ha, hg⟩, l1, l6, q⟩ := h
    refine ⟨_, (pss_one (ps_ret (pe_and (pe_cmpR op_gt (pv 1) (pe_int) (nomark _)) (pe_one (pe_cmpR op_eq (pe_op op_mod (pe_op op_sub (pe_fld (pv 0) (by rfl)) (pe_int)) (pv 1)) (pe_int) (nomark _)))))), ?_⟩
    obtain ⟨cl, np, nb⟩ := RC
    have c1 : decide ((0 : Int) < l) = true := decide_eq_true (by omega)
    walk_at "ev"
    refine iteTe c1 ?_
    walk_at "ev"
    have e : decide (V.int ((p - 1) % l) = V.int 0) = decide ((p - 1) % l = 0) := by
      exact decide_eq_decide.mpr ⟨fun h => V.int.inj h, fun h => congrArg V.int h⟩
    rw [e]
    exact q
theorem ok_rootat {f f1 f2 fI C CR CT : Addr} {fd d1 d2 fdI : FuncData} {k : Nat} (F : Fun K "root_at" "Rests.root_at" s_Rests_root_at f fd) (RC : RestC K C) (ME_Rests_has_root : Meth K C "has_root" f1) (B_Rests_has_root : Binds K d1 P_Rests_has_root []) (F1 : Fun K "has_root" "Rests.has_root" s_Rests_has_root f1 d1) (D_power_rest : Df K mg "power_rest" s_power_rest P_power_rest f2 d2)
    (FI : Fun K "__init__" "TurnError.__init__" s_init fI fdI) (I_b : Binds K fdI N_init []) (I_ty : PySem.W.typeIn K (.ref fI) = some (.type "function")) (R : Ref K CT CR fI) (M_NoRoot : mg "NoRoot" = some (.ref CR)) : FnOk P w K mg base (L2.CX P w) (k + 3) f fd P_Rests_root_at (sp_rootat C CR) := by
  have G_init : FnOk P w K mg base CX0 1 fI fdI N_init (spInit K) := ok_init FI
  have G_Rests_has_root : FnOk P w K mg base CX0 1 f1 d1 P_Rests_has_root (sp_hasroot C) := ok_hasroot F1 RC
  have G_power_rest : FnOk P w K mg base CX0 1 f2 d2 P_power_rest spPow := ok_power D_power_rest.F
  have EK_NoRoot := R.ek
  have II_NoRoot := R.ini
  have CL_Rests := RC.cl
  have nd := sc_Rests_root_at.nd
  refine F.okX sc_Rests_root_at (fun vs H Q E h => ?_) (fun cdv A outer s H vs Q E hr h => ?_)
  · obtain ⟨a, p, l, e, rfl, _⟩ := h
    rfl
  · obtain ⟨a, p, l, e, rfl, hR, hp, l1, l6, qy, qn⟩ := h
    obtain ⟨dx, g, ha, out, hpf, hlg⟩ := id hR
    refine ⟨_, (pss_cons (ps_if (pt_not (pt_val (pe_meth (pv 0) CL_Rests ME_Rests_has_root G_Rests_has_root (hr.mono (by omega)) B_Rests_has_root .nil pass0 (pa_cons (pv 1) pa_nil)))) (pss_one (ps_raise rfl (takes_of rfl rfl rfl rfl) (pmk_oex EK_NoRoot.oex II_NoRoot I_ty G_init (hr.mono (by omega)) I_b .nil pass0 (by rfl) M_NoRoot (pa_cons (pv 1) pa_nil)))) pss_nil)
      (pss_one (ps_ret (pe_call G_power_rest (hr.mono (by omega)) (by rfl) D_power_rest.g D_power_rest.F.kp D_power_rest.b .nil pass0 (pa_cons (pe_fld (pv 0) (by rfl)) (pa_cons (pe_op op_mul (pe_op op_fdiv (pe_op op_sub (pe_fld (pv 0) (by rfl)) (pe_int)) (pv 1)) (pe_op op_mod (pv 2) (pv 1))) (pa_cons (pe_fld (pv 0) (by rfl)) pa_nil))))))), ?_⟩
    obtain ⟨cl, np, nb⟩ := RC
    obtain ⟨p6, hfp⟩ := prs_iff.mp hp
    obtain ⟨p2, pr⟩ := Rough.of_fac hfp
    walk_at "ev"
    by_cases c : (p - 1) % l = 0
    · rw [decide_eq_true c]
      have m0 := Int.emod_nonneg e (show l ≠ 0 by omega)
      have m1 := Int.emod_lt_of_pos e (show 0 < l by omega)
      have q0 : 0 ≤ (p - 1) / l := Int.ediv_nonneg (by omega) (by omega)
      have cm : CMul ((p - 1) / l) (e % l) := .inr ⟨by omega, by omega⟩
      have ce : 0 ≤ (p - 1) / l * (e % l) := Int.mul_nonneg q0 m0
      walk_at "ev"
      exact qy c g out hpf hlg
    · rw [decide_eq_false c]
      walk_at "ev"
      exact mk_what R.ek fun d H' hd sm hq => qn c d H' hd sm hq
end
theorem gcd_prime {n p : Int} (hp : Fac p [p]) (h : ¬ n % p = 0) : Int.gcd n p = 1 := by
  obtain ⟨p2, r⟩ := Rough.of_fac hp
  have g1 := Int.gcd_dvd_left n p
  have g2 := Int.gcd_dvd_right n p
  generalize hg : Int.gcd n p = g at *
  have g0 : g ≠ 0 := fun z => by
    rw [z] at g2
    have := Int.zero_dvd.mp g2
    omega
  have gle : (g : Int) ≤ p := Int.le_of_dvd (by omega) g2
  by_cases e : g = 1
  · exact e
  · exfalso
    by_cases e2 : (g : Int) = p
    · rw [e2] at g1
      exact h (Int.emod_eq_zero_of_dvd g1)
    · exact r g (by omega) (by omega) g2
/-- the worth that n times is x -/
theorem share_uniq {n p x y z : Int} (hg : Int.gcd n p = 1) (y0 : 0 ≤ y) (y1 : y < p) (z0 : 0 ≤ z) (z1 : z < p) (hy : y * n % p = x) (hz : z * n % p = x) : y = z := by
  have h1 : p ∣ (y - z) * n := by
    rw [Int.sub_mul]
    exact Int.dvd_of_emod_eq_zero (Int.emod_eq_emod_iff_emod_sub_eq_zero.mp (hy.trans hz.symm))
  have h2 : p.natAbs ∣ (y - z).natAbs * n.natAbs := by
    rw [← Int.natAbs_mul]
    exact Int.natAbs_dvd_natAbs.mpr h1
  have h3 : Nat.Coprime p.natAbs n.natAbs := by
    show Nat.gcd p.natAbs n.natAbs = 1
    rw [Nat.gcd_comm]
    exact hg
  have h4 := Int.natAbs_dvd_natAbs.mp (Nat.Coprime.dvd_of_dvd_mul_right h3 h2)
  have h5 := Int.emod_eq_emod_iff_emod_sub_eq_zero.mpr (Int.emod_eq_zero_of_dvd h4)
  rw [Int.emod_eq_of_lt y0 y1, Int.emod_eq_of_lt z0 z1] at h5
  exact h5
abbrev s_Rests_shared_by : Stmt := inClass (top 21) 11
abbrev N_Rests_shared_by : List Str := ["self", "worth", "number"]
abbrev P_Rests_shared_by : List Str := ["self", "worth", "number"]
theorem sc_Rests_shared_by : FnScope N_Rests_shared_by P_Rests_shared_by (defScope s_Rests_shared_by) := ⟨rfl, rfl, rfl, by decide +kernel, rfl, by decide +kernel, by decide +kernel⟩
def sp_shared (C CS : Addr) : Sp := fun vs H Q E => ∃ (a : Addr) (p x n : Int), vs = [.ref a, .int x, .int n] ∧ RestAt C H a p ∧ p ∈ prs 10000 ∧ 0 ≤ x ∧ x < p ∧ 1 ≤ n ∧ n ≤ 1000000000 ∧
  (¬ n % p = 0 → ∀ y, 0 ≤ y → y < p → y * n % p = x → ∀ H', Same H H' → Q (.int y) H') ∧ (n % p = 0 → ∀ d H', H d = none → Same H H' → H' d = some (.xd [(("what" : Str), .int n)]) → E (.ref CS) (some d) H')
section
variable {P : Program} {w : World} {K : PySem.W.Frag} {mg : Str → Option Value} {base : Heap}
theorem ok_shared {f f1 fI C CI CS CT : Addr} {fd d1 fdI : FuncData} {k : Nat} (F : Fun K "shared_by" "Rests.shared_by" s_Rests_shared_by f fd) (RC : RestC K C) (D_inverse : Df K mg "inverse" s_inverse P_inverse f1 d1) (FI : Fun K "__init__" "TurnError.__init__" s_init fI fdI) (I_b : Binds K fdI N_init [])
    (I_ty : PySem.W.typeIn K (.ref fI) = some (.type "function")) (R1 : Ref K CT CI fI) (M_NoInverse : mg "NoInverse" = some (.ref CI)) (R2 : Ref K CT CS fI) (M_NoShare : mg "NoShare" = some (.ref CS)) : FnOk P w K mg base (L2.CX P w) (k + 4) f fd P_Rests_shared_by (sp_shared C CS) := by
  have G_init : FnOk P w K mg base CX0 1 fI fdI N_init (spInit K) := ok_init FI
  have G_inverse : FnOk P w K mg base (L2.CX P w) (k + 3) f1 d1 P_inverse (spInv CI) := ok_inverse D_inverse.F FI I_b I_ty R1 M_NoInverse
  have EK_NoShare := R2.ek
  have II_NoShare := R2.ini
  have nd := sc_Rests_shared_by.nd
  refine F.okX sc_Rests_shared_by (fun vs H Q E h => ?_) (fun cdv A outer s H vs Q E hr h => ?_)
  · obtain ⟨a, p, x, n, rfl, _⟩ := h
    rfl
  · obtain ⟨a, p, x, n, rfl, ⟨dx, g, ha, hg⟩, hp, x0, x1, n1, n9, qy, qn⟩ := h
    refine ⟨_, (pss_cons (ps_if (pt_cmpR op_eq (pe_op op_mod (pv 2) (pe_fld (pv 0) (by rfl))) (pe_int) (nomark _)) (pss_one (ps_raise rfl (takes_of rfl rfl rfl rfl) (pmk_oex EK_NoShare.oex II_NoShare I_ty G_init (hr.mono (by omega)) I_b .nil pass0 (by rfl) M_NoShare (pa_cons (pv 2) pa_nil)))) pss_nil)
      (pss_one (ps_ret (pe_op op_mod (pe_op op_mul (pv 1) (pe_call G_inverse (hr.mono (by omega)) (by rfl) D_inverse.g D_inverse.F.kp D_inverse.b .nil (passes_call (takes_of rfl rfl rfl rfl) (fun _ _ _ _ h => h)) (pa_cons (pv 2) (pa_cons (pe_fld (pv 0) (by rfl)) pa_nil)))) (pe_fld (pv 0) (by rfl)))))), ?_⟩
    obtain ⟨cl, np, nb⟩ := RC
    obtain ⟨p6, hfp⟩ := prs_iff.mp hp
    obtain ⟨p2, pr⟩ := Rough.of_fac hfp
    walk_at "ev"
    refine ite2 (fun e => ?_) (fun e => ?_)
    · have e1 : n % p = 0 := V.int.inj (of_decide_eq_true e)
      refine ⟨_, rfl, (by show 1 ≤ 1000; decide), mk_what R2.ek fun d H' hd sm hq => ?_⟩
      exact qn e1 d H' hd sm hq
    · have e1 : ¬ n % p = 0 := fun z => e (decide_eq_true (congrArg V.int z))
      have hgc := gcd_prime hfp e1
      walk_at "ev"
      refine ⟨fun _ i i0 i1 hi H2 sm2 => ?_, fun z => absurd hgc z⟩
      have ha2 := sm2 _ _ ha
      have cm : CMul x i := .inl ⟨by omega, by omega⟩
      walk_at "ev"
      refine qy e1 _ (Int.emod_nonneg _ (by omega)) (Int.emod_lt_of_pos _ (by omega)) ?_ _ sm2
      rw [Int.mul_emod, Int.emod_emod_of_dvd _ (Int.dvd_refl p), ← Int.mul_emod, Int.mul_assoc, Int.mul_comm i n, Int.mul_emod, hi, Int.mul_one, Int.emod_emod_of_dvd _ (Int.dvd_refl p)]
      exact Int.emod_eq_of_lt x0 x1
end
local macro_rules | `(tactic| walk_at "ev1") => `(tactic| ((first | with_reducible show ClsV _ _ | with_reducible show Paired ClsV _ _); first | exact ClsV.own _ | exact ClsV.ty _ | exact .cons (.own _) (.cons (.own _) .nil) | exact .cons (.own _) (.cons (.own _) (.cons (.own _) .nil))))
local macro_rules | `(tactic| walk_at "ev1m") => `(tactic| ((first | with_reducible show ClsV _ _ | with_reducible show Paired ClsV _ _); first | exact ClsV.own _ | exact ClsV.ty _ | exact .cons (.own _) (.cons (.own _) .nil) | exact .cons (.own _) (.cons (.own _) (.cons (.own _) .nil))))
/-! ### the ground of exact roots -/
theorem whl_last : ∀ n < 31, 1 ≤ n → 2 ≤ (whl n).length ∧ (whl n).length ≤ 31 ∧ (whl n).getD ((whl n).length - 1) 0 = 1 := by decide +kernel
abbrev rootF (n : Nat) (r : Addr) : List (Str × V) := [(("order" : Str), .int (n : Int)), (("rim" : Str), .ref r)]
def RootAt (C : Addr) (H : Hp) (a : Addr) (n : Nat) : Prop := ∃ dx r, H a = some (.ins C dx (rootF n r)) ∧ H r = some (.tup ((whl n).map V.int))
theorem RootAt.same {C : Addr} {H H' : Hp} {a : Addr} {n : Nat} (h : RootAt C H a n) (e : Same H H') : RootAt C H' a n := by
  obtain ⟨dx, r, h1, h2⟩ := h
  exact ⟨dx, r, e _ _ h1, e _ _ h2⟩
theorem RootAt.keep {C b : Addr} {H H' : Hp} {a : Addr} {n : Nat} {c : Int} (h : RootAt C H a n) (hb : BoxAt H b c) (e : Keep b H H') : RootAt C H' a n := by
  obtain ⟨dx, r, h1, h2⟩ := h
  obtain ⟨x, y, z, b1, _⟩ := hb
  exact ⟨dx, r, e _ _ (fun w => by rw [w, b1] at h1; cases h1) h1, e _ _ (fun w => by rw [w, b1] at h2; cases h2) h2⟩
theorem RootAt.some {C : Addr} {H : Hp} {a : Addr} {n : Nat} (h : RootAt C H a n) : ∃ o, H a = some o := by
  obtain ⟨dx, r, h1, h2⟩ := h
  exact ⟨_, h1⟩
structure RootC (K : PySem.W.Frag) (C : Addr) : Prop where
  cl : L2.Cls K C
  no : NoAttr K C "order"
  nr : NoAttr K C "rim"
abbrev s_Roots___init__ : Stmt := inClass (top 27) 0
abbrev N_Roots___init__ : List Str := ["self", "order"]
abbrev P_Roots___init__ : List Str := ["self", "order"]
theorem sc_Roots___init__ : FnScope N_Roots___init__ P_Roots___init__ (defScope s_Roots___init__) := ⟨rfl, rfl, rfl, by decide +kernel, rfl, by decide +kernel, by decide +kernel⟩
/-- Roots(v): a new one of each order to thirty; BadGround of all else -/
def spRoI (K : PySem.W.Frag) (C CB : Addr) : Sp := fun vs H Q E => ∃ (a dx : Addr) (v : V) (t : String), vs = [.ref a, v] ∧ H a = some (.ins C dx []) ∧ Kd K H v t ∧
  (∀ n : Nat, v = .int (n : Int) → 1 ≤ n → n < 31 → ∀ H', Keep a H H' → RootAt C H' a n → Q .non H') ∧
  ((¬ ∃ n : Nat, v = .int (n : Int) ∧ 1 ≤ n ∧ n < 31) → ∀ d H', H d = none → Same H H' → H' d = some (.xd [(("what" : Str), v)]) → E (.ref CB) (some d) H')
section
variable {P : Program} {w : World} {K : PySem.W.Frag} {mg : Str → Option Value} {base : Heap}
theorem ok_roi {f f1 f2 f3 f4 fI C CB CT : Addr} {fd d1 d2 d3 d4 fdI : FuncData} {tM : Tok} (F : Fun K "__init__" "Roots.__init__" s_Roots___init__ f fd) (T : Blt mg) (RC : RootC K C) (D_is_whole : Df K mg "is_whole" s_is_whole P_is_whole f1 d1) (D_wheel : Df K mg "wheel" s_wheel P_wheel f2 d2) (D_divisors : Df K mg "divisors" s_divisors P_divisors f3 d3) (D_divided : Df K mg "divided" s_divided P_divided f4 d4)
    (M_MOST_ORDER : mg "MOST_ORDER" = some (.int 30 tM)) (FI : Fun K "__init__" "TurnError.__init__" s_init fI fdI) (I_b : Binds K fdI N_init []) (I_ty : PySem.W.typeIn K (.ref fI) = some (.type "function"))
    (R : Ref K CT CB fI) (M_BadGround : mg "BadGround" = some (.ref CB)) : FnOk P w K mg base (L2.CX P w) 7 f fd P_Roots___init__ (spRoI K C CB) := by
  have G_is_whole : FnOk P w K mg base CX0 1 f1 d1 P_is_whole (spWhole K) := ok_whole D_is_whole.F T
  have G_wheel : FnOk P w K mg base CX0 6 f2 d2 P_wheel (spWheel 5) := ok_wheel D_wheel T D_divisors D_divided 5
  have G_init : FnOk P w K mg base CX0 1 fI fdI N_init (spInit K) := ok_init FI
  have EK_BadGround := R.ek
  have II_BadGround := R.ini
  have nd := sc_Roots___init__.nd
  refine F.okX sc_Roots___init__ (fun vs H Q E h => ?_) (fun cdv A outer s H vs Q E hr h => ?_)
  · obtain ⟨a, dx, v, t, rfl, _⟩ := h
    rfl
  · obtain ⟨a, dx, v, t, rfl, ha, kd, qy, qn⟩ := h
    refine ⟨_, (pss_cons (ps_if (PW.pt (pw_or (pt_not (pt_val (pe_call G_is_whole (hr.mono (by omega)) (by rfl) D_is_whole.g D_is_whole.F.kp D_is_whole.b .nil pass0 (pa_cons (pv 1) pa_nil)))) (pw_or (pt_cmpR op_lt (pv 1) (pe_int) (nomark _)) (pw_or1 (pt_cmpR op_gt (pv 1) (pe_glob (v := .int 30) (by rfl) M_MOST_ORDER ⟨_, rfl⟩) (nomark _)))))) (pss_one (ps_raise rfl (takes_of rfl rfl rfl rfl) (pmk_oex EK_BadGround.oex II_BadGround I_ty G_init (hr.mono (by omega)) I_b .nil pass0 (by rfl) M_BadGround (pa_cons (pv 1) pa_nil)))) pss_nil)
      (pss_cons (ps_fld (pv 0) (pv 1) (by rfl))
      (pss_one (ps_fld (pv 0) (pe_callTy call_tuple_of (by rfl) T.b_tuple (by decide +kernel) (pa_cons (pe_call G_wheel (hr.mono (by omega)) (by rfl) D_wheel.g D_wheel.F.kp D_wheel.b .nil pass0 (pa_cons (pv 1) pa_nil)) pa_nil)) (by rfl))))), ?_⟩
    obtain ⟨cl, no, nr⟩ := RC
    have bad : ∀ H1, Same H H1 → (¬ ∃ n : Nat, v = .int (n : Int) ∧ 1 ≤ n ∧ n < 31) → ∀ z, H1 z = none → _ := fun H1 sm1 no => mk_what (v := v) (Q := E) R.ek fun d H2 hd sm2 hq => qn no d H2 (sm1.free hd) (sm1.trans sm2) hq
    walk_at "ev"
    cases kd with
    | int p =>
      walk_at "ev"
      refine ite2 (fun e => ?_) (fun e => ?_)
      · have e1 : p < 1 := of_decide_eq_true e
        refine ⟨_, rfl, (by show 1 ≤ 1000; decide), bad _ (Same.refl _) ?_⟩
        rintro ⟨n, h1, h2, h3⟩
        cases h1
        omega
      · have e1 : ¬ p < 1 := fun z => e (decide_eq_true z)
        walk_at "ev"
        refine ite2 (fun e2 => ?_) (fun e2 => ?_)
        · have e3 : 30 < p := of_decide_eq_true e2
          refine ⟨_, rfl, (by show 1 ≤ 1000; decide), bad _ (Same.refl _) ?_⟩
          rintro ⟨n, h1, h2, h3⟩
          cases h1
          omega
        · have e3 : ¬ 30 < p := fun z => e2 (decide_eq_true z)
          obtain ⟨n, rfl⟩ := Int.eq_ofNat_of_zero_le (show 0 ≤ p by omega)
          have n1 : 1 ≤ n := by omega
          have n31 : n < 31 := by omega
          have n32 : n < 2 ^ 5 := by omega
          walk_at "ev"
          generalize hG : upd H a _ = H2
          obtain ⟨k2, hq2⟩ := mutO hG
          clear hG
          walk_at "ev"
          intro l H3 hl sm3 hq3
          walk_at "ev"
          refine .inl ⟨SqL.of hq3, ?_⟩
          w_cond _4
          have ha4 := (sm3.trans sm4) _ _ hq2
          have na4 : l4 ≠ a := (ne_of_none (sm3 _ _ hq2) hl4).symm
          walk_at "ev"
          refine ⟨(by show 1 < 1000; decide), ?_⟩
          exact qy n rfl n1 n31 _ ((k2.trans (keepS (sm3.trans sm4))).trans (keep_upd (Keep.refl _ _))) ⟨dx, l4, upd_same, by rw [upd_ne na4]; exact hq4⟩
    | _ =>
      walk_at "ev"
      refine bad _ (Same.refl _) ?_
      rintro ⟨n, h1, h2⟩
      cases h1
end
abbrev s_Roots_sum_of : Stmt := inClass (top 27) 7
abbrev N_Roots_sum_of : List Str := ["self", "one", "other", "part", "beside"]
abbrev P_Roots_sum_of : List Str := ["self", "one", "other"]
theorem sc_Roots_sum_of : FnScope N_Roots_sum_of P_Roots_sum_of (defScope s_Roots_sum_of) := ⟨rfl, rfl, rfl, by decide +kernel, rfl, by decide +kernel, by decide +kernel⟩
def spSumO (K : PySem.W.Frag) : Sp := fun vs H Q _ => ∃ (a x y : Addr) (one two : List Int), vs = [.ref a, .ref x, .ref y] ∧ SqT K H x (one.map V.int) ∧ SqT K H y (two.map V.int) ∧ one.length = two.length ∧ one.length ≤ 100 ∧ ∀ p H', H p = none → Same H H' → H' p = some (.tup ((List.zipWith (· + ·) one two).map V.int)) → Q (.ref p) H'
section
variable {P : Program} {w : World} {K : PySem.W.Frag} {mg : Str → Option Value} {base : Heap}
theorem ok_sum_ofR {f : Addr} {fd : FuncData} {k : Nat} (F : Fun K "sum_of" "Roots.sum_of" s_Roots_sum_of f fd) (T : Blt mg) : FnOk P w K mg base CX0 (k + 1) f fd P_Roots_sum_of (spSumO K) := by
  have nd := sc_Roots_sum_of.nd
  refine F.ok sc_Roots_sum_of (fun vs H Q E h => ?_) (fun cdv A outer s H vs Q E hr h => ?_)
  · obtain ⟨a, x, y, one, two, rfl, _⟩ := h
    rfl
  · obtain ⟨a, x, y, one, two, rfl, hx, hy, hle, hl, q⟩ := h
    refine ⟨_, (pss_one (ps_ret (pe_callTy call_tuple_of (by rfl) T.b_tuple (by decide +kernel) (pa_cons (pe_lc (own := [("part", 3), ("beside", 4)]) (g := gTup K 2 (gCons (gName 3) (gCons (gName 4) gNil))) (by rfl) nd (RZ.pi_zipA (by rfl) T.b_zip (pa_cons (pv 1) (pa_cons (pv 2) pa_nil))) (blkOk_by (own := [("part", 3), ("beside", 4)]) (N := N_Roots_sum_of) (sc := defScope s_Roots_sum_of) (by decide +kernel)) (fun _ _ _ _ _ => (pg_tup (by rfl) (pgs_cons (pg_name (i := 3) nd rfl (Or.inl rfl)) (pgs_cons (pg_name (i := 4) nd rfl (Or.inl rfl)) pgs_nil)))) (fun _ _ _ _ _ => pts_nil) (fun _ _ _ _ _ => (pe_op op_add (pv 3) (pv 4)))) pa_nil)))), ?_⟩
    walk_at "ev"
    refine .inr ⟨hx, hy, fun D hD => ?_⟩
    refine lc_pairs (xs := one.map V.int) (ys := two.map V.int) (fun i H' => Hold (Same H H' ∧ H' D = some (.lst (((List.zipWith (· + ·) one two).take i).map V.int)))) (.mk ⟨same_new hD, upd_same⟩) ?_ ?_ ?_ ?_ ?_
    · intro i H' hP hi
      obtain ⟨sm2, hD2⟩ := hP.un
      have hi2 : i < (two.map V.int).length := by rw [List.length_map] at *; omega
      exact ⟨_, _, _, _, same_t sm2 hx, same_t sm2 hy, List.getElem?_eq_getElem hi, List.getElem?_eq_getElem hi2⟩
    · intro i H' v H'' hP hi yl
      obtain ⟨sm2, hD2⟩ := hP.un
      obtain ⟨T, x', y', e1, e2, e3, f1, f2⟩ := yl
      exact ⟨T, x', y', e1, e2, e3, f1 _ (same_t sm2 hx), f2 _ (same_t sm2 hy)⟩
    · intro H' hP
      obtain ⟨sm2, hD2⟩ := hP.un
      exact ⟨_, _, same_t sm2 hx, same_t sm2 hy, .inl (Nat.le_refl _)⟩
    · intro i x' y' T' H' H'' hx' hy' hP hT e
      obtain ⟨sm2, hD2⟩ := hP.un
      obtain ⟨sm3, hT3⟩ := newO e.symm hT
      have hT4 : SqT K H'' T' [x', y'] := SqT.of hT3
      rw [List.getElem?_map] at hx' hy'
      obtain ⟨u, hu, eu⟩ := Option.map_eq_some_iff.mp hx'
      obtain ⟨v, hv, ev⟩ := Option.map_eq_some_iff.mp hy'
      subst eu ev
      have hil : i < one.length := (List.getElem?_eq_some_iff.mp hu).1
      have hsz : (((List.zipWith (· + ·) one two).take i).map V.int).length < sizeLine := szm (by rw [List.length_map, List.length_take]; omega)
      have hD3 := sm3 _ _ hD2
      walk_at "ev"
      refine .mk ⟨same_mut (sm2.trans sm3) hD, ?_⟩
      rw [upd_same, List.take_add_one, List.getElem?_zipWith, hu, hv, List.map_append]
      rfl
    · intro H' hP
      obtain ⟨sm2, hD2⟩ := hP.un
      have ez : (List.zipWith (· + ·) one two).length = (one.map V.int).length := by rw [List.length_zipWith, List.length_map]; omega
      rw [← ez, List.take_length] at hD2
      walk_at "ev"
      refine .inl ⟨SqL.of hD2, ?_⟩
      w_cond _3
      exact q l3 H3 (sm2.free hl3) (sm2.trans sm3) hq3
end
abbrev s_Roots_product_of : Stmt := inClass (top 27) 9
abbrev N_Roots_product_of : List Str := ["self", "one", "other"]
abbrev P_Roots_product_of : List Str := ["self", "one", "other"]
theorem sc_Roots_product_of : FnScope N_Roots_product_of P_Roots_product_of (defScope s_Roots_product_of) := ⟨rfl, rfl, rfl, by decide +kernel, rfl, by decide +kernel, by decide +kernel⟩
def spProdO (K : PySem.W.Frag) (C : Addr) : Sp := fun vs H Q _ => ∃ (a x y : Addr) (n : Nat) (one two : List Int), vs = [.ref a, .ref x, .ref y] ∧ RootAt C H a n ∧ 1 ≤ n ∧ n < 31 ∧ SqT K H x (one.map V.int) ∧ SqT K H y (two.map V.int) ∧ 1 ≤ one.length ∧ 1 ≤ two.length ∧ one.length ≤ 100 ∧ two.length ≤ 100 ∧ (∀ x ∈ one, x.natAbs < 2 ^ 9000) ∧ (∀ x ∈ two, x.natAbs < 2 ^ 9000) ∧
  ∀ p H', H p = none → Same H H' → H' p = some (.tup ((dvR (whl n) (pmul one two)).map V.int)) → Q (.ref p) H'
section
variable {P : Program} {w : World} {K : PySem.W.Frag} {mg : Str → Option Value} {base : Heap}
theorem ok_prodO {f f1 f2 C : Addr} {fd d1 d2 : FuncData} {k : Nat} (F : Fun K "product_of" "Roots.product_of" s_Roots_product_of f fd) (T : Blt mg) (RC : RootC K C) (D_divided : Df K mg "divided" s_divided P_divided f1 d1) (D_multiplied : Df K mg "multiplied" s_multiplied P_multiplied f2 d2) : FnOk P w K mg base CX0 (k + 2) f fd P_Roots_product_of (spProdO K C) := by
  have G_divided : FnOk P w K mg base CX0 1 f1 d1 P_divided (spDvd2 K) := ok_divided2 D_divided.F T
  have G_multiplied : FnOk P w K mg base CX0 1 f2 d2 P_multiplied (spMulT K) := ok_mulT D_multiplied.F T
  have nd := sc_Roots_product_of.nd
  refine F.ok sc_Roots_product_of (fun vs H Q E h => ?_) (fun cdv A outer s H vs Q E hr h => ?_)
  · obtain ⟨a, x, y, n, one, two, rfl, _⟩ := h
    rfl
  · obtain ⟨a, x, y, n, one, two, rfl, ⟨dx, r, ha, hrm⟩, n1, n31, hx, hy, o1, t1, ol, tl, bo, bt, q⟩ := h
    refine ⟨_, (pss_one (ps_ret (pe_callTy call_tuple_of (by rfl) T.b_tuple (by decide +kernel) (pa_cons (pe_ix (r := rIxT K) ix_tup (pe_call G_divided (hr.mono (by omega)) (by rfl) D_divided.g D_divided.F.kp D_divided.b .nil pass0 (pa_cons (pe_call G_multiplied (hr.mono (by omega)) (by rfl) D_multiplied.g D_multiplied.F.kp D_multiplied.b .nil pass0 (pa_cons (pv 1) (pa_cons (pv 2) pa_nil))) (pa_cons (pe_fld (pv 0) (by rfl)) pa_nil))) (pe_int) (fun _ _ => rfl)) pa_nil)))), ?_⟩
    obtain ⟨cl, no, nr⟩ := RC
    obtain ⟨w2, w31, _⟩ := whl_last n n31 n1
    have wb := whl_bnd n n31
    have o1000 : one.length ≤ 1000 := by omega
    have t1000 : two.length ≤ 1000 := by omega
    walk_at "ev"
    intro m H1 hm sm1 hq1
    have ha1 := sm1 _ _ ha
    have hM := SqL.of (K := K) hq1
    have hR1 : SqL K H1 r ((whl n).map V.int) ∨ SqT K H1 r ((whl n).map V.int) := .inr (SqT.of (sm1 _ _ hrm))
    have z1 : 1 ≤ (whl n).length := by omega
    have z2 : (whl n).length ≤ 1000 := by omega
    have z3 : (pmul one two).length ≤ 1000 := by rw [pmul_len]; omega
    walk_at "ev"
    intro t' qq z H2 hq sm2 hT hQ hz hZ
    have at1 : atI [V.ref qq, V.ref z] 1 = some (.ref z) := rfl
    walk_at "ev"
    refine .inl ⟨SqL.of hZ, ?_⟩
    w_cond _3
    exact q l3 H3 ((sm1.trans sm2).free hl3) (sm1.trans (sm2.trans sm3)) hq3
end
/-! ### t * k, t a tuple, k any -/
section
open PySem.Spec PyProof.Rows
theorem tuple_mulW1 (l : Addr) (items : Array Value) (n : Nat) (dd : Option Addr) (sl : Array (Option Value)) (u : Tok) :
    Meets (Builtin.«tuple.__mul__» ⟨[.ref l, .int 1 u], []⟩) (fun _ R s => s.heap.get? l = some { cls := .type "tuple", dict := dd, data := .seq items n, slots := sl } ∧ R (.ok (.ret (Value.ref l))) s) :=
  .of_wp fun prog w A R s h => by
    obtain ⟨hp, g, d, tk, os⟩ := s
    obtain ⟨hl, h⟩ := h
    have f1 := AutoSeq1.idx_int
    have c1 : (items.isEmpty || (1 : Int) == 1) = true := by rw [beq_self_eq_true, Bool.or_true]
    wp_walk using wpAny_loadPart' hl
    repeat (first
      | (refine wpAny_ite_false (decide_eq_false (by decide)) ?_; wp_walk using wpAny_loadPart' hl)
      | (refine wpAny_ite_true (decide_eq_true c1) ?_; wp_walk using wpAny_loadPart' hl))
    exact ⟨_, rfl, h⟩
theorem tuple_mulW0 (l : Addr) (items : Array Value) (n : Nat) (dd : Option Addr) (sl : Array (Option Value)) (x : Int) (u : Tok) (c0 : (decide (x < -(2 ^ 63)) || decide (x ≥ 2 ^ 63)) = false) (c1 : (items.isEmpty || x == 1) = false) (c2 : (decide (x ≤ 0) || items.isEmpty) = true) :
    Meets (Builtin.«tuple.__mul__» ⟨[.ref l, .int x u], []⟩) (fun _ R s => s.heap.get? l = some { cls := .type "tuple", dict := dd, data := .seq items n, slots := sl } ∧
      R (.ok (.ret (Value.ref s.heap.objs.size))) { s with heap := s.heap.push { cls := Value.type "tuple", data := Data.seq #[] }, toks := s.toks }) :=
  .of_wp fun prog w A R s h => by
    obtain ⟨hp, g, d, tk, os⟩ := s
    obtain ⟨hl, h⟩ := h
    have f1 := AutoSeq1.idx_int
    have hsz : ¬ (#[] : Array Value).size > sizeLine := by rw [sizeLine_eq]; decide
    wp_walk using wpAny_loadPart' hl
    repeat (first
      | (refine wpAny_ite_false (decide_eq_false (by rw [c0]; exact Bool.false_ne_true)) ?_; wp_walk using wpAny_loadPart' hl)
      | (refine wpAny_ite_false (decide_eq_false (by rw [c1]; exact Bool.false_ne_true)) ?_; wp_walk using wpAny_loadPart' hl)
      | (refine wpAny_ite_true (decide_eq_true c2) ?_; wp_walk using wpAny_loadPart' hl)
      | (refine wpAny_ite_false (decide_eq_false hsz) ?_; wp_walk using wpAny_loadPart' hl))
    exact ⟨_, rfl, h⟩
def rRepA (K : PySem.W.Frag) : R2 := fun x y H Q => ∃ l k xs, x = .ref l ∧ y = .int k ∧ SqT K H l xs ∧ xs ≠ [] ∧ -1000 ≤ k ∧ k ≤ 1000 ∧ xs.length ≤ 1000 ∧ (k = 1 → Q (.ref l) H) ∧ (k ≠ 1 → ∀ p, H p = none → Q (.ref p) (upd H p (.tup (List.replicate k.toNat xs).flatten)))
theorem op_repA {X : Cx} : OpR X (binaryOp .Mult) (rRepA X.K) := by
  intro pins s σ H x y v u Q I rx ry h
  obtain ⟨l, k, xs, rfl, rfl, hT, hne, h1, h2, hz, q1, q2⟩ := h
  by_cases c : 2 ≤ k
  · exact op_repT pins s σ H _ _ v u Q I rx ry ⟨l, k, xs, rfl, rfl, hT, hne, c, h2, hz, q2 (by omega)⟩
  cases rx
  obtain ⟨t, rfl⟩ := ry
  obtain ⟨its, r, ⟨⟨cls, dd, data, sl⟩, ho, hc, n, hd⟩, hs⟩ := I.tuple hT
  simp only at hc hd
  subst hc hd
  have hle : its.length = xs.length := r.length.symm
  have hn : its ≠ [] := fun e => hne (by
    rw [e] at hle
    exact List.eq_nil_of_length_eq_zero hle.symm)
  have hi : its.toArray.isEmpty = false := by
    cases its with
    | nil => exact absurd rfl hn
    | cons a b => rfl
  by_cases c1 : k = 1
  · subst c1
    exact wpAny_binaryOp_repeat_ref (T := "tuple") (U := "int") (by decide) ⟨_, ho, rfl⟩ (fun s' => typeIs_int s' 1 t) noFill_tuple_mul F.fills_int_mul F.slot_int_rmul repeat_tuple F.slot_int_index.lookup
      (call_meets F.slot_int_rmul (typeIs_int s 1 t) F.entry_int_rmul (F.args_int_rmul_2 _ _) (int_rmul_tuple 1 t l its.toArray n dd sl)
        ⟨ho, rfl, ⟨_, ho, rfl⟩, call_meets F.slot_tuple_mul ⟨_, ho, rfl⟩ F.entry_tuple_mul (F.args_tuple_mul_2 _ _) (tuple_mulW1 l its.toArray n dd sl t) ⟨ho, ⟨.ref l, H, I, rfl, q1 rfl⟩⟩⟩)
  · have c0 : (decide (k < -(2 ^ 63)) || decide (k ≥ 2 ^ 63)) = false := by
      rw [decide_eq_false (by omega), decide_eq_false (by omega)] <;> rfl
    have d1 : (its.toArray.isEmpty || k == 1) = false := by
      rw [hi, Bool.false_or]
      exact beq_eq_false_iff_ne.mpr c1
    have d2 : (decide (k ≤ 0) || its.toArray.isEmpty) = true := by
      rw [decide_eq_true (by omega)]
      rfl
    refine wpAny_binaryOp_repeat_ref (T := "tuple") (U := "int") (by decide) ⟨_, ho, rfl⟩ (fun s' => typeIs_int s' k t) noFill_tuple_mul F.fills_int_mul F.slot_int_rmul repeat_tuple F.slot_int_index.lookup
      (call_meets F.slot_int_rmul (typeIs_int s k t) F.entry_int_rmul (F.args_int_rmul_2 _ _) (int_rmul_tuple k t l its.toArray n dd sl)
        ⟨ho, rfl, ⟨_, ho, rfl⟩, call_meets F.slot_tuple_mul ⟨_, ho, rfl⟩ F.entry_tuple_mul (F.args_tuple_mul_2 _ _) (tuple_mulW0 l its.toArray n dd sl k t c0 d1 d2) ⟨ho, ?_⟩⟩)
    have e : (List.replicate k.toNat xs).flatten = [] := by
      rw [show k.toNat = 0 by omega]
      rfl
    have q3 := q2 c1
    rw [e] at q3
    refine ⟨.ref s.heap.objs.size, _, I.laid (t' := s.toks) (o := .tup []) (fun b ob q => Heap.get?_push_of_some _ q) (Nat.le_refl _) ?_, rfl, q3 _ (I.hok.fresh (Nat.le_refl _))⟩
    exact ⟨Nat.zero_le _, _, .nil, IsTup.new _ _⟩
end
section
open PySem.Spec PyProof.Rows
/-- t * k and t + u, whatever comes: a tuple, new or not -/
def rRepB (K : PySem.W.Frag) : R2 := fun x y H Q => ∃ l k xs, x = .ref l ∧ y = .int k ∧ SqT K H l xs ∧ xs ≠ [] ∧ -1000 ≤ k ∧ k ≤ 1000 ∧ xs.length ≤ 1000 ∧ ∀ p H', Same H H' → SqT K H' p (List.replicate k.toNat xs).flatten → Q (.ref p) H'
theorem op_repB {X : Cx} : OpR X (binaryOp .Mult) (rRepB X.K) := by
  intro pins s σ H x y v u Q I rx ry h
  obtain ⟨l, k, xs, e1, e2, hT, hne, h1, h2, hz, q⟩ := h
  refine op_repA pins s σ H x y v u Q I rx ry ⟨l, k, xs, e1, e2, hT, hne, h1, h2, hz, fun e => ?_, fun e p hp => q p _ (same_new hp) (SqT.of upd_same)⟩
  subst e
  refine q l H (Same.refl _) ?_
  have z : (List.replicate (1 : Int).toNat xs).flatten = xs := by
    show xs ++ [] = xs
    exact List.append_nil xs
  rw [z]
  exact hT
def rCatB (K : PySem.W.Frag) : R2 := fun x y H Q => ∃ a b xs ys, x = .ref a ∧ y = .ref b ∧ SqT K H a xs ∧ SqT K H b ys ∧ xs.length + ys.length ≤ sizeLine ∧ ∀ p H', Same H H' → SqT K H' p (xs ++ ys) → Q (.ref p) H'
theorem op_catB {X : Cx} : OpR X (binaryOp .Add) (rCatB X.K) := by
  intro pins s σ H x y v u Q I rx ry h
  obtain ⟨a, b, xs, ys, e1, e2, ha, hb, hz, q⟩ := h
  refine op_catA pins s σ H x y v u Q I rx ry ⟨a, b, xs, ys, e1, e2, ha, hb, hz, fun e => ?_, fun _ e => ?_, fun _ _ p hp => q p _ (same_new hp) (SqT.of upd_same)⟩
  · refine q b H (Same.refl _) ?_
    rw [e]
    exact hb
  · refine q a H (Same.refl _) ?_
    rw [e, List.append_nil]
    exact ha
end
theorem rep1 {k : Nat} {v : V} : (List.replicate (k : Int).toNat [v]).flatten = List.replicate k v := by
  rw [Int.toNat_natCast]
  exact rep_flat
/-! ### the powers of the exact roots -/
def PW : List (List (List Int)) := [[], [[1]], [[1], [-1]], [[1, 0], [0, 1], [-1, -1]], [[1, 0], [0, 1], [-1, 0], [0, -1]], [[1, 0, 0, 0], [0, 1, 0, 0], [0, 0, 1, 0], [0, 0, 0, 1], [-1, -1, -1, -1]], [[1, 0], [0, 1], [-1, 1], [-1, 0], [0, -1], [1, -1]], [[1, 0, 0, 0, 0, 0], [0, 1, 0, 0, 0, 0], [0, 0, 1, 0, 0, 0], [0, 0, 0, 1, 0, 0], [0, 0, 0, 0, 1, 0], [0, 0, 0, 0, 0, 1], [-1, -1, -1, -1, -1, -1]], [[1, 0, 0, 0], [0, 1, 0, 0], [0, 0, 1, 0], [0, 0, 0, 1], [-1, 0, 0, 0], [0, -1, 0, 0], [0, 0, -1, 0], [0, 0, 0, -1]], [[1, 0, 0, 0, 0, 0], [0, 1, 0, 0, 0, 0], [0, 0, 1, 0, 0, 0], [0, 0, 0, 1, 0, 0], [0, 0, 0, 0, 1, 0], [0, 0, 0, 0, 0, 1], [-1, 0, 0, -1, 0, 0], [0, -1, 0, 0, -1, 0], [0, 0, -1, 0, 0, -1]], [[1, 0, 0, 0], [0, 1, 0, 0], [0, 0, 1, 0], [0, 0, 0, 1], [-1, 1, -1, 1], [-1, 0, 0, 0], [0, -1, 0, 0], [0, 0, -1, 0], [0, 0, 0, -1], [1, -1, 1, -1]], [[1, 0, 0, 0, 0, 0, 0, 0, 0, 0], [0, 1, 0, 0, 0, 0, 0, 0, 0, 0], [0, 0, 1, 0, 0, 0, 0, 0, 0, 0], [0, 0, 0, 1, 0, 0, 0, 0, 0, 0], [0, 0, 0, 0, 1, 0, 0, 0, 0, 0], [0, 0, 0, 0, 0, 1, 0, 0, 0, 0], [0, 0, 0, 0, 0, 0, 1, 0, 0, 0], [0, 0, 0, 0, 0, 0, 0, 1, 0, 0], [0, 0, 0, 0, 0, 0, 0, 0, 1, 0], [0, 0, 0, 0, 0, 0, 0, 0, 0, 1], [-1, -1, -1, -1, -1, -1, -1, -1, -1, -1]], [[1, 0, 0, 0], [0, 1, 0, 0], [0, 0, 1, 0], [0, 0, 0, 1], [-1, 0, 1, 0], [0, -1, 0, 1], [-1, 0, 0, 0], [0, -1, 0, 0], [0, 0, -1, 0], [0, 0, 0, -1], [1, 0, -1, 0], [0, 1, 0, -1]], [[1, 0, 0, 0, 0, 0, 0, 0, 0, 0, 0, 0], [0, 1, 0, 0, 0, 0, 0, 0, 0, 0, 0, 0], [0, 0, 1, 0, 0, 0, 0, 0, 0, 0, 0, 0], [0, 0, 0, 1, 0, 0, 0, 0, 0, 0, 0, 0], [0, 0, 0, 0, 1, 0, 0, 0, 0, 0, 0, 0], [0, 0, 0, 0, 0, 1, 0, 0, 0, 0, 0, 0], [0, 0, 0, 0, 0, 0, 1, 0, 0, 0, 0, 0], [0, 0, 0, 0, 0, 0, 0, 1, 0, 0, 0, 0], [0, 0, 0, 0, 0, 0, 0, 0, 1, 0, 0, 0], [0, 0, 0, 0, 0, 0, 0, 0, 0, 1, 0, 0], [0, 0, 0, 0, 0, 0, 0, 0, 0, 0, 1, 0], [0, 0, 0, 0, 0, 0, 0, 0, 0, 0, 0, 1], [-1, -1, -1, -1, -1, -1, -1, -1, -1, -1, -1, -1]], [[1, 0, 0, 0, 0, 0], [0, 1, 0, 0, 0, 0], [0, 0, 1, 0, 0, 0], [0, 0, 0, 1, 0, 0], [0, 0, 0, 0, 1, 0], [0, 0, 0, 0, 0, 1], [-1, 1, -1, 1, -1, 1], [-1, 0, 0, 0, 0, 0], [0, -1, 0, 0, 0, 0], [0, 0, -1, 0, 0, 0], [0, 0, 0, -1, 0, 0], [0, 0, 0, 0, -1, 0], [0, 0, 0, 0, 0, -1], [1, -1, 1, -1, 1, -1]], [[1, 0, 0, 0, 0, 0, 0, 0], [0, 1, 0, 0, 0, 0, 0, 0], [0, 0, 1, 0, 0, 0, 0, 0], [0, 0, 0, 1, 0, 0, 0, 0], [0, 0, 0, 0, 1, 0, 0, 0], [0, 0, 0, 0, 0, 1, 0, 0], [0, 0, 0, 0, 0, 0, 1, 0], [0, 0, 0, 0, 0, 0, 0, 1], [-1, 1, 0, -1, 1, -1, 0, 1], [-1, 0, 1, -1, 0, 0, -1, 1], [-1, 0, 0, 0, 0, -1, 0, 0], [0, -1, 0, 0, 0, 0, -1, 0], [0, 0, -1, 0, 0, 0, 0, -1], [1, -1, 0, 0, -1, 1, 0, -1], [1, 0, -1, 1, -1, 0, 1, -1]], [[1, 0, 0, 0, 0, 0, 0, 0], [0, 1, 0, 0, 0, 0, 0, 0], [0, 0, 1, 0, 0, 0, 0, 0], [0, 0, 0, 1, 0, 0, 0, 0], [0, 0, 0, 0, 1, 0, 0, 0], [0, 0, 0, 0, 0, 1, 0, 0], [0, 0, 0, 0, 0, 0, 1, 0], [0, 0, 0, 0, 0, 0, 0, 1], [-1, 0, 0, 0, 0, 0, 0, 0], [0, -1, 0, 0, 0, 0, 0, 0], [0, 0, -1, 0, 0, 0, 0, 0], [0, 0, 0, -1, 0, 0, 0, 0], [0, 0, 0, 0, -1, 0, 0, 0], [0, 0, 0, 0, 0, -1, 0, 0], [0, 0, 0, 0, 0, 0, -1, 0], [0, 0, 0, 0, 0, 0, 0, -1]], [[1, 0, 0, 0, 0, 0, 0, 0, 0, 0, 0, 0, 0, 0, 0, 0], [0, 1, 0, 0, 0, 0, 0, 0, 0, 0, 0, 0, 0, 0, 0, 0], [0, 0, 1, 0, 0, 0, 0, 0, 0, 0, 0, 0, 0, 0, 0, 0], [0, 0, 0, 1, 0, 0, 0, 0, 0, 0, 0, 0, 0, 0, 0, 0], [0, 0, 0, 0, 1, 0, 0, 0, 0, 0, 0, 0, 0, 0, 0, 0], [0, 0, 0, 0, 0, 1, 0, 0, 0, 0, 0, 0, 0, 0, 0, 0], [0, 0, 0, 0, 0, 0, 1, 0, 0, 0, 0, 0, 0, 0, 0, 0], [0, 0, 0, 0, 0, 0, 0, 1, 0, 0, 0, 0, 0, 0, 0, 0], [0, 0, 0, 0, 0, 0, 0, 0, 1, 0, 0, 0, 0, 0, 0, 0], [0, 0, 0, 0, 0, 0, 0, 0, 0, 1, 0, 0, 0, 0, 0, 0], [0, 0, 0, 0, 0, 0, 0, 0, 0, 0, 1, 0, 0, 0, 0, 0], [0, 0, 0, 0, 0, 0, 0, 0, 0, 0, 0, 1, 0, 0, 0, 0], [0, 0, 0, 0, 0, 0, 0, 0, 0, 0, 0, 0, 1, 0, 0, 0], [0, 0, 0, 0, 0, 0, 0, 0, 0, 0, 0, 0, 0, 1, 0, 0], [0, 0, 0, 0, 0, 0, 0, 0, 0, 0, 0, 0, 0, 0, 1, 0], [0, 0, 0, 0, 0, 0, 0, 0, 0, 0, 0, 0, 0, 0, 0, 1], [-1, -1, -1, -1, -1, -1, -1, -1, -1, -1, -1, -1, -1, -1, -1, -1]], [[1, 0, 0, 0, 0, 0], [0, 1, 0, 0, 0, 0], [0, 0, 1, 0, 0, 0], [0, 0, 0, 1, 0, 0], [0, 0, 0, 0, 1, 0], [0, 0, 0, 0, 0, 1], [-1, 0, 0, 1, 0, 0], [0, -1, 0, 0, 1, 0], [0, 0, -1, 0, 0, 1], [-1, 0, 0, 0, 0, 0], [0, -1, 0, 0, 0, 0], [0, 0, -1, 0, 0, 0], [0, 0, 0, -1, 0, 0], [0, 0, 0, 0, -1, 0], [0, 0, 0, 0, 0, -1], [1, 0, 0, -1, 0, 0], [0, 1, 0, 0, -1, 0], [0, 0, 1, 0, 0, -1]], [[1, 0, 0, 0, 0, 0, 0, 0, 0, 0, 0, 0, 0, 0, 0, 0, 0, 0], [0, 1, 0, 0, 0, 0, 0, 0, 0, 0, 0, 0, 0, 0, 0, 0, 0, 0], [0, 0, 1, 0, 0, 0, 0, 0, 0, 0, 0, 0, 0, 0, 0, 0, 0, 0], [0, 0, 0, 1, 0, 0, 0, 0, 0, 0, 0, 0, 0, 0, 0, 0, 0, 0], [0, 0, 0, 0, 1, 0, 0, 0, 0, 0, 0, 0, 0, 0, 0, 0, 0, 0], [0, 0, 0, 0, 0, 1, 0, 0, 0, 0, 0, 0, 0, 0, 0, 0, 0, 0], [0, 0, 0, 0, 0, 0, 1, 0, 0, 0, 0, 0, 0, 0, 0, 0, 0, 0], [0, 0, 0, 0, 0, 0, 0, 1, 0, 0, 0, 0, 0, 0, 0, 0, 0, 0], [0, 0, 0, 0, 0, 0, 0, 0, 1, 0, 0, 0, 0, 0, 0, 0, 0, 0], [0, 0, 0, 0, 0, 0, 0, 0, 0, 1, 0, 0, 0, 0, 0, 0, 0, 0], [0, 0, 0, 0, 0, 0, 0, 0, 0, 0, 1, 0, 0, 0, 0, 0, 0, 0], [0, 0, 0, 0, 0, 0, 0, 0, 0, 0, 0, 1, 0, 0, 0, 0, 0, 0], [0, 0, 0, 0, 0, 0, 0, 0, 0, 0, 0, 0, 1, 0, 0, 0, 0, 0], [0, 0, 0, 0, 0, 0, 0, 0, 0, 0, 0, 0, 0, 1, 0, 0, 0, 0], [0, 0, 0, 0, 0, 0, 0, 0, 0, 0, 0, 0, 0, 0, 1, 0, 0, 0], [0, 0, 0, 0, 0, 0, 0, 0, 0, 0, 0, 0, 0, 0, 0, 1, 0, 0], [0, 0, 0, 0, 0, 0, 0, 0, 0, 0, 0, 0, 0, 0, 0, 0, 1, 0], [0, 0, 0, 0, 0, 0, 0, 0, 0, 0, 0, 0, 0, 0, 0, 0, 0, 1], [-1, -1, -1, -1, -1, -1, -1, -1, -1, -1, -1, -1, -1, -1, -1, -1, -1, -1]], [[1, 0, 0, 0, 0, 0, 0, 0], [0, 1, 0, 0, 0, 0, 0, 0], [0, 0, 1, 0, 0, 0, 0, 0], [0, 0, 0, 1, 0, 0, 0, 0], [0, 0, 0, 0, 1, 0, 0, 0], [0, 0, 0, 0, 0, 1, 0, 0], [0, 0, 0, 0, 0, 0, 1, 0], [0, 0, 0, 0, 0, 0, 0, 1], [-1, 0, 1, 0, -1, 0, 1, 0], [0, -1, 0, 1, 0, -1, 0, 1], [-1, 0, 0, 0, 0, 0, 0, 0], [0, -1, 0, 0, 0, 0, 0, 0], [0, 0, -1, 0, 0, 0, 0, 0], [0, 0, 0, -1, 0, 0, 0, 0], [0, 0, 0, 0, -1, 0, 0, 0], [0, 0, 0, 0, 0, -1, 0, 0], [0, 0, 0, 0, 0, 0, -1, 0], [0, 0, 0, 0, 0, 0, 0, -1], [1, 0, -1, 0, 1, 0, -1, 0], [0, 1, 0, -1, 0, 1, 0, -1]], [[1, 0, 0, 0, 0, 0, 0, 0, 0, 0, 0, 0], [0, 1, 0, 0, 0, 0, 0, 0, 0, 0, 0, 0], [0, 0, 1, 0, 0, 0, 0, 0, 0, 0, 0, 0], [0, 0, 0, 1, 0, 0, 0, 0, 0, 0, 0, 0], [0, 0, 0, 0, 1, 0, 0, 0, 0, 0, 0, 0], [0, 0, 0, 0, 0, 1, 0, 0, 0, 0, 0, 0], [0, 0, 0, 0, 0, 0, 1, 0, 0, 0, 0, 0], [0, 0, 0, 0, 0, 0, 0, 1, 0, 0, 0, 0], [0, 0, 0, 0, 0, 0, 0, 0, 1, 0, 0, 0], [0, 0, 0, 0, 0, 0, 0, 0, 0, 1, 0, 0], [0, 0, 0, 0, 0, 0, 0, 0, 0, 0, 1, 0], [0, 0, 0, 0, 0, 0, 0, 0, 0, 0, 0, 1], [-1, 1, 0, -1, 1, 0, -1, 0, 1, -1, 0, 1], [-1, 0, 1, -1, 0, 1, -1, -1, 1, 0, -1, 1], [-1, 0, 0, 0, 0, 0, 0, -1, 0, 0, 0, 0], [0, -1, 0, 0, 0, 0, 0, 0, -1, 0, 0, 0], [0, 0, -1, 0, 0, 0, 0, 0, 0, -1, 0, 0], [0, 0, 0, -1, 0, 0, 0, 0, 0, 0, -1, 0], [0, 0, 0, 0, -1, 0, 0, 0, 0, 0, 0, -1], [1, -1, 0, 1, -1, -1, 1, 0, -1, 1, 0, -1], [1, 0, -1, 1, 0, -1, 0, 1, -1, 0, 1, -1]], [[1, 0, 0, 0, 0, 0, 0, 0, 0, 0], [0, 1, 0, 0, 0, 0, 0, 0, 0, 0], [0, 0, 1, 0, 0, 0, 0, 0, 0, 0], [0, 0, 0, 1, 0, 0, 0, 0, 0, 0], [0, 0, 0, 0, 1, 0, 0, 0, 0, 0], [0, 0, 0, 0, 0, 1, 0, 0, 0, 0], [0, 0, 0, 0, 0, 0, 1, 0, 0, 0], [0, 0, 0, 0, 0, 0, 0, 1, 0, 0], [0, 0, 0, 0, 0, 0, 0, 0, 1, 0], [0, 0, 0, 0, 0, 0, 0, 0, 0, 1], [-1, 1, -1, 1, -1, 1, -1, 1, -1, 1], [-1, 0, 0, 0, 0, 0, 0, 0, 0, 0], [0, -1, 0, 0, 0, 0, 0, 0, 0, 0], [0, 0, -1, 0, 0, 0, 0, 0, 0, 0], [0, 0, 0, -1, 0, 0, 0, 0, 0, 0], [0, 0, 0, 0, -1, 0, 0, 0, 0, 0], [0, 0, 0, 0, 0, -1, 0, 0, 0, 0], [0, 0, 0, 0, 0, 0, -1, 0, 0, 0], [0, 0, 0, 0, 0, 0, 0, -1, 0, 0], [0, 0, 0, 0, 0, 0, 0, 0, -1, 0], [0, 0, 0, 0, 0, 0, 0, 0, 0, -1], [1, -1, 1, -1, 1, -1, 1, -1, 1, -1]], [[1, 0, 0, 0, 0, 0, 0, 0, 0, 0, 0, 0, 0, 0, 0, 0, 0, 0, 0, 0, 0, 0], [0, 1, 0, 0, 0, 0, 0, 0, 0, 0, 0, 0, 0, 0, 0, 0, 0, 0, 0, 0, 0, 0], [0, 0, 1, 0, 0, 0, 0, 0, 0, 0, 0, 0, 0, 0, 0, 0, 0, 0, 0, 0, 0, 0], [0, 0, 0, 1, 0, 0, 0, 0, 0, 0, 0, 0, 0, 0, 0, 0, 0, 0, 0, 0, 0, 0], [0, 0, 0, 0, 1, 0, 0, 0, 0, 0, 0, 0, 0, 0, 0, 0, 0, 0, 0, 0, 0, 0], [0, 0, 0, 0, 0, 1, 0, 0, 0, 0, 0, 0, 0, 0, 0, 0, 0, 0, 0, 0, 0, 0], [0, 0, 0, 0, 0, 0, 1, 0, 0, 0, 0, 0, 0, 0, 0, 0, 0, 0, 0, 0, 0, 0], [0, 0, 0, 0, 0, 0, 0, 1, 0, 0, 0, 0, 0, 0, 0, 0, 0, 0, 0, 0, 0, 0], [0, 0, 0, 0, 0, 0, 0, 0, 1, 0, 0, 0, 0, 0, 0, 0, 0, 0, 0, 0, 0, 0], [0, 0, 0, 0, 0, 0, 0, 0, 0, 1, 0, 0, 0, 0, 0, 0, 0, 0, 0, 0, 0, 0], [0, 0, 0, 0, 0, 0, 0, 0, 0, 0, 1, 0, 0, 0, 0, 0, 0, 0, 0, 0, 0, 0], [0, 0, 0, 0, 0, 0, 0, 0, 0, 0, 0, 1, 0, 0, 0, 0, 0, 0, 0, 0, 0, 0], [0, 0, 0, 0, 0, 0, 0, 0, 0, 0, 0, 0, 1, 0, 0, 0, 0, 0, 0, 0, 0, 0], [0, 0, 0, 0, 0, 0, 0, 0, 0, 0, 0, 0, 0, 1, 0, 0, 0, 0, 0, 0, 0, 0], [0, 0, 0, 0, 0, 0, 0, 0, 0, 0, 0, 0, 0, 0, 1, 0, 0, 0, 0, 0, 0, 0], [0, 0, 0, 0, 0, 0, 0, 0, 0, 0, 0, 0, 0, 0, 0, 1, 0, 0, 0, 0, 0, 0], [0, 0, 0, 0, 0, 0, 0, 0, 0, 0, 0, 0, 0, 0, 0, 0, 1, 0, 0, 0, 0, 0], [0, 0, 0, 0, 0, 0, 0, 0, 0, 0, 0, 0, 0, 0, 0, 0, 0, 1, 0, 0, 0, 0], [0, 0, 0, 0, 0, 0, 0, 0, 0, 0, 0, 0, 0, 0, 0, 0, 0, 0, 1, 0, 0, 0], [0, 0, 0, 0, 0, 0, 0, 0, 0, 0, 0, 0, 0, 0, 0, 0, 0, 0, 0, 1, 0, 0], [0, 0, 0, 0, 0, 0, 0, 0, 0, 0, 0, 0, 0, 0, 0, 0, 0, 0, 0, 0, 1, 0], [0, 0, 0, 0, 0, 0, 0, 0, 0, 0, 0, 0, 0, 0, 0, 0, 0, 0, 0, 0, 0, 1], [-1, -1, -1, -1, -1, -1, -1, -1, -1, -1, -1, -1, -1, -1, -1, -1, -1, -1, -1, -1, -1, -1]], [[1, 0, 0, 0, 0, 0, 0, 0], [0, 1, 0, 0, 0, 0, 0, 0], [0, 0, 1, 0, 0, 0, 0, 0], [0, 0, 0, 1, 0, 0, 0, 0], [0, 0, 0, 0, 1, 0, 0, 0], [0, 0, 0, 0, 0, 1, 0, 0], [0, 0, 0, 0, 0, 0, 1, 0], [0, 0, 0, 0, 0, 0, 0, 1], [-1, 0, 0, 0, 1, 0, 0, 0], [0, -1, 0, 0, 0, 1, 0, 0], [0, 0, -1, 0, 0, 0, 1, 0], [0, 0, 0, -1, 0, 0, 0, 1], [-1, 0, 0, 0, 0, 0, 0, 0], [0, -1, 0, 0, 0, 0, 0, 0], [0, 0, -1, 0, 0, 0, 0, 0], [0, 0, 0, -1, 0, 0, 0, 0], [0, 0, 0, 0, -1, 0, 0, 0], [0, 0, 0, 0, 0, -1, 0, 0], [0, 0, 0, 0, 0, 0, -1, 0], [0, 0, 0, 0, 0, 0, 0, -1], [1, 0, 0, 0, -1, 0, 0, 0], [0, 1, 0, 0, 0, -1, 0, 0], [0, 0, 1, 0, 0, 0, -1, 0], [0, 0, 0, 1, 0, 0, 0, -1]], [[1, 0, 0, 0, 0, 0, 0, 0, 0, 0, 0, 0, 0, 0, 0, 0, 0, 0, 0, 0], [0, 1, 0, 0, 0, 0, 0, 0, 0, 0, 0, 0, 0, 0, 0, 0, 0, 0, 0, 0], [0, 0, 1, 0, 0, 0, 0, 0, 0, 0, 0, 0, 0, 0, 0, 0, 0, 0, 0, 0], [0, 0, 0, 1, 0, 0, 0, 0, 0, 0, 0, 0, 0, 0, 0, 0, 0, 0, 0, 0], [0, 0, 0, 0, 1, 0, 0, 0, 0, 0, 0, 0, 0, 0, 0, 0, 0, 0, 0, 0], [0, 0, 0, 0, 0, 1, 0, 0, 0, 0, 0, 0, 0, 0, 0, 0, 0, 0, 0, 0], [0, 0, 0, 0, 0, 0, 1, 0, 0, 0, 0, 0, 0, 0, 0, 0, 0, 0, 0, 0], [0, 0, 0, 0, 0, 0, 0, 1, 0, 0, 0, 0, 0, 0, 0, 0, 0, 0, 0, 0], [0, 0, 0, 0, 0, 0, 0, 0, 1, 0, 0, 0, 0, 0, 0, 0, 0, 0, 0, 0], [0, 0, 0, 0, 0, 0, 0, 0, 0, 1, 0, 0, 0, 0, 0, 0, 0, 0, 0, 0], [0, 0, 0, 0, 0, 0, 0, 0, 0, 0, 1, 0, 0, 0, 0, 0, 0, 0, 0, 0], [0, 0, 0, 0, 0, 0, 0, 0, 0, 0, 0, 1, 0, 0, 0, 0, 0, 0, 0, 0], [0, 0, 0, 0, 0, 0, 0, 0, 0, 0, 0, 0, 1, 0, 0, 0, 0, 0, 0, 0], [0, 0, 0, 0, 0, 0, 0, 0, 0, 0, 0, 0, 0, 1, 0, 0, 0, 0, 0, 0], [0, 0, 0, 0, 0, 0, 0, 0, 0, 0, 0, 0, 0, 0, 1, 0, 0, 0, 0, 0], [0, 0, 0, 0, 0, 0, 0, 0, 0, 0, 0, 0, 0, 0, 0, 1, 0, 0, 0, 0], [0, 0, 0, 0, 0, 0, 0, 0, 0, 0, 0, 0, 0, 0, 0, 0, 1, 0, 0, 0], [0, 0, 0, 0, 0, 0, 0, 0, 0, 0, 0, 0, 0, 0, 0, 0, 0, 1, 0, 0], [0, 0, 0, 0, 0, 0, 0, 0, 0, 0, 0, 0, 0, 0, 0, 0, 0, 0, 1, 0], [0, 0, 0, 0, 0, 0, 0, 0, 0, 0, 0, 0, 0, 0, 0, 0, 0, 0, 0, 1], [-1, 0, 0, 0, 0, -1, 0, 0, 0, 0, -1, 0, 0, 0, 0, -1, 0, 0, 0, 0], [0, -1, 0, 0, 0, 0, -1, 0, 0, 0, 0, -1, 0, 0, 0, 0, -1, 0, 0, 0], [0, 0, -1, 0, 0, 0, 0, -1, 0, 0, 0, 0, -1, 0, 0, 0, 0, -1, 0, 0], [0, 0, 0, -1, 0, 0, 0, 0, -1, 0, 0, 0, 0, -1, 0, 0, 0, 0, -1, 0], [0, 0, 0, 0, -1, 0, 0, 0, 0, -1, 0, 0, 0, 0, -1, 0, 0, 0, 0, -1]], [[1, 0, 0, 0, 0, 0, 0, 0, 0, 0, 0, 0], [0, 1, 0, 0, 0, 0, 0, 0, 0, 0, 0, 0], [0, 0, 1, 0, 0, 0, 0, 0, 0, 0, 0, 0], [0, 0, 0, 1, 0, 0, 0, 0, 0, 0, 0, 0], [0, 0, 0, 0, 1, 0, 0, 0, 0, 0, 0, 0], [0, 0, 0, 0, 0, 1, 0, 0, 0, 0, 0, 0], [0, 0, 0, 0, 0, 0, 1, 0, 0, 0, 0, 0], [0, 0, 0, 0, 0, 0, 0, 1, 0, 0, 0, 0], [0, 0, 0, 0, 0, 0, 0, 0, 1, 0, 0, 0], [0, 0, 0, 0, 0, 0, 0, 0, 0, 1, 0, 0], [0, 0, 0, 0, 0, 0, 0, 0, 0, 0, 1, 0], [0, 0, 0, 0, 0, 0, 0, 0, 0, 0, 0, 1], [-1, 1, -1, 1, -1, 1, -1, 1, -1, 1, -1, 1], [-1, 0, 0, 0, 0, 0, 0, 0, 0, 0, 0, 0], [0, -1, 0, 0, 0, 0, 0, 0, 0, 0, 0, 0], [0, 0, -1, 0, 0, 0, 0, 0, 0, 0, 0, 0], [0, 0, 0, -1, 0, 0, 0, 0, 0, 0, 0, 0], [0, 0, 0, 0, -1, 0, 0, 0, 0, 0, 0, 0], [0, 0, 0, 0, 0, -1, 0, 0, 0, 0, 0, 0], [0, 0, 0, 0, 0, 0, -1, 0, 0, 0, 0, 0], [0, 0, 0, 0, 0, 0, 0, -1, 0, 0, 0, 0], [0, 0, 0, 0, 0, 0, 0, 0, -1, 0, 0, 0], [0, 0, 0, 0, 0, 0, 0, 0, 0, -1, 0, 0], [0, 0, 0, 0, 0, 0, 0, 0, 0, 0, -1, 0], [0, 0, 0, 0, 0, 0, 0, 0, 0, 0, 0, -1], [1, -1, 1, -1, 1, -1, 1, -1, 1, -1, 1, -1]], [[1, 0, 0, 0, 0, 0, 0, 0, 0, 0, 0, 0, 0, 0, 0, 0, 0, 0], [0, 1, 0, 0, 0, 0, 0, 0, 0, 0, 0, 0, 0, 0, 0, 0, 0, 0], [0, 0, 1, 0, 0, 0, 0, 0, 0, 0, 0, 0, 0, 0, 0, 0, 0, 0], [0, 0, 0, 1, 0, 0, 0, 0, 0, 0, 0, 0, 0, 0, 0, 0, 0, 0], [0, 0, 0, 0, 1, 0, 0, 0, 0, 0, 0, 0, 0, 0, 0, 0, 0, 0], [0, 0, 0, 0, 0, 1, 0, 0, 0, 0, 0, 0, 0, 0, 0, 0, 0, 0], [0, 0, 0, 0, 0, 0, 1, 0, 0, 0, 0, 0, 0, 0, 0, 0, 0, 0], [0, 0, 0, 0, 0, 0, 0, 1, 0, 0, 0, 0, 0, 0, 0, 0, 0, 0], [0, 0, 0, 0, 0, 0, 0, 0, 1, 0, 0, 0, 0, 0, 0, 0, 0, 0], [0, 0, 0, 0, 0, 0, 0, 0, 0, 1, 0, 0, 0, 0, 0, 0, 0, 0], [0, 0, 0, 0, 0, 0, 0, 0, 0, 0, 1, 0, 0, 0, 0, 0, 0, 0], [0, 0, 0, 0, 0, 0, 0, 0, 0, 0, 0, 1, 0, 0, 0, 0, 0, 0], [0, 0, 0, 0, 0, 0, 0, 0, 0, 0, 0, 0, 1, 0, 0, 0, 0, 0], [0, 0, 0, 0, 0, 0, 0, 0, 0, 0, 0, 0, 0, 1, 0, 0, 0, 0], [0, 0, 0, 0, 0, 0, 0, 0, 0, 0, 0, 0, 0, 0, 1, 0, 0, 0], [0, 0, 0, 0, 0, 0, 0, 0, 0, 0, 0, 0, 0, 0, 0, 1, 0, 0], [0, 0, 0, 0, 0, 0, 0, 0, 0, 0, 0, 0, 0, 0, 0, 0, 1, 0], [0, 0, 0, 0, 0, 0, 0, 0, 0, 0, 0, 0, 0, 0, 0, 0, 0, 1], [-1, 0, 0, 0, 0, 0, 0, 0, 0, -1, 0, 0, 0, 0, 0, 0, 0, 0], [0, -1, 0, 0, 0, 0, 0, 0, 0, 0, -1, 0, 0, 0, 0, 0, 0, 0], [0, 0, -1, 0, 0, 0, 0, 0, 0, 0, 0, -1, 0, 0, 0, 0, 0, 0], [0, 0, 0, -1, 0, 0, 0, 0, 0, 0, 0, 0, -1, 0, 0, 0, 0, 0], [0, 0, 0, 0, -1, 0, 0, 0, 0, 0, 0, 0, 0, -1, 0, 0, 0, 0], [0, 0, 0, 0, 0, -1, 0, 0, 0, 0, 0, 0, 0, 0, -1, 0, 0, 0], [0, 0, 0, 0, 0, 0, -1, 0, 0, 0, 0, 0, 0, 0, 0, -1, 0, 0], [0, 0, 0, 0, 0, 0, 0, -1, 0, 0, 0, 0, 0, 0, 0, 0, -1, 0], [0, 0, 0, 0, 0, 0, 0, 0, -1, 0, 0, 0, 0, 0, 0, 0, 0, -1]], [[1, 0, 0, 0, 0, 0, 0, 0, 0, 0, 0, 0], [0, 1, 0, 0, 0, 0, 0, 0, 0, 0, 0, 0], [0, 0, 1, 0, 0, 0, 0, 0, 0, 0, 0, 0], [0, 0, 0, 1, 0, 0, 0, 0, 0, 0, 0, 0], [0, 0, 0, 0, 1, 0, 0, 0, 0, 0, 0, 0], [0, 0, 0, 0, 0, 1, 0, 0, 0, 0, 0, 0], [0, 0, 0, 0, 0, 0, 1, 0, 0, 0, 0, 0], [0, 0, 0, 0, 0, 0, 0, 1, 0, 0, 0, 0], [0, 0, 0, 0, 0, 0, 0, 0, 1, 0, 0, 0], [0, 0, 0, 0, 0, 0, 0, 0, 0, 1, 0, 0], [0, 0, 0, 0, 0, 0, 0, 0, 0, 0, 1, 0], [0, 0, 0, 0, 0, 0, 0, 0, 0, 0, 0, 1], [-1, 0, 1, 0, -1, 0, 1, 0, -1, 0, 1, 0], [0, -1, 0, 1, 0, -1, 0, 1, 0, -1, 0, 1], [-1, 0, 0, 0, 0, 0, 0, 0, 0, 0, 0, 0], [0, -1, 0, 0, 0, 0, 0, 0, 0, 0, 0, 0], [0, 0, -1, 0, 0, 0, 0, 0, 0, 0, 0, 0], [0, 0, 0, -1, 0, 0, 0, 0, 0, 0, 0, 0], [0, 0, 0, 0, -1, 0, 0, 0, 0, 0, 0, 0], [0, 0, 0, 0, 0, -1, 0, 0, 0, 0, 0, 0], [0, 0, 0, 0, 0, 0, -1, 0, 0, 0, 0, 0], [0, 0, 0, 0, 0, 0, 0, -1, 0, 0, 0, 0], [0, 0, 0, 0, 0, 0, 0, 0, -1, 0, 0, 0], [0, 0, 0, 0, 0, 0, 0, 0, 0, -1, 0, 0], [0, 0, 0, 0, 0, 0, 0, 0, 0, 0, -1, 0], [0, 0, 0, 0, 0, 0, 0, 0, 0, 0, 0, -1], [1, 0, -1, 0, 1, 0, -1, 0, 1, 0, -1, 0], [0, 1, 0, -1, 0, 1, 0, -1, 0, 1, 0, -1]], [[1, 0, 0, 0, 0, 0, 0, 0, 0, 0, 0, 0, 0, 0, 0, 0, 0, 0, 0, 0, 0, 0, 0, 0, 0, 0, 0, 0], [0, 1, 0, 0, 0, 0, 0, 0, 0, 0, 0, 0, 0, 0, 0, 0, 0, 0, 0, 0, 0, 0, 0, 0, 0, 0, 0, 0], [0, 0, 1, 0, 0, 0, 0, 0, 0, 0, 0, 0, 0, 0, 0, 0, 0, 0, 0, 0, 0, 0, 0, 0, 0, 0, 0, 0], [0, 0, 0, 1, 0, 0, 0, 0, 0, 0, 0, 0, 0, 0, 0, 0, 0, 0, 0, 0, 0, 0, 0, 0, 0, 0, 0, 0], [0, 0, 0, 0, 1, 0, 0, 0, 0, 0, 0, 0, 0, 0, 0, 0, 0, 0, 0, 0, 0, 0, 0, 0, 0, 0, 0, 0], [0, 0, 0, 0, 0, 1, 0, 0, 0, 0, 0, 0, 0, 0, 0, 0, 0, 0, 0, 0, 0, 0, 0, 0, 0, 0, 0, 0], [0, 0, 0, 0, 0, 0, 1, 0, 0, 0, 0, 0, 0, 0, 0, 0, 0, 0, 0, 0, 0, 0, 0, 0, 0, 0, 0, 0], [0, 0, 0, 0, 0, 0, 0, 1, 0, 0, 0, 0, 0, 0, 0, 0, 0, 0, 0, 0, 0, 0, 0, 0, 0, 0, 0, 0], [0, 0, 0, 0, 0, 0, 0, 0, 1, 0, 0, 0, 0, 0, 0, 0, 0, 0, 0, 0, 0, 0, 0, 0, 0, 0, 0, 0], [0, 0, 0, 0, 0, 0, 0, 0, 0, 1, 0, 0, 0, 0, 0, 0, 0, 0, 0, 0, 0, 0, 0, 0, 0, 0, 0, 0], [0, 0, 0, 0, 0, 0, 0, 0, 0, 0, 1, 0, 0, 0, 0, 0, 0, 0, 0, 0, 0, 0, 0, 0, 0, 0, 0, 0], [0, 0, 0, 0, 0, 0, 0, 0, 0, 0, 0, 1, 0, 0, 0, 0, 0, 0, 0, 0, 0, 0, 0, 0, 0, 0, 0, 0], [0, 0, 0, 0, 0, 0, 0, 0, 0, 0, 0, 0, 1, 0, 0, 0, 0, 0, 0, 0, 0, 0, 0, 0, 0, 0, 0, 0], [0, 0, 0, 0, 0, 0, 0, 0, 0, 0, 0, 0, 0, 1, 0, 0, 0, 0, 0, 0, 0, 0, 0, 0, 0, 0, 0, 0], [0, 0, 0, 0, 0, 0, 0, 0, 0, 0, 0, 0, 0, 0, 1, 0, 0, 0, 0, 0, 0, 0, 0, 0, 0, 0, 0, 0], [0, 0, 0, 0, 0, 0, 0, 0, 0, 0, 0, 0, 0, 0, 0, 1, 0, 0, 0, 0, 0, 0, 0, 0, 0, 0, 0, 0], [0, 0, 0, 0, 0, 0, 0, 0, 0, 0, 0, 0, 0, 0, 0, 0, 1, 0, 0, 0, 0, 0, 0, 0, 0, 0, 0, 0], [0, 0, 0, 0, 0, 0, 0, 0, 0, 0, 0, 0, 0, 0, 0, 0, 0, 1, 0, 0, 0, 0, 0, 0, 0, 0, 0, 0], [0, 0, 0, 0, 0, 0, 0, 0, 0, 0, 0, 0, 0, 0, 0, 0, 0, 0, 1, 0, 0, 0, 0, 0, 0, 0, 0, 0], [0, 0, 0, 0, 0, 0, 0, 0, 0, 0, 0, 0, 0, 0, 0, 0, 0, 0, 0, 1, 0, 0, 0, 0, 0, 0, 0, 0], [0, 0, 0, 0, 0, 0, 0, 0, 0, 0, 0, 0, 0, 0, 0, 0, 0, 0, 0, 0, 1, 0, 0, 0, 0, 0, 0, 0], [0, 0, 0, 0, 0, 0, 0, 0, 0, 0, 0, 0, 0, 0, 0, 0, 0, 0, 0, 0, 0, 1, 0, 0, 0, 0, 0, 0], [0, 0, 0, 0, 0, 0, 0, 0, 0, 0, 0, 0, 0, 0, 0, 0, 0, 0, 0, 0, 0, 0, 1, 0, 0, 0, 0, 0], [0, 0, 0, 0, 0, 0, 0, 0, 0, 0, 0, 0, 0, 0, 0, 0, 0, 0, 0, 0, 0, 0, 0, 1, 0, 0, 0, 0], [0, 0, 0, 0, 0, 0, 0, 0, 0, 0, 0, 0, 0, 0, 0, 0, 0, 0, 0, 0, 0, 0, 0, 0, 1, 0, 0, 0], [0, 0, 0, 0, 0, 0, 0, 0, 0, 0, 0, 0, 0, 0, 0, 0, 0, 0, 0, 0, 0, 0, 0, 0, 0, 1, 0, 0], [0, 0, 0, 0, 0, 0, 0, 0, 0, 0, 0, 0, 0, 0, 0, 0, 0, 0, 0, 0, 0, 0, 0, 0, 0, 0, 1, 0], [0, 0, 0, 0, 0, 0, 0, 0, 0, 0, 0, 0, 0, 0, 0, 0, 0, 0, 0, 0, 0, 0, 0, 0, 0, 0, 0, 1], [-1, -1, -1, -1, -1, -1, -1, -1, -1, -1, -1, -1, -1, -1, -1, -1, -1, -1, -1, -1, -1, -1, -1, -1, -1, -1, -1, -1]], [[1, 0, 0, 0, 0, 0, 0, 0], [0, 1, 0, 0, 0, 0, 0, 0], [0, 0, 1, 0, 0, 0, 0, 0], [0, 0, 0, 1, 0, 0, 0, 0], [0, 0, 0, 0, 1, 0, 0, 0], [0, 0, 0, 0, 0, 1, 0, 0], [0, 0, 0, 0, 0, 0, 1, 0], [0, 0, 0, 0, 0, 0, 0, 1], [-1, -1, 0, 1, 1, 1, 0, -1], [1, 0, -1, -1, 0, 0, 1, 1], [-1, 0, 0, 0, 0, 1, 0, 0], [0, -1, 0, 0, 0, 0, 1, 0], [0, 0, -1, 0, 0, 0, 0, 1], [-1, -1, 0, 0, 1, 1, 0, -1], [1, 0, -1, -1, -1, 0, 1, 1], [-1, 0, 0, 0, 0, 0, 0, 0], [0, -1, 0, 0, 0, 0, 0, 0], [0, 0, -1, 0, 0, 0, 0, 0], [0, 0, 0, -1, 0, 0, 0, 0], [0, 0, 0, 0, -1, 0, 0, 0], [0, 0, 0, 0, 0, -1, 0, 0], [0, 0, 0, 0, 0, 0, -1, 0], [0, 0, 0, 0, 0, 0, 0, -1], [1, 1, 0, -1, -1, -1, 0, 1], [-1, 0, 1, 1, 0, 0, -1, -1], [1, 0, 0, 0, 0, -1, 0, 0], [0, 1, 0, 0, 0, 0, -1, 0], [0, 0, 1, 0, 0, 0, 0, -1], [1, 1, 0, 0, -1, -1, 0, 1], [-1, 0, 1, 1, 1, 0, -1, -1]]]
def pwr (n e : Nat) : List Int := (PW.getD n []).getD e []
def rtP (n e : Nat) : List Int := dvR (whl n) (List.replicate e 0 ++ [1])
theorem pwr_ok : ∀ n < 31, ∀ e < n, rtP n e = pwr n e := by decide +kernel
def addL (x y : List Int) : List Int := List.zipWith (· + ·) x y
theorem isum_none {f : Nat → Int} : ∀ {n : Nat}, (∀ j < n, f j = 0) → isum f n = 0
  | 0, _ => rfl
  | n + 1, h => by
    rw [isum, isum_none fun j hj => h j (by omega), h n (by omega)]
    rfl
theorem isum_one {f : Nat → Int} {j0 : Nat} : ∀ {n : Nat}, j0 < n → (∀ j < n, j ≠ j0 → f j = 0) → isum f n = f j0
  | 0, h, _ => by omega
  | n + 1, h, k => by
    rw [isum]
    by_cases c : j0 = n
    · subst c
      rw [isum_none fun j hj => k j (by omega) (by omega)]
      omega
    · rw [isum_one (by omega) fun j hj => k j (by omega), k n (by omega) (fun z => c z.symm)]
      omega
theorem subAt_zero {start : Nat} {bs r : List Int} : ∀ {i : Nat}, start + i ≤ r.length → subAt start 0 bs r i = r
  | 0, _ => rfl
  | i + 1, h => by
    rw [subAt, subAt_zero (by omega), Int.zero_mul, Int.sub_zero]
    exact set_same (by omega)
theorem dvN_zeros {bs x : List Int} {t : Nat} (hx : x.length = bs.length - 1) : ∀ n : Nat, n ≤ t → (dvN bs (x ++ List.replicate t 0) n).1 = x ++ List.replicate (t - n) 0
  | 0, _ => rfl
  | n + 1, h => by
    have ih := dvN_zeros (t := t) hx n (by omega)
    rw [dvN, dvS, ih]
    have et : t - n = t - (n + 1) + 1 := by omega
    have e1 : x ++ List.replicate (t - n) 0 = (x ++ List.replicate (t - (n + 1)) (0 : Int)) ++ [0] := by
      rw [et, List.replicate_succ', List.append_assoc]
    rw [e1]
    have e2 : ((x ++ List.replicate (t - (n + 1)) (0 : Int)) ++ [0]).length = x.length + (t - (n + 1)) + 1 := by
      rw [List.length_append, List.length_append, List.length_replicate]
      rfl
    have e3 : ((x ++ List.replicate (t - (n + 1)) (0 : Int)) ++ [0]).getD (((x ++ List.replicate (t - (n + 1)) (0 : Int)) ++ [0]).length - 1) 0 = 0 := by
      rw [e2, List.getD_eq_getElem?_getD, List.getElem?_append_right (by rw [List.length_append, List.length_replicate]; omega), List.length_append, List.length_replicate, show x.length + (t - (n + 1)) + 1 - 1 - (x.length + (t - (n + 1))) = 0 by omega]
      rfl
    show subAt _ _ bs (List.dropLast _) _ = _
    rw [e3, List.dropLast_concat]
    refine subAt_zero ?_
    rw [e2, List.length_append, List.length_replicate]
    omega
theorem dvR_zeros {bs x : List Int} {t : Nat} (hx : x.length = bs.length - 1) : dvR bs (x ++ List.replicate t 0) = x := by
  unfold dvR
  have e : (x ++ List.replicate t (0 : Int)).length - (bs.length - 1) = t := by
    rw [List.length_append, List.length_replicate]
    omega
  rw [e, dvN_zeros hx t (Nat.le_refl _), Nat.sub_self]
  show (x ++ []) ++ List.replicate (bs.length - 1 - (x ++ []).length) 0 = x
  rw [List.append_nil, hx, Nat.sub_self]
  exact List.append_nil x
theorem pmul_c {ys : List Int} {c : Int} {t : Nat} (h1 : 1 ≤ ys.length) : pmul ys (c :: List.replicate t 0) = ys.map (· * c) ++ List.replicate t 0 := by
  have hl : (pmul ys (c :: List.replicate t 0)).length = (ys.map (· * c) ++ List.replicate t (0 : Int)).length := by
    rw [pmul_len, List.length_cons, List.length_append, List.length_map, List.length_replicate]
    omega
  have e : ∀ k, (pmul ys (c :: List.replicate t 0)).getD k 0 = (ys.map (· * c) ++ List.replicate t (0 : Int)).getD k 0 := fun k => by
    have h2 : 1 ≤ (c :: List.replicate t (0 : Int)).length := by rw [List.length_cons]; omega
    have hin : ∀ i, isum (fun j => if i + j = k then ys.getD i 0 * (c :: List.replicate t (0 : Int)).getD j 0 else 0) (c :: List.replicate t (0 : Int)).length = if i = k then ys.getD i 0 * c else 0 := fun i => by
      rw [isum_one (j0 := 0) (by omega) fun j hj hne => ?_]
      · rfl
      · by_cases cc : i + j = k
        · rw [if_pos cc]
          cases j with
          | zero => exact absurd rfl hne
          | succ j =>
            have : (c :: List.replicate t (0 : Int)).getD (j + 1) 0 = 0 := by
              rw [List.getD_eq_getElem?_getD, List.getElem?_cons_succ, List.getElem?_replicate]
              split <;> rfl
            rw [this, Int.mul_zero]
        · rw [if_neg cc]
    unfold pmul
    rw [pmN_get h2 (Nat.le_refl _), isum_congr fun i _ => hin i]
    by_cases ck : k < ys.length
    · rw [isum_one ck fun j hj hne => if_neg hne, if_pos rfl, List.getD_eq_getElem?_getD, List.getD_eq_getElem?_getD, List.getElem?_append_left (by rw [List.length_map]; exact ck), List.getElem?_map, List.getElem?_eq_getElem ck]
      rfl
    · rw [isum_none fun j hj => if_neg (by omega), List.getD_eq_getElem?_getD, List.getElem?_append_right (by rw [List.length_map]; omega), List.getElem?_replicate]
      split <;> rfl
  refine List.ext_getElem hl fun k a b => ?_
  have := e k
  rw [List.getD_eq_getElem?_getD, List.getD_eq_getElem?_getD, List.getElem?_eq_getElem a, List.getElem?_eq_getElem b] at this
  exact this
theorem prod_c {n : Nat} {ys : List Int} {c : Int} (hy : ys.length = (whl n).length - 1) (h1 : 1 ≤ ys.length) : dvR (whl n) (pmul ys (c :: List.replicate ((whl n).length - 2) 0)) = ys.map (· * c) := by
  rw [pmul_c h1]
  exact dvR_zeros (by rw [List.length_map]; exact hy)
abbrev s_Roots_has_root : Stmt := inClass (top 27) 4
abbrev N_Roots_has_root : List Str := ["self", "length"]
abbrev P_Roots_has_root : List Str := ["self", "length"]
theorem sc_Roots_has_root : FnScope N_Roots_has_root P_Roots_has_root (defScope s_Roots_has_root) := ⟨rfl, rfl, rfl, by decide +kernel, rfl, by decide +kernel, by decide +kernel⟩
def spHasR (C : Addr) : Sp := fun vs H Q _ => ∃ (a : Addr) (n L : Nat), vs = [.ref a, .int (L : Int)] ∧ RootAt C H a n ∧ 1 ≤ L ∧ L ≤ 1000 ∧ Q (.bl (decide (n % L = 0))) H
abbrev s_Roots_root_at : Stmt := inClass (top 27) 10
abbrev N_Roots_root_at : List Str := ["self", "length", "power", "raised"]
abbrev P_Roots_root_at : List Str := ["self", "length", "power"]
theorem sc_Roots_root_at : FnScope N_Roots_root_at P_Roots_root_at (defScope s_Roots_root_at) := ⟨rfl, rfl, rfl, by decide +kernel, rfl, by decide +kernel, by decide +kernel⟩
def spRootA (C CR : Addr) : Sp := fun vs H Q E => ∃ (a : Addr) (n L : Nat) (p : Int), vs = [.ref a, .int (L : Int), .int p] ∧ RootAt C H a n ∧ 1 ≤ n ∧ n < 31 ∧ 1 ≤ L ∧ L ≤ 1000 ∧
  (n % L = 0 → ∀ z H', H z = none → Same H H' → H' z = some (.tup ((pwr n (n / L * (p % L).toNat)).map V.int)) → Q (.ref z) H') ∧ (¬ n % L = 0 → ∀ d H', H d = none → Same H H' → H' d = some (.xd [(("what" : Str), .int (L : Int))]) → E (.ref CR) (some d) H')
theorem pwr_lt {n L : Nat} {p : Int} (h1 : 1 ≤ n) (hL : 1 ≤ L) (h : n % L = 0) : n / L * (p % (L : Int)).toNat < n := by
  have h2 : (p % (L : Int)).toNat < L := by
    have := Int.emod_lt_of_pos p (show (0 : Int) < L by omega)
    have := Int.emod_nonneg p (show (L : Int) ≠ 0 by omega)
    omega
  have h3 : n / L * L = n := Nat.div_mul_cancel (Nat.dvd_of_mod_eq_zero h)
  have h4 : 0 < n / L := by
    apply Nat.pos_of_ne_zero
    intro z
    rw [z, Nat.zero_mul] at h3
    omega
  calc n / L * (p % (L : Int)).toNat < n / L * L := Nat.mul_lt_mul_of_pos_left h2 h4
    _ = n := h3
section
variable {P : Program} {w : World} {K : PySem.W.Frag} {mg : Str → Option Value} {base : Heap}
theorem ok_hasR {f C : Addr} {fd : FuncData} {k : Nat} (F : Fun K "has_root" "Roots.has_root" s_Roots_has_root f fd) (RC : RootC K C) : FnOk P w K mg base CX0 (k + 1) f fd P_Roots_has_root (spHasR C) := by
  have nd := sc_Roots_has_root.nd
  refine F.ok sc_Roots_has_root (fun vs H Q E h => ?_) (fun cdv A outer s H vs Q E hr h => ?_)
  · obtain ⟨a, n, L, rfl, _⟩ := h
    rfl
  · obtain ⟨a, n, L, rfl, ⟨dx, r, ha, hrm⟩, L1, L2', q⟩ := h
    refine ⟨_, (pss_one (ps_ret (pe_and (pe_cmpR op_gt (pv 1) (pe_int) (nomark _)) (pe_one (pe_cmpR op_eq (pe_op op_mod (pe_fld (pv 0) (by rfl)) (pv 1)) (pe_int) (nomark _)))))), ?_⟩
    obtain ⟨cl, no, nr⟩ := RC
    have c1 : decide ((0 : Int) < (L : Int)) = true := decide_eq_true (by omega)
    walk_at "ev"
    refine iteTe c1 ?_
    walk_at "ev"
    have e : decide (V.int ((n : Int) % (L : Int)) = V.int 0) = decide (n % L = 0) := by
      exact decide_eq_decide.mpr ⟨fun h => by have := V.int.inj h; omega, fun h => congrArg V.int (by omega)⟩
    rw [e]
    exact q
theorem ok_rootA {f f1 f2 fI C CR CT : Addr} {fd d1 d2 fdI : FuncData} {k : Nat} (F : Fun K "root_at" "Roots.root_at" s_Roots_root_at f fd) (T : Blt mg) (RC : RootC K C) (F1 : Fun K "has_root" "Roots.has_root" s_Roots_has_root f1 d1) (B_Roots_has_root : Binds K d1 P_Roots_has_root []) (ME_Roots_has_root : Meth K C "has_root" f1) (D_divided : Df K mg "divided" s_divided P_divided f2 d2)
    (FI : Fun K "__init__" "TurnError.__init__" s_init fI fdI) (I_b : Binds K fdI N_init []) (I_ty : PySem.W.typeIn K (.ref fI) = some (.type "function")) (R : Ref K CT CR fI) (M_NoRoot : mg "NoRoot" = some (.ref CR)) : FnOk P w K mg base (L2.CX P w) (k + 3) f fd P_Roots_root_at (spRootA C CR) := by
  have G_init : FnOk P w K mg base CX0 1 fI fdI N_init (spInit K) := ok_init FI
  have G_Roots_has_root : FnOk P w K mg base CX0 1 f1 d1 P_Roots_has_root (spHasR C) := ok_hasR F1 RC
  have G_divided : FnOk P w K mg base CX0 1 f2 d2 P_divided (spDvd2 K) := ok_divided2 D_divided.F T
  have EK_NoRoot := R.ek
  have II_NoRoot := R.ini
  have CL_Roots := RC.cl
  have nd := sc_Roots_root_at.nd
  refine F.okX sc_Roots_root_at (fun vs H Q E h => ?_) (fun cdv A outer s H vs Q E hr h => ?_)
  · obtain ⟨a, n, L, p, rfl, _⟩ := h
    rfl
  · obtain ⟨a, n, L, p, rfl, hR, n1, n31, L1, L2', qy, qn⟩ := h
    refine ⟨_, (pss_cons (ps_if (pt_not (pt_val (pe_meth (pv 0) CL_Roots ME_Roots_has_root G_Roots_has_root (hr.mono (by omega)) B_Roots_has_root .nil pass0 (pa_cons (pv 1) pa_nil)))) (pss_one (ps_raise rfl (takes_of rfl rfl rfl rfl) (pmk_oex EK_NoRoot.oex II_NoRoot I_ty G_init (hr.mono (by omega)) I_b .nil pass0 (by rfl) M_NoRoot (pa_cons (pv 1) pa_nil)))) pss_nil)
      (pss_cons (ps_set (i := 3) nd rfl (Or.inl rfl) (pe_op op_mul (pe_op op_fdiv (pe_fld (pv 0) (by rfl)) (pv 1)) (pe_op op_mod (pv 2) (pv 1))))
      (pss_one (ps_ret (pe_callTy call_tuple_of (by rfl) T.b_tuple (by decide +kernel) (pa_cons (pe_ix (r := rIxT K) ix_tup (pe_call G_divided (hr.mono (by omega)) (by rfl) D_divided.g D_divided.F.kp D_divided.b .nil pass0 (pa_cons (pe_op op_cat (pe_op op_rep (pe_lst (pa_cons (pe_int) pa_nil)) (pv 3)) (pe_lst (pa_cons (pe_int) pa_nil))) (pa_cons (pe_fld (pv 0) (by rfl)) pa_nil))) (pe_int) (fun _ _ => rfl)) pa_nil)))))), ?_⟩
    obtain ⟨no, nr⟩ := (⟨RC.no, RC.nr⟩ : NoAttr K C "order" ∧ NoAttr K C "rim")
    obtain ⟨w2, w31, wl⟩ := whl_last n n31 n1
    have wb := whl_bnd n n31
    obtain ⟨dx, r, ha, hrm⟩ := hR
    have hR' : RootAt C H a n := ⟨dx, r, ha, hrm⟩
    walk_at "ev"
    by_cases c : n % L = 0
    · rw [decide_eq_true c]
      have hlt := pwr_lt (p := p) n1 L1 c
      have m0 := Int.emod_nonneg p (show (L : Int) ≠ 0 by omega)
      have m1 := Int.emod_lt_of_pos p (show (0 : Int) < (L : Int) by omega)
      have ee : (n : Int) / (L : Int) * (p % (L : Int)) = ((n / L * (p % (L : Int)).toNat : Nat) : Int) := by
        rw [Int.natCast_mul, Int.toNat_of_nonneg m0]
        rfl
      have cm : CMul ((n : Int) / (L : Int)) (p % (L : Int)) := .inr ⟨by omega, by omega⟩
      obtain ⟨e, he⟩ : ∃ e, n / L * (p % (L : Int)).toNat = e := ⟨_, rfl⟩
      rw [he] at ee hlt
      walk_at "ev"
      w_cond _1
      have z1 : ([V.int 0] : List V).length * ((n : Int) / (L : Int) * (p % (L : Int))).toNat ≤ sizeLine := szl (by rw [ee, Int.toNat_natCast]; show 1 * e ≤ 60000; omega)
      have z2 : -(2 ^ 63) ≤ (n : Int) / (L : Int) * (p % (L : Int)) := by rw [ee]; omega
      have z3 : (n : Int) / (L : Int) * (p % (L : Int)) < 2 ^ 63 := by rw [ee]; omega
      walk_at "ev"
      w_cond _2
      rw [ee, rep1] at hq2
      walk_at "ev"
      w_cond _3
      have hq23 := sm3 _ _ hq2
      have z4 : (List.replicate e (V.int 0)).length + ([V.int 1] : List V).length ≤ sizeLine := szl (by rw [List.length_replicate]; show e + 1 ≤ 60000; omega)
      walk_at "ev"
      w_cond _4
      have s04 := sm1.trans (sm2.trans (sm3.trans sm4))
      have ha4 := s04 _ _ ha
      have hRow : SqL K H4 l4 ((List.replicate e (0 : Int) ++ [1]).map V.int) := by
        have := SqL.of (K := K) hq4
        rw [List.map_append, List.map_replicate]
        exact this
      have hR4 : SqL K H4 r ((whl n).map V.int) ∨ SqT K H4 r ((whl n).map V.int) := .inr (SqT.of (s04 _ _ hrm))
      have y1 : 1 ≤ (whl n).length := by omega
      have y2 : (whl n).length ≤ 1000 := by omega
      have y3 : (List.replicate e (0 : Int) ++ [1]).length ≤ 1000 := by rw [List.length_append, List.length_replicate]; show e + 1 ≤ 1000; omega
      walk_at "ev"
      intro t' qq z H5 hq sm5 hT hQ hz hZ
      have e2 : dvR (whl n) (List.replicate e (0 : Int) ++ [1]) = pwr n e := pwr_ok n n31 e hlt
      rw [e2] at hZ
      have at1 : atI [V.ref qq, V.ref z] 1 = some (.ref z) := rfl
      walk_at "ev"
      refine .inl ⟨SqL.of hZ, ?_⟩
      w_cond _6
      have q1 := qy c l6 H6 ((s04.trans sm5).free hl6) (s04.trans (sm5.trans sm6))
      rw [he] at q1
      exact q1 hq6
    · rw [decide_eq_false c]
      walk_at "ev"
      exact mk_what R.ek fun d H' hd sm hq => qn c d H' hd sm hq
end
abbrev s_Roots_shared_by : Stmt := inClass (top 27) 11
abbrev N_Roots_shared_by : List Str := ["self", "worth", "number", "part"]
abbrev P_Roots_shared_by : List Str := ["self", "worth", "number"]
theorem sc_Roots_shared_by : FnScope N_Roots_shared_by P_Roots_shared_by (defScope s_Roots_shared_by) := ⟨rfl, rfl, rfl, by decide +kernel, rfl, by decide +kernel, by decide +kernel⟩
def spShareO (K : PySem.W.Frag) (CS : Addr) : Sp := fun vs H Q E => ∃ (a x : Addr) (xs : List Int) (m : Int), vs = [.ref a, .ref x, .int m] ∧ SqT K H x (xs.map V.int) ∧ xs.length ≤ 100 ∧ 1 ≤ m ∧ m ≤ 1000000 ∧
  ((∀ i ∈ xs, i % m = 0) → ∀ z H', H z = none → Same H H' → H' z = some (.tup ((xs.map (· / m)).map V.int)) → Q (.ref z) H') ∧ ((¬ ∀ i ∈ xs, i % m = 0) → ∀ d H', H d = none → Same H H' → H' d = some (.xd [(("what" : Str), .int m)]) → E (.ref CS) (some d) H')
section
variable {P : Program} {w : World} {K : PySem.W.Frag} {mg : Str → Option Value} {base : Heap}
theorem ok_shareO {f fI CS CT : Addr} {fd fdI : FuncData} {k : Nat} (F : Fun K "shared_by" "Roots.shared_by" s_Roots_shared_by f fd) (T : Blt mg) (FI : Fun K "__init__" "TurnError.__init__" s_init fI fdI) (I_b : Binds K fdI N_init []) (I_ty : PySem.W.typeIn K (.ref fI) = some (.type "function")) (R : Ref K CT CS fI) (M_NoShare : mg "NoShare" = some (.ref CS)) : FnOk P w K mg base (L2.CX P w) (k + 3) f fd P_Roots_shared_by (spShareO K CS) := by
  have G_init : FnOk P w K mg base CX0 1 fI fdI N_init (spInit K) := ok_init FI
  have EK_NoShare := R.ek
  have II_NoShare := R.ini
  have nd := sc_Roots_shared_by.nd
  refine F.okX sc_Roots_shared_by (fun vs H Q E h => ?_) (fun cdv A outer s H vs Q E hr h => ?_)
  · obtain ⟨a, x, xs, m, rfl, _⟩ := h
    rfl
  · obtain ⟨a, x, xs, m, rfl, hx, hxl, m1, m2, qy, qn⟩ := h
    refine ⟨_, (pss_cons (ps_if (pt_val (pe_callB (r := rAny K) (cr_any rfl) (by rfl) T.b_any (by decide +kernel) (pa_cons (pe_lc (own := [("part", 3)]) (g := gName 3) (by rfl) nd (pi_tup (pv 1)) (blkOk_by (own := [("part", 3)]) (N := N_Roots_shared_by) (sc := defScope s_Roots_shared_by) (by decide +kernel)) (fun _ _ _ _ _ => (pg_name (i := 3) nd rfl (Or.inl rfl))) (fun _ _ _ _ _ => pts_nil) (fun _ _ _ _ _ => (pe_cmpR op_ne (pe_op op_mod (pv 3) (pv 2)) (pe_int) (nomark _)))) pa_nil))) (pss_one (ps_raise rfl (takes_of rfl rfl rfl rfl) (pmk_oex EK_NoShare.oex II_NoShare I_ty G_init (hr.mono (by omega)) I_b .nil pass0 (by rfl) M_NoShare (pa_cons (pv 2) pa_nil)))) pss_nil)
      (pss_one (ps_ret (pe_callTy call_tuple_of (by rfl) T.b_tuple (by decide +kernel) (pa_cons (pe_lc (own := [("part", 3)]) (g := gName 3) (by rfl) nd (pi_tup (pv 1)) (blkOk_by (own := [("part", 3)]) (N := N_Roots_shared_by) (sc := defScope s_Roots_shared_by) (by decide +kernel)) (fun _ _ _ _ _ => (pg_name (i := 3) nd rfl (Or.inl rfl))) (fun _ _ _ _ _ => pts_nil) (fun _ _ _ _ _ => (pe_op op_fdiv (pv 3) (pv 2)))) pa_nil))))), ?_⟩
    have hL' : ∃ xs, SqT K H x xs := ⟨_, hx⟩
    have cdm : CDiv 0 m := ⟨by omega, by omega⟩
    walk_at "ev"
    intro D hD
    refine lc_tup (K := K) (a := x) (xs := xs.map V.int) (fun i H' => Hold (Same H H' ∧ H' D = some (.lst (((xs.take i).map fun z => !decide (z % m = 0)).map V.bl)))) (.mk ⟨same_new hD, upd_same⟩) ?_ ?_ ?_
    · intro i H1 hi hP
      obtain ⟨sm1, hD1⟩ := hP.un
      exact same_t sm1 hx
    · intro i v H1 hv hP
      obtain ⟨sm1, hD1⟩ := hP.un
      rw [List.getElem?_map] at hv
      obtain ⟨y, hy, ev⟩ := Option.map_eq_some_iff.mp hv
      subst ev
      have hil : i < xs.length := (List.getElem?_eq_some_iff.mp hy).1
      have hsz : (((xs.take i).map fun z => !decide (z % m = 0)).map V.bl).length < sizeLine := szm (by rw [List.length_map, List.length_map, List.length_take]; omega)
      walk_at "ev"
      refine .mk ⟨same_mut sm1 hD, ?_⟩
      rw [upd_same, List.take_add_one, hy, List.map_append, List.map_append]
      have e : decide (V.int (y % m) = V.int 0) = decide (y % m = 0) := decide_eq_decide.mpr ⟨fun h => V.int.inj h, fun h => congrArg V.int h⟩
      rw [e]
      rfl
    · intro H1 hP
      obtain ⟨sm1, hD1⟩ := hP.un
      rw [List.length_map, List.take_length] at hD1
      refine ⟨D, _, rfl, SqL.of hD1, ?_⟩
      have hany : ((xs.map fun z => !decide (z % m = 0)).any id = true) ↔ ¬ ∀ i ∈ xs, i % m = 0 := by
        rw [List.any_map, List.any_eq_true]
        constructor
        · rintro ⟨z, hz, e⟩ h
          have : (!decide (z % m = 0)) = true := e
          rw [decide_eq_true (h z hz)] at this
          cases this
        · intro h
          apply Classical.byContradiction
          intro c
          apply h
          intro i hi
          apply Classical.byContradiction
          intro c2
          refine c ⟨i, hi, ?_⟩
          show (!decide (i % m = 0)) = true
          rw [decide_eq_false c2]
          rfl
      by_cases c : ∀ i ∈ xs, i % m = 0
      · have hf : (xs.map fun z => !decide (z % m = 0)).any id = false := by
          cases e : (xs.map fun z => !decide (z % m = 0)).any id with
          | false => rfl
          | true => exact absurd c (hany.mp e)
        rw [hf]
        have hx1 := same_t sm1 hx
        have hL1 : ∃ xs, SqT K H1 x xs := ⟨_, hx1⟩
        walk_at "ev"
        intro D2 hD2
        refine lc_tup (K := K) (a := x) (xs := xs.map V.int) (fun i H' => Hold (Same H1 H' ∧ H' D2 = some (.lst (((xs.take i).map (· / m)).map V.int)))) (.mk ⟨same_new hD2, upd_same⟩) ?_ ?_ ?_
        · intro i H2 hi hP2
          obtain ⟨sm2, hD2'⟩ := hP2.un
          exact same_t sm2 hx1
        · intro i v H2 hv hP2
          obtain ⟨sm2, hD2'⟩ := hP2.un
          rw [List.getElem?_map] at hv
          obtain ⟨y, hy, ev⟩ := Option.map_eq_some_iff.mp hv
          subst ev
          have hil : i < xs.length := (List.getElem?_eq_some_iff.mp hy).1
          have hsz : (((xs.take i).map (· / m)).map V.int).length < sizeLine := szm (by rw [List.length_map, List.length_map, List.length_take]; omega)
          walk_at "ev"
          refine .mk ⟨same_mut sm2 hD2, ?_⟩
          rw [upd_same, List.take_add_one, hy, List.map_append, List.map_append]
          rfl
        · intro H2 hP2
          obtain ⟨sm2, hD2'⟩ := hP2.un
          rw [List.length_map, List.take_length] at hD2'
          walk_at "ev"
          refine .inl ⟨SqL.of hD2', ?_⟩
          w_cond _3
          exact qy c l3 H3 ((sm1.trans sm2).free hl3) (sm1.trans (sm2.trans sm3)) hq3
      · rw [hany.mpr c]
        walk_at "ev"
        exact mk_what R.ek fun d H' hd sm hq => qn c d H' (sm1.free hd) (sm1.trans sm) hq
end
def gw : Gk → Int → Wt
  | .rests p, x => .i (x % p)
  | .roots n, x => .v (x :: List.replicate (wl n - 1) 0)
theorem gw_z {g : Gk} (h : GkOk g) : gw g 0 = gz g := by
  cases g with
  | rests p =>
    show Wt.i (0 % p) = Wt.i 0
    rw [Int.zero_emod]
  | roots n =>
    obtain ⟨w1, _⟩ := wl1 h.1 h.2
    obtain ⟨m, hm⟩ : ∃ m, wl n = m + 1 := ⟨wl n - 1, by omega⟩
    show Wt.v _ = Wt.v _
    rw [hm]
    rfl
abbrev s__law_whole : Stmt := top 42
abbrev N__law_whole : List Str := ["_law_world_here", "_law_number"]
abbrev P__law_whole : List Str := ["_law_world_here", "_law_number"]
theorem sc__law_whole : FnScope N__law_whole P__law_whole (defScope s__law_whole) := ⟨rfl, rfl, rfl, by decide +kernel, rfl, by decide +kernel, by decide +kernel⟩
def spLz (K : PySem.W.Frag) : Sp := fun vs H Q _ => ∃ (b d : Addr) (g : Gk) (x : Int), vs = [.ref d, .int x] ∧ WdM H b d g ∧ 0 ≤ x ∧ x ≤ 1000 ∧ ∀ v H', Same H H' → WtAt K H' v (gw g x) → Q v H'
section
variable {P : Program} {w : World} {K : PySem.W.Frag} {mg : Str → Option Value} {base : Heap}
theorem ok_lz {f : Addr} {fd : FuncData} {k : Nat} (F : Fun K "_law_whole" "_law_whole" s__law_whole f fd) (T : Blt mg) : FnOk P w K mg base CX0 (k + 1) f fd P__law_whole (spLz K) := by
  have nd := sc__law_whole.nd
  refine F.ok sc__law_whole (fun vs H Q E h => ?_) (fun cdv A outer s H vs Q E hr h => ?_)
  · obtain ⟨b, d, g, x, rfl, _⟩ := h
    rfl
  · obtain ⟨b, d, g, x, rfl, hW, x0, x1, q⟩ := h
    refine ⟨_, (pss_cons (ps_if (pt_cmpR op_eq (pe_dget (du hr) (pv 0) (pe_str) (fun _ _ => rfl)) (pe_str) (nomark _)) (pss_one (ps_ret (pe_op op_mod (pv 1) (pe_dget (du hr) (pv 0) (pe_str) (fun _ _ => rfl))))) pss_nil)
      (pss_one (ps_ret (pe_op (r := rCatB K) op_catB (pe_tup (pa_cons (pv 1) pa_nil)) (pe_op (r := rRepB K) op_repB (pe_tup (pa_cons (pe_int) pa_nil)) (pe_op op_sub (pe_callB (r := rLenQ K) call_len_seq (by rfl) T.b_len (by decide +kernel) (pa_cons (pe_dget (du hr) (pv 0) (pe_str) (fun _ _ => rfl)) pa_nil)) (pe_int))))))), ?_⟩
    cases g with
    | rests p =>
      obtain ⟨h1, h2, gg, hlg, h3⟩ := hW
      obtain ⟨g1, g2⟩ := dget_r h3
      have pb := prs_b h2
      walk_at "ev"
      exact q _ _ (Same.refl _) rfl
    | roots n =>
      obtain ⟨h1, ⟨n1, n31⟩, l, nlb, h4, h5⟩ := hW
      obtain ⟨g1, g2, g3⟩ := dget_w h4
      obtain ⟨w1, w30⟩ := wl1 n1 n31
      walk_at "ev"
      w_cond _1
      walk_at "ev"
      w_cond _2
      have s02 := sm1.trans sm2
      obtain ⟨g1', g2', g3'⟩ := dget_w (s02 _ _ h4)
      have hl2' : SqL K H2 l ((whl n).map V.int) ∨ SqT K H2 l ((whl n).map V.int) := .inl (SqL.of (s02 _ _ h5))
      have hT2 := SqT.of (K := K) hq2
      have hT1 := same_t sm2 (SqT.of (K := K) hq1)
      have el : (((whl n).map V.int).length : Int) - 2 = ((wl n - 1 : Nat) : Int) := by
        rw [List.length_map]
        unfold wl at *
        omega
      have k1 : -1000 ≤ (((whl n).map V.int).length : Int) - 2 := by omega
      have k2 : (((whl n).map V.int).length : Int) - 2 ≤ 1000 := by omega
      have ne0 : ([V.int 0] : List V) ≠ [] := by simp
      have l1 : ([V.int 0] : List V).length ≤ 1000 := by decide
      walk_at "ev"
      intro p3 H3 sm3 hT3
      rw [el, rep1] at hT3
      have hT13 := same_t sm3 hT1
      have hz : ([V.int x] : List V).length + (List.replicate (wl n - 1) (V.int 0)).length ≤ sizeLine := szl (by rw [List.length_replicate]; show 1 + _ ≤ 60000; omega)
      walk_at "ev"
      intro p4 H4 sm4 hT4
      refine q _ _ (s02.trans (sm3.trans sm4)) ⟨p4, rfl, ?_⟩
      have e : [V.int x] ++ List.replicate (wl n - 1) (V.int 0) = (x :: List.replicate (wl n - 1) (0 : Int)).map V.int := by
        rw [List.map_cons, List.map_replicate]
        rfl
      rw [← e]
      exact hT4
end
/-- a ground of either kind -/
def GrAt (C1 C2 : Addr) (H : Hp) (a : Addr) : Gk → Prop
  | .rests p => RestAt C1 H a p
  | .roots n => RootAt C2 H a n
theorem GrAt.same {C1 C2 : Addr} {H H' : Hp} {a : Addr} {g : Gk} (h : GrAt C1 C2 H a g) (e : Same H H') : GrAt C1 C2 H' a g := by
  cases g with
  | rests p => exact RestAt.same h e
  | roots n => exact RootAt.same h e
theorem GrAt.keep {C1 C2 : Addr} {H H' : Hp} {a b : Addr} {c : Int} {g : Gk} (h : GrAt C1 C2 H a g) (hb : BoxAt H b c) (e : Keep b H H') : GrAt C1 C2 H' a g := by
  cases g with
  | rests p =>
    obtain ⟨x, y, z, b1, _⟩ := hb
    refine RestAt.keep h (fun w => ?_) e
    obtain ⟨dx, gg, h1, h2⟩ := h
    rw [w, b1] at h1
    cases h1
  | roots n => exact RootAt.keep h hb e
theorem GrAt.mut {C1 C2 : Addr} {H : Hp} {a D : Addr} {g : Gk} {xs : List V} {o : HO} (h : GrAt C1 C2 H a g) (e : H D = some (.lst xs)) : GrAt C1 C2 (upd H D o) a g := by
  cases g with
  | rests p =>
    obtain ⟨dx, gg, h1, h2⟩ := h
    exact ⟨dx, gg, by rw [upd_ne (fun z => by rw [z, e] at h1; cases h1)]; exact h1, h2⟩
  | roots n =>
    obtain ⟨dx, r, h1, h2⟩ := h
    exact ⟨dx, r, by rw [upd_ne (fun z => by rw [z, e] at h1; cases h1)]; exact h1, by rw [upd_ne (fun z => by rw [z, e] at h2; cases h2)]; exact h2⟩
def kdG : Gk → Bool
  | .rests _ => true
  | .roots _ => false
def clG (C1 C2 : Addr) (r : Bool) : Addr := if r then C1 else C2
theorem GrAt.ins {C1 C2 : Addr} {H : Hp} {a : Addr} {g : Gk} (h : GrAt C1 C2 H a g) : ∃ dx fs, H a = some (.ins (clG C1 C2 (kdG g)) dx fs) ∧ List.lookup ("root_at" : Str) fs = none ∧ List.lookup ("shared_by" : Str) fs = none ∧ List.lookup ("sum_of" : Str) fs = none ∧ List.lookup ("product_of" : Str) fs = none := by
  cases g with
  | rests p =>
    obtain ⟨dx, gg, h1, h2⟩ := h
    exact ⟨dx, _, h1, rfl, rfl, rfl, rfl⟩
  | roots n =>
    obtain ⟨dx, r, h1, h2⟩ := h
    exact ⟨dx, _, h1, rfl, rfl, rfl, rfl⟩
def spUa (K : PySem.W.Frag) (C1 C2 : Addr) (r : Bool) : Sp := fun vs H Q _ => ∃ (a : Addr) (g : Gk) (x y : V) (u w : Wt), vs = [.ref a, x, y] ∧ GrAt C1 C2 H a g ∧ kdG g = r ∧ GkOk g ∧ WtAt K H x u ∧ WtAt K H y w ∧ nm g u ∧ nm g w ∧ ∀ v H', Same H H' → WtAt K H' v (gadd g u w) → Q v H'
def spUm (K : PySem.W.Frag) (C1 C2 : Addr) (r : Bool) : Sp := fun vs H Q _ => ∃ (a : Addr) (g : Gk) (x y : V) (u w : Wt), vs = [.ref a, x, y] ∧ GrAt C1 C2 H a g ∧ kdG g = r ∧ GkOk g ∧ WtAt K H x u ∧ WtAt K H y w ∧ nm g u ∧ nm g w ∧ bw u ∧ bw w ∧ ∀ v H', Same H H' → WtAt K H' v (gmul g u w) → Q v H'
section
variable {P : Program} {w : World} {K : PySem.W.Frag} {mg : Str → Option Value} {base : Heap}
theorem ok_u1a {f C1 C2 : Addr} {fd : FuncData} {k : Nat} (F : Fun K "sum_of" "Rests.sum_of" s_Rests_sum_of f fd) (RC : RestC K C1) : FnOk P w K mg base CX0 (k + 1) f fd P_Rests_sum_of (spUa K C1 C2 true) :=
  fnsub (ok_sum_of F RC) fun vs H Q E ⟨a, g, x, y, u, w, h1, h2, h3, h4, hx, hy, nx, ny, q⟩ => by
    cases g with
    | roots n => cases h3
    | rests p =>
      have := prs_b h4
      cases u with
      | v xs => exact nx.elim
      | i u =>
        cases w with
        | v xs => exact ny.elim
        | i w =>
          have ex : x = .int u := hx
          have ey : y = .int w := hy
          subst ex ey
          exact ⟨a, p, u, w, h1, h2, this.1, this.2, nx.1, nx.2, ny.1, ny.2, q _ _ (Same.refl _) rfl⟩
theorem ok_u1m {f C1 C2 : Addr} {fd : FuncData} {k : Nat} (F : Fun K "product_of" "Rests.product_of" s_Rests_product_of f fd) (RC : RestC K C1) : FnOk P w K mg base CX0 (k + 1) f fd P_Rests_product_of (spUm K C1 C2 true) :=
  fnsub (ok_product_of F RC) fun vs H Q E ⟨a, g, x, y, u, w, h1, h2, h3, h4, hx, hy, nx, ny, _, _, q⟩ => by
    cases g with
    | roots n => cases h3
    | rests p =>
      have := prs_b h4
      cases u with
      | v xs => exact nx.elim
      | i u =>
        cases w with
        | v xs => exact ny.elim
        | i w =>
          have ex : x = .int u := hx
          have ey : y = .int w := hy
          subst ex ey
          exact ⟨a, p, u, w, h1, h2, this.1, this.2, nx.1, nx.2, ny.1, ny.2, q _ _ (Same.refl _) rfl⟩
theorem ok_u2a {f C1 C2 : Addr} {fd : FuncData} {k : Nat} (F : Fun K "sum_of" "Roots.sum_of" s_Roots_sum_of f fd) (T : Blt mg) : FnOk P w K mg base CX0 (k + 1) f fd P_Roots_sum_of (spUa K C1 C2 false) :=
  fnsub (ok_sum_ofR F T) fun vs H Q E ⟨a, g, x, y, u, w, h1, h2, h3, h4, hx, hy, nx, ny, q⟩ => by
    cases g with
    | rests p => cases h3
    | roots n =>
      obtain ⟨w1, w2⟩ := wl1 h4.1 h4.2
      cases u with
      | i u => exact nx.elim
      | v u =>
        cases w with
        | i w => exact ny.elim
        | v w =>
          obtain ⟨tx, ex, hx⟩ := hx
          obtain ⟨t2, ey, hy⟩ := hy
          subst ex ey
          have l1 : u.length = wl n := nx
          have l2 : w.length = wl n := ny
          exact ⟨a, tx, t2, u, w, h1, hx, hy, by omega, by omega, fun p H' hp sm hq => q _ _ sm ⟨p, rfl, SqT.of hq⟩⟩
theorem ok_u2m {f f1 f2 C1 C2 : Addr} {fd d1 d2 : FuncData} {k : Nat} (F : Fun K "product_of" "Roots.product_of" s_Roots_product_of f fd) (T : Blt mg) (RC : RootC K C2) (D_divided : Df K mg "divided" s_divided P_divided f1 d1) (D_multiplied : Df K mg "multiplied" s_multiplied P_multiplied f2 d2) : FnOk P w K mg base CX0 (k + 2) f fd P_Roots_product_of (spUm K C1 C2 false) :=
  fnsub (ok_prodO F T RC D_divided D_multiplied) fun vs H Q E ⟨a, g, x, y, u, w, h1, h2, h3, h4, hx, hy, nx, ny, bx, by', q⟩ => by
    cases g with
    | rests p => cases h3
    | roots n =>
      obtain ⟨w1, w2⟩ := wl1 h4.1 h4.2
      cases u with
      | i u => exact nx.elim
      | v u =>
        cases w with
        | i w => exact ny.elim
        | v w =>
          obtain ⟨tx, ex, hx⟩ := hx
          obtain ⟨t2, ey, hy⟩ := hy
          subst ex ey
          have l1 : u.length = wl n := nx
          have l2 : w.length = wl n := ny
          exact ⟨a, tx, t2, n, u, w, h1, h2, h4.1, h4.2, hx, hy, by omega, by omega, by omega, by omega, bx, by', fun p H' hp sm hq => q _ _ sm ⟨p, rfl, SqT.of hq⟩⟩
end
/-! ### roots of either ground -/
def LgOk : Gk → Int → Prop
  | .rests p, q => ∃ out, IsPf (p - 1) out ∧ LeastGen p q (erl p out)
  | .roots _, _ => True
def rtW (g : Gk) (q : Int) (L m : Nat) : Wt := match g with
  | .rests p => .i (q ^ (((p - 1) / (L : Int)).toNat * m) % p)
  | .roots n => .v (rtP n (n / L * m))
theorem LgOk.un {g : Gk} {q q' : Int} (h : LgOk g q) (h' : LgOk g q') : rtW g q = rtW g q' := by
  cases g with
  | rests p =>
    obtain ⟨o1, a1, a2⟩ := h
    obtain ⟨o2, b1, b2⟩ := h'
    rw [least_un a1 b1 a2 b2]
  | roots n => rfl
theorem rt_lt {n L m : Nat} (h1 : 1 ≤ n) (hL : 1 ≤ L) (h : n % L = 0) (hm : m < L) : n / L * m < n := by
  have h3 : n / L * L = n := Nat.div_mul_cancel (Nat.dvd_of_mod_eq_zero h)
  have h4 : 0 < n / L := by
    apply Nat.pos_of_ne_zero
    intro z
    rw [z, Nat.zero_mul] at h3
    omega
  calc n / L * m < n / L * L := Nat.mul_lt_mul_of_pos_left hm h4
    _ = n := h3
theorem rtP_len {n e : Nat} : (rtP n e).length = wl n := dvR_len
theorem nm_rt {g : Gk} {q : Int} {L m : Nat} (h : GkOk g) : nm g (rtW g q L m) := by
  cases g with
  | rests p =>
    have := prs_b h
    exact ⟨Int.emod_nonneg _ (by omega), Int.emod_lt_of_pos _ (by omega)⟩
  | roots n => exact rtP_len
theorem rtP_b : ∀ n < 31, ∀ e < n, ∀ x ∈ rtP n e, x.natAbs ≤ 100 := by
  intro n hn e he x hx
  rw [pwr_ok n hn e he] at hx
  exact (by decide +kernel : ∀ n < 31, ∀ e < n, ∀ x ∈ pwr n e, x.natAbs ≤ 100) n hn e he x hx
theorem bw_rt {g : Gk} {q : Int} {L m : Nat} (h : GkOk g) (hL : 1 ≤ L) (hd : numM g % (L : Int) = 0) (hm : m < L) : bw (rtW g q L m) := by
  cases g with
  | rests p => exact True.intro
  | roots n =>
    intro x hx
    have hd' : n % L = 0 := by
      have : ((n : Int)) % (L : Int) = 0 := hd
      omega
    have := rtP_b n h.2 _ (rt_lt h.1 hL hd' hm) x hx
    have p : (100 : Nat) < 2 ^ 9000 := by decide +kernel
    omega
/-- root_at -/
def spUr (K : PySem.W.Frag) (C1 C2 CR : Addr) (r : Bool) : Sp := fun vs H Q E => ∃ (a : Addr) (g : Gk) (L : Nat) (e : Int), vs = [.ref a, .int (L : Int), .int e] ∧ GrAt C1 C2 H a g ∧ kdG g = r ∧ GkOk g ∧ 1 ≤ L ∧ L ≤ 1000 ∧
  (numM g % (L : Int) = 0 → ∀ v q H', LgOk g q → Same H H' → WtAt K H' v (rtW g q L (e % (L : Int)).toNat) → Q v H') ∧
  (¬ numM g % (L : Int) = 0 → ∀ d H', H d = none → Same H H' → H' d = some (.xd [(("what" : Str), .int (L : Int))]) → E (.ref CR) (some d) H')
section
variable {P : Program} {w : World} {K : PySem.W.Frag} {mg : Str → Option Value} {base : Heap}
theorem ok_u1r {f f1 f2 fI C1 C2 CR CT : Addr} {fd d1 d2 fdI : FuncData} {k : Nat} (F : Fun K "root_at" "Rests.root_at" s_Rests_root_at f fd) (RC : RestC K C1) (ME_Rests_has_root : Meth K C1 "has_root" f1) (B_Rests_has_root : Binds K d1 P_Rests_has_root []) (F1 : Fun K "has_root" "Rests.has_root" s_Rests_has_root f1 d1) (D_power_rest : Df K mg "power_rest" s_power_rest P_power_rest f2 d2)
    (FI : Fun K "__init__" "TurnError.__init__" s_init fI fdI) (I_b : Binds K fdI N_init []) (I_ty : PySem.W.typeIn K (.ref fI) = some (.type "function")) (R : Ref K CT CR fI) (M_NoRoot : mg "NoRoot" = some (.ref CR)) : FnOk P w K mg base (L2.CX P w) (k + 3) f fd P_Rests_root_at (spUr K C1 C2 CR true) :=
  fnsub (ok_rootat F RC ME_Rests_has_root B_Rests_has_root F1 D_power_rest FI I_b I_ty R M_NoRoot) fun vs H Q E ⟨a, g, L, e, h1, h2, h3, h4, L1, L2', qy, qn⟩ => by
    cases g with
    | roots n => cases h3
    | rests p =>
      have pb := prs_b h4
      refine ⟨a, p, L, e, h1, h2, h4, by omega, by omega, fun hd gg out hp hl => ?_, qn⟩
      refine qy hd _ gg _ ⟨out, hp, hl⟩ (Same.refl _) ?_
      show V.int _ = V.int _
      have m0 := Int.emod_nonneg e (show (L : Int) ≠ 0 by omega)
      have q0 : 0 ≤ (p - 1) / (L : Int) := Int.ediv_nonneg (by omega) (by omega)
      have e1 : ((p - 1) / (L : Int) * (e % (L : Int))).toNat = ((p - 1) / (L : Int)).toNat * (e % (L : Int)).toNat := by
        obtain ⟨x, hx⟩ := Int.eq_ofNat_of_zero_le m0
        obtain ⟨y, hy⟩ := Int.eq_ofNat_of_zero_le q0
        rw [hx, hy]
        rfl
      rw [e1]
theorem ok_u2r {f f1 f2 fI C1 C2 CR CT : Addr} {fd d1 d2 fdI : FuncData} {k : Nat} (F : Fun K "root_at" "Roots.root_at" s_Roots_root_at f fd) (T : Blt mg) (RC : RootC K C2) (F1 : Fun K "has_root" "Roots.has_root" s_Roots_has_root f1 d1) (B_Roots_has_root : Binds K d1 P_Roots_has_root []) (ME_Roots_has_root : Meth K C2 "has_root" f1) (D_divided : Df K mg "divided" s_divided P_divided f2 d2)
    (FI : Fun K "__init__" "TurnError.__init__" s_init fI fdI) (I_b : Binds K fdI N_init []) (I_ty : PySem.W.typeIn K (.ref fI) = some (.type "function")) (R : Ref K CT CR fI) (M_NoRoot : mg "NoRoot" = some (.ref CR)) : FnOk P w K mg base (L2.CX P w) (k + 3) f fd P_Roots_root_at (spUr K C1 C2 CR false) :=
  fnsub (ok_rootA F T RC F1 B_Roots_has_root ME_Roots_has_root D_divided FI I_b I_ty R M_NoRoot) fun vs H Q E ⟨a, g, L, e, h1, h2, h3, h4, L1, L2', qy, qn⟩ => by
    cases g with
    | rests p => cases h3
    | roots n =>
      have eq1 : numM (.roots n) % (L : Int) = 0 ↔ n % L = 0 := by
        show (n : Int) % (L : Int) = 0 ↔ n % L = 0
        omega
      refine ⟨a, n, L, e, h1, h2, h4.1, h4.2, L1, L2', fun hd z H' hz sm hq => ?_, fun hd => qn fun z => hd (eq1.mp z)⟩
      refine qy (eq1.mpr hd) _ 0 H' True.intro sm ⟨z, rfl, SqT.of ?_⟩
      rw [hq]
      have hm : (e % (L : Int)).toNat < L := by
        have := Int.emod_lt_of_pos e (show (0 : Int) < L by omega)
        have := Int.emod_nonneg e (show (L : Int) ≠ 0 by omega)
        omega
      rw [← pwr_ok n h4.2 _ (rt_lt h4.1 L1 hd hm)]
end
abbrev Es := List (V × Wt)
def WsAt (K : PySem.W.Frag) (H : Hp) (es : Es) : Prop := ∀ e ∈ es, WtAt K H e.1 e.2
theorem WsAt.same {K : PySem.W.Frag} {H H' : Hp} {es : Es} (h : WsAt K H es) (s : Same H H') : WsAt K H' es := fun e he => (h e he).same s
theorem WsAt.keep {K : PySem.W.Frag} {H H' : Hp} {es : Es} {b : Addr} {c : Int} (h : WsAt K H es) (hb : BoxAt H b c) (k : Keep b H H') : WsAt K H' es := fun e he => (h e he).keep hb k
theorem WsAt.mut {K : PySem.W.Frag} {H : Hp} {es : Es} {D : Addr} {xs : List V} {o : HO} (h : WsAt K H es) (e : H D = some (.lst xs)) : WsAt K (upd H D o) es := fun x hx => (h x hx).mut e
theorem WsAt.set {K : PySem.W.Frag} {H : Hp} {es : Es} {k : Nat} {e : V × Wt} (h : WsAt K H es) (he : WtAt K H e.1 e.2) : WsAt K H (es.set k e) := fun x hx => by
  rcases List.mem_or_eq_of_mem_set hx with z | z
  · exact h x z
  · rw [z]
    exact he
def BwAt (ws : List Wt) : Prop := ∀ w ∈ ws, bw w
theorem es_get {es : Es} {i : Nat} {v : V} (h : (es.map (·.1))[i]? = some v) : ∃ w, es[i]? = some (v, w) := by
  rw [List.getElem?_map] at h
  obtain ⟨e, he, rfl⟩ := Option.map_eq_some_iff.mp h
  exact ⟨e.2, he⟩
theorem es_snd {es : Es} {i : Nat} {v : V} {w d : Wt} (h : es[i]? = some (v, w)) : (es.map (·.2)).getD i d = w := by
  rw [List.getD_eq_getElem?_getD, List.getElem?_map, h]
  rfl
theorem getD_m {es : Es} {i : Nat} {w d : Wt} {v : V} (h : es[i]? = some (v, w)) : w ∈ es.map (·.2) := List.mem_map.mpr ⟨_, List.mem_of_getElem? h, rfl⟩
theorem pow_mod {q p : Int} {a m : Nat} : (q ^ a % p) ^ m % p = q ^ (a * m) % p := by
  induction m with
  | zero => rw [Nat.mul_zero, Int.pow_zero, Int.pow_zero]
  | succ m ih =>
    rw [Int.pow_succ, Int.mul_emod, ih, Nat.mul_succ, Int.pow_add, Int.emod_emod, ← Int.mul_emod]
theorem at_neg1 {xs : List V} {v : V} (h1 : 1 ≤ xs.length) (h : xs[xs.length - 1]? = some v) : atI xs (-1) = some v := by
  unfold atI
  have e : ixN xs.length (-1) = some (xs.length - 1) := by
    unfold ixN
    simp
    omega
  rw [e]
  exact h
/-! ### turnings, by their sums -/
def tix (s : Int) (L j k : Nat) : Nat := (s * (j : Int) * (k : Int) % (L : Int)).toNat
theorem tix_lt {s : Int} {L j k : Nat} (h : 1 ≤ L) : tix s L j k < L := by
  unfold tix
  have := Int.emod_lt_of_pos (s * (j : Int) * (k : Int)) (show (0 : Int) < L by omega)
  have := Int.emod_nonneg (s * (j : Int) * (k : Int)) (show (L : Int) ≠ 0 by omega)
  omega
def tnF (g : Gk) (q : Int) (ws : List Wt) (s : Int) (k : Nat) : Nat → Wt
  | 0 => gz g
  | j + 1 => gadd g (tnF g q ws s k j) (gmul g (ws.getD j (gz g)) (rtW g q ws.length (tix s ws.length j k)))
def trn (g : Gk) (q : Int) (ws : List Wt) (s : Int) : List Wt := (List.range ws.length).map fun k => tnF g q ws s k ws.length
theorem tnF_nm {g : Gk} {q : Int} {ws : List Wt} {s : Int} {k : Nat} (h : GkOk g) (hw : Nms g ws) : ∀ j, nm g (tnF g q ws s k j)
  | 0 => nm_z h
  | j + 1 => nm_add h (tnF_nm h hw j) (nm_mul h (hw.getD h _) (nm_rt h))
theorem trn_nms {g : Gk} {q : Int} {ws : List Wt} {s : Int} (h : GkOk g) (hw : Nms g ws) : Nms g (trn g q ws s) := fun w hx => by
  obtain ⟨k, _, rfl⟩ := List.mem_map.mp hx
  exact tnF_nm h hw _
theorem mul_one' {g : Gk} {q : Int} {L : Nat} {a : Wt} (h : GkOk g) (ha : nm g a) : gmul g a (rtW g q L 0) = a := by
  cases g with
  | rests p =>
    have pb := prs_b h
    cases a with
    | v xs => exact ha.elim
    | i a =>
      obtain ⟨a0, a1⟩ := (show 0 ≤ a ∧ a < p from ha)
      show Wt.i (a * (q ^ (_ * 0) % p) % p) = Wt.i a
      rw [Nat.mul_zero, Int.pow_zero, Int.emod_eq_of_lt (show (0 : Int) ≤ 1 by decide) (by omega), Int.mul_one, Int.emod_eq_of_lt a0 a1]
  | roots n =>
    obtain ⟨w1, _⟩ := wl1 h.1 h.2
    cases a with
    | i a => exact ha.elim
    | v a =>
      have l1 : a.length = wl n := ha
      have e0 : rtP n (n / L * 0) = 1 :: List.replicate ((whl n).length - 2) 0 := by
        rw [Nat.mul_zero]
        exact (by decide +kernel : ∀ n < 31, 1 ≤ n → rtP n 0 = 1 :: List.replicate ((whl n).length - 2) 0) n h.2 h.1
      show Wt.v (dvR (whl n) (pmul a (rtP n (n / L * 0)))) = Wt.v a
      rw [e0, prod_c l1 (by omega)]
      congr 1
      rw [List.map_congr_left (g := id) fun x _ => Int.mul_one x, List.map_id]
def saF (g : Gk) (ws rts : List Wt) (k : Nat) : Nat → Wt
  | 0 => ws.getD 0 (gz g)
  | i + 1 => gadd g (saF g ws rts k i) (if 0 < k then gmul g (ws.getD (i + 1) (gz g)) (rts.getD ((i + 1) * k % ws.length) (gz g)) else ws.getD (i + 1) (gz g))
theorem saF_nm {g : Gk} {ws rts : List Wt} {k : Nat} (h : GkOk g) (hw : Nms g ws) (hr : Nms g rts) : ∀ i, nm g (saF g ws rts k i)
  | 0 => hw.getD h _
  | i + 1 => by
    refine nm_add h (saF_nm h hw hr i) ?_
    split
    · exact nm_mul h (hw.getD h _) (hr.getD h _)
    · exact hw.getD h _
theorem tix_mod {s : Int} {L i k : Nat} : (s * (((i * k % L : Nat)) : Int) % (L : Int)).toNat = tix s L i k := by
  unfold tix
  congr 1
  rw [Int.natCast_emod, Int.mul_emod, Int.emod_emod, ← Int.mul_emod, Int.natCast_mul, Int.mul_assoc]
theorem sa_tn {g : Gk} {q s : Int} {ws rts : List Wt} {k : Nat} (h : GkOk g) (hw : Nms g ws) (w1 : 1 ≤ ws.length) (hr : rts = (List.range ws.length).map fun m : Nat => rtW g q ws.length (s * (m : Int) % (ws.length : Int)).toNat) : ∀ i, i < ws.length → saF g ws rts k i = tnF g q ws s k (i + 1)
  | 0, _ => by
    show _ = gadd g (gz g) (gmul g (ws.getD 0 (gz g)) (rtW g q ws.length (tix s ws.length 0 k)))
    have e : tix s ws.length 0 k = 0 := by
      unfold tix
      rw [show s * ((0 : Nat) : Int) * (k : Int) = 0 by rw [show ((0 : Nat) : Int) = 0 from rfl, Int.mul_zero, Int.zero_mul], Int.zero_emod]
      rfl
    have hn := hw.getD h 0
    rw [e, mul_one' h hn]
    refine w_ext hn (nm_add h (nm_z h) hn) fun t => ?_
    rw [co_add (nm_z h) hn, co_z, Int.zero_add, nr_co hn]
    rfl
  | i + 1, hi => by
    show gadd g (saF g ws rts k i) _ = gadd g (tnF g q ws s k (i + 1)) (gmul g (ws.getD (i + 1) (gz g)) (rtW g q ws.length (tix s ws.length (i + 1) k)))
    rw [sa_tn h hw w1 hr i (by omega)]
    congr 1
    by_cases c : 0 < k
    · rw [if_pos c]
      congr 1
      have hm : (i + 1) * k % ws.length < ws.length := Nat.mod_lt _ (by omega)
      rw [hr, List.getD_eq_getElem?_getD, List.getElem?_map, List.getElem?_range hm]
      show rtW g q ws.length _ = _
      rw [tix_mod]
    · have k0 : k = 0 := by omega
      rw [if_neg c, k0]
      have e : tix s ws.length (i + 1) 0 = 0 := by
        unfold tix
        rw [show ((0 : Nat) : Int) = 0 from rfl, Int.mul_zero, Int.zero_emod]
        rfl
      rw [e, mul_one' h (hw.getD h _)]
def SmIn (K : PySem.W.Frag) (g : Gk) (H : Hp) (es rr : Es) (k : Nat) : Prop := 1 ≤ es.length ∧ es.length ≤ 60 ∧ rr.length = es.length ∧ k < es.length ∧ WsAt K H es ∧ WsAt K H rr ∧ Nms g (es.map (·.2)) ∧ Nms g (rr.map (·.2)) ∧ BwAt (es.map (·.2)) ∧ BwAt (rr.map (·.2))
def B9 : Wt → Prop
  | .i x => x.natAbs ≤ 1000000000
  | .v xs => ∀ x ∈ xs, x.natAbs ≤ 1000000000
theorem B9.bw {w : Wt} (h : B9 w) : bw w := by
  cases w with
  | i x => exact True.intro
  | v xs =>
    intro x hx
    have := h x hx
    have p : (1000000000 : Nat) < 2 ^ 9000 := by decide +kernel
    omega
def RwOk (K : PySem.W.Frag) (g : Gk) (H : Hp) (es : Es) : Prop := ∀ e ∈ es, WtAt K H e.1 e.2 ∧ nm g e.2 ∧ B9 e.2
theorem RwOk.same {K : PySem.W.Frag} {g : Gk} {H H' : Hp} {es : Es} (h : RwOk K g H es) (s : Same H H') : RwOk K g H' es := fun e he => ⟨(h e he).1.same s, (h e he).2⟩
theorem RwOk.keep {K : PySem.W.Frag} {g : Gk} {H H' : Hp} {es : Es} {b : Addr} {c : Int} (h : RwOk K g H es) (hb : BoxAt H b c) (k : Keep b H H') : RwOk K g H' es := fun e he => ⟨(h e he).1.keep hb k, (h e he).2⟩
def Bd9 (xs : List Int) : Prop := ∀ x ∈ xs, x.natAbs ≤ 1000000000
abbrev s__law_worth : Stmt := top 48
abbrev N__law_worth : List Str := ["_law_box_here", "_law_world_here", "_law_prime", "_law_some", "_law_found", "_law_turn", "_law_way"]
abbrev P__law_worth : List Str := ["_law_box_here", "_law_world_here"]
theorem sc__law_worth : FnScope N__law_worth P__law_worth (defScope s__law_worth) := ⟨rfl, rfl, rfl, by decide +kernel, rfl, by decide +kernel, by decide +kernel⟩
def spWorthG (K : PySem.W.Frag) : Sp := fun vs H Q _ => ∃ (b d : Addr) (g : Gk) (c : Int), vs = [.ref b, .ref d] ∧ BoxAt H b c ∧ c < 900000 ∧ WdM H b d g ∧ ∀ v u H', Keep b H H' → BoxAt H' b (c + 90) → WtAt K H' v u → nm g u → B9 u → Q v H'
section
variable {P : Program} {w : World} {K : PySem.W.Frag} {mg : Str → Option Value} {base : Heap}
theorem ok_worthG {f f1 f2 : Addr} {fd d1 d2 : FuncData} {k : Nat} (F : Fun K "_law_worth" "_law_worth" s__law_worth f fd) (T : Blt mg) (D__law_take : Df K mg "_law_take" s__law_take P__law_take f1 d1) (D__law_pick : Df K mg "_law_pick" s__law_pick P__law_pick f2 d2) : FnOk P w K mg base CX0 (k + 3) f fd P__law_worth (spWorthG K) := by
  have G__law_take : FnOk P w K mg base CX0 1 f1 d1 P__law_take spTake := ok_take D__law_take.F
  have G__law_pick : FnOk P w K mg base CX0 2 f2 d2 P__law_pick (spPick K) := ok_pick (k := 0) D__law_pick.F T D__law_take
  have nd := sc__law_worth.nd
  refine F.ok sc__law_worth (fun vs H Q E h => ?_) (fun cdv A outer s H vs Q E hr h => ?_)
  · obtain ⟨b, d, g, c, rfl, _⟩ := h
    rfl
  · obtain ⟨b, d, g, c, rfl, hb, hc, hW, q⟩ := h
    refine ⟨_, (pss_cons (ps_if (pt_cmpR op_eq (pe_dget (du hr) (pv 1) (pe_str) (fun _ _ => rfl)) (pe_str) (nomark _)) (pss_cons (ps_set (i := 2) nd rfl (Or.inl rfl) (pe_dget (du hr) (pv 1) (pe_str) (fun _ _ => rfl)))
      (pss_cons (ps_set (i := 3) nd rfl (Or.inl rfl) (pe_lst (pa_cons (pe_int) (pa_cons (pe_op op_mod (pe_int) (pv 2)) (pa_cons (pe_op op_sub (pv 2) (pe_int)) (pa_cons (pe_call G__law_take (hr.mono (by omega)) (by rfl) D__law_take.g D__law_take.F.kp D__law_take.b .nil pass0 (pa_cons (pv 0) (pa_cons (pv 2) pa_nil))) (pa_cons (pe_call G__law_take (hr.mono (by omega)) (by rfl) D__law_take.g D__law_take.F.kp D__law_take.b .nil pass0 (pa_cons (pv 0) (pa_cons (pv 2) pa_nil))) (pa_cons (pe_call G__law_take (hr.mono (by omega)) (by rfl) D__law_take.g D__law_take.F.kp D__law_take.b .nil pass0 (pa_cons (pv 0) (pa_cons (pe_callB (call_min2 rfl) (by rfl) T.b_min (by decide +kernel) (pa_cons (pv 2) (pa_cons (pe_int) pa_nil))) pa_nil))) pa_nil))))))))
      (pss_one (ps_ret (pe_call G__law_pick (hr.mono (by omega)) (by rfl) D__law_pick.g D__law_pick.F.kp D__law_pick.b .nil pass0 (pa_cons (pv 0) (pa_cons (pv 3) pa_nil))))))) pss_nil)
      (pss_cons (ps_set (i := 4) nd rfl (Or.inl rfl) (pe_lst pa_nil))
      (pss_cons (ps_for PassesOwn.never rfl (pi_range1 (by rfl) T.b_range (pa_cons (pe_op op_sub (pe_callB (r := rLenQ K) call_len_seq (by rfl) T.b_len (by decide +kernel) (pa_cons (pe_dget (du hr) (pv 1) (pe_str) (fun _ _ => rfl)) pa_nil)) (pe_int)) pa_nil)) (pg_name (i := 5) nd rfl (Or.inl rfl))
      (pss_cons (ps_set (i := 6) nd rfl (Or.inl rfl) (pe_call G__law_take (hr.mono (by omega)) (by rfl) D__law_take.g D__law_take.F.kp D__law_take.b .nil pass0 (pa_cons (pv 0) (pa_cons (pe_int) pa_nil))))
      (pss_one (ps_expr (pe_bm PySem.F.plainAttrs_list PySem.F.slot_list_append PySem.F.type_list_append mt_append (pv 4) (pa_cons (pe_ix (r := rIxL K) ix_list (pe_lst (pa_cons (pe_int) (pa_cons (pe_int) (pa_cons (pe_un un_neg (pe_int)) (pa_cons (pe_op op_sub (pe_call G__law_take (hr.mono (by omega)) (by rfl) D__law_take.g D__law_take.F.kp D__law_take.b .nil pass0 (pa_cons (pv 0) (pa_cons (pe_int) pa_nil))) (pe_int)) (pa_cons (pe_op op_sub (pe_call G__law_take (hr.mono (by omega)) (by rfl) D__law_take.g D__law_take.F.kp D__law_take.b .nil pass0 (pa_cons (pv 0) (pa_cons (pe_int) pa_nil))) (pe_int)) (pa_cons (pe_op op_pow (pe_int) (pe_int)) (pa_cons (pe_op op_sub (pe_int) (pe_op op_pow (pe_int) (pe_int))) pa_nil)))))))) (pv 6) (fun _ _ => rfl)) pa_nil))))))
      (pss_one (ps_ret (pe_callTy call_tuple_of (by rfl) T.b_tuple (by decide +kernel) (pa_cons (pv 4) pa_nil))))))), ?_⟩
    cases g with
    | rests pr =>
      obtain ⟨ndb, hpr, gg, hlg, hd⟩ := hW
      obtain ⟨p2, p3⟩ := prs_b hpr
      obtain ⟨g1, g2⟩ := dget_r hd
      have r0 : 0 ≤ 1 % pr ∧ 1 % pr < pr := ⟨Int.emod_nonneg _ (by omega), Int.emod_lt_of_pos _ (by omega)⟩
      walk_at "ev"
      intro r1 H1 r10 r11 k1 hb1
      walk_at "ev"
      intro r2 H2 r20 r21 k2 hb2
      have hm : 1 ≤ min pr 9 ∧ min pr 9 ≤ 9 := by omega
      walk_at "ev"
      intro r3 H3 r30 r31 k3 hb3
      walk_at "ev"
      w_cond _4
      have hb4 := hb3.same sm4
      have n4b := hb3.ne hl4
      have hL4 := SqL.of (K := K) hq4
      walk_at "ev"
      intro v H5 hv k5 hb5
      obtain ⟨x, hx0, hx1, hx2⟩ : ∃ x : Int, v = .int x ∧ 0 ≤ x ∧ x < pr := by
        simp only [List.mem_cons, List.not_mem_nil, or_false] at hv
        rcases hv with z | z | z | z | z | z <;> subst z
        · exact ⟨_, rfl, by omega, by omega⟩
        · exact ⟨_, rfl, by omega, by omega⟩
        · exact ⟨_, rfl, by omega, by omega⟩
        · exact ⟨_, rfl, by omega, by omega⟩
        · exact ⟨_, rfl, by omega, by omega⟩
        · exact ⟨_, rfl, by omega, by omega⟩
      exact q v (.i x) H5 (k1.trans (k2.trans (k3.trans ((keepS sm4).trans k5)))) (hb5.mono (by omega)) hx0 ⟨hx1, hx2⟩ (by show x.natAbs ≤ 1000000000; omega)
    | roots n =>
      obtain ⟨ndb, ⟨n1, n31⟩, l, nlb, hd, hl⟩ := hW
      obtain ⟨g1, g2, g3⟩ := dget_w hd
      obtain ⟨w2, w31⟩ := whl_l23 n n31 n1
      walk_at "ev"
      w_cond _1
      have g3' := (dget_w (sm1 _ _ hd)).2.2
      have hl1' : SqL K H1 l ((whl n).map V.int) ∨ SqT K H1 l ((whl n).map V.int) := .inl (SqL.of (sm1 _ _ hl))
      have hb1 := hb.same sm1
      have n1b := hb.ne hl1
      have elen : ((((whl n).map V.int).length : Int) - 1) = (((whl n).length - 1 : Nat) : Int) := by rw [List.length_map]; omega
      walk_at "ev"
      refine for_range (lo := 0) (n := _) (fun i σ H' => Hold (∃ (xs : List Int) (s5 s6 : Option V), σ = [some (.ref b), some (.ref d), none, none, some (.ref l1), s5, s6] ∧ xs.length = i ∧ Bd9 xs ∧ Keep b H H' ∧ BoxAt H' b (c + 3 * (i : Int)) ∧ H' l1 = some (.lst (xs.map V.int)))) (.mk ⟨[], none, none, rfl, rfl, (fun x hx => by cases hx), keepS sm1, hb1.mono (by omega), hq1⟩) ?_ ?_
      · intro i σ H2 hi hP
        obtain ⟨xs, s5, s6, rfl, hxl, hbd, k2, hb2, hq2⟩ := hP.un
        have hi31 : i < 31 := by
          rw [List.length_map] at hi
          omega
        walk_at "ev"
        intro r3 H3 r30 r31 k3 hb3
        have hq3 := k3 _ _ n1b hq2
        have ty3 : tyV K "list" (.ref l1) H3 := .inl ⟨rfl, _, SqL.of hq3⟩
        walk_at "ev"
        intro r4 H4 r40 r41 k4 hb4
        walk_at "ev"
        intro r5 H5 r50 r51 k5 hb5
        walk_at "ev"
        w_cond _6
        have hL6 := SqL.of (K := K) hq6
        have hq16 := sm6 _ _ (k5 _ _ n1b (k4 _ _ n1b hq3))
        have e9 : (10 : Int) ^ Int.toNat 9 = 1000000000 := by decide
        rw [e9] at hL6
        obtain ⟨z, hz, hat⟩ : ∃ z : Int, z.natAbs ≤ 1000000000 ∧ atI [V.int 0, V.int 1, V.int (-1), V.int (r4 - 9), V.int (r5 - 99), V.int 1000000000, V.int (0 - 1000000000)] r3 = some (.int z) := by
          have : r3 = 0 ∨ r3 = 1 ∨ r3 = 2 ∨ r3 = 3 ∨ r3 = 4 ∨ r3 = 5 ∨ r3 = 6 := by omega
          rcases this with z | z | z | z | z | z | z <;> subst z
          · exact ⟨0, by omega, rfl⟩
          · exact ⟨1, by omega, rfl⟩
          · exact ⟨-1, by omega, rfl⟩
          · exact ⟨r4 - 9, by omega, rfl⟩
          · exact ⟨r5 - 99, by omega, rfl⟩
          · exact ⟨1000000000, by omega, rfl⟩
          · exact ⟨0 - 1000000000, by omega, rfl⟩
        have hsz : (xs.map V.int).length < sizeLine := szm (by rw [List.length_map]; omega)
        walk_at "ev"
        refine .mk ⟨xs ++ [z], _, _, rfl, by rw [List.length_append, hxl]; rfl, fun x hx => ?_, keep_fresh (k2.trans (k3.trans (k4.trans (k5.trans (keepS sm6))))) hl1, ((hb5.same sm6).upd n1b).mono (by omega), ?_⟩
        · rcases List.mem_append.mp hx with y | y
          · exact hbd x y
          · rw [List.mem_singleton.mp y]
            exact hz
        · rw [upd_same, List.map_append]
          rfl
      · intro σ H2 hP
        obtain ⟨xs, s5, s6, rfl, hxl, hbd, k2, hb2, hq2⟩ := hP.un
        walk_at "ev"
        refine .inl ⟨SqL.of hq2, ?_⟩
        w_cond _3
        have hm : xs.length = (whl n).length - 1 := by
          rw [hxl, List.length_map]
          omega
        refine q (.ref l3) (.v xs) H3 (k2.trans (keepS sm3)) ((hb2.same sm3).mono ?_) ⟨l3, rfl, SqT.of hq3⟩ (by show xs.length = wl n; unfold wl; omega) hbd
        rw [← hxl, hm]
        omega
end
abbrev s__law_row : Stmt := top 49
abbrev N__law_row : List Str := ["_law_box_here", "_law_world_here", "_law_count", "_law_k"]
abbrev P__law_row : List Str := ["_law_box_here", "_law_world_here", "_law_count"]
theorem sc__law_row : FnScope N__law_row P__law_row (defScope s__law_row) := ⟨rfl, rfl, rfl, by decide +kernel, rfl, by decide +kernel, by decide +kernel⟩
def spRowG (K : PySem.W.Frag) : Sp := fun vs H Q _ => ∃ (b d : Addr) (g : Gk) (c m : Int), vs = [.ref b, .ref d, .int m] ∧ BoxAt H b c ∧ c < 800000 ∧ 0 ≤ m ∧ m ≤ 100 ∧ WdM H b d g ∧ ∀ p (es : Es) H', H p = none → Keep b H H' → BoxAt H' b (c + 9000) → (es.length : Int) = m → RwOk K g H' es → H' p = some (.lst (es.map (·.1))) → Q (.ref p) H'
section
variable {P : Program} {w : World} {K : PySem.W.Frag} {mg : Str → Option Value} {base : Heap}
theorem ok_rowG {f f1 f2 f3 : Addr} {fd d1 d2 d3 : FuncData} {k : Nat} (F : Fun K "_law_row" "_law_row" s__law_row f fd) (T : Blt mg) (D__law_worth : Df K mg "_law_worth" s__law_worth P__law_worth f3 d3) (D__law_take : Df K mg "_law_take" s__law_take P__law_take f1 d1) (D__law_pick : Df K mg "_law_pick" s__law_pick P__law_pick f2 d2) : FnOk P w K mg base CX0 (k + 4) f fd P__law_row (spRowG K) := by
  have G__law_worth : FnOk P w K mg base CX0 3 f3 d3 P__law_worth (spWorthG K) := ok_worthG (k := 0) D__law_worth.F T D__law_take D__law_pick
  have nd := sc__law_row.nd
  refine F.ok sc__law_row (fun vs H Q E h => ?_) (fun cdv A outer s H vs Q E hr h => ?_)
  · obtain ⟨b, d, g, c, m, rfl, _⟩ := h
    rfl
  · obtain ⟨b, d, g, c, m, rfl, hb, hc, m0, m1, hW, q⟩ := h
    refine ⟨_, (pss_one (ps_ret (pe_lc (own := [("_law_k", 3)]) (g := gName 3) (by rfl) nd (pi_range1 (by rfl) T.b_range (pa_cons (pv 2) pa_nil)) (blkOk_by (own := [("_law_k", 3)]) (N := N__law_row) (sc := defScope s__law_row) (by decide +kernel)) (fun _ _ _ _ _ => (pg_name (i := 3) nd rfl (Or.inl rfl))) (fun _ _ _ _ _ => pts_nil) (fun _ _ _ _ _ => (pe_call G__law_worth (hr.mono (by omega)) (by rfl) D__law_worth.g D__law_worth.F.kp D__law_worth.b .nil pass0 (pa_cons (pv 0) (pa_cons (pv 1) pa_nil))))))), ?_⟩
    walk_at "ev"
    intro D hD
    have nDb := hb.ne hD
    refine lc_range (lo := 0) (n := _) (fun i H' => Hold (Keep b H H' ∧ BoxAt H' b (c + 90 * (i : Int)) ∧ ∃ es : Es, es.length = i ∧ RwOk K g H' es ∧ H' D = some (.lst (es.map (·.1))))) (.mk ⟨keepS (same_new hD), (hb.upd nDb).mono (by omega), [], rfl, (fun v hv => by cases hv), upd_same⟩) ?_ ?_
    · intro i H2 hi hP
      obtain ⟨k2, hb2, es, hxl, hx, hD2⟩ := hP.un
      have hW2 := hW.keep k2
      have hi100 : i < 100 := by omega
      walk_at "ev"
      intro v u H3 k3 hb3 hv hn h9
      have hD3 := k3 _ _ nDb hD2
      refine ⟨_, hD3, szm (by rw [List.length_map]; omega), .mk ⟨keep_fresh (k2.trans k3) hD, (hb3.upd nDb).mono (by omega), es ++ [(v, u)], by rw [List.length_append, hxl]; rfl, fun e he => ?_, by rw [upd_same, List.map_append]; rfl⟩⟩
      rcases List.mem_append.mp he with z | z
      · exact ⟨((hx e z).1.keep hb2 k3).mut hD3, (hx e z).2⟩
      · rw [List.mem_singleton.mp z]
        exact ⟨hv.mut hD3, hn, h9⟩
    · intro H2 hP
      obtain ⟨k2, hb2, es, hxl, hx, hD2⟩ := hP.un
      exact q D es H2 hD k2 (hb2.mono (by omega)) (by omega) hx hD2
end
def wD : Wt → PyData
  | .i x => .int x
  | .v xs => .tuple (xs.map PyData.int)
theorem dp_t {K : PySem.W.Frag} {H : Hp} : ∀ xs : List Int, DpAll K H (xs.map V.int) (xs.map PyData.int)
  | [] => .nil
  | x :: r => .cons (.int x) (dp_t r)
theorem WtAt.dp {K : PySem.W.Frag} {H : Hp} {v : V} {w : Wt} (h : WtAt K H v w) : Dp K H v (wD w) := by
  cases w with
  | i x =>
    have e : v = .int x := h
    rw [e]
    exact .int x
  | v xs =>
    obtain ⟨t, e, h⟩ := h
    rw [e]
    exact .tup h (dp_t xs)
def rD (ws : List Wt) : PyData := .list (ws.map wD)
theorem dp_row {K : PySem.W.Frag} {H : Hp} : ∀ {es : Es}, WsAt K H es → DpAll K H (es.map (·.1)) ((es.map (·.2)).map wD)
  | [], _ => .nil
  | e :: r, h => .cons (h e List.mem_cons_self).dp (dp_row fun x hx => h x (List.mem_cons_of_mem _ hx))
theorem dp_rD {K : PySem.W.Frag} {H : Hp} {a : Addr} {es : Es} (h : H a = some (.lst (es.map (·.1)))) (hw : WsAt K H es) : Dp K H (.ref a) (rD (es.map (·.2))) := .lst (SqL.of h) (dp_row hw)
theorem nm_len {g : Gk} {w : Wt} (h : GkOk g) (hw : nm g w) : ∀ xs, w = .v xs → xs.length ≤ 30 := by
  intro xs e
  subst e
  cases g with
  | rests p => exact hw.elim
  | roots n =>
    have := wl1 h.1 h.2
    have hw' : xs.length = wl n := hw
    omega
theorem RwOk.ws {K : PySem.W.Frag} {g : Gk} {H : Hp} {es : Es} (h : RwOk K g H es) : WsAt K H es := fun e he => (h e he).1
/-! ### a worth shared among so many, on either ground -/
def gcan : Gk → Int → Wt → Prop
  | .rests p, m, _ => ¬ m % p = 0
  | .roots _, m, .v xs => ∀ x ∈ xs, x % m = 0
  | .roots _, _, .i _ => True
def gsh : Gk → Int → Wt → Wt → Prop
  | .rests p, m, .i x, .i y => 0 ≤ y ∧ y < p ∧ y * m % p = x
  | .roots _, m, .v xs, .v ys => ys = xs.map (· / m)
  | _, _, _, _ => False
def spUs (K : PySem.W.Frag) (C1 C2 CS : Addr) (r : Bool) : Sp := fun vs H Q E => ∃ (a : Addr) (g : Gk) (x : V) (u : Wt) (m : Int), vs = [.ref a, x, .int m] ∧ GrAt C1 C2 H a g ∧ kdG g = r ∧ GkOk g ∧ WtAt K H x u ∧ nm g u ∧ 1 ≤ m ∧ m ≤ 1000 ∧
  (gcan g m u → ∀ v w H', gsh g m u w → Same H H' → WtAt K H' v w → Q v H') ∧
  (¬ gcan g m u → ∀ d H', H d = none → Same H H' → H' d = some (.xd [(("what" : Str), .int m)]) → E (.ref CS) (some d) H')
section
variable {P : Program} {w : World} {K : PySem.W.Frag} {mg : Str → Option Value} {base : Heap}
theorem ok_u1s {f f1 fI C1 C2 CI CS CT : Addr} {fd d1 fdI : FuncData} {k : Nat} (F : Fun K "shared_by" "Rests.shared_by" s_Rests_shared_by f fd) (RC : RestC K C1) (D_inverse : Df K mg "inverse" s_inverse P_inverse f1 d1) (FI : Fun K "__init__" "TurnError.__init__" s_init fI fdI) (I_b : Binds K fdI N_init [])
    (I_ty : PySem.W.typeIn K (.ref fI) = some (.type "function")) (R1 : Ref K CT CI fI) (M_NoInverse : mg "NoInverse" = some (.ref CI)) (R2 : Ref K CT CS fI) (M_NoShare : mg "NoShare" = some (.ref CS)) : FnOk P w K mg base (L2.CX P w) (k + 4) f fd P_Rests_shared_by (spUs K C1 C2 CS true) :=
  fnsub (ok_shared F RC D_inverse FI I_b I_ty R1 M_NoInverse R2 M_NoShare) fun vs H Q E ⟨a, g, x, u, m, h1, h2, h3, h4, hx, nu, m1, m2, qy, qn⟩ => by
    cases g with
    | roots n => cases h3
    | rests p =>
      cases u with
      | v xs => exact nu.elim
      | i u =>
        have ex : x = .int u := hx
        subst ex
        exact ⟨a, p, u, m, h1, h2, h4, nu.1, nu.2, m1, by omega, fun c y y0 y1 ym H' sm => qy c _ (.i y) H' ⟨y0, y1, ym⟩ sm rfl, fun c => qn fun z => z c⟩
theorem ok_u2s {f fI C1 C2 CS CT : Addr} {fd fdI : FuncData} {k : Nat} (F : Fun K "shared_by" "Roots.shared_by" s_Roots_shared_by f fd) (T : Blt mg) (FI : Fun K "__init__" "TurnError.__init__" s_init fI fdI) (I_b : Binds K fdI N_init []) (I_ty : PySem.W.typeIn K (.ref fI) = some (.type "function")) (R : Ref K CT CS fI) (M_NoShare : mg "NoShare" = some (.ref CS)) : FnOk P w K mg base (L2.CX P w) (k + 3) f fd P_Roots_shared_by (spUs K C1 C2 CS false) :=
  fnsub (ok_shareO F T FI I_b I_ty R M_NoShare) fun vs H Q E ⟨a, g, x, u, m, h1, h2, h3, h4, hx, nu, m1, m2, qy, qn⟩ => by
    cases g with
    | rests p => cases h3
    | roots n =>
      cases u with
      | i u => exact nu.elim
      | v xs =>
        obtain ⟨z, ez, hz⟩ := hx
        subst ez
        have hl : xs.length = wl n := nu
        have := wl1 h4.1 h4.2
        exact ⟨a, z, xs, m, h1, hz, by omega, m1, by omega, fun c y H' hy sm hq => qy c _ (.v (xs.map (· / m))) H' rfl sm ⟨y, rfl, SqT.of hq⟩, qn⟩
end
structure G16 (K : PySem.W.Frag) (mg : Str → Option Value) (CT CB C1 C2 CR CS CI fI : Addr) (fdI : FuncData) : Prop where
  F : Fun K "__init__" "TurnError.__init__" s_init fI fdI
  b : Binds K fdI N_init []
  ty : PySem.W.typeIn K (.ref fI) = some (.type "function")
  RB : Ref K CT CB fI
  mb : mg "BadGround" = some (.ref CB)
  R1 : RestC K C1
  R2 : RootC K C2
  m1 : mg "Rests" = some (.ref C1)
  m2 : mg "Roots" = some (.ref C2)
  p1 : ∃ t, mg "MOST_PRIME" = some (.int 10000 t)
  p2 : ∃ t, mg "MOST_ORDER" = some (.int 30 t)
  k1 : ∃ f fd, Mk K C1 f ∧ Fun K "__init__" "Rests.__init__" s_Rests___init__ f fd ∧ Binds K fd P_Rests___init__ []
  k2 : ∃ f fd, Mk K C2 f ∧ Fun K "__init__" "Roots.__init__" s_Roots___init__ f fd ∧ Binds K fd P_Roots___init__ []
  a1 : ∃ f fd, Fun K "sum_of" "Rests.sum_of" s_Rests_sum_of f fd ∧ Binds K fd P_Rests_sum_of [] ∧ Meth K C1 "sum_of" f
  q1 : ∃ f fd, Fun K "product_of" "Rests.product_of" s_Rests_product_of f fd ∧ Binds K fd P_Rests_product_of [] ∧ Meth K C1 "product_of" f
  h1 : ∃ f fd, Fun K "has_root" "Rests.has_root" s_Rests_has_root f fd ∧ Binds K fd P_Rests_has_root [] ∧ Meth K C1 "has_root" f
  r1 : ∃ f fd, Fun K "root_at" "Rests.root_at" s_Rests_root_at f fd ∧ Binds K fd P_Rests_root_at [] ∧ Meth K C1 "root_at" f
  s1 : ∃ f fd, Fun K "shared_by" "Rests.shared_by" s_Rests_shared_by f fd ∧ Binds K fd P_Rests_shared_by [] ∧ Meth K C1 "shared_by" f
  a2 : ∃ f fd, Fun K "sum_of" "Roots.sum_of" s_Roots_sum_of f fd ∧ Binds K fd P_Roots_sum_of [] ∧ Meth K C2 "sum_of" f
  q2 : ∃ f fd, Fun K "product_of" "Roots.product_of" s_Roots_product_of f fd ∧ Binds K fd P_Roots_product_of [] ∧ Meth K C2 "product_of" f
  h2 : ∃ f fd, Fun K "has_root" "Roots.has_root" s_Roots_has_root f fd ∧ Binds K fd P_Roots_has_root [] ∧ Meth K C2 "has_root" f
  r2 : ∃ f fd, Fun K "root_at" "Roots.root_at" s_Roots_root_at f fd ∧ Binds K fd P_Roots_root_at [] ∧ Meth K C2 "root_at" f
  s2 : ∃ f fd, Fun K "shared_by" "Roots.shared_by" s_Roots_shared_by f fd ∧ Binds K fd P_Roots_shared_by [] ∧ Meth K C2 "shared_by" f
  RR : Ref K CT CR fI
  mr : mg "NoRoot" = some (.ref CR)
  RS : Ref K CT CS fI
  ms : mg "NoShare" = some (.ref CS)
  RI : Ref K CT CI fI
  mi : mg "NoInverse" = some (.ref CI)
  mt : mg "TurnError" = some (.ref CT)
theorem keep_mk {x dx C : Addr} {H H' : Hp} (hx : H x = none) (hd : H dx = none) (h : Keep x (upd (upd H dx (.own x)) x (.ins C dx [])) H') : Same H H' := fun b o e => by
  have n1 := ne_of_none e hx
  refine h b o n1 ?_
  rw [upd_ne n1, upd_ne (ne_of_none e hd)]
  exact e
abbrev s__law_made : Stmt := top 39
abbrev N__law_made : List Str := ["_law_world_here"]
abbrev P__law_made : List Str := ["_law_world_here"]
theorem sc__law_made : FnScope N__law_made P__law_made (defScope s__law_made) := ⟨rfl, rfl, rfl, by decide +kernel, rfl, by decide +kernel, by decide +kernel⟩
def spMade (C1 C2 : Addr) : Sp := fun vs H Q _ => ∃ (b d : Addr) (g : Gk), vs = [.ref d] ∧ WdM H b d g ∧ ∀ a H', H a = none → Same H H' → GrAt C1 C2 H' a g → Q (.ref a) H'
section
variable {P : Program} {w : World} {K : PySem.W.Frag} {mg : Str → Option Value} {base : Heap}
theorem ok_made {f f1 f2 f3 f4 f5 f6 f7 f8 CT CB C1 C2 CR CS CI fI : Addr} {fd d1 d2 d3 d4 d5 d6 d7 d8 fdI : FuncData} (F : Fun K "_law_made" "_law_made" s__law_made f fd) (T : Blt mg) (S : G16 K mg CT CB C1 C2 CR CS CI fI fdI) (D_is_whole : Df K mg "is_whole" s_is_whole P_is_whole f1 d1) (D_factors : Df K mg "factors" s_factors P_factors f2 d2) (D_is_prime : Df K mg "is_prime" s_is_prime P_is_prime f3 d3)
    (D_power_rest : Df K mg "power_rest" s_power_rest P_power_rest f4 d4) (D_generator : Df K mg "generator" s_generator P_generator f5 d5) (D_wheel : Df K mg "wheel" s_wheel P_wheel f6 d6) (D_divisors : Df K mg "divisors" s_divisors P_divisors f7 d7) (D_divided : Df K mg "divided" s_divided P_divided f8 d8) : FnOk P w K mg base CX0 9 f fd P__law_made (spMade C1 C2) := by
  obtain ⟨t1, M_MOST_PRIME⟩ := S.p1
  obtain ⟨t2, M_MOST_ORDER⟩ := S.p2
  obtain ⟨fM, dM, MK_Rests, FM, B_Rests___init__⟩ := S.k1
  obtain ⟨fN, dN, MK_Roots, FN, B_Roots___init__⟩ := S.k2
  have M_Rests := S.m1
  have M_Roots := S.m2
  have G_Rests___init__ : FnOk P w K mg base (L2.CX P w) 3 fM dM P_Rests___init__ (spRI K C1 CB) := ok_ri FM T S.R1 D_is_whole D_factors D_is_prime D_power_rest D_generator M_MOST_PRIME S.F S.b S.ty S.RB S.mb
  have G_Roots___init__ : FnOk P w K mg base (L2.CX P w) 7 fN dN P_Roots___init__ (spRoI K C2 CB) := ok_roi FN T S.R2 D_is_whole D_wheel D_divisors D_divided M_MOST_ORDER S.F S.b S.ty S.RB S.mb
  have nd := sc__law_made.nd
  refine F.ok sc__law_made (fun vs H Q E h => ?_) (fun cdv A outer s H vs Q E hr h => ?_)
  · obtain ⟨b, d, g, rfl, _⟩ := h
    rfl
  · obtain ⟨b, d, g, rfl, hW, q⟩ := h
    refine ⟨_, (pss_one (ps_ret (pe_ifExp (pt_cmpR op_eq (pe_dget (du hr) (pv 0) (pe_str) (fun _ _ => rfl)) (pe_str) (nomark _)) (pe_make MK_Rests G_Rests___init__ (hr.mono (by omega)) (by rfl) M_Rests B_Rests___init__ .nil passL (pa_cons (pe_dget (du hr) (pv 0) (pe_str) (fun _ _ => rfl)) pa_nil)) (pe_make MK_Roots G_Roots___init__ (hr.mono (by omega)) (by rfl) M_Roots B_Roots___init__ .nil passL (pa_cons (pe_dget (du hr) (pv 0) (pe_str) (fun _ _ => rfl)) pa_nil))))), ?_⟩
    cases g with
    | rests p =>
      obtain ⟨h1, h2, gg, hlg, h3⟩ := hW
      obtain ⟨g1, g2⟩ := dget_r h3
      have hpm : p ∈ prs 10000 := h2
      walk_at "ev"
      intro x dx hx hd ne
      refine ⟨x, dx, .int p, "int", rfl, upd_same, .int p, fun p' ep hp' H6 k6 hR6 => ⟨rfl, ?_⟩, fun no => absurd ⟨p, rfl, hpm⟩ no⟩
      cases ep
      exact q x _ hx (keep_mk hx hd k6) hR6
    | roots n =>
      obtain ⟨h1, ⟨h2, h3⟩, ll, nlb, h4, h5⟩ := hW
      obtain ⟨g1, g2, g3⟩ := dget_w h4
      walk_at "ev"
      intro x dx hx hd ne
      refine ⟨x, dx, .int n, "int", rfl, upd_same, .int n, fun n' en n1 n31 H6 k6 hR6 => ⟨rfl, ?_⟩, fun no => absurd ⟨n, rfl, h2, h3⟩ no⟩
      have en' : n' = n := by
        have := V.int.inj en
        omega
      subst en'
      exact q x _ hx (keep_mk hx hd k6) hR6
end
def Shs (g : Gk) (m : Int) (ws ws' : List Wt) : Prop := ws'.length = ws.length ∧ ∀ (i : Nat) (w w' : Wt), ws[i]? = some w → ws'[i]? = some w' → gsh g m w w'
def PtIn (K : PySem.W.Frag) (g : Gk) (H : Hp) (es : Es) : Prop := WsAt K H es ∧ Nms g (es.map (·.2)) ∧ BwAt (es.map (·.2)) ∧ 1 ≤ es.length ∧ es.length ≤ 60
def PtOut (K : PySem.W.Frag) (CR CS : Addr) (g : Gk) (ws : List Wt) (bk : Bool) (H : Hp) (Q : VK) (E : XK) : Prop :=
  (¬ numM g % (ws.length : Int) = 0 → ∀ d H', H d = none → Same H H' → H' d = some (.xd [(("what" : Str), .int (ws.length : Int))]) → E (.ref CR) (some d) H') ∧
  (numM g % (ws.length : Int) = 0 → bk = false → ∀ q p (rs : Es) H', LgOk g q → H p = none → Same H H' → H' p = some (.lst (rs.map (·.1))) → WsAt K H' rs → rs.map (·.2) = trn g q ws 1 → Q (.ref p) H') ∧
  (numM g % (ws.length : Int) = 0 → bk = true → ∀ q, LgOk g q → (∀ w ∈ trn g q ws (-1), gcan g (ws.length : Int) w) → ∀ p (rs : Es) H', H p = none → Same H H' → H' p = some (.lst (rs.map (·.1))) → WsAt K H' rs → Shs g (ws.length : Int) (trn g q ws (-1)) (rs.map (·.2)) → Q (.ref p) H') ∧
  (numM g % (ws.length : Int) = 0 → bk = true → ∀ q, LgOk g q → (¬ ∀ w ∈ trn g q ws (-1), gcan g (ws.length : Int) w) → ∀ d H', H d = none → Same H H' → H' d = some (.xd [(("what" : Str), .int (ws.length : Int))]) → E (.ref CS) (some d) H')
theorem ws_app {K : PySem.W.Frag} {H : Hp} {es : Es} {v : V} {w : Wt} {D : Addr} {xs : List V} {o : HO} (h : WsAt K H es) (hv : WtAt K H v w) (e : H D = some (.lst xs)) : WsAt K (upd H D o) (es ++ [(v, w)]) := fun x hx => by
  rcases List.mem_append.mp hx with z | z
  · exact (h x z).mut e
  · cases List.mem_singleton.mp z
    exact hv.mut e
theorem nm_gw {g : Gk} {c : Int} (h : GkOk g) : nm g (gw g c) := by
  cases g with
  | rests p =>
    have := prs_b h
    exact ⟨Int.emod_nonneg _ (by omega), Int.emod_lt_of_pos _ (by omega)⟩
  | roots n =>
    have := wl1 h.1 h.2
    show (c :: List.replicate (wl n - 1) 0).length = wl n
    rw [List.length_cons, List.length_replicate]
    omega
theorem bw_gw {g : Gk} {c : Int} (h0 : 0 ≤ c) (h1 : c ≤ 1000) : bw (gw g c) := by
  cases g with
  | rests p => exact True.intro
  | roots n =>
    intro x hx
    have p : (1000 : Nat) < 2 ^ 9000 := by decide +kernel
    rcases List.mem_cons.mp hx with z | z
    · rw [z]
      omega
    · rw [(List.mem_replicate.mp z).2]
      exact Nat.lt_of_le_of_lt (by decide : Int.natAbs 0 ≤ 1000) p
def scW (g : Gk) (c : Int) (w : Wt) : Wt := gmul g w (gw g c)
theorem can_r {p : Int} {L : Nat} (hp : 2 ≤ p) (hL : 1 ≤ L) (hd : (p - 1) % (L : Int) = 0) : ¬ (L : Int) % p = 0 := by
  have h1 : (L : Int) ≤ p - 1 := Int.le_of_dvd (by omega) (Int.dvd_of_emod_eq_zero hd)
  rw [Int.emod_eq_of_lt (by omega) (by omega)]
  omega
theorem Shs.app {g : Gk} {m : Int} {ws vs : List Wt} {w v : Wt} {i : Nat} (h : Shs g m (ws.take i) vs) (hw : ws[i]? = some w) (hg : gsh g m w v) : Shs g m (ws.take (i + 1)) (vs ++ [v]) := by
  obtain ⟨h1, h2⟩ := h
  have hil : i < ws.length := (List.getElem?_eq_some_iff.mp hw).1
  have hl : vs.length = i := by
    rw [h1, List.length_take]
    omega
  refine ⟨by rw [List.length_append, hl, List.length_take]; show i + 1 = _; omega, fun j a b ha hb => ?_⟩
  rw [List.getElem?_take] at ha
  by_cases c : j < i
  · rw [List.getElem?_append_left (by omega)] at hb
    refine h2 j a b ?_ hb
    rw [List.getElem?_take]
    split at ha
    · rw [if_pos c]
      exact ha
    · cases ha
  · split at ha
    · have e : j = i := by omega
      subst e
      rw [hw] at ha
      cases ha
      rw [List.getElem?_append_right (by omega), hl, Nat.sub_self] at hb
      cases hb
      exact hg
    · cases ha
/-! ### so many times a worth -/
theorem getD_sc {c : Int} {l : List Int} {k : Nat} : (l.map (· * c)).getD k 0 = l.getD k 0 * c := by
  rw [List.getD_eq_getElem?_getD, List.getElem?_map, List.getD_eq_getElem?_getD]
  cases l[k]? with
  | none => exact (Int.zero_mul c).symm
  | some v => rfl
theorem subAt_sc {start : Nat} {top c : Int} {bs r : List Int} : ∀ i : Nat, subAt start (top * c) bs (r.map (· * c)) i = (subAt start top bs r i).map (· * c)
  | 0 => rfl
  | i + 1 => by
    rw [subAt, subAt, subAt_sc i, getD_sc, List.map_set]
    congr 1
    rw [Int.sub_mul, Int.mul_assoc, Int.mul_comm c, ← Int.mul_assoc]
theorem dvN_sc {bs row : List Int} {c : Int} : ∀ n : Nat, (dvN bs (row.map (· * c)) n).1 = (dvN bs row n).1.map (· * c)
  | 0 => rfl
  | n + 1 => by
    rw [dvN, dvN, dvS, dvS]
    show subAt _ _ bs (List.dropLast _) _ = List.map _ (subAt _ _ bs (List.dropLast _) _)
    rw [dvN_sc n, getD_sc, List.length_map, ← List.map_dropLast, subAt_sc]
theorem dvR_sc {bs row : List Int} {c : Int} : dvR bs (row.map (· * c)) = (dvR bs row).map (· * c) := by
  unfold dvR
  rw [List.length_map, dvN_sc, List.map_append, List.map_replicate, List.length_map, Int.zero_mul]
theorem scW_v {n : Nat} {c : Int} {xs : List Int} (h : GkOk (.roots n)) (hx : xs.length = wl n) : scW (.roots n) c (.v xs) = .v (xs.map (· * c)) := by
  have w1 := wl1 h.1 h.2
  show Wt.v (dvR (whl n) (pmul xs (c :: List.replicate (wl n - 1) 0))) = _
  have e : wl n - 1 = (whl n).length - 2 := by
    unfold wl
    omega
  rw [e, prod_c hx (by omega)]
theorem tnF_un {g : Gk} {q q' s : Int} {ws : List Wt} {k : Nat} (h : LgOk g q) (h' : LgOk g q') : ∀ j, tnF g q ws s k j = tnF g q' ws s k j
  | 0 => rfl
  | j + 1 => by rw [tnF, tnF, tnF_un h h' j, h.un h']
theorem trn_un {g : Gk} {q q' s : Int} {ws : List Wt} (h : LgOk g q) (h' : LgOk g q') : trn g q ws s = trn g q' ws s := by
  unfold trn
  exact List.map_congr_left fun k _ => tnF_un h h' _
theorem gsh_un {g : Gk} {L : Nat} {w a b : Wt} (h : GkOk g) (L1 : 1 ≤ L) (hd : numM g % (L : Int) = 0) (ha : gsh g (L : Int) w a) (hb : gsh g (L : Int) w b) : a = b := by
  cases g with
  | rests p =>
    have pb := prs_b h
    have hc := can_r pb.1 L1 hd
    have hg := gcd_prime (prs_iff.mp h).2 hc
    cases w with
    | v xs => exact ha.elim
    | i x =>
      cases a with
      | v xs => exact ha.elim
      | i a =>
        cases b with
        | v xs => exact hb.elim
        | i b =>
          obtain ⟨a0, a1, a2⟩ := ha
          obtain ⟨b0, b1, b2⟩ := hb
          rw [share_uniq hg a0 a1 b0 b1 a2 b2]
  | roots n =>
    cases w with
    | i x => exact ha.elim
    | v xs =>
      cases a with
      | i a => exact ha.elim
      | v a =>
        cases b with
        | i b => exact hb.elim
        | v b =>
          have ea : a = _ := ha
          have eb : b = _ := hb
          rw [ea, eb]
theorem gsh_sc {g : Gk} {L : Nat} {w : Wt} (h : GkOk g) (L1 : 1 ≤ L) (hd : numM g % (L : Int) = 0) (hw : nm g w) : gsh g (L : Int) (scW g (L : Int) w) w ∧ gcan g (L : Int) (scW g (L : Int) w) := by
  cases g with
  | rests p =>
    have pb := prs_b h
    cases w with
    | v xs => exact hw.elim
    | i x =>
      obtain ⟨x0, x1⟩ := (show 0 ≤ x ∧ x < p from hw)
      refine ⟨⟨x0, x1, ?_⟩, can_r pb.1 L1 hd⟩
      show x * (L : Int) % p = x * ((L : Int) % p) % p
      rw [Int.mul_emod x ((L : Int) % p), Int.emod_emod, ← Int.mul_emod]
  | roots n =>
    cases w with
    | i x => exact hw.elim
    | v xs =>
      rw [scW_v h hw]
      constructor
      · show xs = (xs.map (· * (L : Int))).map (· / (L : Int))
        rw [List.map_map, List.map_congr_left (g := id), List.map_id]
        intro x _
        exact Int.mul_ediv_cancel x (by omega)
      · intro x hx
        obtain ⟨y, _, rfl⟩ := List.mem_map.mp hx
        exact Int.mul_emod_left y _
theorem Shs.un {g : Gk} {L : Nat} {ws as bs : List Wt} (h : GkOk g) (L1 : 1 ≤ L) (hd : numM g % (L : Int) = 0) (ha : Shs g (L : Int) ws as) (hb : Shs g (L : Int) ws bs) : as = bs := by
  refine List.ext_getElem? fun i => ?_
  by_cases c : i < ws.length
  · have e1 := List.getElem?_eq_getElem (l := ws) c
    have e2 := List.getElem?_eq_getElem (l := as) (i := i) (by have := ha.1; omega)
    have e3 := List.getElem?_eq_getElem (l := bs) (i := i) (by have := hb.1; omega)
    rw [e2, e3, gsh_un h L1 hd (ha.2 i _ _ e1 e2) (hb.2 i _ _ e1 e3)]
  · rw [List.getElem?_eq_none (by have := ha.1; omega), List.getElem?_eq_none (by have := hb.1; omega)]
theorem Shs.sc {g : Gk} {L : Nat} {ws : List Wt} (h : GkOk g) (L1 : 1 ≤ L) (hd : numM g % (L : Int) = 0) (hw : Nms g ws) : Shs g (L : Int) (ws.map (scW g (L : Int))) ws := by
  refine ⟨(List.length_map _).symm, fun i w w' e1 e2 => ?_⟩
  rw [List.getElem?_map, e2] at e1
  cases e1
  exact (gsh_sc h L1 hd (hw w' (List.mem_of_getElem? e2))).1
/-! ### turnings over a ring -/
section
open Lean.Grind
variable {R : Type} [CommRing R]
/-- sums of the first so many -/
def rs (f : Nat → R) : Nat → R
  | 0 => 0
  | n + 1 => rs f n + f n
theorem rs_congr {f g : Nat → R} : ∀ {n : Nat}, (∀ i < n, f i = g i) → rs f n = rs g n
  | 0, _ => rfl
  | n + 1, h => by
    show rs f n + f n = rs g n + g n
    rw [rs_congr fun i hi => h i (by omega), h n (by omega)]
theorem rs_add {f g : Nat → R} : ∀ {n : Nat}, rs (fun i => f i + g i) n = rs f n + rs g n
  | 0 => by show (0 : R) = 0 + 0; grind
  | n + 1 => by
    show rs (fun i => f i + g i) n + (f n + g n) = rs f n + f n + (rs g n + g n)
    rw [rs_add]; grind
theorem rs_zero : ∀ {n : Nat}, rs (fun _ => (0 : R)) n = 0
  | 0 => rfl
  | n + 1 => by
    show rs (fun _ => (0 : R)) n + 0 = 0
    rw [rs_zero]; grind
theorem rs_mul {f : Nat → R} {c : R} : ∀ {n : Nat}, rs (fun i => c * f i) n = c * rs f n
  | 0 => by show (0 : R) = c * 0; grind
  | n + 1 => by
    show rs (fun i => c * f i) n + c * f n = c * (rs f n + f n)
    rw [rs_mul]; grind
theorem rs_mulr {f : Nat → R} {c : R} {n : Nat} : rs (fun i => f i * c) n = rs f n * c := by
  rw [show rs f n * c = c * rs f n by grind, ← rs_mul]
  exact rs_congr fun i _ => by grind
theorem rs_comm {f : Nat → Nat → R} {m : Nat} : ∀ {n : Nat}, rs (fun i => rs (fun j => f i j) m) n = rs (fun j => rs (fun i => f i j) n) m
  | 0 => by
    show (0 : R) = rs (fun j => 0) m
    rw [rs_zero]
  | n + 1 => by
    show rs (fun i => rs (fun j => f i j) m) n + rs (fun j => f n j) m = rs (fun j => rs (fun i => f i j) n + f n j) m
    rw [rs_comm, ← rs_add]
theorem rs_one {f : Nat → R} {k : Nat} : ∀ {n : Nat}, k < n → (∀ i < n, i ≠ k → f i = 0) → rs f n = f k
  | n + 1, h, z => by
    show rs f n + f n = f k
    by_cases e : k = n
    · subst e
      rw [rs_congr (g := fun _ => (0 : R)) fun i hi => z i (by omega) (by omega), rs_zero]; grind
    · rw [rs_one (by omega) fun i hi hk => z i (by omega) hk, z n (by omega) (fun q => e q.symm)]; grind
theorem rs_app {f : Nat → R} {m : Nat} : ∀ {n : Nat}, rs f (m + n) = rs f m + rs (fun i => f (m + i)) n
  | 0 => by show rs f m = rs f m + 0; grind
  | n + 1 => by
    show rs f (m + n) + f (m + n) = rs f m + (rs (fun i => f (m + i)) n + f (m + n))
    rw [rs_app]; grind
/-- a sum over m rows of s each -/
theorem rs_grid {f : Nat → R} {s : Nat} : ∀ {m : Nat}, rs f (m * s) = rs (fun q => rs (fun r => f (q * s + r)) s) m
  | 0 => by rw [Nat.zero_mul]; rfl
  | m + 1 => by
    rw [Nat.succ_mul, rs_app, rs_grid]; rfl
theorem lsum_perm {l l' : List R} (h : l.Perm l') : l.foldr (· + ·) 0 = l'.foldr (· + ·) 0 := by
  induction h with
  | nil => rfl
  | cons x _ ih => show x + _ = x + _; rw [ih]
  | swap x y l => show y + (x + _) = x + (y + _); grind
  | trans _ _ a b => rw [a, b]
theorem rs_list {f : Nat → R} : ∀ {n : Nat}, rs f n = ((List.range n).map f).foldr (· + ·) 0
  | 0 => rfl
  | n + 1 => by
    have app : ∀ (l : List R) (x : R), (l ++ [x]).foldr (· + ·) 0 = l.foldr (· + ·) 0 + x := by
      intro l x
      induction l with
      | nil => show x + 0 = 0 + x; grind
      | cons y l ih => show y + (l ++ [x]).foldr (· + ·) 0 = y + l.foldr (· + ·) 0 + x; rw [ih]; grind
    rw [List.range_succ, List.map_append]
    show rs f n + f n = ((List.range n).map f ++ [f n]).foldr (· + ·) 0
    rw [app, rs_list]
/-- unlike numbers, all in a list that is as long, are that list in another order -/
theorem perm_of : ∀ {l m : List Nat}, l.Nodup → (∀ x ∈ l, x ∈ m) → m.length ≤ l.length → l.Perm m
  | [], m, _, _, hl => by
    have : m = [] := List.eq_nil_of_length_eq_zero (Nat.le_zero.mp hl)
    subst this
    exact .nil
  | x :: l, m, hn, hs, hl => by
    have hx := hs x List.mem_cons_self
    have e := List.perm_cons_erase hx
    have hl2 : (m.erase x).length ≤ l.length := by
      rw [List.length_erase_of_mem hx]
      simp only [List.length_cons] at hl
      omega
    have hn2 := List.nodup_cons.mp hn
    refine (List.Perm.cons x (perm_of hn2.2 (fun y hy => ?_) hl2)).trans e.symm
    have yx : y ≠ x := fun z => hn2.1 (z ▸ hy)
    exact (List.mem_erase_of_ne yx).mpr (hs y (List.mem_cons_of_mem _ hy))
/-- a sum in another order -/
theorem rs_perm {f : Nat → R} {σ : Nat → Nat} {n : Nat} (h : ∀ i < n, σ i < n) (inj : ∀ i < n, ∀ j < n, σ i = σ j → i = j) : rs (fun i => f (σ i)) n = rs f n := by
  have p : ((List.range n).map σ).Perm (List.range n) := by
    refine perm_of ?_ ?_ ?_
    · rw [List.nodup_iff_pairwise_ne, List.pairwise_map]
      refine (List.nodup_range (n := n)).imp_of_mem fun {a b} ha hb hab e => hab (inj a (List.mem_range.mp ha) b (List.mem_range.mp hb) e)
    · intro x hx
      obtain ⟨i, hi, rfl⟩ := List.mem_map.mp hx
      exact List.mem_range.mpr (h i (List.mem_range.mp hi))
    · rw [List.length_map]; exact Nat.le_refl _
  rw [rs_list, rs_list]
  have := lsum_perm (p.map f)
  rw [List.map_map] at this
  exact this
theorem pow_mul' (a : R) (m : Nat) : ∀ n : Nat, a ^ (m * n) = (a ^ m) ^ n
  | 0 => by rw [Nat.mul_zero, Semiring.pow_zero, Semiring.pow_zero]
  | n + 1 => by rw [Nat.mul_succ, Semiring.pow_add, pow_mul' a m n, Semiring.pow_succ]
theorem one_pow' : ∀ n : Nat, (1 : R) ^ n = 1
  | 0 => Semiring.pow_zero 1
  | n + 1 => by rw [Semiring.pow_succ, one_pow' n]; grind
theorem pow_rest {a : R} {n : Nat} (h : a ^ n = 1) (k : Nat) : a ^ k = a ^ (k % n) := by
  have e : k = n * (k / n) + k % n := (Nat.div_add_mod k n).symm
  have : a ^ k = a ^ (n * (k / n) + k % n) := by rw [← e]
  rw [this, Semiring.pow_add, pow_mul', h, one_pow']; grind
theorem pow_alike {a : R} {n j k : Nat} (h : a ^ n = 1) (e : j % n = k % n) : a ^ j = a ^ k := by
  rw [pow_rest h j, pow_rest h k, e]
/-- the turning of n worths by a root -/
def T (w : R) (n : Nat) (a : Nat → R) (k : Nat) : R := rs (fun j => a j * w ^ (j * k)) n
/-- a root of a length: its sums over all powers are nought, but for the power 0 -/
structure Rt (w : R) (n : Nat) : Prop where
  one : w ^ n = 1
  sum : ∀ d, 0 < d → d < n → rs (fun k => w ^ (d * k)) n = 0
/-- a round sum of products -/
def conv (n : Nat) (a b : Nat → R) (q : Nat) : R := rs (fun i => a i * b ((q + (n - i)) % n)) n
theorem T2 {w : R} {a : Nat → R} (h : Rt w 2) : T w 2 a 0 = a 0 + a 1 ∧ T w 2 a 1 = a 0 - a 1 := by
  have s := h.sum 1 (by decide) (by decide)
  have e : (0 : R) + w ^ (1 * 0) + w ^ (1 * 1) = 0 := s
  rw [Nat.mul_zero, Semiring.pow_zero, show 1 * 1 = 0 + 1 from rfl, Semiring.pow_succ, Semiring.pow_zero] at e
  constructor
  · show 0 + a 0 * w ^ (0 * 0) + a 1 * w ^ (1 * 0) = a 0 + a 1
    simp only [Nat.mul_zero]; rw [Semiring.pow_zero]; grind
  · show 0 + a 0 * w ^ (0 * 1) + a 1 * w ^ (1 * 1) = a 0 - a 1
    rw [Nat.zero_mul, show 1 * 1 = 0 + 1 from rfl, Semiring.pow_succ, Semiring.pow_zero]; grind
end
/-! ### rests of polynomials: linear, and known by the powers of x -/
theorem isum_rs {f : Nat → Int} : ∀ {n : Nat}, isum f n = rs f n
  | 0 => rfl
  | n + 1 => by
    show isum f n + f n = rs f n + f n
    rw [isum_rs]
theorem addL_len {x y : List Int} (h : x.length = y.length) : (addL x y).length = x.length := by
  unfold addL
  rw [List.length_zipWith]
  omega
theorem addL_getD {x y : List Int} (h : x.length = y.length) (t : Nat) : (addL x y).getD t 0 = x.getD t 0 + y.getD t 0 := by
  unfold addL
  rw [List.getD_eq_getElem?_getD, List.getD_eq_getElem?_getD, List.getD_eq_getElem?_getD, List.getElem?_zipWith]
  by_cases c : t < x.length
  · rw [List.getElem?_eq_getElem (by omega), List.getElem?_eq_getElem (by omega)]
    rfl
  · rw [List.getElem?_eq_none (by omega), List.getElem?_eq_none (by omega)]
    rfl
theorem addL_set {u v : Int} : ∀ {x y : List Int} {k : Nat}, (addL x y).set k (u + v) = addL (x.set k u) (y.set k v)
  | [], _, _ => rfl
  | _ :: _, [], _ => by
    unfold addL
    simp
  | a :: x, b :: y, 0 => rfl
  | a :: x, b :: y, k + 1 => by
    show (a + b) :: (addL x y).set k (u + v) = (a + b) :: addL (x.set k u) (y.set k v)
    rw [addL_set]
theorem addL_drop {x y : List Int} (h : x.length = y.length) : (addL x y).dropLast = addL x.dropLast y.dropLast := by
  rw [List.dropLast_eq_take, List.dropLast_eq_take, List.dropLast_eq_take, addL_len h, ← h]
  unfold addL
  rw [List.take_zipWith]
theorem subAt_add {start : Nat} {t1 t2 : Int} {bs r1 r2 : List Int} (h : r1.length = r2.length) : ∀ i : Nat, subAt start (t1 + t2) bs (addL r1 r2) i = addL (subAt start t1 bs r1 i) (subAt start t2 bs r2 i)
  | 0 => rfl
  | i + 1 => by
    rw [subAt, subAt, subAt, subAt_add h i, ← addL_set, addL_getD (by rw [subAt_len, subAt_len, h])]
    congr 1
    rw [Int.add_mul]
    omega
theorem dvN_add {bs x y : List Int} (h : x.length = y.length) : ∀ n : Nat, (dvN bs (addL x y) n).1 = addL (dvN bs x n).1 (dvN bs y n).1
  | 0 => rfl
  | n + 1 => by
    have hl : (dvN bs x n).1.length = (dvN bs y n).1.length := by rw [dvN_len.1, dvN_len.1, h]
    rw [dvN, dvN, dvN, dvS, dvS, dvS]
    show subAt _ _ bs (List.dropLast _) _ = addL (subAt _ _ bs (List.dropLast _) _) (subAt _ _ bs (List.dropLast _) _)
    rw [dvN_add h n, addL_len hl, addL_getD hl, addL_drop hl, subAt_add (by rw [List.length_dropLast, List.length_dropLast, hl]), ← hl]
theorem dvR_add {bs x y : List Int} (h : x.length = y.length) : dvR bs (addL x y) = addL (dvR bs x) (dvR bs y) := by
  have l1 : (dvN bs x (x.length - (bs.length - 1))).1.length = (dvN bs y (x.length - (bs.length - 1))).1.length := by rw [dvN_len.1, dvN_len.1, h]
  unfold dvR
  rw [addL_len h, dvN_add h, ← h, addL_len l1]
  unfold addL
  rw [List.zipWith_append l1, ← l1, List.zipWith_replicate]
  simp
theorem dvN_pad {bs g : List Int} (h : bs.length - 1 ≤ g.length) : ∀ n : Nat, (dvN bs (g ++ [0]) (n + 1)).1 = (dvN bs g n).1
  | 0 => by
    rw [dvN, dvN, dvN, dvS]
    show subAt _ _ bs (List.dropLast _) _ = g
    rw [List.dropLast_concat, show (g ++ [(0 : Int)]).length - 1 = g.length by rw [List.length_append]; rfl, show (g ++ [(0 : Int)]).getD g.length 0 = 0 by rw [List.getD_eq_getElem?_getD]; simp]
    exact subAt_zero (by omega)
  | n + 1 => by
    rw [dvN, dvS, dvN_pad h n]
    rfl
theorem dvR_pad {bs g : List Int} : dvR bs (g ++ [0]) = dvR bs g := by
  unfold dvR
  by_cases h : bs.length - 1 ≤ g.length
  · rw [show (g ++ [(0 : Int)]).length - (bs.length - 1) = (g.length - (bs.length - 1)) + 1 by rw [List.length_append]; show g.length + 1 - _ = _; omega, dvN_pad h]
  · rw [show (g ++ [(0 : Int)]).length - (bs.length - 1) = 0 by rw [List.length_append]; show g.length + 1 - _ = _; omega, show g.length - (bs.length - 1) = 0 by omega]
    show (g ++ [0]) ++ List.replicate (bs.length - 1 - (g ++ [(0 : Int)]).length) 0 = g ++ List.replicate (bs.length - 1 - g.length) 0
    rw [List.append_assoc]
    congr 1
    rw [show bs.length - 1 - g.length = (bs.length - 1 - (g ++ [(0 : Int)]).length) + 1 by rw [List.length_append]; show _ = _ - (g.length + 1) + 1; omega]
    rfl
theorem dvR_pads {bs g : List Int} : ∀ k : Nat, dvR bs (g ++ List.replicate k 0) = dvR bs g
  | 0 => by rw [List.replicate_zero, List.append_nil]
  | k + 1 => by rw [List.replicate_succ', ← List.append_assoc, dvR_pad, dvR_pads k]
def mono (e : Nat) : List Int := List.replicate e 0 ++ [1]
theorem dvR_lin {bs : List Int} (t : Nat) : ∀ (n : Nat) (g : List Int), g.length = n → (dvR bs g).getD t 0 = isum (fun e => g.getD e 0 * (dvR bs (mono e)).getD t 0) n
  | 0, g, h => by
    have : g = [] := List.eq_nil_of_length_eq_zero h
    subst this
    have e0 : dvR bs [] = List.replicate (bs.length - 1) (0 : Int) := by
      unfold dvR
      rw [show ([] : List Int).length - (bs.length - 1) = 0 from Nat.zero_sub _]
      rfl
    rw [e0]
    show (List.replicate (bs.length - 1) (0 : Int)).getD t 0 = 0
    rw [List.getD_eq_getElem?_getD, List.getElem?_replicate]
    split <;> rfl
  | n + 1, g, h => by
    obtain ⟨x, c, rfl⟩ : ∃ x c, g = x ++ [c] := ⟨g.dropLast, g.getLast (by intro z; rw [z] at h; cases h), (List.dropLast_concat_getLast _).symm⟩
    have hx : x.length = n := by
      rw [List.length_append] at h
      exact Nat.succ.inj h
    have e1 : x ++ [c] = addL (x ++ [0]) ((mono n).map (· * c)) := by
      unfold mono addL
      rw [List.map_append, List.map_replicate, Int.zero_mul, List.zipWith_append (by rw [List.length_replicate, hx])]
      have : List.zipWith (· + ·) x (List.replicate n (0 : Int)) = x := by
        rw [← hx]
        clear hx h
        induction x with
        | nil => rfl
        | cons a x ih =>
          show (a + 0) :: List.zipWith (· + ·) x (List.replicate x.length 0) = a :: x
          rw [ih, Int.add_zero]
      rw [this]
      show _ = x ++ [0 + 1 * c]
      rw [Int.one_mul, Int.zero_add]
    have hl : (x ++ [(0 : Int)]).length = ((mono n).map (· * c)).length := by
      unfold mono
      rw [List.length_map, List.length_append, List.length_append, List.length_replicate, hx]
      rfl
    have e2 : (dvR bs (x ++ [c])).getD t 0 = (dvR bs x).getD t 0 + c * (dvR bs (mono n)).getD t 0 := by
      rw [e1, dvR_add hl, dvR_pad, dvR_sc, addL_getD (by rw [List.length_map, dvR_len, dvR_len]), getD_sc, Int.mul_comm c]
    rw [e2, dvR_lin t n x hx, isum]
    congr 1
    · refine isum_congr fun e he => ?_
      congr 1
      rw [List.getD_eq_getElem?_getD, List.getD_eq_getElem?_getD, List.getElem?_append_left (by omega)]
    · congr 1
      rw [List.getD_eq_getElem?_getD, List.getElem?_append_right (by omega), hx, Nat.sub_self]
      rfl
theorem subAt_cons {start : Nat} {top : Int} {bs r : List Int} : ∀ i : Nat, subAt (start + 1) top bs (0 :: r) i = 0 :: subAt start top bs r i
  | 0 => rfl
  | i + 1 => by
    rw [subAt, subAt, subAt_cons i, show start + 1 + i = (start + i) + 1 by omega]
    rfl
theorem dvN_cons {bs row : List Int} : ∀ n : Nat, n ≤ row.length - (bs.length - 1) → (dvN bs (0 :: row) n).1 = 0 :: (dvN bs row n).1
  | 0, _ => rfl
  | n + 1, h => by
    have hl := (dvN_len (bs := bs) (row := row) (n := n)).1
    rw [dvN, dvN, dvS, dvS]
    show subAt _ _ bs (List.dropLast _) _ = 0 :: subAt _ _ bs (List.dropLast _) _
    rw [dvN_cons n (by omega)]
    generalize (dvN bs row n).1 = x at *
    cases x with
    | nil => simp only [List.length_nil] at hl; omega
    | cons a x =>
      rw [show (0 :: a :: x : List Int).length - 1 - (bs.length - 1) = ((a :: x).length - 1 - (bs.length - 1)) + 1 by simp only [List.length_cons] at hl ⊢; omega]
      exact subAt_cons _
theorem dvR_cons {bs row : List Int} : dvR bs (0 :: row) = dvR bs (0 :: dvR bs row) := by
  by_cases h : row.length < bs.length - 1
  · have e : dvR bs row = row ++ List.replicate (bs.length - 1 - row.length) 0 := by
      unfold dvR
      rw [show row.length - (bs.length - 1) = 0 by omega]
      rfl
    rw [e, ← List.cons_append, dvR_pads]
  · have l1 := (dvN_len (bs := bs) (row := row) (n := row.length - (bs.length - 1))).1
    have e1 : dvR bs row = (dvN bs row (row.length - (bs.length - 1))).1 := by
      unfold dvR
      rw [show bs.length - 1 - (dvN bs row (row.length - (bs.length - 1))).1.length = 0 by omega]
      exact List.append_nil _
    have hl := dvR_len (bs := bs) (row := row)
    unfold dvR
    unfold dvR at hl e1
    rw [show (0 :: row : List Int).length - (bs.length - 1) = (row.length - (bs.length - 1)) + 1 by simp only [List.length_cons]; omega]
    rw [e1] at hl ⊢
    rw [show (0 :: (dvN bs row (row.length - (bs.length - 1))).1 : List Int).length - (bs.length - 1) = 0 + 1 by simp only [List.length_cons]; omega]
    rw [dvN, dvS, dvN_cons _ (Nat.le_refl _)]
    rfl
/-- the numbers of the power e of x -/
def Pc (n e t : Nat) : Int := (rtP n e).getD t 0
theorem Pc_low {n u t : Nat} (h : u < wl n) : Pc n u t = if t = u then 1 else 0 := by
  unfold Pc rtP dvR
  unfold wl at h
  have e0 : (List.replicate u (0 : Int) ++ [(1 : Int)]).length - ((whl n).length - 1) = 0 := by
    rw [List.length_append, List.length_replicate, List.length_singleton]
    omega
  rw [e0]
  show ((List.replicate u (0 : Int) ++ [1]) ++ List.replicate _ 0).getD t 0 = _
  rw [List.getD_eq_getElem?_getD, List.getElem?_append]
  by_cases c : t < (List.replicate u (0 : Int) ++ [1]).length
  · rw [if_pos c, List.getElem?_append]
    rw [List.length_append, List.length_replicate] at c
    have c : t < u + 1 := c
    by_cases d : t < u
    · rw [if_pos (by rw [List.length_replicate]; exact d), if_neg (by omega), List.getElem?_replicate, if_pos d]
      rfl
    · rw [if_neg (by rw [List.length_replicate]; exact d), if_pos (by omega), List.length_replicate, show t - u = 0 by omega]
      rfl
  · rw [if_neg c, List.getElem?_replicate]
    rw [List.length_append, List.length_replicate] at c
    have c : ¬ t < u + 1 := c
    rw [if_neg (c := t = u) (by omega)]
    split <;> rfl
theorem Pc_step {n e t : Nat} : Pc n (e + 1) t = isum (fun v => Pc n e v * Pc n (v + 1) t) (wl n) := by
  have e1 : rtP n (e + 1) = dvR (whl n) (0 :: rtP n e) := by
    unfold rtP
    rw [List.replicate_succ, List.cons_append, dvR_cons]
  have l1 : (0 :: rtP n e).length = 1 + wl n := by
    rw [List.length_cons, rtP_len]
    omega
  unfold Pc
  rw [e1, dvR_lin t (1 + wl n) _ l1, isum_rs, isum_rs, rs_app]
  have z : rs (fun e' => (0 :: rtP n e).getD e' 0 * (dvR (whl n) (mono e')).getD t 0) 1 = 0 := by
    show (0 : Int) + 0 * _ = 0
    rw [Int.zero_mul]
    rfl
  rw [z, Int.zero_add]
  refine rs_congr fun v _ => ?_
  rw [Nat.add_comm 1 v]
  rfl
theorem Pc_add {n e : Nat} : ∀ k t : Nat, isum (fun u => Pc n e u * Pc n (u + k) t) (wl n) = Pc n (e + k) t
  | 0, t => by
    rw [isum_rs]
    by_cases c : t < wl n
    · rw [rs_one (k := t) c fun u hu ne => by rw [Nat.add_zero, Pc_low hu, if_neg (fun z => ne z.symm), Int.mul_zero], Nat.add_zero, Pc_low c, if_pos rfl, Int.mul_one]
      rfl
    · rw [rs_congr (g := fun _ => (0 : Int)) fun u hu => by rw [Nat.add_zero, Pc_low hu, if_neg (by omega), Int.mul_zero], rs_zero]
      unfold Pc
      rw [List.getD_eq_getElem?_getD, List.getElem?_eq_none (by rw [rtP_len]; omega)]
      rfl
  | k + 1, t => by
    have ih := fun v => Pc_add (n := n) (e := e) k v
    rw [show e + (k + 1) = (e + k) + 1 from rfl, Pc_step]
    rw [isum_congr (g := fun u => isum (fun v => Pc n e u * Pc n (u + k) v * Pc n (v + 1) t) (wl n)) fun u _ => by
      rw [show u + (k + 1) = (u + k) + 1 from rfl, Pc_step, isum_rs, isum_rs, ← rs_mul]
      exact rs_congr fun v _ => (Int.mul_assoc _ _ _).symm]
    rw [isum_comm]
    refine isum_congr fun v _ => ?_
    rw [← ih v, isum_rs, isum_rs]
    exact rs_mulr
theorem mul_co {n t : Nat} {a b : List Int} (ha : a.length = wl n) (hb : b.length = wl n) (h1 : 1 ≤ wl n) : (dvR (whl n) (pmul a b)).getD t 0 = isum (fun i => isum (fun j => a.getD i 0 * b.getD j 0 * Pc n (i + j) t) (wl n)) (wl n) := by
  rw [dvR_lin t _ _ (pmul_len (one := a) (two := b))]
  have e1 : isum (fun e => (pmul a b).getD e 0 * (dvR (whl n) (mono e)).getD t 0) (a.length + b.length - 1) = isum (fun e => isum (fun i => isum (fun j => if i + j = e then a.getD i 0 * b.getD j 0 * Pc n (i + j) t else 0) (wl n)) (wl n)) (a.length + b.length - 1) := by
    refine isum_congr fun e _ => ?_
    unfold pmul
    rw [pmN_get (by omega) (Nat.le_refl _), ha, hb, isum_rs, ← rs_mulr, isum_rs]
    refine rs_congr fun i _ => ?_
    rw [isum_rs, ← rs_mulr, isum_rs]
    refine rs_congr fun j _ => ?_
    by_cases c : i + j = e
    · rw [if_pos c, if_pos c, c]
      rfl
    · rw [if_neg c, if_neg c]
      exact Int.zero_mul _
  rw [e1, isum_comm]
  refine isum_congr fun i hi => ?_
  rw [isum_comm]
  refine isum_congr fun j hj => ?_
  rw [isum_rs, rs_one (k := i + j) (by omega) fun e _ ne => if_neg (fun z => ne z.symm), if_pos rfl]
/-! ### the worths of a ground are a ring -/
def gneg : Gk → Wt → Wt
  | .rests p, .i x => .i ((-x) % p)
  | .roots _, .v xs => .v (xs.map fun x => -x)
  | g, _ => gz g
theorem wr (g : Gk) (h : GkOk g) {a : Wt} (ha : nm g a) : (∃ p x, g = .rests p ∧ a = .i x ∧ 0 ≤ x ∧ x < p ∧ 2 ≤ p ∧ p ≤ 10000) ∨ (∃ n xs, g = .roots n ∧ a = .v xs ∧ xs.length = wl n ∧ 1 ≤ wl n) := by
  cases g with
  | rests p =>
    cases a with
    | v xs => exact ha.elim
    | i x => exact .inl ⟨p, x, rfl, rfl, ha.1, ha.2, (prs_b h).1, (prs_b h).2⟩
  | roots n =>
    cases a with
    | i x => exact ha.elim
    | v xs => exact .inr ⟨n, xs, rfl, rfl, ha, (wl1 h.1 h.2).1⟩
theorem nm_neg {g : Gk} {a : Wt} (h : GkOk g) (ha : nm g a) : nm g (gneg g a) := by
  rcases wr g h ha with ⟨p, x, rfl, rfl, _, _, p2, _⟩ | ⟨n, xs, rfl, rfl, l, _⟩
  · exact ⟨Int.emod_nonneg _ (by omega), Int.emod_lt_of_pos _ (by omega)⟩
  · show (xs.map _).length = _
    rw [List.length_map, l]
theorem em_l (a b p : Int) : (a % p * b) % p = a * b % p := by rw [Int.mul_emod, Int.emod_emod, ← Int.mul_emod]
theorem em_r (a b p : Int) : (a * (b % p)) % p = a * b % p := by rw [Int.mul_emod, Int.emod_emod, ← Int.mul_emod]
theorem ea_l (a b p : Int) : (a % p + b) % p = (a + b) % p := Int.emod_add_emod _ _ _
theorem ea_r (a b p : Int) : (a + b % p) % p = (a + b) % p := Int.add_emod_emod _ _ _
theorem getD_neg {l : List Int} {k : Nat} : (l.map fun x => -x).getD k 0 = -(l.getD k 0) := by
  rw [List.getD_eq_getElem?_getD, List.getElem?_map, List.getD_eq_getElem?_getD]
  cases l[k]? with
  | none => rfl
  | some v => rfl
theorem list_co {n : Nat} {a b : List Int} (ha : a.length = wl n) (hb : b.length = wl n) (h : ∀ t, a.getD t 0 = b.getD t 0) : a = b := by
  refine List.ext_getElem (by omega) fun i h1 h2 => ?_
  have := h i
  rw [List.getD_eq_getElem?_getD, List.getD_eq_getElem?_getD, List.getElem?_eq_getElem h1, List.getElem?_eq_getElem h2] at this
  exact this
theorem radd_cm {g : Gk} {a b : Wt} (h : GkOk g) (ha : nm g a) (hb : nm g b) : gadd g a b = gadd g b a := by
  rcases wr g h ha with ⟨p, x, rfl, rfl, _, _, p2, _⟩ | ⟨n, xs, rfl, rfl, l, _⟩ <;> cases b with
  | i y => first | exact hb.elim | (show Wt.i _ = Wt.i _; rw [Int.add_comm])
  | v ys => first | exact hb.elim | (show Wt.v (addL _ _) = Wt.v (addL _ _); exact congrArg Wt.v (list_co (n := n) (by rw [addL_len (l.trans hb.symm), l]) (by rw [addL_len (hb.trans l.symm)]; exact hb) fun t => by rw [addL_getD (l.trans hb.symm), addL_getD (hb.trans l.symm), Int.add_comm]))
theorem radd_as {g : Gk} {a b c : Wt} (h : GkOk g) (ha : nm g a) (hb : nm g b) (hc : nm g c) : gadd g (gadd g a b) c = gadd g a (gadd g b c) := by
  rcases wr g h ha with ⟨p, x, rfl, rfl, _, _, p2, _⟩ | ⟨n, xs, rfl, rfl, l, _⟩
  · cases b with
    | v ys => exact hb.elim
    | i y =>
      cases c with
      | v zs => exact hc.elim
      | i z =>
        show Wt.i _ = Wt.i _
        rw [ea_l, ea_r, Int.add_assoc]
  · cases b with
    | i y => exact hb.elim
    | v ys =>
      cases c with
      | i z => exact hc.elim
      | v zs =>
        have lb : ys.length = wl n := hb
        have lc : zs.length = wl n := hc
        show Wt.v (addL (addL _ _) _) = Wt.v (addL _ (addL _ _))
        have e1 : (addL xs ys).length = wl n := by rw [addL_len (l.trans lb.symm), l]
        have e2 : (addL ys zs).length = wl n := by rw [addL_len (lb.trans lc.symm), lb]
        refine congrArg Wt.v (list_co (n := n) (by rw [addL_len (e1.trans lc.symm), e1]) (by rw [addL_len (l.trans e2.symm), l]) fun t => ?_)
        rw [addL_getD (e1.trans lc.symm), addL_getD (l.trans e2.symm), addL_getD (l.trans lb.symm), addL_getD (lb.trans lc.symm), Int.add_assoc]
theorem radd_z {g : Gk} {a : Wt} (h : GkOk g) (ha : nm g a) : gadd g a (gz g) = a := by
  rcases wr g h ha with ⟨p, x, rfl, rfl, x0, x1, p2, _⟩ | ⟨n, xs, rfl, rfl, l, _⟩
  · show Wt.i ((x + 0) % p) = Wt.i x
    rw [Int.add_zero, Int.emod_eq_of_lt x0 x1]
  · show Wt.v (addL _ _) = Wt.v _
    have e : (List.replicate (wl n) (0 : Int)).length = wl n := List.length_replicate
    refine congrArg Wt.v (list_co (n := n) (by rw [addL_len (l.trans e.symm), l]) l fun t => ?_)
    rw [addL_getD (l.trans e.symm)]
    have z : (List.replicate (wl n) (0 : Int)).getD t 0 = 0 := co_z (g := .roots n) (t := t)
    rw [z, Int.add_zero]
theorem radd_neg {g : Gk} {a : Wt} (h : GkOk g) (ha : nm g a) : gadd g (gneg g a) a = gz g := by
  rcases wr g h ha with ⟨p, x, rfl, rfl, x0, x1, p2, _⟩ | ⟨n, xs, rfl, rfl, l, _⟩
  · show Wt.i (((-x) % p + x) % p) = Wt.i 0
    rw [ea_l, Int.add_left_neg, Int.zero_emod]
  · show Wt.v (addL _ _) = Wt.v _
    have e : (xs.map fun x => -x).length = wl n := by rw [List.length_map, l]
    refine congrArg Wt.v (list_co (n := n) (by rw [addL_len (e.trans l.symm), e]) List.length_replicate fun t => ?_)
    rw [addL_getD (e.trans l.symm), getD_neg, Int.add_left_neg]
    exact (co_z (g := .roots n) (t := t)).symm
theorem rmul_co {n t : Nat} {a b : List Int} (ha : a.length = wl n) (hb : b.length = wl n) (h1 : 1 ≤ wl n) : (dvR (whl n) (pmul a b)).getD t 0 = rs (fun i => rs (fun j => a.getD i 0 * b.getD j 0 * Pc n (i + j) t) (wl n)) (wl n) := by
  rw [mul_co ha hb h1, isum_rs]
  exact rs_congr fun i _ => isum_rs
theorem Pc_add' {n e k t : Nat} : rs (fun u => Pc n e u * Pc n (u + k) t) (wl n) = Pc n (e + k) t := by
  rw [← Pc_add, isum_rs]
theorem rmul_as {g : Gk} {a b c : Wt} (h : GkOk g) (ha : nm g a) (hb : nm g b) (hc : nm g c) : gmul g (gmul g a b) c = gmul g a (gmul g b c) := by
  rcases wr g h ha with ⟨p, x, rfl, rfl, _, _, p2, _⟩ | ⟨n, xs, rfl, rfl, l, w1⟩
  · cases b with
    | v ys => exact hb.elim
    | i y =>
      cases c with
      | v zs => exact hc.elim
      | i z =>
        show Wt.i _ = Wt.i _
        rw [em_l, em_r, Int.mul_assoc]
  · cases b with
    | i y => exact hb.elim
    | v ys =>
      cases c with
      | i z => exact hc.elim
      | v zs =>
        have lb : ys.length = wl n := hb
        have lc : zs.length = wl n := hc
        show Wt.v (dvR (whl n) (pmul (dvR (whl n) (pmul xs ys)) zs)) = Wt.v (dvR (whl n) (pmul xs (dvR (whl n) (pmul ys zs))))
        have e1 : (dvR (whl n) (pmul xs ys)).length = wl n := dvR_len
        have e2 : (dvR (whl n) (pmul ys zs)).length = wl n := dvR_len
        refine congrArg Wt.v (list_co (n := n) dvR_len dvR_len fun t => ?_)
        rw [rmul_co e1 lc w1, rmul_co l e2 w1]
        have L : rs (fun i => rs (fun j => (dvR (whl n) (pmul xs ys)).getD i 0 * zs.getD j 0 * Pc n (i + j) t) (wl n)) (wl n) = rs (fun i => rs (fun j => rs (fun k => xs.getD i 0 * ys.getD j 0 * zs.getD k 0 * Pc n (i + j + k) t) (wl n)) (wl n)) (wl n) := by
          rw [rs_comm]
          rw [show (fun k => rs (fun u => (dvR (whl n) (pmul xs ys)).getD u 0 * zs.getD k 0 * Pc n (u + k) t) (wl n)) = fun k => rs (fun i => rs (fun j => xs.getD i 0 * ys.getD j 0 * zs.getD k 0 * Pc n (i + j + k) t) (wl n)) (wl n) from funext fun k => ?_]
          · rw [rs_comm]
            exact rs_congr fun i _ => rs_comm
          · rw [show (fun u => (dvR (whl n) (pmul xs ys)).getD u 0 * zs.getD k 0 * Pc n (u + k) t) = fun u => rs (fun i => rs (fun j => xs.getD i 0 * ys.getD j 0 * zs.getD k 0 * (Pc n (i + j) u * Pc n (u + k) t)) (wl n)) (wl n) from funext fun u => ?_]
            · rw [rs_comm]
              refine rs_congr fun i _ => ?_
              rw [rs_comm]
              refine rs_congr fun j _ => ?_
              rw [rs_mul, Pc_add']
            · rw [rmul_co l lb w1, Int.mul_assoc]
              rw [← rs_mulr]
              refine rs_congr fun i _ => ?_
              rw [← rs_mulr]
              refine rs_congr fun j _ => ?_
              grind
        have R : rs (fun i => rs (fun j => xs.getD i 0 * (dvR (whl n) (pmul ys zs)).getD j 0 * Pc n (i + j) t) (wl n)) (wl n) = rs (fun i => rs (fun j => rs (fun k => xs.getD i 0 * ys.getD j 0 * zs.getD k 0 * Pc n (i + j + k) t) (wl n)) (wl n)) (wl n) := by
          refine rs_congr fun i _ => ?_
          rw [show (fun u => xs.getD i 0 * (dvR (whl n) (pmul ys zs)).getD u 0 * Pc n (i + u) t) = fun u => rs (fun j => rs (fun k => xs.getD i 0 * ys.getD j 0 * zs.getD k 0 * (Pc n (j + k) u * Pc n (u + i) t)) (wl n)) (wl n) from funext fun u => ?_]
          · rw [rs_comm]
            refine rs_congr fun j _ => ?_
            rw [rs_comm]
            refine rs_congr fun k _ => ?_
            rw [rs_mul, Pc_add', show j + k + i = i + j + k by omega]
          · rw [rmul_co lb lc w1, Nat.add_comm i u, Int.mul_assoc, Int.mul_comm (rs _ _), ← Int.mul_assoc, ← rs_mul]
            refine rs_congr fun j _ => ?_
            rw [← rs_mul]
            refine rs_congr fun k _ => ?_
            grind
        rw [L, R]
theorem rmul_add {g : Gk} {a b c : Wt} (h : GkOk g) (ha : nm g a) (hb : nm g b) (hc : nm g c) : gmul g a (gadd g b c) = gadd g (gmul g a b) (gmul g a c) := by
  rcases wr g h ha with ⟨p, x, rfl, rfl, _, _, p2, _⟩ | ⟨n, xs, rfl, rfl, l, w1⟩
  · cases b with
    | v ys => exact hb.elim
    | i y =>
      cases c with
      | v zs => exact hc.elim
      | i z =>
        show Wt.i _ = Wt.i _
        rw [em_r, ea_l, ea_r, Int.mul_add]
  · cases b with
    | i y => exact hb.elim
    | v ys =>
      cases c with
      | i z => exact hc.elim
      | v zs =>
        have lb : ys.length = wl n := hb
        have lc : zs.length = wl n := hc
        show Wt.v (dvR (whl n) (pmul xs (addL ys zs))) = Wt.v (addL (dvR (whl n) (pmul xs ys)) (dvR (whl n) (pmul xs zs)))
        have e1 : (addL ys zs).length = wl n := by rw [addL_len (lb.trans lc.symm), lb]
        have e2 : (dvR (whl n) (pmul xs ys)).length = (dvR (whl n) (pmul xs zs)).length := by rw [dvR_len, dvR_len]
        refine congrArg Wt.v (list_co (n := n) dvR_len (by rw [addL_len e2]; exact dvR_len) fun t => ?_)
        rw [addL_getD e2, rmul_co l e1 w1, rmul_co l lb w1, rmul_co l lc w1, ← rs_add]
        refine rs_congr fun i _ => ?_
        rw [← rs_add]
        refine rs_congr fun j _ => ?_
        rw [addL_getD (lb.trans lc.symm)]
        grind
theorem gw_co {n : Nat} (h1 : 1 ≤ wl n) {c : Int} {t : Nat} : (c :: List.replicate (wl n - 1) 0).getD t 0 = if t = 0 then c else 0 := by
  cases t with
  | zero => rfl
  | succ t =>
    rw [if_neg (by omega)]
    show (List.replicate (wl n - 1) (0 : Int)).getD t 0 = 0
    rw [List.getD_eq_getElem?_getD, List.getElem?_replicate]
    split <;> rfl
theorem rmul_one {g : Gk} {a : Wt} (h : GkOk g) (ha : nm g a) : gmul g a (gw g 1) = a := by
  rcases wr g h ha with ⟨p, x, rfl, rfl, x0, x1, p2, _⟩ | ⟨n, xs, rfl, rfl, l, w1⟩
  · show Wt.i (x * (1 % p) % p) = Wt.i x
    rw [em_r, Int.mul_one, Int.emod_eq_of_lt x0 x1]
  · show Wt.v (dvR (whl n) (pmul xs (1 :: List.replicate (wl n - 1) 0))) = Wt.v xs
    have e : (1 :: List.replicate (wl n - 1) (0 : Int)).length = wl n := by rw [List.length_cons, List.length_replicate]; omega
    refine congrArg Wt.v (list_co (n := n) dvR_len l fun t => ?_)
    rw [rmul_co l e w1]
    have e1 : rs (fun i => rs (fun j => xs.getD i 0 * (1 :: List.replicate (wl n - 1) (0 : Int)).getD j 0 * Pc n (i + j) t) (wl n)) (wl n) = rs (fun i => xs.getD i 0 * Pc n i t) (wl n) := by
      refine rs_congr fun i _ => ?_
      rw [rs_one (k := 0) (by omega) fun j _ ne => by rw [gw_co w1, if_neg ne, Int.mul_zero]; exact Int.zero_mul _, gw_co w1, if_pos rfl, Int.mul_one, Nat.add_zero]
    rw [e1]
    by_cases c : t < wl n
    · rw [rs_one (k := t) c fun i hi ne => by rw [Pc_low hi, if_neg (fun z => ne z.symm)]; exact Int.mul_zero _, Pc_low c, if_pos rfl, Int.mul_one]
    · rw [rs_congr (g := fun _ => (0 : Int)) fun i hi => by rw [Pc_low hi, if_neg (by omega)]; exact Int.mul_zero _, rs_zero, List.getD_eq_getElem?_getD, List.getElem?_eq_none (by omega)]
      rfl
theorem rmul_z {g : Gk} {a : Wt} (h : GkOk g) (ha : nm g a) : gmul g a (gz g) = gz g := by
  rcases wr g h ha with ⟨p, x, rfl, rfl, x0, x1, p2, _⟩ | ⟨n, xs, rfl, rfl, l, w1⟩
  · show Wt.i (x * 0 % p) = Wt.i 0
    rw [Int.mul_zero, Int.zero_emod]
  · show Wt.v (dvR (whl n) (pmul xs (List.replicate (wl n) 0))) = Wt.v (List.replicate (wl n) 0)
    refine congrArg Wt.v (list_co (n := n) dvR_len List.length_replicate fun t => ?_)
    have z : ∀ t, (List.replicate (wl n) (0 : Int)).getD t 0 = 0 := fun t => co_z (g := .roots n) (t := t)
    rw [rmul_co l List.length_replicate w1, z, rs_congr (g := fun _ => (0 : Int)) fun i _ => ?_, rs_zero]
    · rw [rs_congr (g := fun _ => (0 : Int)) fun j _ => ?_, rs_zero]
      rw [z, Int.mul_zero]
      exact Int.zero_mul _
structure GO where
  g : Gk
  ok : GkOk g
structure Rg (G : GO) where
  w : Wt
  ok : nm G.g w
theorem Rg.ex {G : GO} : ∀ {a b : Rg G}, a.1 = b.1 → a = b
  | ⟨_, _⟩, ⟨_, _⟩, rfl => rfl
section
open Lean.Grind
variable {G : GO}
def rgNat (G : GO) : Nat → Rg G
  | 0 => ⟨gz G.1, nm_z G.2⟩
  | n + 1 => ⟨gadd G.1 (rgNat G n).1 (gw G.1 1), nm_add G.2 (rgNat G n).2 (nm_gw G.2)⟩
def rgAdd (a b : Rg G) : Rg G := ⟨gadd G.1 a.1 b.1, nm_add G.2 a.2 b.2⟩
def rgMul (a b : Rg G) : Rg G := ⟨gmul G.1 a.1 b.1, nm_mul G.2 a.2 b.2⟩
def rgNeg (a : Rg G) : Rg G := ⟨gneg G.1 a.1, nm_neg G.2 a.2⟩
def rgInt (G : GO) : Int → Rg G
  | .ofNat n => rgNat G n
  | .negSucc n => rgNeg (rgNat G (n + 1))
def rgPow (a : Rg G) : Nat → Rg G
  | 0 => ⟨gw G.1 1, nm_gw G.2⟩
  | n + 1 => rgMul (rgPow a n) a
theorem rg_acm (a b : Rg G) : rgAdd a b = rgAdd b a := Rg.ex (radd_cm G.2 a.2 b.2)
theorem rg_aas (a b c : Rg G) : rgAdd (rgAdd a b) c = rgAdd a (rgAdd b c) := Rg.ex (radd_as G.2 a.2 b.2 c.2)
theorem rg_mcm (a b : Rg G) : rgMul a b = rgMul b a := Rg.ex (mul_cm G.2 a.2 b.2)
theorem rg_mas (a b c : Rg G) : rgMul (rgMul a b) c = rgMul a (rgMul b c) := Rg.ex (rmul_as G.2 a.2 b.2 c.2)
theorem rg_az (a : Rg G) : rgAdd a (rgNat G 0) = a := Rg.ex (radd_z G.2 a.2)
theorem rg_an (a : Rg G) : rgAdd (rgNeg a) a = rgNat G 0 := Rg.ex (radd_neg G.2 a.2)
theorem rg_z1 : rgNat G 1 = ⟨gw G.1 1, nm_gw G.2⟩ := by
  have e : rgNat G 1 = rgAdd (rgNat G 0) ⟨gw G.1 1, nm_gw G.2⟩ := rfl
  rw [e, rg_acm, rg_az]
theorem rg_m1 (a : Rg G) : rgMul a (rgNat G 1) = a := by
  rw [rg_z1]
  exact Rg.ex (rmul_one G.2 a.2)
theorem rg_mz (a : Rg G) : rgMul a (rgNat G 0) = rgNat G 0 := Rg.ex (rmul_z G.2 a.2)
theorem rg_ma (a b c : Rg G) : rgMul a (rgAdd b c) = rgAdd (rgMul a b) (rgMul a c) := Rg.ex (rmul_add G.2 a.2 b.2 c.2)
theorem rg_uneg {a b : Rg G} (h : rgAdd a b = rgNat G 0) : a = rgNeg b := by
  have e : rgAdd (rgAdd a b) (rgNeg b) = rgAdd (rgNat G 0) (rgNeg b) := by rw [h]
  rw [rg_aas, rg_acm b, rg_an, rg_az, rg_acm, rg_az] at e
  exact e
theorem rg_nz : rgNeg (rgNat G 0) = rgNat G 0 := (rg_uneg (rg_az _)).symm
theorem rg_nn (a : Rg G) : rgNeg (rgNeg a) = a := (rg_uneg (by rw [rg_acm, rg_an])).symm
theorem rg_nm (a b : Rg G) : rgMul (rgNeg a) b = rgNeg (rgMul a b) := rg_uneg (by
  rw [rg_mcm, rg_mcm a, ← rg_ma, rg_an, rg_mz])
theorem rg_ni (i : Int) : rgInt G (-i) = rgNeg (rgInt G i) := by
  cases i with
  | ofNat n =>
    cases n with
    | zero => exact rg_nz.symm
    | succ n => rfl
  | negSucc n => exact (rg_nn _).symm
instance instRg : CommRing (Rg G) where
  add := rgAdd
  mul := rgMul
  natCast := ⟨rgNat G⟩
  ofNat n := ⟨rgNat G n⟩
  nsmul := ⟨fun n a => rgMul (rgNat G n) a⟩
  npow := ⟨rgPow⟩
  neg := rgNeg
  sub a b := rgAdd a (rgNeg b)
  intCast := ⟨rgInt G⟩
  zsmul := ⟨fun i a => rgMul (rgInt G i) a⟩
  add_zero := rg_az
  add_comm := rg_acm
  add_assoc := rg_aas
  mul_assoc := rg_mas
  mul_one := rg_m1
  one_mul a := (rg_mcm _ _).trans (rg_m1 a)
  left_distrib := rg_ma
  right_distrib a b c := by
    show rgMul (rgAdd a b) c = rgAdd (rgMul a c) (rgMul b c)
    rw [rg_mcm, rg_ma, rg_mcm c, rg_mcm c]
  zero_mul a := (rg_mcm _ _).trans (rg_mz a)
  mul_zero := rg_mz
  pow_zero a := (rg_z1).symm
  pow_succ a n := rfl
  ofNat_succ n := by
    show rgNat G (n + 1) = rgAdd (rgNat G n) (rgNat G 1)
    rw [rg_z1]
    rfl
  ofNat_eq_natCast n := rfl
  nsmul_eq_natCast_mul n a := rfl
  neg_add_cancel := rg_an
  sub_eq_add_neg a b := rfl
  neg_zsmul i a := by
    show rgMul (rgInt G (-i)) a = rgNeg (rgMul (rgInt G i) a)
    rw [rg_ni, rg_nm]
  zsmul_natCast_eq_nsmul n a := rfl
  intCast_ofNat n := rfl
  intCast_neg := rg_ni
  mul_comm := rg_mcm
end
/-! ### powers by a prime: Fermat, and when they come round -/
def PrN (P : Nat) : Prop := 2 ≤ P ∧ ∀ d, 2 ≤ d → d < P → ¬ d ∣ P
theorem PrN.cop {P a : Nat} (h : PrN P) (ha : ¬ P ∣ a) : Nat.Coprime P a := by
  have d1 := Nat.gcd_dvd_left P a
  have d2 := Nat.gcd_dvd_right P a
  show Nat.gcd P a = 1
  generalize Nat.gcd P a = g at *
  have g0 : g ≠ 0 := fun z => by
    rw [z] at d1
    have := Nat.zero_dvd.mp d1
    have := h.1
    omega
  have gle : g ≤ P := Nat.le_of_dvd (by have := h.1; omega) d1
  by_cases e : g = 1
  · exact e
  · exfalso
    by_cases e2 : g = P
    · exact ha (e2 ▸ d2)
    · exact h.2 g (by omega) (by omega) d1
/-! ### roots of a ground in its ring -/
section
open Lean.Grind
theorem Rt.of {R : Type} [CommRing R] {w : R} {L : Nat} (h1 : w ^ L = 1) (h : ∀ d, 1 < d → d ∣ L → rs (fun k => (w ^ (L / d)) ^ k) d = 0) : Rt w L := by
  refine ⟨h1, fun d d0 dL => ?_⟩
  have g0 : 0 < Nat.gcd d L := Nat.gcd_pos_of_pos_left _ d0
  obtain ⟨d', hd'⟩ := Nat.gcd_dvd_left d L
  obtain ⟨L', hL'⟩ := Nat.gcd_dvd_right d L
  have cop : Nat.Coprime d' L' := by
    have := Nat.gcd_mul_left (Nat.gcd d L) d' L'
    rw [← hd', ← hL'] at this
    have e : Nat.gcd d L * Nat.gcd d' L' = Nat.gcd d L * 1 := by omega
    exact Nat.eq_of_mul_eq_mul_left g0 e
  generalize Nat.gcd d L = c at *
  have L1 : 1 < L' := by
    rcases Nat.lt_or_ge 1 L' with z | z
    · exact z
    · have dd : 0 < d' := by
        rcases Nat.eq_zero_or_pos d' with y | y
        · rw [y] at hd'; omega
        · exact y
      have : c * L' ≤ c * 1 := Nat.mul_le_mul_left c z
      have : c * 1 ≤ c * d' := Nat.mul_le_mul_left c dd
      omega
  have e1 : rs (fun k => w ^ (d * k)) L = rs (fun q => rs (fun r => w ^ (d * (q * L' + r))) L') c := by
    rw [hL', rs_grid]
  rw [e1, rs_congr (g := fun _ => (0 : R)) fun q _ => ?_, rs_zero]
  have e2 : L / L' = c := by rw [hL', Nat.mul_div_cancel _ (by omega)]
  have z := h L' L1 ⟨c, by rw [hL', Nat.mul_comm]⟩
  rw [e2] at z
  rw [← z]
  have one : (w ^ c) ^ L' = 1 := by rw [← pow_mul', ← hL', h1]
  refine Eq.trans ?_ (rs_perm (f := fun k => (w ^ c) ^ k) (σ := fun r => d' * r % L') (n := L') (fun r _ => Nat.mod_lt _ (by omega)) fun i hi j hj e => ?_)
  · refine rs_congr fun r _ => ?_
    rw [← pow_rest one, ← pow_mul']
    refine pow_alike h1 ?_
    have : d * (q * L' + r) = c * (d' * r) + L * (d' * q) := by
      rw [hd', hL']
      clear e1 e2 z one h h1 cop
      grind
    rw [this, Nat.add_mul_mod_self_left]
  · have e : d' * i % L' = d' * j % L' := e
    have key : ∀ {p q : Nat}, p < L' → q ≤ p → d' * p % L' = d' * q % L' → p = q := by
      intro p q hp hqp e
      have dv : L' ∣ d' * p - d' * q := Nat.dvd_of_mod_eq_zero (Nat.sub_mod_eq_zero_of_mod_eq e)
      rw [← Nat.mul_sub] at dv
      have := Nat.eq_zero_of_dvd_of_lt (cop.symm.dvd_of_dvd_mul_left dv) (by omega)
      omega
    rcases Nat.le_total i j with z | z
    · exact (key hj z e.symm).symm
    · exact key hi z e
variable {G : GO}
theorem rtP_n : ∀ n < 31, 1 ≤ n → rtP n n = rtP n 0 := by decide +kernel
end
/-! ### the law's turning is the ring's -/
section
open Lean.Grind
variable {G : GO}
end
/-! ### sizes of turned worths -/
def BB (B : Nat) : Wt → Prop
  | .i _ => True
  | .v xs => ∀ x ∈ xs, x.natAbs ≤ B
theorem BB.up {B C : Nat} {w : Wt} (h : BB B w) (e : B ≤ C) : BB C w := by
  cases w with
  | i x => exact True.intro
  | v xs => exact fun x hx => Nat.le_trans (h x hx) e
theorem BB.bw {B : Nat} {w : Wt} (h : BB B w) (e : B < 2 ^ 9000) : bw w := by
  cases w with
  | i x => exact True.intro
  | v xs => exact fun x hx => Nat.lt_of_le_of_lt (h x hx) e
theorem B9.bb {w : Wt} (h : B9 w) : BB 1000000000 w := by
  cases w with
  | i x => exact True.intro
  | v xs => exact h
theorem BB.co {B : Nat} {n : Nat} {xs : List Int} (h : BB B (.v xs)) (t : Nat) : (xs.getD t 0).natAbs ≤ B := by
  rw [List.getD_eq_getElem?_getD]
  cases e : xs[t]? with
  | none => exact Nat.zero_le _
  | some x => exact h x (List.mem_of_getElem? e)
theorem BB.of_co {B : Nat} {xs : List Int} (h : ∀ t, (xs.getD t 0).natAbs ≤ B) : BB B (.v xs) := fun x hx => by
  obtain ⟨i, hi⟩ := List.getElem?_of_mem hx
  have := h i
  rw [List.getD_eq_getElem?_getD, hi] at this
  exact this
theorem bb_z {g : Gk} {B : Nat} : BB B (gz g) := by
  cases g with
  | rests p => exact True.intro
  | roots n =>
    intro x hx
    rw [(List.mem_replicate.mp hx).2]
    exact Nat.zero_le _
theorem bb_add {g : Gk} {B C : Nat} {a b : Wt} (ha : nm g a) (hb : nm g b) (h1 : BB B a) (h2 : BB C b) : BB (B + C) (gadd g a b) := by
  cases g with
  | rests p =>
    cases a with
    | v xs => exact ha.elim
    | i a =>
      cases b with
      | v xs => exact hb.elim
      | i b => exact True.intro
  | roots n =>
    cases a with
    | i a => exact ha.elim
    | v a =>
      cases b with
      | i b => exact hb.elim
      | v b =>
        have la : a.length = wl n := ha
        have lb : b.length = wl n := hb
        refine BB.of_co fun t => ?_
        show ((addL a b).getD t 0).natAbs ≤ _
        rw [addL_getD (la.trans lb.symm)]
        have := h1.co (n := n) t
        have := h2.co (n := n) t
        omega
theorem rs_bd {f : Nat → Int} {C : Nat} : ∀ n : Nat, (∀ i < n, (f i).natAbs ≤ C) → (rs f n).natAbs ≤ n * C
  | 0, _ => by
    show (0 : Int).natAbs ≤ _
    exact Nat.zero_le _
  | n + 1, h => by
    have h1 := rs_bd n fun i hi => h i (by omega)
    have h2 := h n (by omega)
    show (rs f n + f n).natAbs ≤ _
    rw [Nat.succ_mul]
    omega
theorem wl_le : ∀ n < 31, 1 ≤ n → wl n ≤ n := by decide +kernel
theorem Pc_n {n k t : Nat} (hn : n < 31) (n1 : 1 ≤ n) : Pc n (n + k) t = Pc n k t := by
  rw [← Pc_add, isum_congr (g := fun u => Pc n 0 u * Pc n (u + k) t) fun u _ => by
    show (rtP n n).getD u 0 * _ = (rtP n 0).getD u 0 * _
    rw [rtP_n n hn n1], Pc_add, Nat.zero_add]
theorem Pc_bd {n e t : Nat} (hn : n < 31) (n1 : 1 ≤ n) (he : e < n + n) : (Pc n e t).natAbs ≤ 100 := by
  have low : ∀ e, e < n → (Pc n e t).natAbs ≤ 100 := fun e he => by
    unfold Pc
    rw [List.getD_eq_getElem?_getD]
    cases h : (rtP n e)[t]? with
    | none => exact Nat.zero_le _
    | some x => exact rtP_b n hn e he x (List.mem_of_getElem? h)
  by_cases c : e < n
  · exact low e c
  · rw [show e = n + (e - n) by omega, Pc_n hn n1]
    exact low _ (by omega)
theorem bb_rt {g : Gk} {B : Nat} {q : Int} {L m : Nat} {a : Wt} (h : GkOk g) (ha : nm g a) (h1 : BB B a) (L1 : 1 ≤ L) (hd : numM g % (L : Int) = 0) (hm : m < L) : BB (3000 * B) (gmul g a (rtW g q L m)) := by
  cases g with
  | rests p =>
    cases a with
    | v xs => exact ha.elim
    | i a => exact True.intro
  | roots n =>
    cases a with
    | i a => exact ha.elim
    | v a =>
      have la : a.length = wl n := ha
      obtain ⟨w1, w30⟩ := wl1 h.1 h.2
      have hdN : n % L = 0 := by
        have : (n : Int) % (L : Int) = 0 := hd
        omega
      have hl := rt_lt h.1 L1 hdN hm
      refine BB.of_co fun t => ?_
      show ((dvR (whl n) (pmul a (rtP n (n / L * m)))).getD t 0).natAbs ≤ _
      rw [rmul_co la rtP_len w1]
      have e : ∀ i, rs (fun j => a.getD i 0 * (rtP n (n / L * m)).getD j 0 * Pc n (i + j) t) (wl n) = a.getD i 0 * Pc n (n / L * m + i) t := fun i => by
        rw [← Pc_add', ← rs_mul]
        refine rs_congr fun j _ => ?_
        show a.getD i 0 * Pc n (n / L * m) j * Pc n (i + j) t = a.getD i 0 * (Pc n (n / L * m) j * Pc n (j + i) t)
        rw [Nat.add_comm i j, Int.mul_assoc]
      rw [rs_congr fun i _ => e i]
      refine Nat.le_trans (rs_bd (C := B * 100) _ fun i hi => ?_) ?_
      · rw [Int.natAbs_mul]
        have := wl_le n h.2 h.1
        exact Nat.mul_le_mul (h1.co (n := n) i) (Pc_bd h.2 h.1 (by omega))
      · calc wl n * (B * 100) ≤ 30 * (B * 100) := Nat.mul_le_mul_right _ w30
          _ = 3000 * B := by omega
theorem bb_tn {g : Gk} {B : Nat} {q s : Int} {ws : List Wt} {k : Nat} (h : GkOk g) (hw : Nms g ws) (hB : ∀ w ∈ ws, BB B w) (L1 : 1 ≤ ws.length) (hd : numM g % (ws.length : Int) = 0) : ∀ j, BB (j * (3000 * B)) (tnF g q ws s k j)
  | 0 => bb_z
  | j + 1 => by
    have hj : BB B (ws.getD j (gz g)) := by
      rw [List.getD_eq_getElem?_getD]
      cases e : ws[j]? with
      | none => exact bb_z
      | some w => exact hB w (List.mem_of_getElem? e)
    rw [Nat.succ_mul]
    exact bb_add (tnF_nm h hw j) (nm_mul h (hw.getD h _) (nm_rt h)) (bb_tn h hw hB L1 hd j) (bb_rt h (hw.getD h _) hj L1 hd (tix_lt L1))
theorem bb_trn {g : Gk} {B : Nat} {q s : Int} {ws : List Wt} (h : GkOk g) (hw : Nms g ws) (hB : ∀ w ∈ ws, BB B w) (L1 : 1 ≤ ws.length) (hd : numM g % (ws.length : Int) = 0) : ∀ w ∈ trn g q ws s, BB (ws.length * (3000 * B)) w := fun w hx => by
  obtain ⟨k, _, rfl⟩ := List.mem_map.mp hx
  exact bb_tn h hw hB L1 hd _
theorem bb_trn60 {g : Gk} {B : Nat} {q s : Int} {ws : List Wt} (h : GkOk g) (hw : Nms g ws) (hB : ∀ w ∈ ws, BB B w) (L1 : 1 ≤ ws.length) (l60 : ws.length ≤ 60) (hd : numM g % (ws.length : Int) = 0) : ∀ w ∈ trn g q ws s, BB (180000 * B) w := fun w hx =>
  (bb_trn h hw hB L1 hd w hx).up (by
    calc ws.length * (3000 * B) ≤ 60 * (3000 * B) := Nat.mul_le_mul_right _ l60
      _ = 180000 * B := by omega)
/-! ### what turnings keep -/
section
open Lean.Grind
variable {G : GO}
end
/-! ### a method of a ground, of whichever class -/
structure MthU (P : Program) (w : World) (K : PySem.W.Frag) (mg : Str → Option Value) (base : Heap) (CX : CXT) (k : Nat) (C1 C2 : Addr) (m : Str) (ps : List Str) (spU : Bool → Sp) : Prop where
  c1 : L2.Cls K C1
  c2 : L2.Cls K C2
  x : ∃ f1 d1 f2 d2, Meth K C1 m f1 ∧ Meth K C2 m f2 ∧ Binds K d1 ps [] ∧ Binds K d2 ps [] ∧ FnOk P w K mg base CX k f1 d1 ps (spU true) ∧ FnOk P w K mg base CX k f2 d2 ps (spU false)
  l : ∀ H a g, GrAt C1 C2 H a g → ∃ dx fs, H a = some (.ins (clG C1 C2 (kdG g)) dx fs) ∧ List.lookup m fs = none
def tMethU (C1 C2 : Addr) (spU : Bool → Sp) (E : XK) (ta : TE) (t : TA) : TE := fun σ H Q => ta σ H fun x H1 => ∃ (a : Addr) (g : Gk), x = .ref a ∧ GrAt C1 C2 H1 a g ∧ t σ H1 fun vs H2 => spU (kdG g) (.ref a :: vs) H2 Q E
section
variable {X : Cx} {CX : CXT} {k : Nat} {C1 C2 : Addr} {m : Str} {ps : List Str} {spU : Bool → Sp} {E : XK} {o e : Expr} {es : List Expr} {ta : TE} {t : TA} {apos pos : Pos}
theorem pe_methU {pl : Sem Bool} (he : PE X o ta) (M : MthU X.prog X.w X.K X.mg X.base CX k C1 C2 m ps spU) (hr : Room k X.A) (hx : Passes CX X E) (ha : PA X (e :: es) t)
    (hst : starEach (e :: es) X.env = (false, eval e X.env) :: starEach es X.env := by rfl) (hpl : (backTo pos (starEach es X.env)).any (·.1) = false := by rfl)
    (ht : eval (.Call (.Attribute o m apos) (e :: es) [] pos) X.env = (do
      let ov ← eval o X.env
      standAt apos.atName
      let (f, first) ← holding [ov] (getMethod ov m pl)
      callWith pos f first (backTo pos (starEach (e :: es) X.env)) (backToKw pos (keywordEach [] X.env))) := by rfl) :
    PE X (.Call (.Attribute o m apos) (e :: es) [] pos) (tMethU C1 C2 spU E ta t) := by
  obtain ⟨f1, d1, f2, d2, m1, m2, b1, b2, F1, F2⟩ := M.x
  refine ⟨fun pins s σ H Q I h => ?_⟩
  refine PySem.W.methodCall_KW (pl := pl) (thn (he.run pins s σ H _ I h) fun u s1 ⟨x, H1, I1, rx, a, g, ex, hG, q⟩ => ?_) ht
  subst ex
  obtain rfl : u = Value.ref a := rx
  obtain ⟨dx, fs, ea, l⟩ := M.l H1 a g hG
  cases hk : kdG g with
  | true =>
    rw [hk] at ea q
    refine getmeth_ok I1 ea M.c1 m1 l ?_
    refine PySem.W.callWith_K (first := [.ref a]) (h₀ := X.base) I.ok.mod.kin m1.kp (thn (ha.run pos pins s1 σ H1 _ I1 q) fun us s2 ⟨vs, H2, I2, r, q2⟩ => ⟨I2.kIn, ?_⟩) hst hpl
    have q2' : (spU true) ((.ref a :: vs) ++ []) H2 Q E := by rw [List.append_nil]; exact q2
    exact run_fn (us := .ref a :: us) (vs := .ref a :: vs) F1 hr b1 .nil hx I2 (.cons rfl r) q2'
  | false =>
    rw [hk] at ea q
    refine getmeth_ok I1 ea M.c2 m2 l ?_
    refine PySem.W.callWith_K (first := [.ref a]) (h₀ := X.base) I.ok.mod.kin m2.kp (thn (ha.run pos pins s1 σ H1 _ I1 q) fun us s2 ⟨vs, H2, I2, r, q2⟩ => ⟨I2.kIn, ?_⟩) hst hpl
    have q2' : (spU false) ((.ref a :: vs) ++ []) H2 Q E := by rw [List.append_nil]; exact q2
    exact run_fn (us := .ref a :: us) (vs := .ref a :: vs) F2 hr b2 .nil hx I2 (.cons rfl r) q2'
end
theorem GrAt.lk {C1 C2 : Addr} {H : Hp} {a : Addr} {g : Gk} {m : Str} (h : GrAt C1 C2 H a g) (n1 : m ≠ "prime") (n2 : m ≠ "base") (n3 : m ≠ "order") (n4 : m ≠ "rim") : ∃ dx fs, H a = some (.ins (clG C1 C2 (kdG g)) dx fs) ∧ List.lookup m fs = none := by
  have e : ∀ {x y : Str}, x ≠ y → (x == y) = false := fun h => by simpa using h
  cases g with
  | rests p =>
    obtain ⟨dx, gg, h1, h2⟩ := h
    refine ⟨dx, _, h1, ?_⟩
    rw [List.lookup_cons, e n1, List.lookup_cons, e n2]
    rfl
  | roots n =>
    obtain ⟨dx, r, h1, h2⟩ := h
    refine ⟨dx, _, h1, ?_⟩
    rw [List.lookup_cons, e n3, List.lookup_cons, e n4]
    rfl
section
variable {P : Program} {w : World} {K : PySem.W.Frag} {mg : Str → Option Value} {base : Heap}
theorem fnNo {k : Nat} {f : Addr} {fd : FuncData} {ps : List Str} {sp : Sp} (F : FnOk P w K mg base (L2.CX P w) k f fd ps sp) : FnOk P w K mg base CX0 k f fd ps (fun vs H Q _ => sp vs H Q fun _ _ _ => False) := by
  refine ⟨fun vs H Q E h => F.len _ _ _ _ h, fun A outer s H args us vs Q E hr e0 hb hv hs => codeAny_mono (F.run A outer s H args us vs Q _ hr e0 hb hv hs) fun r s' h => ?_⟩
  cases r with
  | ok fl => cases fl <;> exact h
  | error u =>
    obtain ⟨_, _, _, _, _, _, _, _, _, _, _, _, z⟩ := h
    exact z.elim
end
/-! ### worths with their sizes; the methods of a ground by these -/
def Wk (K : PySem.W.Frag) (H : Hp) (g : Gk) (v : V) (w : Wt) (k : Nat) : Prop := WtAt K H v w ∧ nm g w ∧ BB (2 ^ k) w
theorem Wk.same {K : PySem.W.Frag} {H H' : Hp} {g : Gk} {v : V} {w : Wt} {k : Nat} (h : Wk K H g v w k) (s : Same H H') : Wk K H' g v w k := ⟨h.1.same s, h.2⟩
theorem Wk.keep {K : PySem.W.Frag} {H H' : Hp} {g : Gk} {v : V} {w : Wt} {k : Nat} {b : Addr} {c : Int} (h : Wk K H g v w k) (hb : BoxAt H b c) (s : Keep b H H') : Wk K H' g v w k := ⟨h.1.keep hb s, h.2⟩
theorem Wk.bw {K : PySem.W.Frag} {H : Hp} {g : Gk} {v : V} {w : Wt} {k : Nat} (h : Wk K H g v w k) (e : k < 9000) : bw w := h.2.2.bw (Nat.pow_lt_pow_right (by decide) e)
section
variable {P : Program} {w : World} {K : PySem.W.Frag} {mg : Str → Option Value} {base : Heap}
end
/-! root_at, where the ground has the root -/
section
variable {P : Program} {w : World} {K : PySem.W.Frag} {mg : Str → Option Value} {base : Heap}
/-! shared_by, where the worth is so many times another -/
end
abbrev s_sum_at : Stmt := top 2
abbrev N_sum_at : List Str := ["ground", "row", "roots", "place", "told", "at", "worth"]
abbrev P_sum_at : List Str := ["ground", "row", "roots", "place"]
theorem sc_sum_at : FnScope N_sum_at P_sum_at (defScope s_sum_at) := ⟨rfl, rfl, rfl, by decide +kernel, rfl, by decide +kernel, by decide +kernel⟩
section
variable {P : Program} {w : World} {K : PySem.W.Frag} {mg : Str → Option Value} {base : Heap}
theorem ok_sm1L {f f1 f2 C1 C2 : Addr} {fd d1 d2 : FuncData} (F : Fun K "sum_at" "sum_at" s_sum_at f fd) (T : Blt mg) (CL_Rests : L2.Cls K C1) (B_Rests_sum_of : Binds K d1 P_Rests_sum_of []) (ME_Rests_sum_of : Meth K C1 "sum_of" f1) (G_Rests_sum_of : FnOk P w K mg base CX0 1 f1 d1 P_Rests_sum_of (spUa K C1 C2 true)) (B_Rests_product_of : Binds K d2 P_Rests_product_of []) (ME_Rests_product_of : Meth K C1 "product_of" f2) (G_Rests_product_of : FnOk P w K mg base CX0 2 f2 d2 P_Rests_product_of (spUm K C1 C2 true)) :
    FnOk P w K mg base CX0 3 f fd P_sum_at (fun vs H Q _ => ∃ (a x r : Addr) (g : Gk) (es rr : Es) (k : Nat), vs = [.ref a, .ref x, .ref r, .int (k : Int)] ∧ GrAt C1 C2 H a g ∧ kdG g = true ∧ GkOk g ∧ SqL K H x (es.map (·.1)) ∧ SqL K H r (rr.map (·.1)) ∧ SmIn K g H es rr k ∧ ∀ v H', Same H H' → WtAt K H' v (saF g (es.map (·.2)) (rr.map (·.2)) k (es.length - 1)) → Q v H') := by
  have nd := sc_sum_at.nd
  refine F.ok sc_sum_at (fun vs H Q E h => ?_) (fun cdv A outer s H vs Q E hr h => ?_)
  · obtain ⟨a, x, r, g, es, rr, k, rfl, _⟩ := h
    rfl
  · obtain ⟨a, x, r, g, es, rr, k, rfl, hG, hk, hok, hX, hR, ⟨e1, e60, hrl, hkL, wx, wr, nx, nr', bx, br⟩, q⟩ := h
    refine ⟨_, (pss_cons (ps_set (i := 4) nd rfl (Or.inl rfl) (pe_ix (r := rIxL K) ix_list (pv 1) (pe_int) (fun _ _ => rfl)))
      (pss_cons (ps_for PassesOwn.never rfl (pi_range2 (by rfl) T.b_range (pa_cons (pe_int) (pa_cons (pe_callB (r := rLenQ K) call_len_seq (by rfl) T.b_len (by decide +kernel) (pa_cons (pv 1) pa_nil)) pa_nil))) (pg_name (i := 5) nd rfl (Or.inl rfl))
      (pss_cons (ps_set (i := 6) nd rfl (Or.inl rfl) (pe_ix (r := rIxL K) ix_list (pv 1) (pv 5) (fun _ _ => rfl)))
      (pss_cons (ps_if (pt_cmpR op_gt (pv 3) (pe_int) (nomark _)) (pss_one (ps_set (i := 6) nd rfl (Or.inl rfl) (pe_meth (pv 0) CL_Rests ME_Rests_product_of G_Rests_product_of (hr.mono (by omega)) B_Rests_product_of .nil pass0 (pa_cons (pv 6) (pa_cons (pe_ix (r := rIxL K) ix_list (pv 2) (pe_op op_mod (pe_op op_mul (pv 5) (pv 3)) (pe_callB (r := rLenQ K) call_len_seq (by rfl) T.b_len (by decide +kernel) (pa_cons (pv 1) pa_nil))) (fun _ _ => rfl)) pa_nil))))) pss_nil)
      (pss_one (ps_set (i := 4) nd rfl (Or.inl rfl) (pe_meth (pv 0) CL_Rests ME_Rests_sum_of G_Rests_sum_of (hr.mono (by omega)) B_Rests_sum_of .nil pass0 (pa_cons (pv 4) (pa_cons (pv 6) pa_nil))))))))
      (pss_one (ps_ret (pv 4))))), ?_⟩
    obtain ⟨dx, fs, hins, fn0, fn1, fn2, fn3⟩ := hG.ins
    rw [hk] at hins
    have hins : H a = some (.ins C1 dx fs) := hins
    have lx : (es.map (·.1)).length = es.length := List.length_map _
    have l2 : (es.map (·.2)).length = es.length := List.length_map _
    obtain ⟨⟨v0, w0⟩, h0⟩ : ∃ e, es[0]? = some e := ⟨_, List.getElem?_eq_getElem (by omega)⟩
    have at0 : atI (es.map (·.1)) 0 = some v0 := at_of (j := 0) rfl (by rw [List.getElem?_map, h0]; rfl)
    have hX0 : SqL K H x (es.map (·.1)) ∨ SqT K H x (es.map (·.1)) := .inl hX
    walk_at "ev"
    refine for_range (lo := 1) (n := _) (fun i σ H' => Hold (∃ (v : V) (s5 s6 : Option V), σ = [some (.ref a), some (.ref x), some (.ref r), some (.int (k : Int)), some v, s5, s6] ∧ Same H H' ∧ WtAt K H' v (saF g (es.map (·.2)) (rr.map (·.2)) k i))) (.mk ⟨v0, _, _, rfl, Same.refl _, ?_⟩) ?_ ?_
    · show WtAt K H v0 ((es.map (·.2)).getD 0 (gz g))
      rw [es_snd h0]
      exact wx (v0, w0) (List.mem_of_getElem? h0)
    · intro i σ H2 hi hP
      obtain ⟨v, s5, s6, rfl, sm2, hv⟩ := hP.un
      have hil : i + 1 < es.length := by omega
      obtain ⟨⟨u, wu⟩, hwu⟩ : ∃ e, es[i + 1]? = some e := ⟨_, List.getElem?_eq_getElem hil⟩
      have euj : (es.map (·.2)).getD (i + 1) (gz g) = wu := es_snd hwu
      have hX2 : SqL K H2 x (es.map (·.1)) := sm2.seq hX
      have hX2' : SqL K H2 x (es.map (·.1)) ∨ SqT K H2 x (es.map (·.1)) := .inl hX2
      have hR2 := sm2.seq hR
      have hat : atI (es.map (·.1)) (1 + (i : Int)) = some u := at_of (j := i + 1) (by omega) (by rw [List.getElem?_map, hwu]; rfl)
      have hG2 := hG.same sm2
      have hins2 := sm2 _ _ hins
      have huA : WtAt K H2 u wu := (wx (u, wu) (List.mem_of_getElem? hwu)).same sm2
      have huN : nm g wu := nx wu (getD_m (d := wu) hwu)
      have huB : bw wu := bx wu (getD_m (d := wu) hwu)
      have hvN := saF_nm (k := k) hok nx nr' i
      walk_at "ev"
      refine ite2 (fun c => ?_) (fun c => ?_)
      · have ck : 0 < k := by have := of_decide_eq_true c; omega
        have hml : (i + 1) * k % es.length < es.length := Nat.mod_lt _ (by omega)
        obtain ⟨⟨rv, rw'⟩, hrv⟩ : ∃ e, rr[(i + 1) * k % es.length]? = some e := ⟨_, List.getElem?_eq_getElem (by omega)⟩
        have erw : (rr.map (·.2)).getD ((i + 1) * k % es.length) (gz g) = rw' := es_snd hrv
        have hIx : (1 + (i : Int)) * (k : Int) % ((es.map (·.1)).length : Int) = (((i + 1) * k % es.length : Nat) : Int) := by
          rw [lx, Int.natCast_emod, Int.natCast_mul, Int.natCast_add, Int.add_comm]
          rfl
        have hat2 : atI (rr.map (·.1)) ((1 + (i : Int)) * (k : Int) % ((es.map (·.1)).length : Int)) = some rv := at_of (j := (i + 1) * k % es.length) hIx (by rw [List.getElem?_map, hrv]; rfl)
        have cm : CMul (1 + (i : Int)) (k : Int) := .inl ⟨by omega, by omega⟩
        have hnp : 0 < ((es.map (·.1)).length : Int) := by omega
        have hrA : WtAt K H2 rv rw' := (wr (rv, rw') (List.mem_of_getElem? hrv)).same sm2
        have hrN : nm g rw' := nr' rw' (getD_m (d := rw') hrv)
        have hrB : bw rw' := br rw' (getD_m (d := rw') hrv)
        walk_at "ev"
        intro v7 H7 sm7 hv7
        have hG7 := hG2.same sm7
        have hins7 := sm7 _ _ hins2
        have hvA7 := hv.same sm7
        have hmN : nm g (gmul g wu rw') := nm_mul hok huN hrN
        walk_at "ev"
        intro v8 H8 sm8 hv8
        walk_at "ev"
        refine .mk ⟨v8, _, _, rfl, sm2.trans (sm7.trans sm8), ?_⟩
        rw [saF, if_pos ck, l2, euj, erw]
        exact hv8
      · have ck : ¬ 0 < k := fun z => c (decide_eq_true (by omega))
        walk_at "ev"
        intro v8 H8 sm8 hv8
        walk_at "ev"
        refine .mk ⟨v8, _, _, rfl, sm2.trans sm8, ?_⟩
        rw [saF, if_neg ck, euj]
        exact hv8
    · intro σ H2 hP
      obtain ⟨v, s5, s6, rfl, sm2, hv⟩ := hP.un
      walk_at "ev"
      refine q v H2 sm2 ?_
      rw [show es.length - 1 = (((es.map (·.1)).length : Int) - 1).toNat by omega]
      exact hv
theorem ok_sm1T {f f1 f2 C1 C2 : Addr} {fd d1 d2 : FuncData} (F : Fun K "sum_at" "sum_at" s_sum_at f fd) (T : Blt mg) (CL_Rests : L2.Cls K C1) (B_Rests_sum_of : Binds K d1 P_Rests_sum_of []) (ME_Rests_sum_of : Meth K C1 "sum_of" f1) (G_Rests_sum_of : FnOk P w K mg base CX0 1 f1 d1 P_Rests_sum_of (spUa K C1 C2 true)) (B_Rests_product_of : Binds K d2 P_Rests_product_of []) (ME_Rests_product_of : Meth K C1 "product_of" f2) (G_Rests_product_of : FnOk P w K mg base CX0 2 f2 d2 P_Rests_product_of (spUm K C1 C2 true)) :
    FnOk P w K mg base CX0 3 f fd P_sum_at (fun vs H Q _ => ∃ (a x r : Addr) (g : Gk) (es rr : Es) (k : Nat), vs = [.ref a, .ref x, .ref r, .int (k : Int)] ∧ GrAt C1 C2 H a g ∧ kdG g = true ∧ GkOk g ∧ SqT K H x (es.map (·.1)) ∧ SqL K H r (rr.map (·.1)) ∧ SmIn K g H es rr k ∧ ∀ v H', Same H H' → WtAt K H' v (saF g (es.map (·.2)) (rr.map (·.2)) k (es.length - 1)) → Q v H') := by
  have nd := sc_sum_at.nd
  refine F.ok sc_sum_at (fun vs H Q E h => ?_) (fun cdv A outer s H vs Q E hr h => ?_)
  · obtain ⟨a, x, r, g, es, rr, k, rfl, _⟩ := h
    rfl
  · obtain ⟨a, x, r, g, es, rr, k, rfl, hG, hk, hok, hX, hR, ⟨e1, e60, hrl, hkL, wx, wr, nx, nr', bx, br⟩, q⟩ := h
    refine ⟨_, (pss_cons (ps_set (i := 4) nd rfl (Or.inl rfl) (pe_ix (r := rIxT K) ix_tup (pv 1) (pe_int) (fun _ _ => rfl)))
      (pss_cons (ps_for PassesOwn.never rfl (pi_range2 (by rfl) T.b_range (pa_cons (pe_int) (pa_cons (pe_callB (r := rLenQ K) call_len_seq (by rfl) T.b_len (by decide +kernel) (pa_cons (pv 1) pa_nil)) pa_nil))) (pg_name (i := 5) nd rfl (Or.inl rfl))
      (pss_cons (ps_set (i := 6) nd rfl (Or.inl rfl) (pe_ix (r := rIxT K) ix_tup (pv 1) (pv 5) (fun _ _ => rfl)))
      (pss_cons (ps_if (pt_cmpR op_gt (pv 3) (pe_int) (nomark _)) (pss_one (ps_set (i := 6) nd rfl (Or.inl rfl) (pe_meth (pv 0) CL_Rests ME_Rests_product_of G_Rests_product_of (hr.mono (by omega)) B_Rests_product_of .nil pass0 (pa_cons (pv 6) (pa_cons (pe_ix (r := rIxL K) ix_list (pv 2) (pe_op op_mod (pe_op op_mul (pv 5) (pv 3)) (pe_callB (r := rLenQ K) call_len_seq (by rfl) T.b_len (by decide +kernel) (pa_cons (pv 1) pa_nil))) (fun _ _ => rfl)) pa_nil))))) pss_nil)
      (pss_one (ps_set (i := 4) nd rfl (Or.inl rfl) (pe_meth (pv 0) CL_Rests ME_Rests_sum_of G_Rests_sum_of (hr.mono (by omega)) B_Rests_sum_of .nil pass0 (pa_cons (pv 4) (pa_cons (pv 6) pa_nil))))))))
      (pss_one (ps_ret (pv 4))))), ?_⟩
    obtain ⟨dx, fs, hins, fn0, fn1, fn2, fn3⟩ := hG.ins
    rw [hk] at hins
    have hins : H a = some (.ins C1 dx fs) := hins
    have lx : (es.map (·.1)).length = es.length := List.length_map _
    have l2 : (es.map (·.2)).length = es.length := List.length_map _
    obtain ⟨⟨v0, w0⟩, h0⟩ : ∃ e, es[0]? = some e := ⟨_, List.getElem?_eq_getElem (by omega)⟩
    have at0 : atI (es.map (·.1)) 0 = some v0 := at_of (j := 0) rfl (by rw [List.getElem?_map, h0]; rfl)
    have hX0 : SqL K H x (es.map (·.1)) ∨ SqT K H x (es.map (·.1)) := .inr hX
    walk_at "ev"
    refine for_range (lo := 1) (n := _) (fun i σ H' => Hold (∃ (v : V) (s5 s6 : Option V), σ = [some (.ref a), some (.ref x), some (.ref r), some (.int (k : Int)), some v, s5, s6] ∧ Same H H' ∧ WtAt K H' v (saF g (es.map (·.2)) (rr.map (·.2)) k i))) (.mk ⟨v0, _, _, rfl, Same.refl _, ?_⟩) ?_ ?_
    · show WtAt K H v0 ((es.map (·.2)).getD 0 (gz g))
      rw [es_snd h0]
      exact wx (v0, w0) (List.mem_of_getElem? h0)
    · intro i σ H2 hi hP
      obtain ⟨v, s5, s6, rfl, sm2, hv⟩ := hP.un
      have hil : i + 1 < es.length := by omega
      obtain ⟨⟨u, wu⟩, hwu⟩ : ∃ e, es[i + 1]? = some e := ⟨_, List.getElem?_eq_getElem hil⟩
      have euj : (es.map (·.2)).getD (i + 1) (gz g) = wu := es_snd hwu
      have hX2 : SqT K H2 x (es.map (·.1)) := same_t sm2 hX
      have hX2' : SqL K H2 x (es.map (·.1)) ∨ SqT K H2 x (es.map (·.1)) := .inr hX2
      have hR2 := sm2.seq hR
      have hat : atI (es.map (·.1)) (1 + (i : Int)) = some u := at_of (j := i + 1) (by omega) (by rw [List.getElem?_map, hwu]; rfl)
      have hG2 := hG.same sm2
      have hins2 := sm2 _ _ hins
      have huA : WtAt K H2 u wu := (wx (u, wu) (List.mem_of_getElem? hwu)).same sm2
      have huN : nm g wu := nx wu (getD_m (d := wu) hwu)
      have huB : bw wu := bx wu (getD_m (d := wu) hwu)
      have hvN := saF_nm (k := k) hok nx nr' i
      walk_at "ev"
      refine ite2 (fun c => ?_) (fun c => ?_)
      · have ck : 0 < k := by have := of_decide_eq_true c; omega
        have hml : (i + 1) * k % es.length < es.length := Nat.mod_lt _ (by omega)
        obtain ⟨⟨rv, rw'⟩, hrv⟩ : ∃ e, rr[(i + 1) * k % es.length]? = some e := ⟨_, List.getElem?_eq_getElem (by omega)⟩
        have erw : (rr.map (·.2)).getD ((i + 1) * k % es.length) (gz g) = rw' := es_snd hrv
        have hIx : (1 + (i : Int)) * (k : Int) % ((es.map (·.1)).length : Int) = (((i + 1) * k % es.length : Nat) : Int) := by
          rw [lx, Int.natCast_emod, Int.natCast_mul, Int.natCast_add, Int.add_comm]
          rfl
        have hat2 : atI (rr.map (·.1)) ((1 + (i : Int)) * (k : Int) % ((es.map (·.1)).length : Int)) = some rv := at_of (j := (i + 1) * k % es.length) hIx (by rw [List.getElem?_map, hrv]; rfl)
        have cm : CMul (1 + (i : Int)) (k : Int) := .inl ⟨by omega, by omega⟩
        have hnp : 0 < ((es.map (·.1)).length : Int) := by omega
        have hrA : WtAt K H2 rv rw' := (wr (rv, rw') (List.mem_of_getElem? hrv)).same sm2
        have hrN : nm g rw' := nr' rw' (getD_m (d := rw') hrv)
        have hrB : bw rw' := br rw' (getD_m (d := rw') hrv)
        walk_at "ev"
        intro v7 H7 sm7 hv7
        have hG7 := hG2.same sm7
        have hins7 := sm7 _ _ hins2
        have hvA7 := hv.same sm7
        have hmN : nm g (gmul g wu rw') := nm_mul hok huN hrN
        walk_at "ev"
        intro v8 H8 sm8 hv8
        walk_at "ev"
        refine .mk ⟨v8, _, _, rfl, sm2.trans (sm7.trans sm8), ?_⟩
        rw [saF, if_pos ck, l2, euj, erw]
        exact hv8
      · have ck : ¬ 0 < k := fun z => c (decide_eq_true (by omega))
        walk_at "ev"
        intro v8 H8 sm8 hv8
        walk_at "ev"
        refine .mk ⟨v8, _, _, rfl, sm2.trans sm8, ?_⟩
        rw [saF, if_neg ck, euj]
        exact hv8
    · intro σ H2 hP
      obtain ⟨v, s5, s6, rfl, sm2, hv⟩ := hP.un
      walk_at "ev"
      refine q v H2 sm2 ?_
      rw [show es.length - 1 = (((es.map (·.1)).length : Int) - 1).toNat by omega]
      exact hv
theorem ok_sm2L {f f1 f2 C1 C2 : Addr} {fd d1 d2 : FuncData} (F : Fun K "sum_at" "sum_at" s_sum_at f fd) (T : Blt mg) (CL_Roots : L2.Cls K C2) (B_Roots_sum_of : Binds K d1 P_Roots_sum_of []) (ME_Roots_sum_of : Meth K C2 "sum_of" f1) (G_Roots_sum_of : FnOk P w K mg base CX0 1 f1 d1 P_Roots_sum_of (spUa K C1 C2 false)) (B_Roots_product_of : Binds K d2 P_Roots_product_of []) (ME_Roots_product_of : Meth K C2 "product_of" f2) (G_Roots_product_of : FnOk P w K mg base CX0 2 f2 d2 P_Roots_product_of (spUm K C1 C2 false)) :
    FnOk P w K mg base CX0 3 f fd P_sum_at (fun vs H Q _ => ∃ (a x r : Addr) (g : Gk) (es rr : Es) (k : Nat), vs = [.ref a, .ref x, .ref r, .int (k : Int)] ∧ GrAt C1 C2 H a g ∧ kdG g = false ∧ GkOk g ∧ SqL K H x (es.map (·.1)) ∧ SqL K H r (rr.map (·.1)) ∧ SmIn K g H es rr k ∧ ∀ v H', Same H H' → WtAt K H' v (saF g (es.map (·.2)) (rr.map (·.2)) k (es.length - 1)) → Q v H') := by
  have nd := sc_sum_at.nd
  refine F.ok sc_sum_at (fun vs H Q E h => ?_) (fun cdv A outer s H vs Q E hr h => ?_)
  · obtain ⟨a, x, r, g, es, rr, k, rfl, _⟩ := h
    rfl
  · obtain ⟨a, x, r, g, es, rr, k, rfl, hG, hk, hok, hX, hR, ⟨e1, e60, hrl, hkL, wx, wr, nx, nr', bx, br⟩, q⟩ := h
    refine ⟨_, (pss_cons (ps_set (i := 4) nd rfl (Or.inl rfl) (pe_ix (r := rIxL K) ix_list (pv 1) (pe_int) (fun _ _ => rfl)))
      (pss_cons (ps_for PassesOwn.never rfl (pi_range2 (by rfl) T.b_range (pa_cons (pe_int) (pa_cons (pe_callB (r := rLenQ K) call_len_seq (by rfl) T.b_len (by decide +kernel) (pa_cons (pv 1) pa_nil)) pa_nil))) (pg_name (i := 5) nd rfl (Or.inl rfl))
      (pss_cons (ps_set (i := 6) nd rfl (Or.inl rfl) (pe_ix (r := rIxL K) ix_list (pv 1) (pv 5) (fun _ _ => rfl)))
      (pss_cons (ps_if (pt_cmpR op_gt (pv 3) (pe_int) (nomark _)) (pss_one (ps_set (i := 6) nd rfl (Or.inl rfl) (pe_meth (pv 0) CL_Roots ME_Roots_product_of G_Roots_product_of (hr.mono (by omega)) B_Roots_product_of .nil pass0 (pa_cons (pv 6) (pa_cons (pe_ix (r := rIxL K) ix_list (pv 2) (pe_op op_mod (pe_op op_mul (pv 5) (pv 3)) (pe_callB (r := rLenQ K) call_len_seq (by rfl) T.b_len (by decide +kernel) (pa_cons (pv 1) pa_nil))) (fun _ _ => rfl)) pa_nil))))) pss_nil)
      (pss_one (ps_set (i := 4) nd rfl (Or.inl rfl) (pe_meth (pv 0) CL_Roots ME_Roots_sum_of G_Roots_sum_of (hr.mono (by omega)) B_Roots_sum_of .nil pass0 (pa_cons (pv 4) (pa_cons (pv 6) pa_nil))))))))
      (pss_one (ps_ret (pv 4))))), ?_⟩
    obtain ⟨dx, fs, hins, fn0, fn1, fn2, fn3⟩ := hG.ins
    rw [hk] at hins
    have hins : H a = some (.ins C2 dx fs) := hins
    have lx : (es.map (·.1)).length = es.length := List.length_map _
    have l2 : (es.map (·.2)).length = es.length := List.length_map _
    obtain ⟨⟨v0, w0⟩, h0⟩ : ∃ e, es[0]? = some e := ⟨_, List.getElem?_eq_getElem (by omega)⟩
    have at0 : atI (es.map (·.1)) 0 = some v0 := at_of (j := 0) rfl (by rw [List.getElem?_map, h0]; rfl)
    have hX0 : SqL K H x (es.map (·.1)) ∨ SqT K H x (es.map (·.1)) := .inl hX
    walk_at "ev"
    refine for_range (lo := 1) (n := _) (fun i σ H' => Hold (∃ (v : V) (s5 s6 : Option V), σ = [some (.ref a), some (.ref x), some (.ref r), some (.int (k : Int)), some v, s5, s6] ∧ Same H H' ∧ WtAt K H' v (saF g (es.map (·.2)) (rr.map (·.2)) k i))) (.mk ⟨v0, _, _, rfl, Same.refl _, ?_⟩) ?_ ?_
    · show WtAt K H v0 ((es.map (·.2)).getD 0 (gz g))
      rw [es_snd h0]
      exact wx (v0, w0) (List.mem_of_getElem? h0)
    · intro i σ H2 hi hP
      obtain ⟨v, s5, s6, rfl, sm2, hv⟩ := hP.un
      have hil : i + 1 < es.length := by omega
      obtain ⟨⟨u, wu⟩, hwu⟩ : ∃ e, es[i + 1]? = some e := ⟨_, List.getElem?_eq_getElem hil⟩
      have euj : (es.map (·.2)).getD (i + 1) (gz g) = wu := es_snd hwu
      have hX2 : SqL K H2 x (es.map (·.1)) := sm2.seq hX
      have hX2' : SqL K H2 x (es.map (·.1)) ∨ SqT K H2 x (es.map (·.1)) := .inl hX2
      have hR2 := sm2.seq hR
      have hat : atI (es.map (·.1)) (1 + (i : Int)) = some u := at_of (j := i + 1) (by omega) (by rw [List.getElem?_map, hwu]; rfl)
      have hG2 := hG.same sm2
      have hins2 := sm2 _ _ hins
      have huA : WtAt K H2 u wu := (wx (u, wu) (List.mem_of_getElem? hwu)).same sm2
      have huN : nm g wu := nx wu (getD_m (d := wu) hwu)
      have huB : bw wu := bx wu (getD_m (d := wu) hwu)
      have hvN := saF_nm (k := k) hok nx nr' i
      walk_at "ev"
      refine ite2 (fun c => ?_) (fun c => ?_)
      · have ck : 0 < k := by have := of_decide_eq_true c; omega
        have hml : (i + 1) * k % es.length < es.length := Nat.mod_lt _ (by omega)
        obtain ⟨⟨rv, rw'⟩, hrv⟩ : ∃ e, rr[(i + 1) * k % es.length]? = some e := ⟨_, List.getElem?_eq_getElem (by omega)⟩
        have erw : (rr.map (·.2)).getD ((i + 1) * k % es.length) (gz g) = rw' := es_snd hrv
        have hIx : (1 + (i : Int)) * (k : Int) % ((es.map (·.1)).length : Int) = (((i + 1) * k % es.length : Nat) : Int) := by
          rw [lx, Int.natCast_emod, Int.natCast_mul, Int.natCast_add, Int.add_comm]
          rfl
        have hat2 : atI (rr.map (·.1)) ((1 + (i : Int)) * (k : Int) % ((es.map (·.1)).length : Int)) = some rv := at_of (j := (i + 1) * k % es.length) hIx (by rw [List.getElem?_map, hrv]; rfl)
        have cm : CMul (1 + (i : Int)) (k : Int) := .inl ⟨by omega, by omega⟩
        have hnp : 0 < ((es.map (·.1)).length : Int) := by omega
        have hrA : WtAt K H2 rv rw' := (wr (rv, rw') (List.mem_of_getElem? hrv)).same sm2
        have hrN : nm g rw' := nr' rw' (getD_m (d := rw') hrv)
        have hrB : bw rw' := br rw' (getD_m (d := rw') hrv)
        walk_at "ev"
        intro v7 H7 sm7 hv7
        have hG7 := hG2.same sm7
        have hins7 := sm7 _ _ hins2
        have hvA7 := hv.same sm7
        have hmN : nm g (gmul g wu rw') := nm_mul hok huN hrN
        walk_at "ev"
        intro v8 H8 sm8 hv8
        walk_at "ev"
        refine .mk ⟨v8, _, _, rfl, sm2.trans (sm7.trans sm8), ?_⟩
        rw [saF, if_pos ck, l2, euj, erw]
        exact hv8
      · have ck : ¬ 0 < k := fun z => c (decide_eq_true (by omega))
        walk_at "ev"
        intro v8 H8 sm8 hv8
        walk_at "ev"
        refine .mk ⟨v8, _, _, rfl, sm2.trans sm8, ?_⟩
        rw [saF, if_neg ck, euj]
        exact hv8
    · intro σ H2 hP
      obtain ⟨v, s5, s6, rfl, sm2, hv⟩ := hP.un
      walk_at "ev"
      refine q v H2 sm2 ?_
      rw [show es.length - 1 = (((es.map (·.1)).length : Int) - 1).toNat by omega]
      exact hv
theorem ok_sm2T {f f1 f2 C1 C2 : Addr} {fd d1 d2 : FuncData} (F : Fun K "sum_at" "sum_at" s_sum_at f fd) (T : Blt mg) (CL_Roots : L2.Cls K C2) (B_Roots_sum_of : Binds K d1 P_Roots_sum_of []) (ME_Roots_sum_of : Meth K C2 "sum_of" f1) (G_Roots_sum_of : FnOk P w K mg base CX0 1 f1 d1 P_Roots_sum_of (spUa K C1 C2 false)) (B_Roots_product_of : Binds K d2 P_Roots_product_of []) (ME_Roots_product_of : Meth K C2 "product_of" f2) (G_Roots_product_of : FnOk P w K mg base CX0 2 f2 d2 P_Roots_product_of (spUm K C1 C2 false)) :
    FnOk P w K mg base CX0 3 f fd P_sum_at (fun vs H Q _ => ∃ (a x r : Addr) (g : Gk) (es rr : Es) (k : Nat), vs = [.ref a, .ref x, .ref r, .int (k : Int)] ∧ GrAt C1 C2 H a g ∧ kdG g = false ∧ GkOk g ∧ SqT K H x (es.map (·.1)) ∧ SqL K H r (rr.map (·.1)) ∧ SmIn K g H es rr k ∧ ∀ v H', Same H H' → WtAt K H' v (saF g (es.map (·.2)) (rr.map (·.2)) k (es.length - 1)) → Q v H') := by
  have nd := sc_sum_at.nd
  refine F.ok sc_sum_at (fun vs H Q E h => ?_) (fun cdv A outer s H vs Q E hr h => ?_)
  · obtain ⟨a, x, r, g, es, rr, k, rfl, _⟩ := h
    rfl
  · obtain ⟨a, x, r, g, es, rr, k, rfl, hG, hk, hok, hX, hR, ⟨e1, e60, hrl, hkL, wx, wr, nx, nr', bx, br⟩, q⟩ := h
    refine ⟨_, (pss_cons (ps_set (i := 4) nd rfl (Or.inl rfl) (pe_ix (r := rIxT K) ix_tup (pv 1) (pe_int) (fun _ _ => rfl)))
      (pss_cons (ps_for PassesOwn.never rfl (pi_range2 (by rfl) T.b_range (pa_cons (pe_int) (pa_cons (pe_callB (r := rLenQ K) call_len_seq (by rfl) T.b_len (by decide +kernel) (pa_cons (pv 1) pa_nil)) pa_nil))) (pg_name (i := 5) nd rfl (Or.inl rfl))
      (pss_cons (ps_set (i := 6) nd rfl (Or.inl rfl) (pe_ix (r := rIxT K) ix_tup (pv 1) (pv 5) (fun _ _ => rfl)))
      (pss_cons (ps_if (pt_cmpR op_gt (pv 3) (pe_int) (nomark _)) (pss_one (ps_set (i := 6) nd rfl (Or.inl rfl) (pe_meth (pv 0) CL_Roots ME_Roots_product_of G_Roots_product_of (hr.mono (by omega)) B_Roots_product_of .nil pass0 (pa_cons (pv 6) (pa_cons (pe_ix (r := rIxL K) ix_list (pv 2) (pe_op op_mod (pe_op op_mul (pv 5) (pv 3)) (pe_callB (r := rLenQ K) call_len_seq (by rfl) T.b_len (by decide +kernel) (pa_cons (pv 1) pa_nil))) (fun _ _ => rfl)) pa_nil))))) pss_nil)
      (pss_one (ps_set (i := 4) nd rfl (Or.inl rfl) (pe_meth (pv 0) CL_Roots ME_Roots_sum_of G_Roots_sum_of (hr.mono (by omega)) B_Roots_sum_of .nil pass0 (pa_cons (pv 4) (pa_cons (pv 6) pa_nil))))))))
      (pss_one (ps_ret (pv 4))))), ?_⟩
    obtain ⟨dx, fs, hins, fn0, fn1, fn2, fn3⟩ := hG.ins
    rw [hk] at hins
    have hins : H a = some (.ins C2 dx fs) := hins
    have lx : (es.map (·.1)).length = es.length := List.length_map _
    have l2 : (es.map (·.2)).length = es.length := List.length_map _
    obtain ⟨⟨v0, w0⟩, h0⟩ : ∃ e, es[0]? = some e := ⟨_, List.getElem?_eq_getElem (by omega)⟩
    have at0 : atI (es.map (·.1)) 0 = some v0 := at_of (j := 0) rfl (by rw [List.getElem?_map, h0]; rfl)
    have hX0 : SqL K H x (es.map (·.1)) ∨ SqT K H x (es.map (·.1)) := .inr hX
    walk_at "ev"
    refine for_range (lo := 1) (n := _) (fun i σ H' => Hold (∃ (v : V) (s5 s6 : Option V), σ = [some (.ref a), some (.ref x), some (.ref r), some (.int (k : Int)), some v, s5, s6] ∧ Same H H' ∧ WtAt K H' v (saF g (es.map (·.2)) (rr.map (·.2)) k i))) (.mk ⟨v0, _, _, rfl, Same.refl _, ?_⟩) ?_ ?_
    · show WtAt K H v0 ((es.map (·.2)).getD 0 (gz g))
      rw [es_snd h0]
      exact wx (v0, w0) (List.mem_of_getElem? h0)
    · intro i σ H2 hi hP
      obtain ⟨v, s5, s6, rfl, sm2, hv⟩ := hP.un
      have hil : i + 1 < es.length := by omega
      obtain ⟨⟨u, wu⟩, hwu⟩ : ∃ e, es[i + 1]? = some e := ⟨_, List.getElem?_eq_getElem hil⟩
      have euj : (es.map (·.2)).getD (i + 1) (gz g) = wu := es_snd hwu
      have hX2 : SqT K H2 x (es.map (·.1)) := same_t sm2 hX
      have hX2' : SqL K H2 x (es.map (·.1)) ∨ SqT K H2 x (es.map (·.1)) := .inr hX2
      have hR2 := sm2.seq hR
      have hat : atI (es.map (·.1)) (1 + (i : Int)) = some u := at_of (j := i + 1) (by omega) (by rw [List.getElem?_map, hwu]; rfl)
      have hG2 := hG.same sm2
      have hins2 := sm2 _ _ hins
      have huA : WtAt K H2 u wu := (wx (u, wu) (List.mem_of_getElem? hwu)).same sm2
      have huN : nm g wu := nx wu (getD_m (d := wu) hwu)
      have huB : bw wu := bx wu (getD_m (d := wu) hwu)
      have hvN := saF_nm (k := k) hok nx nr' i
      walk_at "ev"
      refine ite2 (fun c => ?_) (fun c => ?_)
      · have ck : 0 < k := by have := of_decide_eq_true c; omega
        have hml : (i + 1) * k % es.length < es.length := Nat.mod_lt _ (by omega)
        obtain ⟨⟨rv, rw'⟩, hrv⟩ : ∃ e, rr[(i + 1) * k % es.length]? = some e := ⟨_, List.getElem?_eq_getElem (by omega)⟩
        have erw : (rr.map (·.2)).getD ((i + 1) * k % es.length) (gz g) = rw' := es_snd hrv
        have hIx : (1 + (i : Int)) * (k : Int) % ((es.map (·.1)).length : Int) = (((i + 1) * k % es.length : Nat) : Int) := by
          rw [lx, Int.natCast_emod, Int.natCast_mul, Int.natCast_add, Int.add_comm]
          rfl
        have hat2 : atI (rr.map (·.1)) ((1 + (i : Int)) * (k : Int) % ((es.map (·.1)).length : Int)) = some rv := at_of (j := (i + 1) * k % es.length) hIx (by rw [List.getElem?_map, hrv]; rfl)
        have cm : CMul (1 + (i : Int)) (k : Int) := .inl ⟨by omega, by omega⟩
        have hnp : 0 < ((es.map (·.1)).length : Int) := by omega
        have hrA : WtAt K H2 rv rw' := (wr (rv, rw') (List.mem_of_getElem? hrv)).same sm2
        have hrN : nm g rw' := nr' rw' (getD_m (d := rw') hrv)
        have hrB : bw rw' := br rw' (getD_m (d := rw') hrv)
        walk_at "ev"
        intro v7 H7 sm7 hv7
        have hG7 := hG2.same sm7
        have hins7 := sm7 _ _ hins2
        have hvA7 := hv.same sm7
        have hmN : nm g (gmul g wu rw') := nm_mul hok huN hrN
        walk_at "ev"
        intro v8 H8 sm8 hv8
        walk_at "ev"
        refine .mk ⟨v8, _, _, rfl, sm2.trans (sm7.trans sm8), ?_⟩
        rw [saF, if_pos ck, l2, euj, erw]
        exact hv8
      · have ck : ¬ 0 < k := fun z => c (decide_eq_true (by omega))
        walk_at "ev"
        intro v8 H8 sm8 hv8
        walk_at "ev"
        refine .mk ⟨v8, _, _, rfl, sm2.trans sm8, ?_⟩
        rw [saF, if_neg ck, euj]
        exact hv8
    · intro σ H2 hP
      obtain ⟨v, s5, s6, rfl, sm2, hv⟩ := hP.un
      walk_at "ev"
      refine q v H2 sm2 ?_
      rw [show es.length - 1 = (((es.map (·.1)).length : Int) - 1).toNat by omega]
      exact hv
end
abbrev s_plain_turning : Stmt := top 3
abbrev N_plain_turning : List Str := ["ground", "row", "back", "length", "way", "roots", "sums", "power", "place", "worth"]
abbrev P_plain_turning : List Str := ["ground", "row", "back"]
theorem sc_plain_turning : FnScope N_plain_turning P_plain_turning (defScope s_plain_turning) := ⟨rfl, rfl, rfl, by decide +kernel, rfl, by decide +kernel, by decide +kernel⟩
section
variable {P : Program} {w : World} {K : PySem.W.Frag} {mg : Str → Option Value} {base : Heap}
theorem ok_pt1L {f f1 f2 f3 C1 C2 CR CS : Addr} {fd d1 d2 d3 : FuncData} (F : Fun K "plain_turning" "plain_turning" s_plain_turning f fd) (T : Blt mg) (CL_Rests : L2.Cls K C1) (B_Rests_root_at : Binds K d1 P_Rests_root_at []) (ME_Rests_root_at : Meth K C1 "root_at" f1) (G_Rests_root_at : FnOk P w K mg base (L2.CX P w) 3 f1 d1 P_Rests_root_at (spUr K C1 C2 CR true)) (B_Rests_shared_by : Binds K d2 P_Rests_shared_by []) (ME_Rests_shared_by : Meth K C1 "shared_by" f2) (G_Rests_shared_by : FnOk P w K mg base (L2.CX P w) 4 f2 d2 P_Rests_shared_by (spUs K C1 C2 CS true)) (D_sum_at : Df K mg "sum_at" s_sum_at P_sum_at f3 d3)
    (G_sum_at : FnOk P w K mg base CX0 3 f3 d3 P_sum_at (fun vs H Q _ => ∃ (a x r : Addr) (g : Gk) (es rr : Es) (k : Nat), vs = [.ref a, .ref x, .ref r, .int (k : Int)] ∧ GrAt C1 C2 H a g ∧ kdG g = true ∧ GkOk g ∧ SqL K H x (es.map (·.1)) ∧ SqL K H r (rr.map (·.1)) ∧ SmIn K g H es rr k ∧ ∀ v H', Same H H' → WtAt K H' v (saF g (es.map (·.2)) (rr.map (·.2)) k (es.length - 1)) → Q v H')) :
    FnOk P w K mg base (L2.CX P w) 5 f fd P_plain_turning (fun vs H Q E => ∃ (a x : Addr) (g : Gk) (es : Es) (bk : Bool), vs = [.ref a, .ref x, .bl bk] ∧ GrAt C1 C2 H a g ∧ kdG g = true ∧ GkOk g ∧ SqL K H x (es.map (·.1)) ∧ PtIn K g H es ∧ PtOut K CR CS g (es.map (·.2)) bk H Q E) := by
  have nd := sc_plain_turning.nd
  refine F.okX sc_plain_turning (fun vs H Q E h => ?_) (fun cdv A outer s H vs Q E hr h => ?_)
  · obtain ⟨a, x, g, es, bk, rfl, _⟩ := h
    rfl
  · obtain ⟨a, x, g, es, bk, rfl, hG, hk, hok, hX, ⟨wx, nx, bx, e1, e60⟩, qo⟩ := h
    refine ⟨_, (pss_cons (ps_set (i := 3) nd rfl (Or.inr rfl) (pe_callB (r := rLenQ K) call_len_seq (by rfl) T.b_len (by decide +kernel) (pa_cons (pv 1) pa_nil)))
      (pss_cons (ps_set (i := 4) nd rfl (Or.inr rfl) (pe_ifExp (pt_val (pv 2)) (pe_un un_neg (pe_int)) (pe_int)))
      (pss_cons (ps_set (i := 5) nd rfl (Or.inr rfl) (pe_lcX (own := [("power", 7)]) (g := gName 7) rfl rfl (takes_of rfl rfl rfl rfl) (by rfl) nd (pi_range1 (by rfl) T.b_range (pa_cons (pv 3) pa_nil)) (blkOk_by (own := [("power", 7)]) (N := N_plain_turning) (sc := defScope s_plain_turning) (by decide +kernel)) (fun _ _ _ _ _ _ => (pg_name (i := 7) nd rfl (Or.inl rfl))) (fun _ _ _ _ _ _ => pts_nil) (fun _ _ _ _ _ _ hp => (pe_meth (pv 0) CL_Rests ME_Rests_root_at G_Rests_root_at (hr.mono (by omega)) B_Rests_root_at .nil hp (pa_cons (pv 3) (pa_cons (pe_op op_mul (pv 4) (pv 7)) pa_nil))))))
      (pss_cons (ps_setLc (i := 6) (own := [("place", 8)]) (g := gName 8) (by rfl) nd rfl rfl (sw_true rfl rfl rfl (by decide +kernel)) (pi_range1 (by rfl) T.b_range (pa_cons (pv 3) pa_nil)) (blkOk_by (own := [("place", 8)]) (N := N_plain_turning) (sc := defScope s_plain_turning) (by decide +kernel)) (fun _ _ _ _ _ => (pg_name (i := 8) nd rfl (Or.inl rfl))) (fun _ _ _ _ _ => pts_nil) (fun _ _ _ _ _ => (pe_call G_sum_at (hr.mono (by omega)) (by rfl) D_sum_at.g D_sum_at.F.kp D_sum_at.b .nil pass0 (pa_cons (pv 0) (pa_cons (pv 1) (pa_cons (pv 5) (pa_cons (pv 8) pa_nil)))))))
      (pss_cons (ps_if (pt_val (pv 2)) (pss_one (ps_ret (pe_lcX (own := [("worth", 9)]) (g := gName 9) rfl rfl (takes_of rfl rfl rfl rfl) (by rfl) nd (pi_list (pv 6)) (blkOk_by (own := [("worth", 9)]) (N := N_plain_turning) (sc := defScope s_plain_turning) (by decide +kernel)) (fun _ _ _ _ _ _ => (pg_name (i := 9) nd rfl (Or.inl rfl))) (fun _ _ _ _ _ _ => pts_nil) (fun _ _ _ _ _ _ hp => (pe_meth (pv 0) CL_Rests ME_Rests_shared_by G_Rests_shared_by (hr.mono (by omega)) B_Rests_shared_by .nil hp (pa_cons (pv 9) (pa_cons (pv 3) pa_nil))))))) pss_nil)
      (pss_one (ps_ret (pv 6)))))))), ?_⟩
    obtain ⟨dx, fs, hins, fn0, fn1, fn2, fn3⟩ := hG.ins
    rw [hk] at hins
    have hins : H a = some (.ins C1 dx fs) := hins
    have lx : (es.map (·.1)).length = es.length := List.length_map _
    have l2 : (es.map (·.2)).length = es.length := List.length_map _
    have hX0 : SqL K H x (es.map (·.1)) ∨ SqT K H x (es.map (·.1)) := .inl hX
    unfold PtOut at qo
    rw [l2] at qo
    obtain ⟨qr, qf, qt, qs⟩ := qo
    cases bk with
    | false =>
      have cmul : ∀ i : Nat, i < es.length → CMul 1 (0 + (i : Int)) := fun i hi => .inl ⟨by omega, by omega⟩
      walk_at "ev"
      intro D hD
      refine lc_range (lo := 0) (n := _) (fun i H' => Hold (Same H H' ∧ ∃ rr : Es, H' D = some (.lst (rr.map (·.1))) ∧ WsAt K H' rr ∧ rr.length = i ∧ (0 < i → numM g % (es.length : Int) = 0 ∧ ∃ q, LgOk g q) ∧ ∀ q, LgOk g q → rr.map (·.2) = (List.range i).map fun m : Nat => rtW g q es.length (1 * (m : Int) % (es.length : Int)).toNat)) (.mk ⟨same_new hD, [], upd_same, (fun e he => by cases he), rfl, (fun z => absurd z (by omega)), fun _ _ => rfl⟩) ?_ ?_
      · intro i H1 hi hP
        obtain ⟨sm1, rr, hD1, wr1, rl1, rq1, rv1⟩ := hP.un
        have hil : i < es.length := by omega
        have hG1 := hG.same sm1
        have hins1 := sm1 _ _ hins
        have cm := cmul i hil
        have hsz : (rr.map (·.1)).length < sizeLine := szm (by rw [List.length_map]; omega)
        walk_at "ev"
        refine ⟨fun hdv v q H2 hlg sm2 hv => ?_, fun hdv d H2 hd sm2 hq => ?_⟩
        · rw [lx] at hdv hv
          refine ⟨_, sm2 _ _ hD1, hsz, .mk ⟨same_mut (sm1.trans sm2) hD, rr ++ [(v, rtW g q es.length (1 * (0 + (i : Int)) % (es.length : Int)).toNat)], by rw [upd_same, List.map_append]; rfl, ws_app (wr1.same sm2) hv (sm2 _ _ hD1), by rw [List.length_append, rl1]; rfl, fun _ => ⟨hdv, q, hlg⟩, fun q' hq' => ?_⟩⟩
          rw [List.map_append, rv1 q' hq', List.range_succ, List.map_append, hlg.un hq', Int.zero_add]
          rfl
        · rw [lx] at hdv hq
          exact qr hdv d H2 (sm1.free hd) (sm1.trans sm2) hq
      · intro H1 hP
        obtain ⟨sm1, rr, hD1, wr1, rl1, rq1, rv1⟩ := hP.un
        have eL : ((es.map (·.1)).length : Int).toNat = es.length := by rw [lx]; rfl
        rw [eL] at rl1 rq1 rv1
        obtain ⟨hdv, qq, hlg⟩ := rq1 (by omega)
        have rv := rv1 qq hlg
        have nmr : Nms g (rr.map (·.2)) := by
          rw [rv]
          intro w hw
          obtain ⟨m, _, rfl⟩ := List.mem_map.mp hw
          exact nm_rt hok
        have bwr : BwAt (rr.map (·.2)) := by
          rw [rv]
          intro w hw
          obtain ⟨m, _, rfl⟩ := List.mem_map.mp hw
          have i0 := Int.emod_nonneg (1 * (m : Int)) (show (es.length : Int) ≠ 0 by omega)
          have i1 := Int.emod_lt_of_pos (1 * (m : Int)) (show (0 : Int) < es.length by omega)
          exact bw_rt hok e1 hdv (by omega)
        clear rv1 rq1
        walk_at "ev"
        intro D2 hD2
        refine lc_range (lo := 0) (n := _) (fun k H' => Hold (Same H1 H' ∧ ∃ ss : Es, H' D2 = some (.lst (ss.map (·.1))) ∧ WsAt K H' ss ∧ ss.map (·.2) = (List.range k).map fun k => tnF g qq (es.map (·.2)) 1 k es.length)) (.mk ⟨same_new hD2, [], upd_same, (fun e he => by cases he), rfl⟩) ?_ ?_
        · intro k H3 hk hP
          obtain ⟨sm3, ss, hD3, ws3, sv3⟩ := hP.un
          have hkl : k < es.length := by omega
          have hsl : ss.length = k := by
            have := congrArg List.length sv3
            rw [List.length_map, List.length_map, List.length_range] at this
            exact this
          have hG3 := hG.same (sm1.trans sm3)
          have hX3 : SqL K H3 x (es.map (·.1)) := (sm1.trans sm3).seq hX
          have hR3 : SqL K H3 D (rr.map (·.1)) := SqL.of (sm3 _ _ hD1)
          have hin : SmIn K g H3 es rr k := ⟨e1, e60, rl1, hkl, wx.same (sm1.trans sm3), wr1.same sm3, nx, nmr, bx, bwr⟩
          have hsz : (ss.map (·.1)).length < sizeLine := szm (by rw [List.length_map]; omega)
          rw [Int.zero_add]
          walk_at "ev"
          intro v H4 sm4 hv
          have esa : saF g (es.map (·.2)) (rr.map (·.2)) k (es.length - 1) = tnF g qq (es.map (·.2)) 1 k es.length := by
            have := sa_tn (q := qq) (s := 1) (rts := rr.map (·.2)) (k := k) hok nx (by omega) (by rw [l2]; exact rv) (es.length - 1) (by omega)
            rw [this, show es.length - 1 + 1 = es.length by omega]
          rw [esa] at hv
          refine ⟨_, sm4 _ _ hD3, hsz, .mk ⟨same_mut (sm3.trans sm4) hD2, ss ++ [(v, tnF g qq (es.map (·.2)) 1 k es.length)], by rw [upd_same, List.map_append]; rfl, ws_app (ws3.same sm4) hv (sm4 _ _ hD3), ?_⟩⟩
          rw [List.map_append, sv3, List.range_succ, List.map_append]
          rfl
        · intro H3 hP
          obtain ⟨sm3, ss, hD3, ws3, sv3⟩ := hP.un
          rw [eL] at sv3
          have hsl : ss.length = es.length := by
            have := congrArg List.length sv3
            rw [List.length_map, List.length_map, List.length_range] at this
            exact this
          have sv : ss.map (·.2) = trn g qq (es.map (·.2)) 1 := by
            unfold trn
            rw [l2]
            exact sv3
          have s03 := sm1.trans sm3
          have hD2' := sm1.free hD2
          clear sv3
          walk_at "ev"
          exact qf hdv rfl qq D2 ss H3 hlg hD2' s03 hD3 ws3 sv
    | true =>
      have cmul : ∀ i : Nat, i < es.length → CMul (-1) (0 + (i : Int)) := fun i hi => .inl ⟨by omega, by omega⟩
      walk_at "ev"
      intro D hD
      refine lc_range (lo := 0) (n := _) (fun i H' => Hold (Same H H' ∧ ∃ rr : Es, H' D = some (.lst (rr.map (·.1))) ∧ WsAt K H' rr ∧ rr.length = i ∧ (0 < i → numM g % (es.length : Int) = 0 ∧ ∃ q, LgOk g q) ∧ ∀ q, LgOk g q → rr.map (·.2) = (List.range i).map fun m : Nat => rtW g q es.length ((-1) * (m : Int) % (es.length : Int)).toNat)) (.mk ⟨same_new hD, [], upd_same, (fun e he => by cases he), rfl, (fun z => absurd z (by omega)), fun _ _ => rfl⟩) ?_ ?_
      · intro i H1 hi hP
        obtain ⟨sm1, rr, hD1, wr1, rl1, rq1, rv1⟩ := hP.un
        have hil : i < es.length := by omega
        have hG1 := hG.same sm1
        have hins1 := sm1 _ _ hins
        have cm := cmul i hil
        have hsz : (rr.map (·.1)).length < sizeLine := szm (by rw [List.length_map]; omega)
        walk_at "ev"
        refine ⟨fun hdv v q H2 hlg sm2 hv => ?_, fun hdv d H2 hd sm2 hq => ?_⟩
        · rw [lx] at hdv hv
          refine ⟨_, sm2 _ _ hD1, hsz, .mk ⟨same_mut (sm1.trans sm2) hD, rr ++ [(v, rtW g q es.length ((-1) * (0 + (i : Int)) % (es.length : Int)).toNat)], by rw [upd_same, List.map_append]; rfl, ws_app (wr1.same sm2) hv (sm2 _ _ hD1), by rw [List.length_append, rl1]; rfl, fun _ => ⟨hdv, q, hlg⟩, fun q' hq' => ?_⟩⟩
          rw [List.map_append, rv1 q' hq', List.range_succ, List.map_append, hlg.un hq', Int.zero_add]
          rfl
        · rw [lx] at hdv hq
          exact qr hdv d H2 (sm1.free hd) (sm1.trans sm2) hq
      · intro H1 hP
        obtain ⟨sm1, rr, hD1, wr1, rl1, rq1, rv1⟩ := hP.un
        have eL : ((es.map (·.1)).length : Int).toNat = es.length := by rw [lx]; rfl
        rw [eL] at rl1 rq1 rv1
        obtain ⟨hdv, qq, hlg⟩ := rq1 (by omega)
        have rv := rv1 qq hlg
        have nmr : Nms g (rr.map (·.2)) := by
          rw [rv]
          intro w hw
          obtain ⟨m, _, rfl⟩ := List.mem_map.mp hw
          exact nm_rt hok
        have bwr : BwAt (rr.map (·.2)) := by
          rw [rv]
          intro w hw
          obtain ⟨m, _, rfl⟩ := List.mem_map.mp hw
          have i0 := Int.emod_nonneg ((-1) * (m : Int)) (show (es.length : Int) ≠ 0 by omega)
          have i1 := Int.emod_lt_of_pos ((-1) * (m : Int)) (show (0 : Int) < es.length by omega)
          exact bw_rt hok e1 hdv (by omega)
        clear rv1 rq1
        walk_at "ev"
        intro D2 hD2
        refine lc_range (lo := 0) (n := _) (fun k H' => Hold (Same H1 H' ∧ ∃ ss : Es, H' D2 = some (.lst (ss.map (·.1))) ∧ WsAt K H' ss ∧ ss.map (·.2) = (List.range k).map fun k => tnF g qq (es.map (·.2)) (-1) k es.length)) (.mk ⟨same_new hD2, [], upd_same, (fun e he => by cases he), rfl⟩) ?_ ?_
        · intro k H3 hk hP
          obtain ⟨sm3, ss, hD3, ws3, sv3⟩ := hP.un
          have hkl : k < es.length := by omega
          have hsl : ss.length = k := by
            have := congrArg List.length sv3
            rw [List.length_map, List.length_map, List.length_range] at this
            exact this
          have hG3 := hG.same (sm1.trans sm3)
          have hX3 : SqL K H3 x (es.map (·.1)) := (sm1.trans sm3).seq hX
          have hR3 : SqL K H3 D (rr.map (·.1)) := SqL.of (sm3 _ _ hD1)
          have hin : SmIn K g H3 es rr k := ⟨e1, e60, rl1, hkl, wx.same (sm1.trans sm3), wr1.same sm3, nx, nmr, bx, bwr⟩
          have hsz : (ss.map (·.1)).length < sizeLine := szm (by rw [List.length_map]; omega)
          rw [Int.zero_add]
          walk_at "ev"
          intro v H4 sm4 hv
          have esa : saF g (es.map (·.2)) (rr.map (·.2)) k (es.length - 1) = tnF g qq (es.map (·.2)) (-1) k es.length := by
            have := sa_tn (q := qq) (s := (-1)) (rts := rr.map (·.2)) (k := k) hok nx (by omega) (by rw [l2]; exact rv) (es.length - 1) (by omega)
            rw [this, show es.length - 1 + 1 = es.length by omega]
          rw [esa] at hv
          refine ⟨_, sm4 _ _ hD3, hsz, .mk ⟨same_mut (sm3.trans sm4) hD2, ss ++ [(v, tnF g qq (es.map (·.2)) (-1) k es.length)], by rw [upd_same, List.map_append]; rfl, ws_app (ws3.same sm4) hv (sm4 _ _ hD3), ?_⟩⟩
          rw [List.map_append, sv3, List.range_succ, List.map_append]
          rfl
        · intro H3 hP
          obtain ⟨sm3, ss, hD3, ws3, sv3⟩ := hP.un
          rw [eL] at sv3
          have hsl : ss.length = es.length := by
            have := congrArg List.length sv3
            rw [List.length_map, List.length_map, List.length_range] at this
            exact this
          have sv : ss.map (·.2) = trn g qq (es.map (·.2)) (-1) := by
            unfold trn
            rw [l2]
            exact sv3
          have s03 := sm1.trans sm3
          have hD2' := sm1.free hD2
          clear sv3
          have hG3 := hG.same s03
          have hins3 := s03 _ _ hins
          have hL2 : ∃ xs, SqL K H3 D2 xs := ⟨_, SqL.of hD3⟩
          have nms := trn_nms (q := qq) (s := -1) hok nx
          rw [← sv] at nms
          walk_at "ev"
          intro D4 hD4
          refine lc_list (K := K) (a := D2) (xs := ss.map (·.1)) (fun i H' => Hold (Same H3 H' ∧ ∃ ts : Es, H' D4 = some (.lst (ts.map (·.1))) ∧ WsAt K H' ts ∧ ts.length = i ∧ (∀ (j : Nat) (w : Wt), j < i → (ss.map (·.2))[j]? = some w → gcan g (es.length : Int) w) ∧ ∀ (j : Nat) (w w' : Wt), (ss.map (·.2))[j]? = some w → (ts.map (·.2))[j]? = some w' → gsh g (es.length : Int) w w')) (.mk ⟨same_new hD4, [], upd_same, (fun e he => by cases he), rfl, (fun j w z => absurd z (by omega)), fun j w w' _ z => by simp at z⟩) ?_ ?_ ?_
          · intro i H5 hi hP
            obtain ⟨sm5, _⟩ := hP.un
            exact SqL.of (sm5 _ _ hD3)
          · intro i u H5 hu hP
            obtain ⟨sm5, ts, hD5, ws5, tl5, tc5, tv5⟩ := hP.un
            obtain ⟨wu, hwu⟩ := es_get hu
            have hil : i < ss.length := (List.getElem?_eq_some_iff.mp hwu).1
            have h2u : (ss.map (·.2))[i]? = some wu := by rw [List.getElem?_map, hwu]; rfl
            have hG5 := hG3.same sm5
            have hins5 := sm5 _ _ hins3
            have huA : WtAt K H5 u wu := (ws3 (u, wu) (List.mem_of_getElem? hwu)).same sm5
            have huN : nm g wu := nms wu (List.mem_of_getElem? h2u)
            have m1 : (1 : Int) ≤ ((es.map (·.1)).length : Int) := by omega
            have m2 : ((es.map (·.1)).length : Int) ≤ 1000 := by omega
            have hsz : (ts.map (·.1)).length < sizeLine := szm (by rw [List.length_map]; omega)
            walk_at "ev"
            refine ⟨fun hcn v w' H6 hsh sm6 hv => ?_, fun hcn d H6 hd sm6 hq => ?_⟩
            · rw [lx] at hcn hsh
              refine ⟨_, sm6 _ _ hD5, hsz, .mk ⟨same_mut (sm5.trans sm6) hD4, ts ++ [(v, w')], by rw [upd_same, List.map_append]; rfl, ws_app (ws5.same sm6) hv (sm6 _ _ hD5), by rw [List.length_append, tl5]; rfl, fun j w hj hw => ?_, fun j w w2 hw hw2 => ?_⟩⟩
              · by_cases c : j < i
                · exact tc5 j w c hw
                · have e : j = i := by omega
                  subst e
                  rw [h2u] at hw
                  cases hw
                  exact hcn
              · rw [List.map_append] at hw2
                by_cases c : j < i
                · rw [List.getElem?_append_left (by rw [List.length_map]; omega)] at hw2
                  exact tv5 j w w2 hw hw2
                · have hj : j < (ts.map (·.2) ++ [w']).length := (List.getElem?_eq_some_iff.mp hw2).1
                  rw [List.length_append, List.length_map, tl5] at hj
                  have e : j = i := by
                    have : [w'].length = 1 := rfl
                    omega
                  subst e
                  rw [h2u] at hw
                  cases hw
                  rw [List.getElem?_append_right (by rw [List.length_map]; omega), List.length_map, tl5, Nat.sub_self] at hw2
                  cases hw2
                  exact hsh
            · rw [lx] at hcn hq
              refine qs hdv rfl qq hlg (fun all => hcn (all wu ?_)) d H6 (s03.free (sm5.free hd)) (s03.trans (sm5.trans sm6)) hq
              rw [← sv]
              exact List.mem_of_getElem? h2u
          · intro H5 hP
            obtain ⟨sm5, ts, hD5, ws5, tl5, tc5, tv5⟩ := hP.un
            rw [List.length_map] at tl5 tc5
            walk_at "ev"
            refine qt hdv rfl qq hlg (fun w hw => ?_) D4 ts H5 (s03.free hD4) (s03.trans sm5) hD5 ws5 ⟨?_, fun j w w' hw hw' => tv5 j w w' (by rw [sv]; exact hw) hw'⟩
            · rw [← sv] at hw
              obtain ⟨j, hj⟩ := List.getElem?_of_mem hw
              refine tc5 j w ?_ hj
              have := (List.getElem?_eq_some_iff.mp hj).1
              rw [List.length_map] at this
              exact this
            · rw [List.length_map, tl5, ← sv, List.length_map]
theorem ok_pt1T {f f1 f2 f3 C1 C2 CR CS : Addr} {fd d1 d2 d3 : FuncData} (F : Fun K "plain_turning" "plain_turning" s_plain_turning f fd) (T : Blt mg) (CL_Rests : L2.Cls K C1) (B_Rests_root_at : Binds K d1 P_Rests_root_at []) (ME_Rests_root_at : Meth K C1 "root_at" f1) (G_Rests_root_at : FnOk P w K mg base (L2.CX P w) 3 f1 d1 P_Rests_root_at (spUr K C1 C2 CR true)) (B_Rests_shared_by : Binds K d2 P_Rests_shared_by []) (ME_Rests_shared_by : Meth K C1 "shared_by" f2) (G_Rests_shared_by : FnOk P w K mg base (L2.CX P w) 4 f2 d2 P_Rests_shared_by (spUs K C1 C2 CS true)) (D_sum_at : Df K mg "sum_at" s_sum_at P_sum_at f3 d3)
    (G_sum_at : FnOk P w K mg base CX0 3 f3 d3 P_sum_at (fun vs H Q _ => ∃ (a x r : Addr) (g : Gk) (es rr : Es) (k : Nat), vs = [.ref a, .ref x, .ref r, .int (k : Int)] ∧ GrAt C1 C2 H a g ∧ kdG g = true ∧ GkOk g ∧ SqT K H x (es.map (·.1)) ∧ SqL K H r (rr.map (·.1)) ∧ SmIn K g H es rr k ∧ ∀ v H', Same H H' → WtAt K H' v (saF g (es.map (·.2)) (rr.map (·.2)) k (es.length - 1)) → Q v H')) :
    FnOk P w K mg base (L2.CX P w) 5 f fd P_plain_turning (fun vs H Q E => ∃ (a x : Addr) (g : Gk) (es : Es) (bk : Bool), vs = [.ref a, .ref x, .bl bk] ∧ GrAt C1 C2 H a g ∧ kdG g = true ∧ GkOk g ∧ SqT K H x (es.map (·.1)) ∧ PtIn K g H es ∧ PtOut K CR CS g (es.map (·.2)) bk H Q E) := by
  have nd := sc_plain_turning.nd
  refine F.okX sc_plain_turning (fun vs H Q E h => ?_) (fun cdv A outer s H vs Q E hr h => ?_)
  · obtain ⟨a, x, g, es, bk, rfl, _⟩ := h
    rfl
  · obtain ⟨a, x, g, es, bk, rfl, hG, hk, hok, hX, ⟨wx, nx, bx, e1, e60⟩, qo⟩ := h
    refine ⟨_, (pss_cons (ps_set (i := 3) nd rfl (Or.inr rfl) (pe_callB (r := rLenQ K) call_len_seq (by rfl) T.b_len (by decide +kernel) (pa_cons (pv 1) pa_nil)))
      (pss_cons (ps_set (i := 4) nd rfl (Or.inr rfl) (pe_ifExp (pt_val (pv 2)) (pe_un un_neg (pe_int)) (pe_int)))
      (pss_cons (ps_set (i := 5) nd rfl (Or.inr rfl) (pe_lcX (own := [("power", 7)]) (g := gName 7) rfl rfl (takes_of rfl rfl rfl rfl) (by rfl) nd (pi_range1 (by rfl) T.b_range (pa_cons (pv 3) pa_nil)) (blkOk_by (own := [("power", 7)]) (N := N_plain_turning) (sc := defScope s_plain_turning) (by decide +kernel)) (fun _ _ _ _ _ _ => (pg_name (i := 7) nd rfl (Or.inl rfl))) (fun _ _ _ _ _ _ => pts_nil) (fun _ _ _ _ _ _ hp => (pe_meth (pv 0) CL_Rests ME_Rests_root_at G_Rests_root_at (hr.mono (by omega)) B_Rests_root_at .nil hp (pa_cons (pv 3) (pa_cons (pe_op op_mul (pv 4) (pv 7)) pa_nil))))))
      (pss_cons (ps_setLc (i := 6) (own := [("place", 8)]) (g := gName 8) (by rfl) nd rfl rfl (sw_true rfl rfl rfl (by decide +kernel)) (pi_range1 (by rfl) T.b_range (pa_cons (pv 3) pa_nil)) (blkOk_by (own := [("place", 8)]) (N := N_plain_turning) (sc := defScope s_plain_turning) (by decide +kernel)) (fun _ _ _ _ _ => (pg_name (i := 8) nd rfl (Or.inl rfl))) (fun _ _ _ _ _ => pts_nil) (fun _ _ _ _ _ => (pe_call G_sum_at (hr.mono (by omega)) (by rfl) D_sum_at.g D_sum_at.F.kp D_sum_at.b .nil pass0 (pa_cons (pv 0) (pa_cons (pv 1) (pa_cons (pv 5) (pa_cons (pv 8) pa_nil)))))))
      (pss_cons (ps_if (pt_val (pv 2)) (pss_one (ps_ret (pe_lcX (own := [("worth", 9)]) (g := gName 9) rfl rfl (takes_of rfl rfl rfl rfl) (by rfl) nd (pi_list (pv 6)) (blkOk_by (own := [("worth", 9)]) (N := N_plain_turning) (sc := defScope s_plain_turning) (by decide +kernel)) (fun _ _ _ _ _ _ => (pg_name (i := 9) nd rfl (Or.inl rfl))) (fun _ _ _ _ _ _ => pts_nil) (fun _ _ _ _ _ _ hp => (pe_meth (pv 0) CL_Rests ME_Rests_shared_by G_Rests_shared_by (hr.mono (by omega)) B_Rests_shared_by .nil hp (pa_cons (pv 9) (pa_cons (pv 3) pa_nil))))))) pss_nil)
      (pss_one (ps_ret (pv 6)))))))), ?_⟩
    obtain ⟨dx, fs, hins, fn0, fn1, fn2, fn3⟩ := hG.ins
    rw [hk] at hins
    have hins : H a = some (.ins C1 dx fs) := hins
    have lx : (es.map (·.1)).length = es.length := List.length_map _
    have l2 : (es.map (·.2)).length = es.length := List.length_map _
    have hX0 : SqL K H x (es.map (·.1)) ∨ SqT K H x (es.map (·.1)) := .inr hX
    unfold PtOut at qo
    rw [l2] at qo
    obtain ⟨qr, qf, qt, qs⟩ := qo
    cases bk with
    | false =>
      have cmul : ∀ i : Nat, i < es.length → CMul 1 (0 + (i : Int)) := fun i hi => .inl ⟨by omega, by omega⟩
      walk_at "ev"
      intro D hD
      refine lc_range (lo := 0) (n := _) (fun i H' => Hold (Same H H' ∧ ∃ rr : Es, H' D = some (.lst (rr.map (·.1))) ∧ WsAt K H' rr ∧ rr.length = i ∧ (0 < i → numM g % (es.length : Int) = 0 ∧ ∃ q, LgOk g q) ∧ ∀ q, LgOk g q → rr.map (·.2) = (List.range i).map fun m : Nat => rtW g q es.length (1 * (m : Int) % (es.length : Int)).toNat)) (.mk ⟨same_new hD, [], upd_same, (fun e he => by cases he), rfl, (fun z => absurd z (by omega)), fun _ _ => rfl⟩) ?_ ?_
      · intro i H1 hi hP
        obtain ⟨sm1, rr, hD1, wr1, rl1, rq1, rv1⟩ := hP.un
        have hil : i < es.length := by omega
        have hG1 := hG.same sm1
        have hins1 := sm1 _ _ hins
        have cm := cmul i hil
        have hsz : (rr.map (·.1)).length < sizeLine := szm (by rw [List.length_map]; omega)
        walk_at "ev"
        refine ⟨fun hdv v q H2 hlg sm2 hv => ?_, fun hdv d H2 hd sm2 hq => ?_⟩
        · rw [lx] at hdv hv
          refine ⟨_, sm2 _ _ hD1, hsz, .mk ⟨same_mut (sm1.trans sm2) hD, rr ++ [(v, rtW g q es.length (1 * (0 + (i : Int)) % (es.length : Int)).toNat)], by rw [upd_same, List.map_append]; rfl, ws_app (wr1.same sm2) hv (sm2 _ _ hD1), by rw [List.length_append, rl1]; rfl, fun _ => ⟨hdv, q, hlg⟩, fun q' hq' => ?_⟩⟩
          rw [List.map_append, rv1 q' hq', List.range_succ, List.map_append, hlg.un hq', Int.zero_add]
          rfl
        · rw [lx] at hdv hq
          exact qr hdv d H2 (sm1.free hd) (sm1.trans sm2) hq
      · intro H1 hP
        obtain ⟨sm1, rr, hD1, wr1, rl1, rq1, rv1⟩ := hP.un
        have eL : ((es.map (·.1)).length : Int).toNat = es.length := by rw [lx]; rfl
        rw [eL] at rl1 rq1 rv1
        obtain ⟨hdv, qq, hlg⟩ := rq1 (by omega)
        have rv := rv1 qq hlg
        have nmr : Nms g (rr.map (·.2)) := by
          rw [rv]
          intro w hw
          obtain ⟨m, _, rfl⟩ := List.mem_map.mp hw
          exact nm_rt hok
        have bwr : BwAt (rr.map (·.2)) := by
          rw [rv]
          intro w hw
          obtain ⟨m, _, rfl⟩ := List.mem_map.mp hw
          have i0 := Int.emod_nonneg (1 * (m : Int)) (show (es.length : Int) ≠ 0 by omega)
          have i1 := Int.emod_lt_of_pos (1 * (m : Int)) (show (0 : Int) < es.length by omega)
          exact bw_rt hok e1 hdv (by omega)
        clear rv1 rq1
        walk_at "ev"
        intro D2 hD2
        refine lc_range (lo := 0) (n := _) (fun k H' => Hold (Same H1 H' ∧ ∃ ss : Es, H' D2 = some (.lst (ss.map (·.1))) ∧ WsAt K H' ss ∧ ss.map (·.2) = (List.range k).map fun k => tnF g qq (es.map (·.2)) 1 k es.length)) (.mk ⟨same_new hD2, [], upd_same, (fun e he => by cases he), rfl⟩) ?_ ?_
        · intro k H3 hk hP
          obtain ⟨sm3, ss, hD3, ws3, sv3⟩ := hP.un
          have hkl : k < es.length := by omega
          have hsl : ss.length = k := by
            have := congrArg List.length sv3
            rw [List.length_map, List.length_map, List.length_range] at this
            exact this
          have hG3 := hG.same (sm1.trans sm3)
          have hX3 : SqT K H3 x (es.map (·.1)) := same_t (sm1.trans sm3) hX
          have hR3 : SqL K H3 D (rr.map (·.1)) := SqL.of (sm3 _ _ hD1)
          have hin : SmIn K g H3 es rr k := ⟨e1, e60, rl1, hkl, wx.same (sm1.trans sm3), wr1.same sm3, nx, nmr, bx, bwr⟩
          have hsz : (ss.map (·.1)).length < sizeLine := szm (by rw [List.length_map]; omega)
          rw [Int.zero_add]
          walk_at "ev"
          intro v H4 sm4 hv
          have esa : saF g (es.map (·.2)) (rr.map (·.2)) k (es.length - 1) = tnF g qq (es.map (·.2)) 1 k es.length := by
            have := sa_tn (q := qq) (s := 1) (rts := rr.map (·.2)) (k := k) hok nx (by omega) (by rw [l2]; exact rv) (es.length - 1) (by omega)
            rw [this, show es.length - 1 + 1 = es.length by omega]
          rw [esa] at hv
          refine ⟨_, sm4 _ _ hD3, hsz, .mk ⟨same_mut (sm3.trans sm4) hD2, ss ++ [(v, tnF g qq (es.map (·.2)) 1 k es.length)], by rw [upd_same, List.map_append]; rfl, ws_app (ws3.same sm4) hv (sm4 _ _ hD3), ?_⟩⟩
          rw [List.map_append, sv3, List.range_succ, List.map_append]
          rfl
        · intro H3 hP
          obtain ⟨sm3, ss, hD3, ws3, sv3⟩ := hP.un
          rw [eL] at sv3
          have hsl : ss.length = es.length := by
            have := congrArg List.length sv3
            rw [List.length_map, List.length_map, List.length_range] at this
            exact this
          have sv : ss.map (·.2) = trn g qq (es.map (·.2)) 1 := by
            unfold trn
            rw [l2]
            exact sv3
          have s03 := sm1.trans sm3
          have hD2' := sm1.free hD2
          clear sv3
          walk_at "ev"
          exact qf hdv rfl qq D2 ss H3 hlg hD2' s03 hD3 ws3 sv
    | true =>
      have cmul : ∀ i : Nat, i < es.length → CMul (-1) (0 + (i : Int)) := fun i hi => .inl ⟨by omega, by omega⟩
      walk_at "ev"
      intro D hD
      refine lc_range (lo := 0) (n := _) (fun i H' => Hold (Same H H' ∧ ∃ rr : Es, H' D = some (.lst (rr.map (·.1))) ∧ WsAt K H' rr ∧ rr.length = i ∧ (0 < i → numM g % (es.length : Int) = 0 ∧ ∃ q, LgOk g q) ∧ ∀ q, LgOk g q → rr.map (·.2) = (List.range i).map fun m : Nat => rtW g q es.length ((-1) * (m : Int) % (es.length : Int)).toNat)) (.mk ⟨same_new hD, [], upd_same, (fun e he => by cases he), rfl, (fun z => absurd z (by omega)), fun _ _ => rfl⟩) ?_ ?_
      · intro i H1 hi hP
        obtain ⟨sm1, rr, hD1, wr1, rl1, rq1, rv1⟩ := hP.un
        have hil : i < es.length := by omega
        have hG1 := hG.same sm1
        have hins1 := sm1 _ _ hins
        have cm := cmul i hil
        have hsz : (rr.map (·.1)).length < sizeLine := szm (by rw [List.length_map]; omega)
        walk_at "ev"
        refine ⟨fun hdv v q H2 hlg sm2 hv => ?_, fun hdv d H2 hd sm2 hq => ?_⟩
        · rw [lx] at hdv hv
          refine ⟨_, sm2 _ _ hD1, hsz, .mk ⟨same_mut (sm1.trans sm2) hD, rr ++ [(v, rtW g q es.length ((-1) * (0 + (i : Int)) % (es.length : Int)).toNat)], by rw [upd_same, List.map_append]; rfl, ws_app (wr1.same sm2) hv (sm2 _ _ hD1), by rw [List.length_append, rl1]; rfl, fun _ => ⟨hdv, q, hlg⟩, fun q' hq' => ?_⟩⟩
          rw [List.map_append, rv1 q' hq', List.range_succ, List.map_append, hlg.un hq', Int.zero_add]
          rfl
        · rw [lx] at hdv hq
          exact qr hdv d H2 (sm1.free hd) (sm1.trans sm2) hq
      · intro H1 hP
        obtain ⟨sm1, rr, hD1, wr1, rl1, rq1, rv1⟩ := hP.un
        have eL : ((es.map (·.1)).length : Int).toNat = es.length := by rw [lx]; rfl
        rw [eL] at rl1 rq1 rv1
        obtain ⟨hdv, qq, hlg⟩ := rq1 (by omega)
        have rv := rv1 qq hlg
        have nmr : Nms g (rr.map (·.2)) := by
          rw [rv]
          intro w hw
          obtain ⟨m, _, rfl⟩ := List.mem_map.mp hw
          exact nm_rt hok
        have bwr : BwAt (rr.map (·.2)) := by
          rw [rv]
          intro w hw
          obtain ⟨m, _, rfl⟩ := List.mem_map.mp hw
          have i0 := Int.emod_nonneg ((-1) * (m : Int)) (show (es.length : Int) ≠ 0 by omega)
          have i1 := Int.emod_lt_of_pos ((-1) * (m : Int)) (show (0 : Int) < es.length by omega)
          exact bw_rt hok e1 hdv (by omega)
        clear rv1 rq1
        walk_at "ev"
        intro D2 hD2
        refine lc_range (lo := 0) (n := _) (fun k H' => Hold (Same H1 H' ∧ ∃ ss : Es, H' D2 = some (.lst (ss.map (·.1))) ∧ WsAt K H' ss ∧ ss.map (·.2) = (List.range k).map fun k => tnF g qq (es.map (·.2)) (-1) k es.length)) (.mk ⟨same_new hD2, [], upd_same, (fun e he => by cases he), rfl⟩) ?_ ?_
        · intro k H3 hk hP
          obtain ⟨sm3, ss, hD3, ws3, sv3⟩ := hP.un
          have hkl : k < es.length := by omega
          have hsl : ss.length = k := by
            have := congrArg List.length sv3
            rw [List.length_map, List.length_map, List.length_range] at this
            exact this
          have hG3 := hG.same (sm1.trans sm3)
          have hX3 : SqT K H3 x (es.map (·.1)) := same_t (sm1.trans sm3) hX
          have hR3 : SqL K H3 D (rr.map (·.1)) := SqL.of (sm3 _ _ hD1)
          have hin : SmIn K g H3 es rr k := ⟨e1, e60, rl1, hkl, wx.same (sm1.trans sm3), wr1.same sm3, nx, nmr, bx, bwr⟩
          have hsz : (ss.map (·.1)).length < sizeLine := szm (by rw [List.length_map]; omega)
          rw [Int.zero_add]
          walk_at "ev"
          intro v H4 sm4 hv
          have esa : saF g (es.map (·.2)) (rr.map (·.2)) k (es.length - 1) = tnF g qq (es.map (·.2)) (-1) k es.length := by
            have := sa_tn (q := qq) (s := (-1)) (rts := rr.map (·.2)) (k := k) hok nx (by omega) (by rw [l2]; exact rv) (es.length - 1) (by omega)
            rw [this, show es.length - 1 + 1 = es.length by omega]
          rw [esa] at hv
          refine ⟨_, sm4 _ _ hD3, hsz, .mk ⟨same_mut (sm3.trans sm4) hD2, ss ++ [(v, tnF g qq (es.map (·.2)) (-1) k es.length)], by rw [upd_same, List.map_append]; rfl, ws_app (ws3.same sm4) hv (sm4 _ _ hD3), ?_⟩⟩
          rw [List.map_append, sv3, List.range_succ, List.map_append]
          rfl
        · intro H3 hP
          obtain ⟨sm3, ss, hD3, ws3, sv3⟩ := hP.un
          rw [eL] at sv3
          have hsl : ss.length = es.length := by
            have := congrArg List.length sv3
            rw [List.length_map, List.length_map, List.length_range] at this
            exact this
          have sv : ss.map (·.2) = trn g qq (es.map (·.2)) (-1) := by
            unfold trn
            rw [l2]
            exact sv3
          have s03 := sm1.trans sm3
          have hD2' := sm1.free hD2
          clear sv3
          have hG3 := hG.same s03
          have hins3 := s03 _ _ hins
          have hL2 : ∃ xs, SqL K H3 D2 xs := ⟨_, SqL.of hD3⟩
          have nms := trn_nms (q := qq) (s := -1) hok nx
          rw [← sv] at nms
          walk_at "ev"
          intro D4 hD4
          refine lc_list (K := K) (a := D2) (xs := ss.map (·.1)) (fun i H' => Hold (Same H3 H' ∧ ∃ ts : Es, H' D4 = some (.lst (ts.map (·.1))) ∧ WsAt K H' ts ∧ ts.length = i ∧ (∀ (j : Nat) (w : Wt), j < i → (ss.map (·.2))[j]? = some w → gcan g (es.length : Int) w) ∧ ∀ (j : Nat) (w w' : Wt), (ss.map (·.2))[j]? = some w → (ts.map (·.2))[j]? = some w' → gsh g (es.length : Int) w w')) (.mk ⟨same_new hD4, [], upd_same, (fun e he => by cases he), rfl, (fun j w z => absurd z (by omega)), fun j w w' _ z => by simp at z⟩) ?_ ?_ ?_
          · intro i H5 hi hP
            obtain ⟨sm5, _⟩ := hP.un
            exact SqL.of (sm5 _ _ hD3)
          · intro i u H5 hu hP
            obtain ⟨sm5, ts, hD5, ws5, tl5, tc5, tv5⟩ := hP.un
            obtain ⟨wu, hwu⟩ := es_get hu
            have hil : i < ss.length := (List.getElem?_eq_some_iff.mp hwu).1
            have h2u : (ss.map (·.2))[i]? = some wu := by rw [List.getElem?_map, hwu]; rfl
            have hG5 := hG3.same sm5
            have hins5 := sm5 _ _ hins3
            have huA : WtAt K H5 u wu := (ws3 (u, wu) (List.mem_of_getElem? hwu)).same sm5
            have huN : nm g wu := nms wu (List.mem_of_getElem? h2u)
            have m1 : (1 : Int) ≤ ((es.map (·.1)).length : Int) := by omega
            have m2 : ((es.map (·.1)).length : Int) ≤ 1000 := by omega
            have hsz : (ts.map (·.1)).length < sizeLine := szm (by rw [List.length_map]; omega)
            walk_at "ev"
            refine ⟨fun hcn v w' H6 hsh sm6 hv => ?_, fun hcn d H6 hd sm6 hq => ?_⟩
            · rw [lx] at hcn hsh
              refine ⟨_, sm6 _ _ hD5, hsz, .mk ⟨same_mut (sm5.trans sm6) hD4, ts ++ [(v, w')], by rw [upd_same, List.map_append]; rfl, ws_app (ws5.same sm6) hv (sm6 _ _ hD5), by rw [List.length_append, tl5]; rfl, fun j w hj hw => ?_, fun j w w2 hw hw2 => ?_⟩⟩
              · by_cases c : j < i
                · exact tc5 j w c hw
                · have e : j = i := by omega
                  subst e
                  rw [h2u] at hw
                  cases hw
                  exact hcn
              · rw [List.map_append] at hw2
                by_cases c : j < i
                · rw [List.getElem?_append_left (by rw [List.length_map]; omega)] at hw2
                  exact tv5 j w w2 hw hw2
                · have hj : j < (ts.map (·.2) ++ [w']).length := (List.getElem?_eq_some_iff.mp hw2).1
                  rw [List.length_append, List.length_map, tl5] at hj
                  have e : j = i := by
                    have : [w'].length = 1 := rfl
                    omega
                  subst e
                  rw [h2u] at hw
                  cases hw
                  rw [List.getElem?_append_right (by rw [List.length_map]; omega), List.length_map, tl5, Nat.sub_self] at hw2
                  cases hw2
                  exact hsh
            · rw [lx] at hcn hq
              refine qs hdv rfl qq hlg (fun all => hcn (all wu ?_)) d H6 (s03.free (sm5.free hd)) (s03.trans (sm5.trans sm6)) hq
              rw [← sv]
              exact List.mem_of_getElem? h2u
          · intro H5 hP
            obtain ⟨sm5, ts, hD5, ws5, tl5, tc5, tv5⟩ := hP.un
            rw [List.length_map] at tl5 tc5
            walk_at "ev"
            refine qt hdv rfl qq hlg (fun w hw => ?_) D4 ts H5 (s03.free hD4) (s03.trans sm5) hD5 ws5 ⟨?_, fun j w w' hw hw' => tv5 j w w' (by rw [sv]; exact hw) hw'⟩
            · rw [← sv] at hw
              obtain ⟨j, hj⟩ := List.getElem?_of_mem hw
              refine tc5 j w ?_ hj
              have := (List.getElem?_eq_some_iff.mp hj).1
              rw [List.length_map] at this
              exact this
            · rw [List.length_map, tl5, ← sv, List.length_map]
theorem ok_pt2L {f f1 f2 f3 C1 C2 CR CS : Addr} {fd d1 d2 d3 : FuncData} (F : Fun K "plain_turning" "plain_turning" s_plain_turning f fd) (T : Blt mg) (CL_Roots : L2.Cls K C2) (B_Roots_root_at : Binds K d1 P_Roots_root_at []) (ME_Roots_root_at : Meth K C2 "root_at" f1) (G_Roots_root_at : FnOk P w K mg base (L2.CX P w) 3 f1 d1 P_Roots_root_at (spUr K C1 C2 CR false)) (B_Roots_shared_by : Binds K d2 P_Roots_shared_by []) (ME_Roots_shared_by : Meth K C2 "shared_by" f2) (G_Roots_shared_by : FnOk P w K mg base (L2.CX P w) 4 f2 d2 P_Roots_shared_by (spUs K C1 C2 CS false)) (D_sum_at : Df K mg "sum_at" s_sum_at P_sum_at f3 d3)
    (G_sum_at : FnOk P w K mg base CX0 3 f3 d3 P_sum_at (fun vs H Q _ => ∃ (a x r : Addr) (g : Gk) (es rr : Es) (k : Nat), vs = [.ref a, .ref x, .ref r, .int (k : Int)] ∧ GrAt C1 C2 H a g ∧ kdG g = false ∧ GkOk g ∧ SqL K H x (es.map (·.1)) ∧ SqL K H r (rr.map (·.1)) ∧ SmIn K g H es rr k ∧ ∀ v H', Same H H' → WtAt K H' v (saF g (es.map (·.2)) (rr.map (·.2)) k (es.length - 1)) → Q v H')) :
    FnOk P w K mg base (L2.CX P w) 5 f fd P_plain_turning (fun vs H Q E => ∃ (a x : Addr) (g : Gk) (es : Es) (bk : Bool), vs = [.ref a, .ref x, .bl bk] ∧ GrAt C1 C2 H a g ∧ kdG g = false ∧ GkOk g ∧ SqL K H x (es.map (·.1)) ∧ PtIn K g H es ∧ PtOut K CR CS g (es.map (·.2)) bk H Q E) := by
  have nd := sc_plain_turning.nd
  refine F.okX sc_plain_turning (fun vs H Q E h => ?_) (fun cdv A outer s H vs Q E hr h => ?_)
  · obtain ⟨a, x, g, es, bk, rfl, _⟩ := h
    rfl
  · obtain ⟨a, x, g, es, bk, rfl, hG, hk, hok, hX, ⟨wx, nx, bx, e1, e60⟩, qo⟩ := h
    refine ⟨_, (pss_cons (ps_set (i := 3) nd rfl (Or.inr rfl) (pe_callB (r := rLenQ K) call_len_seq (by rfl) T.b_len (by decide +kernel) (pa_cons (pv 1) pa_nil)))
      (pss_cons (ps_set (i := 4) nd rfl (Or.inr rfl) (pe_ifExp (pt_val (pv 2)) (pe_un un_neg (pe_int)) (pe_int)))
      (pss_cons (ps_set (i := 5) nd rfl (Or.inr rfl) (pe_lcX (own := [("power", 7)]) (g := gName 7) rfl rfl (takes_of rfl rfl rfl rfl) (by rfl) nd (pi_range1 (by rfl) T.b_range (pa_cons (pv 3) pa_nil)) (blkOk_by (own := [("power", 7)]) (N := N_plain_turning) (sc := defScope s_plain_turning) (by decide +kernel)) (fun _ _ _ _ _ _ => (pg_name (i := 7) nd rfl (Or.inl rfl))) (fun _ _ _ _ _ _ => pts_nil) (fun _ _ _ _ _ _ hp => (pe_meth (pv 0) CL_Roots ME_Roots_root_at G_Roots_root_at (hr.mono (by omega)) B_Roots_root_at .nil hp (pa_cons (pv 3) (pa_cons (pe_op op_mul (pv 4) (pv 7)) pa_nil))))))
      (pss_cons (ps_setLc (i := 6) (own := [("place", 8)]) (g := gName 8) (by rfl) nd rfl rfl (sw_true rfl rfl rfl (by decide +kernel)) (pi_range1 (by rfl) T.b_range (pa_cons (pv 3) pa_nil)) (blkOk_by (own := [("place", 8)]) (N := N_plain_turning) (sc := defScope s_plain_turning) (by decide +kernel)) (fun _ _ _ _ _ => (pg_name (i := 8) nd rfl (Or.inl rfl))) (fun _ _ _ _ _ => pts_nil) (fun _ _ _ _ _ => (pe_call G_sum_at (hr.mono (by omega)) (by rfl) D_sum_at.g D_sum_at.F.kp D_sum_at.b .nil pass0 (pa_cons (pv 0) (pa_cons (pv 1) (pa_cons (pv 5) (pa_cons (pv 8) pa_nil)))))))
      (pss_cons (ps_if (pt_val (pv 2)) (pss_one (ps_ret (pe_lcX (own := [("worth", 9)]) (g := gName 9) rfl rfl (takes_of rfl rfl rfl rfl) (by rfl) nd (pi_list (pv 6)) (blkOk_by (own := [("worth", 9)]) (N := N_plain_turning) (sc := defScope s_plain_turning) (by decide +kernel)) (fun _ _ _ _ _ _ => (pg_name (i := 9) nd rfl (Or.inl rfl))) (fun _ _ _ _ _ _ => pts_nil) (fun _ _ _ _ _ _ hp => (pe_meth (pv 0) CL_Roots ME_Roots_shared_by G_Roots_shared_by (hr.mono (by omega)) B_Roots_shared_by .nil hp (pa_cons (pv 9) (pa_cons (pv 3) pa_nil))))))) pss_nil)
      (pss_one (ps_ret (pv 6)))))))), ?_⟩
    obtain ⟨dx, fs, hins, fn0, fn1, fn2, fn3⟩ := hG.ins
    rw [hk] at hins
    have hins : H a = some (.ins C2 dx fs) := hins
    have lx : (es.map (·.1)).length = es.length := List.length_map _
    have l2 : (es.map (·.2)).length = es.length := List.length_map _
    have hX0 : SqL K H x (es.map (·.1)) ∨ SqT K H x (es.map (·.1)) := .inl hX
    unfold PtOut at qo
    rw [l2] at qo
    obtain ⟨qr, qf, qt, qs⟩ := qo
    cases bk with
    | false =>
      have cmul : ∀ i : Nat, i < es.length → CMul 1 (0 + (i : Int)) := fun i hi => .inl ⟨by omega, by omega⟩
      walk_at "ev"
      intro D hD
      refine lc_range (lo := 0) (n := _) (fun i H' => Hold (Same H H' ∧ ∃ rr : Es, H' D = some (.lst (rr.map (·.1))) ∧ WsAt K H' rr ∧ rr.length = i ∧ (0 < i → numM g % (es.length : Int) = 0 ∧ ∃ q, LgOk g q) ∧ ∀ q, LgOk g q → rr.map (·.2) = (List.range i).map fun m : Nat => rtW g q es.length (1 * (m : Int) % (es.length : Int)).toNat)) (.mk ⟨same_new hD, [], upd_same, (fun e he => by cases he), rfl, (fun z => absurd z (by omega)), fun _ _ => rfl⟩) ?_ ?_
      · intro i H1 hi hP
        obtain ⟨sm1, rr, hD1, wr1, rl1, rq1, rv1⟩ := hP.un
        have hil : i < es.length := by omega
        have hG1 := hG.same sm1
        have hins1 := sm1 _ _ hins
        have cm := cmul i hil
        have hsz : (rr.map (·.1)).length < sizeLine := szm (by rw [List.length_map]; omega)
        walk_at "ev"
        refine ⟨fun hdv v q H2 hlg sm2 hv => ?_, fun hdv d H2 hd sm2 hq => ?_⟩
        · rw [lx] at hdv hv
          refine ⟨_, sm2 _ _ hD1, hsz, .mk ⟨same_mut (sm1.trans sm2) hD, rr ++ [(v, rtW g q es.length (1 * (0 + (i : Int)) % (es.length : Int)).toNat)], by rw [upd_same, List.map_append]; rfl, ws_app (wr1.same sm2) hv (sm2 _ _ hD1), by rw [List.length_append, rl1]; rfl, fun _ => ⟨hdv, q, hlg⟩, fun q' hq' => ?_⟩⟩
          rw [List.map_append, rv1 q' hq', List.range_succ, List.map_append, hlg.un hq', Int.zero_add]
          rfl
        · rw [lx] at hdv hq
          exact qr hdv d H2 (sm1.free hd) (sm1.trans sm2) hq
      · intro H1 hP
        obtain ⟨sm1, rr, hD1, wr1, rl1, rq1, rv1⟩ := hP.un
        have eL : ((es.map (·.1)).length : Int).toNat = es.length := by rw [lx]; rfl
        rw [eL] at rl1 rq1 rv1
        obtain ⟨hdv, qq, hlg⟩ := rq1 (by omega)
        have rv := rv1 qq hlg
        have nmr : Nms g (rr.map (·.2)) := by
          rw [rv]
          intro w hw
          obtain ⟨m, _, rfl⟩ := List.mem_map.mp hw
          exact nm_rt hok
        have bwr : BwAt (rr.map (·.2)) := by
          rw [rv]
          intro w hw
          obtain ⟨m, _, rfl⟩ := List.mem_map.mp hw
          have i0 := Int.emod_nonneg (1 * (m : Int)) (show (es.length : Int) ≠ 0 by omega)
          have i1 := Int.emod_lt_of_pos (1 * (m : Int)) (show (0 : Int) < es.length by omega)
          exact bw_rt hok e1 hdv (by omega)
        clear rv1 rq1
        walk_at "ev"
        intro D2 hD2
        refine lc_range (lo := 0) (n := _) (fun k H' => Hold (Same H1 H' ∧ ∃ ss : Es, H' D2 = some (.lst (ss.map (·.1))) ∧ WsAt K H' ss ∧ ss.map (·.2) = (List.range k).map fun k => tnF g qq (es.map (·.2)) 1 k es.length)) (.mk ⟨same_new hD2, [], upd_same, (fun e he => by cases he), rfl⟩) ?_ ?_
        · intro k H3 hk hP
          obtain ⟨sm3, ss, hD3, ws3, sv3⟩ := hP.un
          have hkl : k < es.length := by omega
          have hsl : ss.length = k := by
            have := congrArg List.length sv3
            rw [List.length_map, List.length_map, List.length_range] at this
            exact this
          have hG3 := hG.same (sm1.trans sm3)
          have hX3 : SqL K H3 x (es.map (·.1)) := (sm1.trans sm3).seq hX
          have hR3 : SqL K H3 D (rr.map (·.1)) := SqL.of (sm3 _ _ hD1)
          have hin : SmIn K g H3 es rr k := ⟨e1, e60, rl1, hkl, wx.same (sm1.trans sm3), wr1.same sm3, nx, nmr, bx, bwr⟩
          have hsz : (ss.map (·.1)).length < sizeLine := szm (by rw [List.length_map]; omega)
          rw [Int.zero_add]
          walk_at "ev"
          intro v H4 sm4 hv
          have esa : saF g (es.map (·.2)) (rr.map (·.2)) k (es.length - 1) = tnF g qq (es.map (·.2)) 1 k es.length := by
            have := sa_tn (q := qq) (s := 1) (rts := rr.map (·.2)) (k := k) hok nx (by omega) (by rw [l2]; exact rv) (es.length - 1) (by omega)
            rw [this, show es.length - 1 + 1 = es.length by omega]
          rw [esa] at hv
          refine ⟨_, sm4 _ _ hD3, hsz, .mk ⟨same_mut (sm3.trans sm4) hD2, ss ++ [(v, tnF g qq (es.map (·.2)) 1 k es.length)], by rw [upd_same, List.map_append]; rfl, ws_app (ws3.same sm4) hv (sm4 _ _ hD3), ?_⟩⟩
          rw [List.map_append, sv3, List.range_succ, List.map_append]
          rfl
        · intro H3 hP
          obtain ⟨sm3, ss, hD3, ws3, sv3⟩ := hP.un
          rw [eL] at sv3
          have hsl : ss.length = es.length := by
            have := congrArg List.length sv3
            rw [List.length_map, List.length_map, List.length_range] at this
            exact this
          have sv : ss.map (·.2) = trn g qq (es.map (·.2)) 1 := by
            unfold trn
            rw [l2]
            exact sv3
          have s03 := sm1.trans sm3
          have hD2' := sm1.free hD2
          clear sv3
          walk_at "ev"
          exact qf hdv rfl qq D2 ss H3 hlg hD2' s03 hD3 ws3 sv
    | true =>
      have cmul : ∀ i : Nat, i < es.length → CMul (-1) (0 + (i : Int)) := fun i hi => .inl ⟨by omega, by omega⟩
      walk_at "ev"
      intro D hD
      refine lc_range (lo := 0) (n := _) (fun i H' => Hold (Same H H' ∧ ∃ rr : Es, H' D = some (.lst (rr.map (·.1))) ∧ WsAt K H' rr ∧ rr.length = i ∧ (0 < i → numM g % (es.length : Int) = 0 ∧ ∃ q, LgOk g q) ∧ ∀ q, LgOk g q → rr.map (·.2) = (List.range i).map fun m : Nat => rtW g q es.length ((-1) * (m : Int) % (es.length : Int)).toNat)) (.mk ⟨same_new hD, [], upd_same, (fun e he => by cases he), rfl, (fun z => absurd z (by omega)), fun _ _ => rfl⟩) ?_ ?_
      · intro i H1 hi hP
        obtain ⟨sm1, rr, hD1, wr1, rl1, rq1, rv1⟩ := hP.un
        have hil : i < es.length := by omega
        have hG1 := hG.same sm1
        have hins1 := sm1 _ _ hins
        have cm := cmul i hil
        have hsz : (rr.map (·.1)).length < sizeLine := szm (by rw [List.length_map]; omega)
        walk_at "ev"
        refine ⟨fun hdv v q H2 hlg sm2 hv => ?_, fun hdv d H2 hd sm2 hq => ?_⟩
        · rw [lx] at hdv hv
          refine ⟨_, sm2 _ _ hD1, hsz, .mk ⟨same_mut (sm1.trans sm2) hD, rr ++ [(v, rtW g q es.length ((-1) * (0 + (i : Int)) % (es.length : Int)).toNat)], by rw [upd_same, List.map_append]; rfl, ws_app (wr1.same sm2) hv (sm2 _ _ hD1), by rw [List.length_append, rl1]; rfl, fun _ => ⟨hdv, q, hlg⟩, fun q' hq' => ?_⟩⟩
          rw [List.map_append, rv1 q' hq', List.range_succ, List.map_append, hlg.un hq', Int.zero_add]
          rfl
        · rw [lx] at hdv hq
          exact qr hdv d H2 (sm1.free hd) (sm1.trans sm2) hq
      · intro H1 hP
        obtain ⟨sm1, rr, hD1, wr1, rl1, rq1, rv1⟩ := hP.un
        have eL : ((es.map (·.1)).length : Int).toNat = es.length := by rw [lx]; rfl
        rw [eL] at rl1 rq1 rv1
        obtain ⟨hdv, qq, hlg⟩ := rq1 (by omega)
        have rv := rv1 qq hlg
        have nmr : Nms g (rr.map (·.2)) := by
          rw [rv]
          intro w hw
          obtain ⟨m, _, rfl⟩ := List.mem_map.mp hw
          exact nm_rt hok
        have bwr : BwAt (rr.map (·.2)) := by
          rw [rv]
          intro w hw
          obtain ⟨m, _, rfl⟩ := List.mem_map.mp hw
          have i0 := Int.emod_nonneg ((-1) * (m : Int)) (show (es.length : Int) ≠ 0 by omega)
          have i1 := Int.emod_lt_of_pos ((-1) * (m : Int)) (show (0 : Int) < es.length by omega)
          exact bw_rt hok e1 hdv (by omega)
        clear rv1 rq1
        walk_at "ev"
        intro D2 hD2
        refine lc_range (lo := 0) (n := _) (fun k H' => Hold (Same H1 H' ∧ ∃ ss : Es, H' D2 = some (.lst (ss.map (·.1))) ∧ WsAt K H' ss ∧ ss.map (·.2) = (List.range k).map fun k => tnF g qq (es.map (·.2)) (-1) k es.length)) (.mk ⟨same_new hD2, [], upd_same, (fun e he => by cases he), rfl⟩) ?_ ?_
        · intro k H3 hk hP
          obtain ⟨sm3, ss, hD3, ws3, sv3⟩ := hP.un
          have hkl : k < es.length := by omega
          have hsl : ss.length = k := by
            have := congrArg List.length sv3
            rw [List.length_map, List.length_map, List.length_range] at this
            exact this
          have hG3 := hG.same (sm1.trans sm3)
          have hX3 : SqL K H3 x (es.map (·.1)) := (sm1.trans sm3).seq hX
          have hR3 : SqL K H3 D (rr.map (·.1)) := SqL.of (sm3 _ _ hD1)
          have hin : SmIn K g H3 es rr k := ⟨e1, e60, rl1, hkl, wx.same (sm1.trans sm3), wr1.same sm3, nx, nmr, bx, bwr⟩
          have hsz : (ss.map (·.1)).length < sizeLine := szm (by rw [List.length_map]; omega)
          rw [Int.zero_add]
          walk_at "ev"
          intro v H4 sm4 hv
          have esa : saF g (es.map (·.2)) (rr.map (·.2)) k (es.length - 1) = tnF g qq (es.map (·.2)) (-1) k es.length := by
            have := sa_tn (q := qq) (s := (-1)) (rts := rr.map (·.2)) (k := k) hok nx (by omega) (by rw [l2]; exact rv) (es.length - 1) (by omega)
            rw [this, show es.length - 1 + 1 = es.length by omega]
          rw [esa] at hv
          refine ⟨_, sm4 _ _ hD3, hsz, .mk ⟨same_mut (sm3.trans sm4) hD2, ss ++ [(v, tnF g qq (es.map (·.2)) (-1) k es.length)], by rw [upd_same, List.map_append]; rfl, ws_app (ws3.same sm4) hv (sm4 _ _ hD3), ?_⟩⟩
          rw [List.map_append, sv3, List.range_succ, List.map_append]
          rfl
        · intro H3 hP
          obtain ⟨sm3, ss, hD3, ws3, sv3⟩ := hP.un
          rw [eL] at sv3
          have hsl : ss.length = es.length := by
            have := congrArg List.length sv3
            rw [List.length_map, List.length_map, List.length_range] at this
            exact this
          have sv : ss.map (·.2) = trn g qq (es.map (·.2)) (-1) := by
            unfold trn
            rw [l2]
            exact sv3
          have s03 := sm1.trans sm3
          have hD2' := sm1.free hD2
          clear sv3
          have hG3 := hG.same s03
          have hins3 := s03 _ _ hins
          have hL2 : ∃ xs, SqL K H3 D2 xs := ⟨_, SqL.of hD3⟩
          have nms := trn_nms (q := qq) (s := -1) hok nx
          rw [← sv] at nms
          walk_at "ev"
          intro D4 hD4
          refine lc_list (K := K) (a := D2) (xs := ss.map (·.1)) (fun i H' => Hold (Same H3 H' ∧ ∃ ts : Es, H' D4 = some (.lst (ts.map (·.1))) ∧ WsAt K H' ts ∧ ts.length = i ∧ (∀ (j : Nat) (w : Wt), j < i → (ss.map (·.2))[j]? = some w → gcan g (es.length : Int) w) ∧ ∀ (j : Nat) (w w' : Wt), (ss.map (·.2))[j]? = some w → (ts.map (·.2))[j]? = some w' → gsh g (es.length : Int) w w')) (.mk ⟨same_new hD4, [], upd_same, (fun e he => by cases he), rfl, (fun j w z => absurd z (by omega)), fun j w w' _ z => by simp at z⟩) ?_ ?_ ?_
          · intro i H5 hi hP
            obtain ⟨sm5, _⟩ := hP.un
            exact SqL.of (sm5 _ _ hD3)
          · intro i u H5 hu hP
            obtain ⟨sm5, ts, hD5, ws5, tl5, tc5, tv5⟩ := hP.un
            obtain ⟨wu, hwu⟩ := es_get hu
            have hil : i < ss.length := (List.getElem?_eq_some_iff.mp hwu).1
            have h2u : (ss.map (·.2))[i]? = some wu := by rw [List.getElem?_map, hwu]; rfl
            have hG5 := hG3.same sm5
            have hins5 := sm5 _ _ hins3
            have huA : WtAt K H5 u wu := (ws3 (u, wu) (List.mem_of_getElem? hwu)).same sm5
            have huN : nm g wu := nms wu (List.mem_of_getElem? h2u)
            have m1 : (1 : Int) ≤ ((es.map (·.1)).length : Int) := by omega
            have m2 : ((es.map (·.1)).length : Int) ≤ 1000 := by omega
            have hsz : (ts.map (·.1)).length < sizeLine := szm (by rw [List.length_map]; omega)
            walk_at "ev"
            refine ⟨fun hcn v w' H6 hsh sm6 hv => ?_, fun hcn d H6 hd sm6 hq => ?_⟩
            · rw [lx] at hcn hsh
              refine ⟨_, sm6 _ _ hD5, hsz, .mk ⟨same_mut (sm5.trans sm6) hD4, ts ++ [(v, w')], by rw [upd_same, List.map_append]; rfl, ws_app (ws5.same sm6) hv (sm6 _ _ hD5), by rw [List.length_append, tl5]; rfl, fun j w hj hw => ?_, fun j w w2 hw hw2 => ?_⟩⟩
              · by_cases c : j < i
                · exact tc5 j w c hw
                · have e : j = i := by omega
                  subst e
                  rw [h2u] at hw
                  cases hw
                  exact hcn
              · rw [List.map_append] at hw2
                by_cases c : j < i
                · rw [List.getElem?_append_left (by rw [List.length_map]; omega)] at hw2
                  exact tv5 j w w2 hw hw2
                · have hj : j < (ts.map (·.2) ++ [w']).length := (List.getElem?_eq_some_iff.mp hw2).1
                  rw [List.length_append, List.length_map, tl5] at hj
                  have e : j = i := by
                    have : [w'].length = 1 := rfl
                    omega
                  subst e
                  rw [h2u] at hw
                  cases hw
                  rw [List.getElem?_append_right (by rw [List.length_map]; omega), List.length_map, tl5, Nat.sub_self] at hw2
                  cases hw2
                  exact hsh
            · rw [lx] at hcn hq
              refine qs hdv rfl qq hlg (fun all => hcn (all wu ?_)) d H6 (s03.free (sm5.free hd)) (s03.trans (sm5.trans sm6)) hq
              rw [← sv]
              exact List.mem_of_getElem? h2u
          · intro H5 hP
            obtain ⟨sm5, ts, hD5, ws5, tl5, tc5, tv5⟩ := hP.un
            rw [List.length_map] at tl5 tc5
            walk_at "ev"
            refine qt hdv rfl qq hlg (fun w hw => ?_) D4 ts H5 (s03.free hD4) (s03.trans sm5) hD5 ws5 ⟨?_, fun j w w' hw hw' => tv5 j w w' (by rw [sv]; exact hw) hw'⟩
            · rw [← sv] at hw
              obtain ⟨j, hj⟩ := List.getElem?_of_mem hw
              refine tc5 j w ?_ hj
              have := (List.getElem?_eq_some_iff.mp hj).1
              rw [List.length_map] at this
              exact this
            · rw [List.length_map, tl5, ← sv, List.length_map]
theorem ok_pt2T {f f1 f2 f3 C1 C2 CR CS : Addr} {fd d1 d2 d3 : FuncData} (F : Fun K "plain_turning" "plain_turning" s_plain_turning f fd) (T : Blt mg) (CL_Roots : L2.Cls K C2) (B_Roots_root_at : Binds K d1 P_Roots_root_at []) (ME_Roots_root_at : Meth K C2 "root_at" f1) (G_Roots_root_at : FnOk P w K mg base (L2.CX P w) 3 f1 d1 P_Roots_root_at (spUr K C1 C2 CR false)) (B_Roots_shared_by : Binds K d2 P_Roots_shared_by []) (ME_Roots_shared_by : Meth K C2 "shared_by" f2) (G_Roots_shared_by : FnOk P w K mg base (L2.CX P w) 4 f2 d2 P_Roots_shared_by (spUs K C1 C2 CS false)) (D_sum_at : Df K mg "sum_at" s_sum_at P_sum_at f3 d3)
    (G_sum_at : FnOk P w K mg base CX0 3 f3 d3 P_sum_at (fun vs H Q _ => ∃ (a x r : Addr) (g : Gk) (es rr : Es) (k : Nat), vs = [.ref a, .ref x, .ref r, .int (k : Int)] ∧ GrAt C1 C2 H a g ∧ kdG g = false ∧ GkOk g ∧ SqT K H x (es.map (·.1)) ∧ SqL K H r (rr.map (·.1)) ∧ SmIn K g H es rr k ∧ ∀ v H', Same H H' → WtAt K H' v (saF g (es.map (·.2)) (rr.map (·.2)) k (es.length - 1)) → Q v H')) :
    FnOk P w K mg base (L2.CX P w) 5 f fd P_plain_turning (fun vs H Q E => ∃ (a x : Addr) (g : Gk) (es : Es) (bk : Bool), vs = [.ref a, .ref x, .bl bk] ∧ GrAt C1 C2 H a g ∧ kdG g = false ∧ GkOk g ∧ SqT K H x (es.map (·.1)) ∧ PtIn K g H es ∧ PtOut K CR CS g (es.map (·.2)) bk H Q E) := by
  have nd := sc_plain_turning.nd
  refine F.okX sc_plain_turning (fun vs H Q E h => ?_) (fun cdv A outer s H vs Q E hr h => ?_)
  · obtain ⟨a, x, g, es, bk, rfl, _⟩ := h
    rfl
  · obtain ⟨a, x, g, es, bk, rfl, hG, hk, hok, hX, ⟨wx, nx, bx, e1, e60⟩, qo⟩ := h
    refine ⟨_, (pss_cons (ps_set (i := 3) nd rfl (Or.inr rfl) (pe_callB (r := rLenQ K) call_len_seq (by rfl) T.b_len (by decide +kernel) (pa_cons (pv 1) pa_nil)))
      (pss_cons (ps_set (i := 4) nd rfl (Or.inr rfl) (pe_ifExp (pt_val (pv 2)) (pe_un un_neg (pe_int)) (pe_int)))
      (pss_cons (ps_set (i := 5) nd rfl (Or.inr rfl) (pe_lcX (own := [("power", 7)]) (g := gName 7) rfl rfl (takes_of rfl rfl rfl rfl) (by rfl) nd (pi_range1 (by rfl) T.b_range (pa_cons (pv 3) pa_nil)) (blkOk_by (own := [("power", 7)]) (N := N_plain_turning) (sc := defScope s_plain_turning) (by decide +kernel)) (fun _ _ _ _ _ _ => (pg_name (i := 7) nd rfl (Or.inl rfl))) (fun _ _ _ _ _ _ => pts_nil) (fun _ _ _ _ _ _ hp => (pe_meth (pv 0) CL_Roots ME_Roots_root_at G_Roots_root_at (hr.mono (by omega)) B_Roots_root_at .nil hp (pa_cons (pv 3) (pa_cons (pe_op op_mul (pv 4) (pv 7)) pa_nil))))))
      (pss_cons (ps_setLc (i := 6) (own := [("place", 8)]) (g := gName 8) (by rfl) nd rfl rfl (sw_true rfl rfl rfl (by decide +kernel)) (pi_range1 (by rfl) T.b_range (pa_cons (pv 3) pa_nil)) (blkOk_by (own := [("place", 8)]) (N := N_plain_turning) (sc := defScope s_plain_turning) (by decide +kernel)) (fun _ _ _ _ _ => (pg_name (i := 8) nd rfl (Or.inl rfl))) (fun _ _ _ _ _ => pts_nil) (fun _ _ _ _ _ => (pe_call G_sum_at (hr.mono (by omega)) (by rfl) D_sum_at.g D_sum_at.F.kp D_sum_at.b .nil pass0 (pa_cons (pv 0) (pa_cons (pv 1) (pa_cons (pv 5) (pa_cons (pv 8) pa_nil)))))))
      (pss_cons (ps_if (pt_val (pv 2)) (pss_one (ps_ret (pe_lcX (own := [("worth", 9)]) (g := gName 9) rfl rfl (takes_of rfl rfl rfl rfl) (by rfl) nd (pi_list (pv 6)) (blkOk_by (own := [("worth", 9)]) (N := N_plain_turning) (sc := defScope s_plain_turning) (by decide +kernel)) (fun _ _ _ _ _ _ => (pg_name (i := 9) nd rfl (Or.inl rfl))) (fun _ _ _ _ _ _ => pts_nil) (fun _ _ _ _ _ _ hp => (pe_meth (pv 0) CL_Roots ME_Roots_shared_by G_Roots_shared_by (hr.mono (by omega)) B_Roots_shared_by .nil hp (pa_cons (pv 9) (pa_cons (pv 3) pa_nil))))))) pss_nil)
      (pss_one (ps_ret (pv 6)))))))), ?_⟩
    obtain ⟨dx, fs, hins, fn0, fn1, fn2, fn3⟩ := hG.ins
    rw [hk] at hins
    have hins : H a = some (.ins C2 dx fs) := hins
    have lx : (es.map (·.1)).length = es.length := List.length_map _
    have l2 : (es.map (·.2)).length = es.length := List.length_map _
    have hX0 : SqL K H x (es.map (·.1)) ∨ SqT K H x (es.map (·.1)) := .inr hX
    unfold PtOut at qo
    rw [l2] at qo
    obtain ⟨qr, qf, qt, qs⟩ := qo
    cases bk with
    | false =>
      have cmul : ∀ i : Nat, i < es.length → CMul 1 (0 + (i : Int)) := fun i hi => .inl ⟨by omega, by omega⟩
      walk_at "ev"
      intro D hD
      refine lc_range (lo := 0) (n := _) (fun i H' => Hold (Same H H' ∧ ∃ rr : Es, H' D = some (.lst (rr.map (·.1))) ∧ WsAt K H' rr ∧ rr.length = i ∧ (0 < i → numM g % (es.length : Int) = 0 ∧ ∃ q, LgOk g q) ∧ ∀ q, LgOk g q → rr.map (·.2) = (List.range i).map fun m : Nat => rtW g q es.length (1 * (m : Int) % (es.length : Int)).toNat)) (.mk ⟨same_new hD, [], upd_same, (fun e he => by cases he), rfl, (fun z => absurd z (by omega)), fun _ _ => rfl⟩) ?_ ?_
      · intro i H1 hi hP
        obtain ⟨sm1, rr, hD1, wr1, rl1, rq1, rv1⟩ := hP.un
        have hil : i < es.length := by omega
        have hG1 := hG.same sm1
        have hins1 := sm1 _ _ hins
        have cm := cmul i hil
        have hsz : (rr.map (·.1)).length < sizeLine := szm (by rw [List.length_map]; omega)
        walk_at "ev"
        refine ⟨fun hdv v q H2 hlg sm2 hv => ?_, fun hdv d H2 hd sm2 hq => ?_⟩
        · rw [lx] at hdv hv
          refine ⟨_, sm2 _ _ hD1, hsz, .mk ⟨same_mut (sm1.trans sm2) hD, rr ++ [(v, rtW g q es.length (1 * (0 + (i : Int)) % (es.length : Int)).toNat)], by rw [upd_same, List.map_append]; rfl, ws_app (wr1.same sm2) hv (sm2 _ _ hD1), by rw [List.length_append, rl1]; rfl, fun _ => ⟨hdv, q, hlg⟩, fun q' hq' => ?_⟩⟩
          rw [List.map_append, rv1 q' hq', List.range_succ, List.map_append, hlg.un hq', Int.zero_add]
          rfl
        · rw [lx] at hdv hq
          exact qr hdv d H2 (sm1.free hd) (sm1.trans sm2) hq
      · intro H1 hP
        obtain ⟨sm1, rr, hD1, wr1, rl1, rq1, rv1⟩ := hP.un
        have eL : ((es.map (·.1)).length : Int).toNat = es.length := by rw [lx]; rfl
        rw [eL] at rl1 rq1 rv1
        obtain ⟨hdv, qq, hlg⟩ := rq1 (by omega)
        have rv := rv1 qq hlg
        have nmr : Nms g (rr.map (·.2)) := by
          rw [rv]
          intro w hw
          obtain ⟨m, _, rfl⟩ := List.mem_map.mp hw
          exact nm_rt hok
        have bwr : BwAt (rr.map (·.2)) := by
          rw [rv]
          intro w hw
          obtain ⟨m, _, rfl⟩ := List.mem_map.mp hw
          have i0 := Int.emod_nonneg (1 * (m : Int)) (show (es.length : Int) ≠ 0 by omega)
          have i1 := Int.emod_lt_of_pos (1 * (m : Int)) (show (0 : Int) < es.length by omega)
          exact bw_rt hok e1 hdv (by omega)
        clear rv1 rq1
        walk_at "ev"
        intro D2 hD2
        refine lc_range (lo := 0) (n := _) (fun k H' => Hold (Same H1 H' ∧ ∃ ss : Es, H' D2 = some (.lst (ss.map (·.1))) ∧ WsAt K H' ss ∧ ss.map (·.2) = (List.range k).map fun k => tnF g qq (es.map (·.2)) 1 k es.length)) (.mk ⟨same_new hD2, [], upd_same, (fun e he => by cases he), rfl⟩) ?_ ?_
        · intro k H3 hk hP
          obtain ⟨sm3, ss, hD3, ws3, sv3⟩ := hP.un
          have hkl : k < es.length := by omega
          have hsl : ss.length = k := by
            have := congrArg List.length sv3
            rw [List.length_map, List.length_map, List.length_range] at this
            exact this
          have hG3 := hG.same (sm1.trans sm3)
          have hX3 : SqT K H3 x (es.map (·.1)) := same_t (sm1.trans sm3) hX
          have hR3 : SqL K H3 D (rr.map (·.1)) := SqL.of (sm3 _ _ hD1)
          have hin : SmIn K g H3 es rr k := ⟨e1, e60, rl1, hkl, wx.same (sm1.trans sm3), wr1.same sm3, nx, nmr, bx, bwr⟩
          have hsz : (ss.map (·.1)).length < sizeLine := szm (by rw [List.length_map]; omega)
          rw [Int.zero_add]
          walk_at "ev"
          intro v H4 sm4 hv
          have esa : saF g (es.map (·.2)) (rr.map (·.2)) k (es.length - 1) = tnF g qq (es.map (·.2)) 1 k es.length := by
            have := sa_tn (q := qq) (s := 1) (rts := rr.map (·.2)) (k := k) hok nx (by omega) (by rw [l2]; exact rv) (es.length - 1) (by omega)
            rw [this, show es.length - 1 + 1 = es.length by omega]
          rw [esa] at hv
          refine ⟨_, sm4 _ _ hD3, hsz, .mk ⟨same_mut (sm3.trans sm4) hD2, ss ++ [(v, tnF g qq (es.map (·.2)) 1 k es.length)], by rw [upd_same, List.map_append]; rfl, ws_app (ws3.same sm4) hv (sm4 _ _ hD3), ?_⟩⟩
          rw [List.map_append, sv3, List.range_succ, List.map_append]
          rfl
        · intro H3 hP
          obtain ⟨sm3, ss, hD3, ws3, sv3⟩ := hP.un
          rw [eL] at sv3
          have hsl : ss.length = es.length := by
            have := congrArg List.length sv3
            rw [List.length_map, List.length_map, List.length_range] at this
            exact this
          have sv : ss.map (·.2) = trn g qq (es.map (·.2)) 1 := by
            unfold trn
            rw [l2]
            exact sv3
          have s03 := sm1.trans sm3
          have hD2' := sm1.free hD2
          clear sv3
          walk_at "ev"
          exact qf hdv rfl qq D2 ss H3 hlg hD2' s03 hD3 ws3 sv
    | true =>
      have cmul : ∀ i : Nat, i < es.length → CMul (-1) (0 + (i : Int)) := fun i hi => .inl ⟨by omega, by omega⟩
      walk_at "ev"
      intro D hD
      refine lc_range (lo := 0) (n := _) (fun i H' => Hold (Same H H' ∧ ∃ rr : Es, H' D = some (.lst (rr.map (·.1))) ∧ WsAt K H' rr ∧ rr.length = i ∧ (0 < i → numM g % (es.length : Int) = 0 ∧ ∃ q, LgOk g q) ∧ ∀ q, LgOk g q → rr.map (·.2) = (List.range i).map fun m : Nat => rtW g q es.length ((-1) * (m : Int) % (es.length : Int)).toNat)) (.mk ⟨same_new hD, [], upd_same, (fun e he => by cases he), rfl, (fun z => absurd z (by omega)), fun _ _ => rfl⟩) ?_ ?_
      · intro i H1 hi hP
        obtain ⟨sm1, rr, hD1, wr1, rl1, rq1, rv1⟩ := hP.un
        have hil : i < es.length := by omega
        have hG1 := hG.same sm1
        have hins1 := sm1 _ _ hins
        have cm := cmul i hil
        have hsz : (rr.map (·.1)).length < sizeLine := szm (by rw [List.length_map]; omega)
        walk_at "ev"
        refine ⟨fun hdv v q H2 hlg sm2 hv => ?_, fun hdv d H2 hd sm2 hq => ?_⟩
        · rw [lx] at hdv hv
          refine ⟨_, sm2 _ _ hD1, hsz, .mk ⟨same_mut (sm1.trans sm2) hD, rr ++ [(v, rtW g q es.length ((-1) * (0 + (i : Int)) % (es.length : Int)).toNat)], by rw [upd_same, List.map_append]; rfl, ws_app (wr1.same sm2) hv (sm2 _ _ hD1), by rw [List.length_append, rl1]; rfl, fun _ => ⟨hdv, q, hlg⟩, fun q' hq' => ?_⟩⟩
          rw [List.map_append, rv1 q' hq', List.range_succ, List.map_append, hlg.un hq', Int.zero_add]
          rfl
        · rw [lx] at hdv hq
          exact qr hdv d H2 (sm1.free hd) (sm1.trans sm2) hq
      · intro H1 hP
        obtain ⟨sm1, rr, hD1, wr1, rl1, rq1, rv1⟩ := hP.un
        have eL : ((es.map (·.1)).length : Int).toNat = es.length := by rw [lx]; rfl
        rw [eL] at rl1 rq1 rv1
        obtain ⟨hdv, qq, hlg⟩ := rq1 (by omega)
        have rv := rv1 qq hlg
        have nmr : Nms g (rr.map (·.2)) := by
          rw [rv]
          intro w hw
          obtain ⟨m, _, rfl⟩ := List.mem_map.mp hw
          exact nm_rt hok
        have bwr : BwAt (rr.map (·.2)) := by
          rw [rv]
          intro w hw
          obtain ⟨m, _, rfl⟩ := List.mem_map.mp hw
          have i0 := Int.emod_nonneg ((-1) * (m : Int)) (show (es.length : Int) ≠ 0 by omega)
          have i1 := Int.emod_lt_of_pos ((-1) * (m : Int)) (show (0 : Int) < es.length by omega)
          exact bw_rt hok e1 hdv (by omega)
        clear rv1 rq1
        walk_at "ev"
        intro D2 hD2
        refine lc_range (lo := 0) (n := _) (fun k H' => Hold (Same H1 H' ∧ ∃ ss : Es, H' D2 = some (.lst (ss.map (·.1))) ∧ WsAt K H' ss ∧ ss.map (·.2) = (List.range k).map fun k => tnF g qq (es.map (·.2)) (-1) k es.length)) (.mk ⟨same_new hD2, [], upd_same, (fun e he => by cases he), rfl⟩) ?_ ?_
        · intro k H3 hk hP
          obtain ⟨sm3, ss, hD3, ws3, sv3⟩ := hP.un
          have hkl : k < es.length := by omega
          have hsl : ss.length = k := by
            have := congrArg List.length sv3
            rw [List.length_map, List.length_map, List.length_range] at this
            exact this
          have hG3 := hG.same (sm1.trans sm3)
          have hX3 : SqT K H3 x (es.map (·.1)) := same_t (sm1.trans sm3) hX
          have hR3 : SqL K H3 D (rr.map (·.1)) := SqL.of (sm3 _ _ hD1)
          have hin : SmIn K g H3 es rr k := ⟨e1, e60, rl1, hkl, wx.same (sm1.trans sm3), wr1.same sm3, nx, nmr, bx, bwr⟩
          have hsz : (ss.map (·.1)).length < sizeLine := szm (by rw [List.length_map]; omega)
          rw [Int.zero_add]
          walk_at "ev"
          intro v H4 sm4 hv
          have esa : saF g (es.map (·.2)) (rr.map (·.2)) k (es.length - 1) = tnF g qq (es.map (·.2)) (-1) k es.length := by
            have := sa_tn (q := qq) (s := (-1)) (rts := rr.map (·.2)) (k := k) hok nx (by omega) (by rw [l2]; exact rv) (es.length - 1) (by omega)
            rw [this, show es.length - 1 + 1 = es.length by omega]
          rw [esa] at hv
          refine ⟨_, sm4 _ _ hD3, hsz, .mk ⟨same_mut (sm3.trans sm4) hD2, ss ++ [(v, tnF g qq (es.map (·.2)) (-1) k es.length)], by rw [upd_same, List.map_append]; rfl, ws_app (ws3.same sm4) hv (sm4 _ _ hD3), ?_⟩⟩
          rw [List.map_append, sv3, List.range_succ, List.map_append]
          rfl
        · intro H3 hP
          obtain ⟨sm3, ss, hD3, ws3, sv3⟩ := hP.un
          rw [eL] at sv3
          have hsl : ss.length = es.length := by
            have := congrArg List.length sv3
            rw [List.length_map, List.length_map, List.length_range] at this
            exact this
          have sv : ss.map (·.2) = trn g qq (es.map (·.2)) (-1) := by
            unfold trn
            rw [l2]
            exact sv3
          have s03 := sm1.trans sm3
          have hD2' := sm1.free hD2
          clear sv3
          have hG3 := hG.same s03
          have hins3 := s03 _ _ hins
          have hL2 : ∃ xs, SqL K H3 D2 xs := ⟨_, SqL.of hD3⟩
          have nms := trn_nms (q := qq) (s := -1) hok nx
          rw [← sv] at nms
          walk_at "ev"
          intro D4 hD4
          refine lc_list (K := K) (a := D2) (xs := ss.map (·.1)) (fun i H' => Hold (Same H3 H' ∧ ∃ ts : Es, H' D4 = some (.lst (ts.map (·.1))) ∧ WsAt K H' ts ∧ ts.length = i ∧ (∀ (j : Nat) (w : Wt), j < i → (ss.map (·.2))[j]? = some w → gcan g (es.length : Int) w) ∧ ∀ (j : Nat) (w w' : Wt), (ss.map (·.2))[j]? = some w → (ts.map (·.2))[j]? = some w' → gsh g (es.length : Int) w w')) (.mk ⟨same_new hD4, [], upd_same, (fun e he => by cases he), rfl, (fun j w z => absurd z (by omega)), fun j w w' _ z => by simp at z⟩) ?_ ?_ ?_
          · intro i H5 hi hP
            obtain ⟨sm5, _⟩ := hP.un
            exact SqL.of (sm5 _ _ hD3)
          · intro i u H5 hu hP
            obtain ⟨sm5, ts, hD5, ws5, tl5, tc5, tv5⟩ := hP.un
            obtain ⟨wu, hwu⟩ := es_get hu
            have hil : i < ss.length := (List.getElem?_eq_some_iff.mp hwu).1
            have h2u : (ss.map (·.2))[i]? = some wu := by rw [List.getElem?_map, hwu]; rfl
            have hG5 := hG3.same sm5
            have hins5 := sm5 _ _ hins3
            have huA : WtAt K H5 u wu := (ws3 (u, wu) (List.mem_of_getElem? hwu)).same sm5
            have huN : nm g wu := nms wu (List.mem_of_getElem? h2u)
            have m1 : (1 : Int) ≤ ((es.map (·.1)).length : Int) := by omega
            have m2 : ((es.map (·.1)).length : Int) ≤ 1000 := by omega
            have hsz : (ts.map (·.1)).length < sizeLine := szm (by rw [List.length_map]; omega)
            walk_at "ev"
            refine ⟨fun hcn v w' H6 hsh sm6 hv => ?_, fun hcn d H6 hd sm6 hq => ?_⟩
            · rw [lx] at hcn hsh
              refine ⟨_, sm6 _ _ hD5, hsz, .mk ⟨same_mut (sm5.trans sm6) hD4, ts ++ [(v, w')], by rw [upd_same, List.map_append]; rfl, ws_app (ws5.same sm6) hv (sm6 _ _ hD5), by rw [List.length_append, tl5]; rfl, fun j w hj hw => ?_, fun j w w2 hw hw2 => ?_⟩⟩
              · by_cases c : j < i
                · exact tc5 j w c hw
                · have e : j = i := by omega
                  subst e
                  rw [h2u] at hw
                  cases hw
                  exact hcn
              · rw [List.map_append] at hw2
                by_cases c : j < i
                · rw [List.getElem?_append_left (by rw [List.length_map]; omega)] at hw2
                  exact tv5 j w w2 hw hw2
                · have hj : j < (ts.map (·.2) ++ [w']).length := (List.getElem?_eq_some_iff.mp hw2).1
                  rw [List.length_append, List.length_map, tl5] at hj
                  have e : j = i := by
                    have : [w'].length = 1 := rfl
                    omega
                  subst e
                  rw [h2u] at hw
                  cases hw
                  rw [List.getElem?_append_right (by rw [List.length_map]; omega), List.length_map, tl5, Nat.sub_self] at hw2
                  cases hw2
                  exact hsh
            · rw [lx] at hcn hq
              refine qs hdv rfl qq hlg (fun all => hcn (all wu ?_)) d H6 (s03.free (sm5.free hd)) (s03.trans (sm5.trans sm6)) hq
              rw [← sv]
              exact List.mem_of_getElem? h2u
          · intro H5 hP
            obtain ⟨sm5, ts, hD5, ws5, tl5, tc5, tv5⟩ := hP.un
            rw [List.length_map] at tl5 tc5
            walk_at "ev"
            refine qt hdv rfl qq hlg (fun w hw => ?_) D4 ts H5 (s03.free hD4) (s03.trans sm5) hD5 ws5 ⟨?_, fun j w w' hw hw' => tv5 j w w' (by rw [sv]; exact hw) hw'⟩
            · rw [← sv] at hw
              obtain ⟨j, hj⟩ := List.getElem?_of_mem hw
              refine tc5 j w ?_ hj
              have := (List.getElem?_eq_some_iff.mp hj).1
              rw [List.length_map] at this
              exact this
            · rw [List.length_map, tl5, ← sv, List.length_map]
end
def spPt (K : PySem.W.Frag) (C1 C2 CR CS : Addr) : Sp := fun vs H Q E => ∃ (a x : Addr) (g : Gk) (es : Es) (bk : Bool), vs = [.ref a, .ref x, .bl bk] ∧ GrAt C1 C2 H a g ∧ GkOk g ∧ (SqL K H x (es.map (·.1)) ∨ SqT K H x (es.map (·.1))) ∧ PtIn K g H es ∧ PtOut K CR CS g (es.map (·.2)) bk H Q E
section
variable {P : Program} {w : World} {K : PySem.W.Frag} {mg : Str → Option Value} {base : Heap}
theorem ok_pt {f f1 f2 f3 f4 f5 CT CB C1 C2 CR CS CI fI : Addr} {fd d1 d2 d3 d4 d5 fdI : FuncData} (F : Fun K "plain_turning" "plain_turning" s_plain_turning f fd) (T : Blt mg) (S : G16 K mg CT CB C1 C2 CR CS CI fI fdI) (D_sum_at : Df K mg "sum_at" s_sum_at P_sum_at f1 d1) (D_divided : Df K mg "divided" s_divided P_divided f2 d2) (D_multiplied : Df K mg "multiplied" s_multiplied P_multiplied f3 d3) (D_power_rest : Df K mg "power_rest" s_power_rest P_power_rest f4 d4) (D_inverse : Df K mg "inverse" s_inverse P_inverse f5 d5) : FnOk P w K mg base (L2.CX P w) 5 f fd P_plain_turning (spPt K C1 C2 CR CS) := by
  obtain ⟨_, _, a1, a2, a3⟩ := S.a1
  obtain ⟨_, _, q1, q2, q3⟩ := S.q1
  obtain ⟨_, _, h1, h2, h3⟩ := S.h1
  obtain ⟨_, _, r1, r2, r3⟩ := S.r1
  obtain ⟨_, _, s1, s2, s3⟩ := S.s1
  obtain ⟨_, _, b1, b2, b3⟩ := S.a2
  obtain ⟨_, _, p1, p2, p3⟩ := S.q2
  obtain ⟨_, _, i1, i2, i3⟩ := S.h2
  obtain ⟨_, _, t1, t2, t3⟩ := S.r2
  obtain ⟨_, _, u1, u2, u3⟩ := S.s2
  have A1 := ok_u1a (P := P) (w := w) (mg := mg) (base := base) (C2 := C2) (k := 0) a1 S.R1
  have M1 := ok_u1m (P := P) (w := w) (mg := mg) (base := base) (C2 := C2) (k := 1) q1 S.R1
  have A2 := ok_u2a (P := P) (w := w) (mg := mg) (base := base) (C1 := C1) (C2 := C2) (k := 0) b1 T
  have M2 := ok_u2m (P := P) (w := w) (base := base) (C1 := C1) (k := 0) p1 T S.R2 D_divided D_multiplied
  have Rt1 := ok_u1r (P := P) (w := w) (base := base) (C2 := C2) (k := 0) r1 S.R1 h3 h2 h1 D_power_rest S.F S.b S.ty S.RR S.mr
  have Rt2 := ok_u2r (P := P) (w := w) (base := base) (C1 := C1) (k := 0) t1 T S.R2 i1 i2 i3 D_divided S.F S.b S.ty S.RR S.mr
  have Sh1 := ok_u1s (P := P) (w := w) (base := base) (C2 := C2) (k := 0) s1 S.R1 D_inverse S.F S.b S.ty S.RI S.mi S.RS S.ms
  have Sh2 := ok_u2s (P := P) (w := w) (base := base) (C1 := C1) (C2 := C2) (k := 1) u1 T S.F S.b S.ty S.RS S.ms
  have E1 := ok_sm1L D_sum_at.F T S.R1.cl a2 a3 A1 q2 q3 M1
  have E2 := ok_sm1T D_sum_at.F T S.R1.cl a2 a3 A1 q2 q3 M1
  have E3 := ok_sm2L D_sum_at.F T S.R2.cl b2 b3 A2 p2 p3 M2
  have E4 := ok_sm2T D_sum_at.F T S.R2.cl b2 b3 A2 p2 p3 M2
  refine fnor (fnor (ok_pt1L F T S.R1.cl r2 r3 Rt1 s2 s3 Sh1 D_sum_at E1) (ok_pt1T F T S.R1.cl r2 r3 Rt1 s2 s3 Sh1 D_sum_at E2) (fun _ _ _ _ h => h)) (fnor (ok_pt2L F T S.R2.cl t2 t3 Rt2 u2 u3 Sh2 D_sum_at E3) (ok_pt2T F T S.R2.cl t2 t3 Rt2 u2 u3 Sh2 D_sum_at E4) (fun _ _ _ _ h => h)) ?_
  rintro vs H Q E ⟨a, x, g, es, bk, e1, e2, e3, e4, e5⟩
  cases g with
  | rests p =>
    rcases e4 with z | z
    · exact .inl (.inl ⟨a, x, _, es, bk, e1, e2, rfl, e3, z, e5⟩)
    · exact .inl (.inr ⟨a, x, _, es, bk, e1, e2, rfl, e3, z, e5⟩)
  | roots p =>
    rcases e4 with z | z
    · exact .inr (.inl ⟨a, x, _, es, bk, e1, e2, rfl, e3, z, e5⟩)
    · exact .inr (.inr ⟨a, x, _, es, bk, e1, e2, rfl, e3, z, e5⟩)
end
/-! ### f(e, .., k = v, ..) in a try's body -/
section
variable {X : Cx} {CX : CXT} {k n : Nat} {f : Addr} {fd : FuncData} {ps ks : List Str} {sp : Sp} {E : L2.St → XK} {x : Str} {p pos : Pos} {e : Expr} {es : List Expr} {kws : List Keyword} {t tk : TA} {g : List Value → List Value → List Value} {gV : List V → List V → List V}
end
/-- plain_turning, and how it is called: back left out, or told -/
structure Dpt (K : PySem.W.Frag) (mg : Str → Option Value) (f : Addr) (fd : FuncData) : Prop where
  F : Fun K "plain_turning" "plain_turning" s_plain_turning f fd
  b : ∃ ds, Vals [.bl false] ds ∧ Binds K fd P_plain_turning ds
  g : mg "plain_turning" = some (.ref f)
theorem Dpt.k {K : PySem.W.Frag} {mg : Str → Option Value} {f : Addr} {fd : FuncData} (D : Dpt K mg f fd) : KBn K fd P_plain_turning 2 ["back"] (fun us ws => us ++ ws) (fun vs zs => vs ++ zs) := by
  obtain ⟨oc, od, kV, doc, pm, an, cdv, ct, osl, rfl, lk, hcd⟩ := D.F.ex
  refine ⟨fun s us ws _ h1 h2 => ?_, fun a b => a.append b⟩
  match us, ws, h1, h2 with
  | [u, v], [x], _, _ => exact .of_eq rfl
theorem dpt_b {K : PySem.W.Frag} {f D : Addr} {od an : Option Addr} {sl : Array (Option Value)} {oc dc pm cd ct : Value}
    (l : K.lookup f = some ⟨oc, od, .func (PySem.W.fnOf "plain_turning" "plain_turning" (defArgs s_plain_turning) (defBody s_plain_turning) (defScope s_plain_turning) .none (.ref D) dc pm an cd ct), sl⟩)
    (c : PySem.W.codeIn K cd "plain_turning" = true) (k : PySem.W.keepIn K (.ref f) = true) (n : PySem.W.nsIn K D "back" = some (some (.bool false))) :
    ∃ ds, Vals [.bl false] ds ∧ Binds K (PySem.W.fnOf "plain_turning" "plain_turning" (defArgs s_plain_turning) (defBody s_plain_turning) (defScope s_plain_turning) .none (.ref D) dc pm an cd ct) P_plain_turning ds := by
  have FD : FunD K "plain_turning" "plain_turning" (defArgs s_plain_turning) (defBody s_plain_turning) (defScope s_plain_turning) [] [("back", .bl false)] f (PySem.W.fnOf "plain_turning" "plain_turning" (defArgs s_plain_turning) (defBody s_plain_turning) (defScope s_plain_turning) .none (.ref D) dc pm an cd ct) :=
    ⟨⟨oc, od, .none, .ref D, dc, pm, an, cd, ct, sl, rfl, l, c, .inl ⟨rfl, rfl⟩, .inr ⟨D, rfl, fun q hq => by
      cases List.mem_singleton.mp hq
      exact ⟨_, n, rfl⟩⟩⟩, k⟩
  exact FD.binds0 (ps := P_plain_turning) 2 (by simp) rfl fun D' _ _ _ _ _ us ks h1 h2 => match us, ks, h1, h2 with
    | [u, v], [x], _, _ => ⟨_, _, _, _, _, _, rfl, rfl, rfl⟩
abbrev s__law_has : Stmt := top 40
abbrev N__law_has : List Str := ["_law_world_here", "_law_length"]
abbrev P__law_has : List Str := ["_law_world_here", "_law_length"]
theorem sc__law_has : FnScope N__law_has P__law_has (defScope s__law_has) := ⟨rfl, rfl, rfl, by decide +kernel, rfl, by decide +kernel, by decide +kernel⟩
def spHas : Sp := fun vs H Q _ => ∃ (b d : Addr) (g : Gk) (L : Nat), vs = [.ref d, .int (L : Int)] ∧ WdM H b d g ∧ 1 ≤ L ∧ L ≤ 1000 ∧ Q (.bl (decide (numM g % (L : Int) = 0))) H
section
variable {P : Program} {w : World} {K : PySem.W.Frag} {mg : Str → Option Value} {base : Heap}
theorem ok_has {f : Addr} {fd : FuncData} {k : Nat} (F : Fun K "_law_has" "_law_has" s__law_has f fd) (T : Blt mg) : FnOk P w K mg base CX0 (k + 1) f fd P__law_has spHas := by
  have nd := sc__law_has.nd
  refine F.ok sc__law_has (fun vs H Q E h => ?_) (fun cdv A outer s H vs Q E hr h => ?_)
  · obtain ⟨b, d, g, L, rfl, _⟩ := h
    rfl
  · obtain ⟨b, d, g, L, rfl, hW, L1, L2', q⟩ := h
    refine ⟨_, (pss_one (ps_ret (pe_cmpR op_eq (pe_op op_mod (pe_op op_sub (pe_dget (du hr) (pv 0) (pe_str) (fun _ _ => rfl)) (pe_callTy call_int1 (by rfl) T.b_int (by decide +kernel) (pa_cons (pe_cmpR op_eq (pe_dget (du hr) (pv 0) (pe_str) (fun _ _ => rfl)) (pe_str) (nomark _)) pa_nil))) (pv 1)) (pe_int) (nomark _)))), ?_⟩
    have hL0 : (L : Int) ≠ 0 := by omega
    cases g with
    | rests p =>
      obtain ⟨h1, h2, gg, hlg, h3⟩ := hW
      obtain ⟨g1, g2⟩ := dget_r h3
      walk_at "ev"
      refine Eq.mp ?_ q
      congr 2
      exact decide_eq_decide.mpr ⟨fun h => congrArg V.int h, fun h => V.int.inj h⟩
    | roots n =>
      obtain ⟨h1, ⟨n1, n31⟩, l, nlb, h4, h5⟩ := hW
      obtain ⟨g1, g2, g3⟩ := dget_w h4
      walk_at "ev"
      refine Eq.mp ?_ q
      congr 2
      have e : ((n : Int) - 0) % (L : Int) = (n : Int) % (L : Int) := by rw [Int.sub_zero]
      exact decide_eq_decide.mpr ⟨fun h => congrArg V.int (e.trans h), fun h => e.symm.trans (V.int.inj h)⟩
end
abbrev s__law_lengths : Stmt := top 41
abbrev N__law_lengths : List Str := ["_law_world_here", "_law_top", "_law_length"]
abbrev P__law_lengths : List Str := ["_law_world_here", "_law_top"]
theorem sc__law_lengths : FnScope N__law_lengths P__law_lengths (defScope s__law_lengths) := ⟨rfl, rfl, rfl, by decide +kernel, rfl, by decide +kernel, by decide +kernel⟩
def spLens (K : PySem.W.Frag) : Sp := fun vs H Q _ => ∃ (b d : Addr) (g : Gk) (top : Nat), vs = [.ref d, .int (top : Int)] ∧ WdM H b d g ∧ 1 ≤ top ∧ top ≤ 100 ∧ ∀ p (ls : List Nat) H', H p = none → Same H H' → H' p = some (.lst (ls.map fun l : Nat => V.int (l : Int))) → 1 ≤ ls.length → ls.length ≤ top → (∀ l ∈ ls, 1 ≤ l ∧ l ≤ top ∧ numM g % (l : Int) = 0) → Q (.ref p) H'
section
variable {P : Program} {w : World} {K : PySem.W.Frag} {mg : Str → Option Value} {base : Heap}
theorem ok_lens {f f1 : Addr} {fd d1 : FuncData} {k : Nat} (F : Fun K "_law_lengths" "_law_lengths" s__law_lengths f fd) (T : Blt mg) (D__law_has : Df K mg "_law_has" s__law_has P__law_has f1 d1) : FnOk P w K mg base CX0 (k + 2) f fd P__law_lengths (spLens K) := by
  have G__law_has : FnOk P w K mg base CX0 1 f1 d1 P__law_has spHas := ok_has (k := 0) D__law_has.F T
  have nd := sc__law_lengths.nd
  refine F.ok sc__law_lengths (fun vs H Q E h => ?_) (fun cdv A outer s H vs Q E hr h => ?_)
  · obtain ⟨b, d, g, L, rfl, _⟩ := h
    rfl
  · obtain ⟨b, d, g, top, rfl, hW, t1, t2, q⟩ := h
    refine ⟨_, (pss_one (ps_ret (pe_lc (own := [("_law_length", 2)]) (g := gName 2) (by rfl) nd (pi_range2 (by rfl) T.b_range (pa_cons (pe_int) (pa_cons (pe_op op_add (pv 1) (pe_int)) pa_nil))) (blkOk_by (own := [("_law_length", 2)]) (N := N__law_lengths) (sc := defScope s__law_lengths) (by decide +kernel)) (fun _ _ _ _ _ => (pg_name (i := 2) nd rfl (Or.inl rfl))) (fun _ _ _ _ _ => pts_one (pt_val (pe_call G__law_has (hr.mono (by omega)) (by rfl) D__law_has.g D__law_has.F.kp D__law_has.b .nil pass0 (pa_cons (pv 0) (pa_cons (pv 2) pa_nil))))) (fun _ _ _ _ _ => (pv 2))))), ?_⟩
    walk_at "ev"
    intro D hD
    refine lc_range (lo := 1) (n := _) (fun i H' => Hold (Same H H' ∧ ∃ ls : List Nat, H' D = some (.lst (ls.map fun l : Nat => V.int (l : Int))) ∧ ls.length ≤ i ∧ (1 ≤ i → 1 ≤ ls.length) ∧ ∀ l ∈ ls, 1 ≤ l ∧ l ≤ i ∧ numM g % (l : Int) = 0)) (.mk ⟨same_new hD, [], upd_same, Nat.le_refl _, (fun z => by omega), fun l hl => by cases hl⟩) ?_ ?_
    · intro i H1 hi hP
      obtain ⟨sm1, ls, hD1, l1, l2, l3⟩ := hP.un
      have hi100 : i < 100 := by omega
      have hW1 := hW.up sm1
      have hsz : (ls.map fun l : Nat => V.int (l : Int)).length < sizeLine := szm (by rw [List.length_map]; omega)
      rw [show (1 : Int) + (i : Int) = ((i + 1 : Nat) : Int) by omega]
      walk_at "ev"
      refine ite2 (fun c => ?_) (fun c => ?_)
      · have c' := of_decide_eq_true c
        walk_at "ev"
        refine .mk ⟨same_mut sm1 hD, ls ++ [i + 1], by rw [upd_same, List.map_append]; rfl, by rw [List.length_append]; show ls.length + 1 ≤ i + 1; omega, fun _ => by rw [List.length_append]; show 1 ≤ ls.length + 1; omega, fun l hl => ?_⟩
        rcases List.mem_append.mp hl with z | z
        · obtain ⟨y1, y2, y3⟩ := l3 l z
          exact ⟨y1, by omega, y3⟩
        · cases List.mem_singleton.mp z
          exact ⟨by omega, by omega, c'⟩
      · have c' : ¬ numM g % ((i + 1 : Nat) : Int) = 0 := fun z => c (decide_eq_true z)
        refine .mk ⟨sm1, ls, hD1, by omega, fun _ => l2 ?_, fun l hl => ?_⟩
        · rcases Nat.eq_zero_or_pos i with z | z
          · subst z
            exact absurd (by rw [show ((0 + 1 : Nat) : Int) = 1 from rfl]; omega) c'
          · exact z
        · obtain ⟨y1, y2, y3⟩ := l3 l hl
          exact ⟨y1, by omega, y3⟩
    · intro H1 hP
      obtain ⟨sm1, ls, hD1, l1, l2, l3⟩ := hP.un
      have e : ((top : Int) + 1 - 1).toNat = top := by omega
      rw [e] at l1 l2 l3
      exact q D ls H1 hD sm1 hD1 (l2 t1) (by omega) l3
end
/-! ### plain_turning where nothing is refused -/
section
variable {P : Program} {w : World} {K : PySem.W.Frag} {mg : Str → Option Value} {base : Heap}
end
abbrev s_Rests_is_worth : Stmt := inClass (top 21) 5
abbrev N_Rests_is_worth : List Str := ["self", "thing"]
abbrev P_Rests_is_worth : List Str := ["self", "thing"]
theorem sc_Rests_is_worth : FnScope N_Rests_is_worth P_Rests_is_worth (defScope s_Rests_is_worth) := ⟨rfl, rfl, rfl, by decide +kernel, rfl, by decide +kernel, by decide +kernel⟩
def sp_isw (K : PySem.W.Frag) (C : Addr) : Sp := fun vs H Q _ => ∃ (a : Addr) (p : Int) (v : V) (t : String), vs = [.ref a, v] ∧ RestAt C H a p ∧ Kd K H v t ∧ (∀ i, v = .int i → Q (.bl (decide (0 ≤ i) && decide (i < p))) H) ∧ ((∀ i, v ≠ .int i) → Q (.bl false) H)
section
variable {P : Program} {w : World} {K : PySem.W.Frag} {mg : Str → Option Value} {base : Heap}
theorem ok_isw {f f1 C : Addr} {fd d1 : FuncData} {k : Nat} (F : Fun K "is_worth" "Rests.is_worth" s_Rests_is_worth f fd) (T : Blt mg) (RC : RestC K C) (D_is_whole : Df K mg "is_whole" s_is_whole P_is_whole f1 d1) : FnOk P w K mg base CX0 (k + 2) f fd P_Rests_is_worth (sp_isw K C) := by
  have G_is_whole : FnOk P w K mg base CX0 (k + 1) f1 d1 P_is_whole (spWhole K) := ok_whole D_is_whole.F T
  have nd := sc_Rests_is_worth.nd
  refine F.ok sc_Rests_is_worth (fun vs H Q E h => ?_) (fun cdv A outer s H vs Q E hr h => ?_)
  · obtain ⟨a, p, v, t, rfl, _⟩ := h
    rfl
  · obtain ⟨a, p, v, t, rfl, ⟨dx, g, ha, hg⟩, kd, qi, qo⟩ := h
    refine ⟨_, (pss_one (ps_ret (pe_and (pe_call G_is_whole (hr.mono (by omega)) (by rfl) D_is_whole.g D_is_whole.F.kp D_is_whole.b .nil pass0 (pa_cons (pv 1) pa_nil)) (pe_one (pe_chain op_le op_lt (pe_int) (pv 1) (pe_fld (pv 0) (by rfl))))))), ?_⟩
    obtain ⟨cl, np, nb⟩ := RC
    walk_at "ev"
    cases kd with
    | int i =>
      have qi := qi i rfl
      walk_at "ev"
      by_cases c : 0 ≤ i
      · rw [decide_eq_true c] at *
        walk_at "ev"
        exact qi
      · rw [decide_eq_false c] at *
        walk_at "ev"
        exact qi
    | _ =>
      walk_at "ev"
      exact qo fun i z => by cases z
end
abbrev s_Roots_is_worth : Stmt := inClass (top 27) 5
abbrev N_Roots_is_worth : List Str := ["self", "thing", "part"]
abbrev P_Roots_is_worth : List Str := ["self", "thing"]
theorem sc_Roots_is_worth : FnScope N_Roots_is_worth P_Roots_is_worth (defScope s_Roots_is_worth) := ⟨rfl, rfl, rfl, by decide +kernel, rfl, by decide +kernel, by decide +kernel⟩
def isW (m : Nat) : PyData → Bool
  | .tuple ds => decide (ds.length = m) && ds.all intD
  | _ => false
def spIsW (K : PySem.W.Frag) (C : Addr) : Sp := fun vs H Q _ => ∃ (a : Addr) (n : Nat) (v : V) (d : PyData), vs = [.ref a, v] ∧ RootAt C H a n ∧ 1 ≤ n ∧ n < 31 ∧ Dp K H v d ∧ (∀ ds, d = .tuple ds → ds.length ≤ 100) ∧ ∀ H', Same H H' → Q (.bl (isW ((whl n).length - 1) d)) H'
section
variable {P : Program} {w : World} {K : PySem.W.Frag} {mg : Str → Option Value} {base : Heap}
theorem ok_isW {f f1 C : Addr} {fd d1 : FuncData} {k : Nat} (F : Fun K "is_worth" "Roots.is_worth" s_Roots_is_worth f fd) (T : Blt mg) (RC : RootC K C) (D_is_whole : Df K mg "is_whole" s_is_whole P_is_whole f1 d1) : FnOk P w K mg base CX0 (k + 2) f fd P_Roots_is_worth (spIsW K C) := by
  have G_is_whole : FnOk P w K mg base CX0 (k + 1) f1 d1 P_is_whole (spWhole K) := ok_whole D_is_whole.F T
  have nd := sc_Roots_is_worth.nd
  refine F.ok sc_Roots_is_worth (fun vs H Q E h => ?_) (fun cdv A outer s H vs Q E hr h => ?_)
  · obtain ⟨a, n, v, d, rfl, _⟩ := h
    rfl
  · obtain ⟨a, n, v, d, rfl, ⟨dx, r, ha, hrm⟩, n1, n31, hd, hl, q⟩ := h
    refine ⟨_, (pss_cons (ps_if (PW.pt (pw_or (pt_not (pt_val (pe_callB (r := rIsi K) call_isi (by rfl) T.b_isinstance (by decide +kernel) (pa_cons (pv 1) (pa_cons (pe_bltn (v := .ty "tuple") (by rfl) T.b_tuple (by decide +kernel) rfl) pa_nil))))) (pw_or1 (pt_cmpR op_ne (pe_callB (r := rLenQ K) call_len_seq (by rfl) T.b_len (by decide +kernel) (pa_cons (pv 1) pa_nil)) (pe_op op_sub (pe_callB (r := rLenQ K) call_len_seq (by rfl) T.b_len (by decide +kernel) (pa_cons (pe_fld (pv 0) (by rfl)) pa_nil)) (pe_int)) (nomark _))))) (pss_one (ps_ret (pe_bl))) pss_nil)
      (pss_one (ps_ret (pe_callB (r := rAll K) (cr_all rfl) (by rfl) T.b_all (by decide +kernel) (pa_cons (pe_lc (own := [("part", 2)]) (g := gName 2) (by rfl) nd (pi_tup (pv 1)) (blkOk_by (own := [("part", 2)]) (N := N_Roots_is_worth) (sc := defScope s_Roots_is_worth) (by decide +kernel)) (fun _ _ _ _ _ => (pg_name (i := 2) nd rfl (Or.inl rfl))) (fun _ _ _ _ _ => pts_nil) (fun _ _ _ _ _ => (pe_call G_is_whole (hr.mono (by omega)) (by rfl) D_is_whole.g D_is_whole.F.kp D_is_whole.b .nil pass0 (pa_cons (pv 2) pa_nil)))) pa_nil))))), ?_⟩
    obtain ⟨cl, no, nr⟩ := RC
    have kd := kdD hd
    have ty := kd.ty
    obtain ⟨k1, k2, k3, k4, k5⟩ := kd.kit
    have q0 := q H (Same.refl _)
    have hRm := SqT.of (K := K) hrm
    obtain ⟨w2, w31, _⟩ := whl_last n n31 n1
    cases hd with
    | non =>
      walk_at "ev"
      exact q0
    | bl b =>
      walk_at "ev"
      exact q0
    | int i =>
      walk_at "ev"
      exact q0
    | str z =>
      walk_at "ev"
      exact q0
    | lst hs ha =>
      walk_at "ev"
      exact q0
    | tup hs hda =>
      rename_i a' xs ds
      have hlen := hl ds rfl
      have hdl := dpall_len hda
      have hxl : ((xs.length : Nat) : Int) = (ds.length : Int) := by rw [hdl]
      have hwl : ((((whl n).map V.int).length : Nat) : Int) - 1 = (((whl n).length - 1 : Nat) : Int) := by rw [List.length_map]; omega
      walk_at "ev"
      by_cases c : ds.length = (whl n).length - 1
      · refine iteFe (show (!decide (V.int (xs.length : Int) = V.int ((((whl n).map V.int).length : Int) - 1))) = false by rw [hwl, hxl, c]; simp) ?_
        have hL' : ∃ xs, SqT K H a' xs := ⟨_, hs⟩
        walk_at "ev"
        intro D hD
        refine lc_tup (K := K) (a := a') (xs := xs) (fun i H' => Hold (Same H H' ∧ H' D = some (.lst (((ds.take i).map intD).map V.bl)))) (.mk ⟨same_new hD, upd_same⟩) ?_ ?_ ?_
        · intro i H1 hi hP
          obtain ⟨sm1, hD1⟩ := hP.un
          exact same_t sm1 hs
        · intro i v H1 hv hP
          obtain ⟨sm1, hD1⟩ := hP.un
          obtain ⟨d, hdi, hdv⟩ := dpall_get hda hv
          have hil : i < ds.length := (List.getElem?_eq_some_iff.mp hdi).1
          have kdx := kdD (dp_same sm1 hdv)
          have hsz : (((ds.take i).map intD).map V.bl).length < sizeLine := szm (by rw [List.length_map, List.length_map, List.length_take]; omega)
          walk_at "ev"
          refine .mk ⟨same_mut sm1 hD, ?_⟩
          rw [upd_same, List.take_add_one, hdi, List.map_append, List.map_append, tyD_int]
          rfl
        · intro H1 hP
          obtain ⟨sm1, hD1⟩ := hP.un
          rw [hdl, List.take_length] at hD1
          refine ⟨D, _, rfl, SqL.of hD1, ?_⟩
          have q1 := q H1 sm1
          have e : isW ((whl n).length - 1) (.tuple ds) = (ds.map intD).all id := by
            show (decide (ds.length = _) && ds.all intD) = _
            rw [decide_eq_true c, List.all_map]
            rfl
          rw [e] at q1
          exact q1
      · refine iteTe (show (!decide (V.int (xs.length : Int) = V.int ((((whl n).map V.int).length : Int) - 1))) = true by rw [hwl, hxl, decide_eq_false (fun z => c (by have := V.int.inj z; omega))]; rfl) ?_
        have e : isW ((whl n).length - 1) (.tuple ds) = false := by
          show (decide (ds.length = _) && ds.all intD) = _
          rw [decide_eq_false c]
          rfl
        rw [e] at q0
        walk_at "ev"
        exact q0
end
/-! ### the other methods of a ground -/
structure GX (K : PySem.W.Frag) (C1 C2 : Addr) : Prop where
  i1 : ∃ f fd, Fun K "is_worth" "Rests.is_worth" s_Rests_is_worth f fd ∧ Binds K fd P_Rests_is_worth [] ∧ Meth K C1 "is_worth" f
  i2 : ∃ f fd, Fun K "is_worth" "Roots.is_worth" s_Roots_is_worth f fd ∧ Binds K fd P_Roots_is_worth [] ∧ Meth K C2 "is_worth" f
abbrev s__law_times : Stmt := top 45
abbrev N__law_times : List Str := ["_law_world_here", "_law_one", "_law_two", "_law_found", "_law_place", "_law_a", "_law_spot", "_law_b"]
abbrev P__law_times : List Str := ["_law_world_here", "_law_one", "_law_two"]
theorem sc__law_times : FnScope N__law_times P__law_times (defScope s__law_times) := ⟨rfl, rfl, rfl, by decide +kernel, rfl, by decide +kernel, by decide +kernel⟩
def spLm (K : PySem.W.Frag) : Sp := fun vs H Q _ => ∃ (b d : Addr) (g : Gk) (x y : V) (u w : Wt), vs = [.ref d, x, y] ∧ WdM H b d g ∧ WtAt K H x u ∧ WtAt K H y w ∧ nm g u ∧ nm g w ∧ bw u ∧ bw w ∧ ∀ v H', Same H H' → WtAt K H' v (gmul g u w) → Q v H'
section
variable {P : Program} {w : World} {K : PySem.W.Frag} {mg : Str → Option Value} {base : Heap}
theorem ok_lm {f f1 : Addr} {fd d1 : FuncData} {k : Nat} (F : Fun K "_law_times" "_law_times" s__law_times f fd) (T : Blt mg) (D__law_rest_by : Df K mg "_law_rest_by" s__law_rest_by P__law_rest_by f1 d1) : FnOk P w K mg base CX0 (k + 2) f fd P__law_times (spLm K) := by
  have G__law_rest_by : FnOk P w K mg base CX0 1 f1 d1 P__law_rest_by (spRest K) := ok_rest (k := 0) D__law_rest_by.F T
  have nd := sc__law_times.nd
  refine F.ok sc__law_times (fun vs H Q E h => ?_) (fun cdv A outer s H vs Q E hr h => ?_)
  · obtain ⟨b, d, g, x, y, u, w, rfl, _⟩ := h
    rfl
  · obtain ⟨bx, d, g, x, y, u, w, rfl, hW, hx, hy, nx, ny, bu, bw', q⟩ := h
    refine ⟨_, (pss_cons (ps_if (pt_cmpR op_eq (pe_dget (du hr) (pv 0) (pe_str) (fun _ _ => rfl)) (pe_str) (nomark _)) (pss_one (ps_ret (pe_op op_mod (pe_op op_mulW (pv 1) (pv 2)) (pe_dget (du hr) (pv 0) (pe_str) (fun _ _ => rfl))))) pss_nil)
      (pss_cons (ps_set (i := 3) nd rfl (Or.inl rfl) (pe_op op_rep (pe_lst (pa_cons (pe_int) pa_nil)) (pe_op op_sub (pe_op op_add (pe_callB (r := rLenQ K) call_len_seq (by rfl) T.b_len (by decide +kernel) (pa_cons (pv 1) pa_nil)) (pe_callB (r := rLenQ K) call_len_seq (by rfl) T.b_len (by decide +kernel) (pa_cons (pv 2) pa_nil))) (pe_int))))
      (pss_cons (ps_for PassesOwn.never rfl (pi_enumT (by rfl) T.b_enumerate (pa_cons (pv 1) pa_nil)) (pg_tup (by rfl) (pgs_cons (pg_name (i := 4) nd rfl (Or.inl rfl)) (pgs_cons (pg_name (i := 5) nd rfl (Or.inl rfl)) pgs_nil)))
      (pss_one (ps_for PassesOwn.never rfl (pi_enumT (by rfl) T.b_enumerate (pa_cons (pv 2) pa_nil)) (pg_tup (by rfl) (pgs_cons (pg_name (i := 6) nd rfl (Or.inl rfl)) (pgs_cons (pg_name (i := 7) nd rfl (Or.inl rfl)) pgs_nil)))
      (pss_one (ps_asg (pe_op op_add (pe_ix (r := rIxL K) ix_list (pv 3) (pe_op op_add (pv 4) (pv 6)) (fun _ _ => rfl)) (pe_op op_mulW (pv 5) (pv 7))) (pg_sub (pv 3) (pe_op op_add (pv 4) (pv 6)) set_list))))))
      (pss_one (ps_ret (pe_call G__law_rest_by (hr.mono (by omega)) (by rfl) D__law_rest_by.g D__law_rest_by.F.kp D__law_rest_by.b .nil pass0 (pa_cons (pe_dget (du hr) (pv 0) (pe_str) (fun _ _ => rfl)) (pa_cons (pv 3) pa_nil)))))))), ?_⟩
    cases g with
    | rests p =>
      obtain ⟨h1, h2, gg, hlg, h3⟩ := hW
      obtain ⟨g1, g2⟩ := dget_r h3
      have pb := prs_b h2
      cases u with
      | v xs => exact nx.elim
      | i u =>
        cases w with
        | v xs => exact ny.elim
        | i w =>
          have ex : x = .int u := hx
          have ey : y = .int w := hy
          subst ex ey
          obtain ⟨u0, u1⟩ := (show 0 ≤ u ∧ u < p from nx)
          obtain ⟨v0, v1⟩ := (show 0 ≤ w ∧ w < p from ny)
          have p400 : (10000 : Nat) < 2 ^ 9000 := by decide +kernel
          have cm : CMulW u w := wide_mul (a := 9000) (b := 9000) (by omega) (by omega) (by decide) (by decide) (by decide)
          walk_at "ev"
          exact q _ _ (Same.refl _) rfl
    | roots n =>
      obtain ⟨h1, ⟨n1, n31⟩, wl0, nlb, h4, h5⟩ := hW
      obtain ⟨g1, g2, g3⟩ := dget_w h4
      obtain ⟨w1, w30⟩ := wl1 n1 n31
      obtain ⟨w2', w31', wlast⟩ := whl_last n n31 n1
      have wbnd := whl_bnd n n31
      cases u with
      | i u => exact nx.elim
      | v one =>
        cases w with
        | i w => exact ny.elim
        | v two =>
          obtain ⟨a, ex, ha⟩ := hx
          obtain ⟨b, ey, hb⟩ := hy
          subst ex ey
          have l1 : one.length = wl n := nx
          have l2 : two.length = wl n := ny
          have b1 : 1 ≤ two.length := by omega
          have b2 : two.length ≤ 1000 := by omega
          have r1 : one.length ≤ 1000 := by omega
          have hbo : ∀ x ∈ one, x.natAbs < 2 ^ 9000 := bu
          have hbb : ∀ x ∈ two, x.natAbs < 2 ^ 9000 := bw'
          have z2 : -(2 ^ 63) ≤ ((one.map V.int).length : Int) + ((two.map V.int).length : Int) - 1 := by rw [List.length_map, List.length_map]; omega
          have z3 : ((one.map V.int).length : Int) + ((two.map V.int).length : Int) - 1 < 2 ^ 63 := by rw [List.length_map, List.length_map]; omega
          have z1 : ([V.int 0] : List V).length * (((one.map V.int).length : Int) + ((two.map V.int).length : Int) - 1).toNat ≤ sizeLine := szl (by rw [List.length_map, List.length_map]; show 1 * _ ≤ 60000; omega)
          walk_at "ev"
          intro l0 hl0
          generalize hG : upd _ l0 _ = H0
          obtain ⟨sm0, hq0⟩ := newO hG hl0
          clear hG
          have ha0 := same_t sm0 ha
          have hb0 := same_t sm0 hb
          walk_at "ev"
          intro l1 hl1
          generalize hG : upd _ l1 _ = H1
          obtain ⟨sm1, hq1⟩ := newO hG hl1
          clear hG
          have en : (((one.map V.int).length : Int) + ((two.map V.int).length : Int) - 1).toNat = one.length + two.length - 1 := by
            rw [List.length_map, List.length_map]
            omega
          have hq1' : H1 l1 = some (.lst ((pmN one two 0).map V.int)) := by
            rw [hq1, pmN, en, rep_flat, List.map_replicate]
          clear hq1
          have sm01 := sm0.trans sm1
          have ha1 := same_t sm01 ha
          have f1 : H l1 = none := sm0.free hl1
          walk_at "ev"
          refine for_enumT (K := K) (a := a) (xs := one.map V.int) (fun n σ H' => Hold (∃ (s3 s4 s5 s6 : Option V), σ = [some (.ref d), some (.ref a), some (.ref b), some (.ref l1), s3, s4, s5, s6] ∧ Same H H' ∧ H' l1 = some (.lst ((pmN one two n).map V.int)))) (.mk ⟨none, none, none, none, rfl, sm01, hq1'⟩) ?_ ?_ ?_
          · intro i σ H5 hP
            obtain ⟨s3, s4, s5, s6, rfl, sm5, h15⟩ := hP.un
            exact same_t sm5 ha
          · intro n v T' σ H5 hv hP hT
            obtain ⟨s3, s4, s5, s6, rfl, sm5, h15⟩ := hP.un
            rw [List.getElem?_map] at hv
            obtain ⟨top, hx, ev⟩ := Option.map_eq_some_iff.mp hv
            subst ev
            have hnl : n < one.length := (List.getElem?_eq_some_iff.mp hx).1
            have exn : one.getD n 0 = top := by rw [List.getD_eq_getElem?_getD, hx]; rfl
            generalize hG : upd _ T' _ = H6
            obtain ⟨sm6, hq6⟩ := newO hG hT
            clear hG
            have hT6 : SqT K H6 T' [.int (n : Nat), .int top] := SqT.of hq6
            have h16 := sm6 _ _ h15
            have sm06 := sm5.trans sm6
            have hb6 := same_t sm06 hb
            walk_at "ev"
            refine for_enumT (K := K) (a := b) (xs := two.map V.int) (fun i σ H' => Hold (∃ (s5 s6 : Option V), σ = [some (.ref d), some (.ref a), some (.ref b), some (.ref l1), some (.int (n : Nat)), some (.int top), s5, s6] ∧ Same H H' ∧ H' l1 = some (.lst ((addAt n top two (pmN one two n) i).map V.int)))) (.mk ⟨_, _, rfl, sm06, h16⟩) ?_ ?_ ?_
            · intro i σ H7 hP
              obtain ⟨s5, s6, rfl, sm7, h17⟩ := hP.un
              exact same_t sm7 hb
            · intro i v T2 σ H7 hv hP hT2
              obtain ⟨s5, s6, rfl, sm7, h17⟩ := hP.un
              rw [List.getElem?_map] at hv
              obtain ⟨x, hx2, ev⟩ := Option.map_eq_some_iff.mp hv
              subst ev
              have hil : i < two.length := (List.getElem?_eq_some_iff.mp hx2).1
              have exi : two.getD i 0 = x := by rw [List.getD_eq_getElem?_getD, hx2]; rfl
              have hxb := hbb x (List.mem_of_getElem? hx2)
              generalize hG : upd _ T2 _ = H8
              obtain ⟨sm8, hq8⟩ := newO hG hT2
              clear hG
              have hT8 : SqT K H8 T2 [.int (i : Nat), .int x] := SqT.of hq8
              have h18 := sm8 _ _ h17
              have hL8 := SqL.of (K := K) h18
              have hsl := addAt_len (start := n) (top := top) (bs := two) (r := pmN one two n) (i := i)
              rw [pmN_len] at hsl
              have at2 : atI ((addAt n top two (pmN one two n) i).map V.int) ((n : Nat) + (i : Nat)) = some (.int ((addAt n top two (pmN one two n) i).getD (n + i) 0)) := at_map (by omega) (by omega)
              have hix : ixN ((addAt n top two (pmN one two n) i).map V.int).length ((n : Nat) + (i : Nat)) = some (n + i) := ixn_of (by rw [List.length_map]; omega) (by omega)
              have cm : CMulW top x := wide_mul (hbo top (List.mem_of_getElem? hx)) hxb (by decide) (by decide) (by decide)
              walk_at "ev"
              refine .mk ⟨_, _, rfl, same_mut (sm7.trans sm8) f1, ?_⟩
              rw [upd_same, addAt, List.map_set, exi]
            · intro σ H7 hP
              obtain ⟨s5, s6, rfl, sm7, h17⟩ := hP.un
              rw [List.length_map] at h17
              refine .mk ⟨_, _, _, _, rfl, sm7, ?_⟩
              rw [h17, pmN, exn]
          · intro σ H5 hP
            obtain ⟨s3, s4, s5, s6, rfl, sm5, h15⟩ := hP.un
            rw [List.length_map] at h15
            obtain ⟨g1', g2', g3'⟩ := dget_w (sm5 _ _ h4)
            have hRB : SqL K H5 wl0 ((whl n).map V.int) := SqL.of (sm5 _ _ h5)
            have hRA : SqL K H5 l1 ((pmul one two).map V.int) := SqL.of h15
            have v1 : (whl n).length ≤ 1000 := by omega
            have v2 : (pmul one two).length ≤ 1000 := by rw [pmul_len]; omega
            walk_at "ev"
            intro z H9 hz sm9 hq9
            exact q _ _ (sm5.trans sm9) ⟨z, rfl, SqT.of hq9⟩

end
abbrev s__law_plus : Stmt := top 43
abbrev N__law_plus : List Str := ["_law_world_here", "_law_one", "_law_two", "_law_a", "_law_b"]
abbrev P__law_plus : List Str := ["_law_world_here", "_law_one", "_law_two"]
theorem sc__law_plus : FnScope N__law_plus P__law_plus (defScope s__law_plus) := ⟨rfl, rfl, rfl, by decide +kernel, rfl, by decide +kernel, by decide +kernel⟩
def spLa (K : PySem.W.Frag) : Sp := fun vs H Q _ => ∃ (b d : Addr) (g : Gk) (x y : V) (u w : Wt), vs = [.ref d, x, y] ∧ WdM H b d g ∧ WtAt K H x u ∧ WtAt K H y w ∧ nm g u ∧ nm g w ∧ ∀ v H', Same H H' → WtAt K H' v (gadd g u w) → Q v H'
section
variable {P : Program} {w : World} {K : PySem.W.Frag} {mg : Str → Option Value} {base : Heap}
theorem ok_la {f : Addr} {fd : FuncData} {k : Nat} (F : Fun K "_law_plus" "_law_plus" s__law_plus f fd) (T : Blt mg) : FnOk P w K mg base CX0 (k + 1) f fd P__law_plus (spLa K) := by
  have nd := sc__law_plus.nd
  refine F.ok sc__law_plus (fun vs H Q E h => ?_) (fun cdv A outer s H vs Q E hr h => ?_)
  · obtain ⟨b, d, g, x, y, u, w, rfl, _⟩ := h
    rfl
  · obtain ⟨b, d, g, x, y, u, w, rfl, hW, hx, hy, nx, ny, q⟩ := h
    refine ⟨_, (pss_cons (ps_if (pt_cmpR op_eq (pe_dget (du hr) (pv 0) (pe_str) (fun _ _ => rfl)) (pe_str) (nomark _)) (pss_one (ps_ret (pe_op op_mod (pe_op op_add (pv 1) (pv 2)) (pe_dget (du hr) (pv 0) (pe_str) (fun _ _ => rfl))))) pss_nil)
      (pss_one (ps_ret (pe_callTy call_tuple_of (by rfl) T.b_tuple (by decide +kernel) (pa_cons (pe_lc (own := [("_law_a", 3), ("_law_b", 4)]) (g := gTup K 2 (gCons (gName 3) (gCons (gName 4) gNil))) (by rfl) nd (RZ.pi_zipA (by rfl) T.b_zip (pa_cons (pv 1) (pa_cons (pv 2) pa_nil))) (blkOk_by (own := [("_law_a", 3), ("_law_b", 4)]) (N := N__law_plus) (sc := defScope s__law_plus) (by decide +kernel)) (fun _ _ _ _ _ => (pg_tup (by rfl) (pgs_cons (pg_name (i := 3) nd rfl (Or.inl rfl)) (pgs_cons (pg_name (i := 4) nd rfl (Or.inl rfl)) pgs_nil)))) (fun _ _ _ _ _ => pts_nil) (fun _ _ _ _ _ => (pe_op op_add (pv 3) (pv 4)))) pa_nil))))), ?_⟩
    cases g with
    | rests p =>
      obtain ⟨h1, h2, gg, hlg, h3⟩ := hW
      obtain ⟨g1, g2⟩ := dget_r h3
      have pb := prs_b h2
      cases u with
      | v xs => exact nx.elim
      | i u =>
        cases w with
        | v xs => exact ny.elim
        | i w =>
          have ex : x = .int u := hx
          have ey : y = .int w := hy
          subst ex ey
          walk_at "ev"
          exact q _ _ (Same.refl _) rfl
    | roots n =>
      obtain ⟨h1, ⟨n1, n31⟩, l, nlb, h4, h5⟩ := hW
      obtain ⟨g1, g2, g3⟩ := dget_w h4
      obtain ⟨w1, w30⟩ := wl1 n1 n31
      cases u with
      | i u => exact nx.elim
      | v one =>
        cases w with
        | i w => exact ny.elim
        | v two =>
          obtain ⟨x, ex, hx⟩ := hx
          obtain ⟨y, ey, hy⟩ := hy
          subst ex ey
          have l1 : one.length = wl n := nx
          have l2 : two.length = wl n := ny
          have hle : one.length = two.length := by omega
          have hl : one.length ≤ 100 := by omega
          walk_at "ev"
          refine .inr ⟨hx, hy, fun D hD => ?_⟩
          refine lc_pairs (xs := one.map V.int) (ys := two.map V.int) (fun i H' => Hold (Same H H' ∧ H' D = some (.lst (((List.zipWith (· + ·) one two).take i).map V.int)))) (.mk ⟨same_new hD, upd_same⟩) ?_ ?_ ?_ ?_ ?_
          · intro i H' hP hi
            obtain ⟨sm2, hD2⟩ := hP.un
            have hi2 : i < (two.map V.int).length := by rw [List.length_map] at *; omega
            exact ⟨_, _, _, _, same_t sm2 hx, same_t sm2 hy, List.getElem?_eq_getElem hi, List.getElem?_eq_getElem hi2⟩
          · intro i H' v H'' hP hi yl
            obtain ⟨sm2, hD2⟩ := hP.un
            obtain ⟨T, x', y', e1, e2, e3, f1, f2⟩ := yl
            exact ⟨T, x', y', e1, e2, e3, f1 _ (same_t sm2 hx), f2 _ (same_t sm2 hy)⟩
          · intro H' hP
            obtain ⟨sm2, hD2⟩ := hP.un
            exact ⟨_, _, same_t sm2 hx, same_t sm2 hy, .inl (Nat.le_refl _)⟩
          · intro i x' y' T' H' H'' hx' hy' hP hT e
            obtain ⟨sm2, hD2⟩ := hP.un
            obtain ⟨sm3, hT3⟩ := newO e.symm hT
            have hT4 : SqT K H'' T' [x', y'] := SqT.of hT3
            rw [List.getElem?_map] at hx' hy'
            obtain ⟨u, hu, eu⟩ := Option.map_eq_some_iff.mp hx'
            obtain ⟨v, hv, ev⟩ := Option.map_eq_some_iff.mp hy'
            subst eu ev
            have hil : i < one.length := (List.getElem?_eq_some_iff.mp hu).1
            have hsz : (((List.zipWith (· + ·) one two).take i).map V.int).length < sizeLine := szm (by rw [List.length_map, List.length_take]; omega)
            have hD3 := sm3 _ _ hD2
            walk_at "ev"
            refine .mk ⟨same_mut (sm2.trans sm3) hD, ?_⟩
            rw [upd_same, List.take_add_one, List.getElem?_zipWith, hu, hv, List.map_append]
            rfl
          · intro H' hP
            obtain ⟨sm2, hD2⟩ := hP.un
            have ez : (List.zipWith (· + ·) one two).length = (one.map V.int).length := by rw [List.length_zipWith, List.length_map]; omega
            rw [← ez, List.take_length] at hD2
            walk_at "ev"
            refine .inl ⟨SqL.of hD2, ?_⟩
            w_cond _3
            exact q _ _ (sm2.trans sm3) ⟨l3, rfl, SqT.of hq3⟩

end
abbrev s__law_roots : Stmt := top 46
abbrev N__law_roots : List Str := ["_law_world_here", "_law_length", "_law_base", "_law_found", "_law_turn", "_law_step", "_law_k"]
abbrev P__law_roots : List Str := ["_law_world_here", "_law_length"]
theorem sc__law_roots : FnScope N__law_roots P__law_roots (defScope s__law_roots) := ⟨rfl, rfl, rfl, by decide +kernel, rfl, by decide +kernel, by decide +kernel⟩
def spLr (K : PySem.W.Frag) : Sp := fun vs H Q _ => ∃ (b d : Addr) (g : Gk) (L : Nat), vs = [.ref d, .int (L : Int)] ∧ WdM H b d g ∧ 1 ≤ L ∧ L ≤ 100 ∧ numM g % (L : Int) = 0 ∧ ∀ p (rs : Es) q H', LgOk g q → H p = none → Same H H' → H' p = some (.lst (rs.map (·.1))) → WsAt K H' rs → rs.map (·.2) = (List.range L).map (rtW g q L) → Q (.ref p) H'
section
variable {P : Program} {w : World} {K : PySem.W.Frag} {mg : Str → Option Value} {base : Heap}
theorem ok_lr {f f1 : Addr} {fd d1 : FuncData} {k : Nat} (F : Fun K "_law_roots" "_law_roots" s__law_roots f fd) (T : Blt mg) (D__law_rest_by : Df K mg "_law_rest_by" s__law_rest_by P__law_rest_by f1 d1) : FnOk P w K mg base CX0 (k + 2) f fd P__law_roots (spLr K) := by
  have G__law_rest_by : FnOk P w K mg base CX0 1 f1 d1 P__law_rest_by (spRest K) := ok_rest (k := 0) D__law_rest_by.F T
  have nd := sc__law_roots.nd
  refine F.ok sc__law_roots (fun vs H Q E h => ?_) (fun cdv A outer s H vs Q E hr h => ?_)
  · obtain ⟨b, d, g, L, rfl, _⟩ := h
    rfl
  · obtain ⟨b, d, g, L, rfl, hW, L1, L100, hd, q⟩ := h
    refine ⟨_, (pss_cons (ps_if (pt_cmpR op_eq (pe_dget (du hr) (pv 0) (pe_str) (fun _ _ => rfl)) (pe_str) (nomark _)) (pss_cons (ps_par (i := 2) (j := 3) (by rfl) nd rfl rfl (by decide) rfl rfl (pa_cons (pe_int) (pa_cons (pe_lst (pa_cons (pe_int) pa_nil)) pa_nil)) (by rfl))
      (pss_cons (ps_for PassesOwn.never rfl (pi_range1 (by rfl) T.b_range (pa_cons (pe_op op_fdiv (pe_op op_sub (pe_dget (du hr) (pv 0) (pe_str) (fun _ _ => rfl)) (pe_int)) (pv 1)) pa_nil)) (pg_name (i := 4) nd rfl (Or.inl rfl))
      (pss_one (ps_set (i := 2) nd rfl (Or.inl rfl) (pe_op op_mod (pe_op op_mul (pv 2) (pe_dget (du hr) (pv 0) (pe_str) (fun _ _ => rfl))) (pe_dget (du hr) (pv 0) (pe_str) (fun _ _ => rfl))))))
      (pss_cons (ps_for PassesOwn.never rfl (pi_range1 (by rfl) T.b_range (pa_cons (pe_op op_sub (pv 1) (pe_int)) pa_nil)) (pg_name (i := 4) nd rfl (Or.inl rfl))
      (pss_one (ps_expr (pe_bm PySem.F.plainAttrs_list PySem.F.slot_list_append PySem.F.type_list_append mt_append (pv 3) (pa_cons (pe_op op_mod (pe_op op_mul (pe_ix (r := rIxL K) ix_list (pv 3) (pe_un un_neg (pe_int)) (fun _ _ => rfl)) (pv 2)) (pe_dget (du hr) (pv 0) (pe_str) (fun _ _ => rfl))) pa_nil)))))
      (pss_one (ps_ret (pv 3)))))) pss_nil)
      (pss_cons (ps_set (i := 5) nd rfl (Or.inr rfl) (pe_op op_fdiv (pe_dget (du hr) (pv 0) (pe_str) (fun _ _ => rfl)) (pv 1)))
      (pss_one (ps_ret (pe_lc (own := [("_law_k", 6)]) (g := gName 6) (by rfl) nd (pi_range1 (by rfl) T.b_range (pa_cons (pv 1) pa_nil)) (blkOk_by (own := [("_law_k", 6)]) (N := N__law_roots) (sc := defScope s__law_roots) (by decide +kernel)) (fun _ _ _ _ _ => (pg_name (i := 6) nd rfl (Or.inl rfl))) (fun _ _ _ _ _ => pts_nil) (fun _ _ _ _ _ => (pe_call G__law_rest_by (hr.mono (by omega)) (by rfl) D__law_rest_by.g D__law_rest_by.F.kp D__law_rest_by.b .nil pass0 (pa_cons (pe_dget (du hr) (pv 0) (pe_str) (fun _ _ => rfl)) (pa_cons (pe_op op_cat (pe_op op_rep (pe_lst (pa_cons (pe_int) pa_nil)) (pe_op op_mul (pv 5) (pv 6))) (pe_lst (pa_cons (pe_int) pa_nil))) pa_nil))))))))), ?_⟩
    cases g with
    | rests p =>
      obtain ⟨h1, h2, gg, ⟨out, hpf, hlg⟩, h3⟩ := hW
      obtain ⟨g1, g2⟩ := dget_r h3
      have g4 : DGet H d (.str "first") (some (.int gg)) := DGet.k (k := .inr "first") h3
      have pb := prs_b h2
      have gb : 1 ≤ gg ∧ gg < p := ⟨hlg.1, hlg.2.1⟩
      have a0 : 0 ≤ (p - 1) / (L : Int) := Int.ediv_nonneg (by omega) (by omega)
      have a1 : (p - 1) / (L : Int) ≤ p - 1 := Int.ediv_le_self _ (by omega)
      have r0 : ∀ x : Int, 0 ≤ x % p ∧ x % p < p := fun x => ⟨Int.emod_nonneg _ (by omega), Int.emod_lt_of_pos _ (by omega)⟩
      have hLz : (L : Int) ≠ 0 := by omega
      obtain ⟨am, ham⟩ : ∃ am, ((p - 1) / (L : Int)).toNat = am := ⟨_, rfl⟩
      have one0 : (1 : Int) = gg ^ 0 % p := by rw [Int.pow_zero, Int.emod_eq_of_lt (by omega) (by omega)]
      walk_at "ev"
      w_cond _1
      obtain ⟨g1', g2'⟩ := dget_r (sm1 _ _ h3)
      walk_at "ev"
      refine for_range (lo := 0) (n := _) (fun i σ H' => Hold (∃ (s4 : Option V), σ = [some (.ref d), some (.int (L : Int)), some (.int (gg ^ i % p)), some (.ref l1), s4, none, none] ∧ H' = H1)) (.mk ⟨_, by rw [← one0]; rfl, rfl⟩) ?_ ?_
      · intro i σ H2 hi hP
        obtain ⟨s4, rfl, rfl⟩ := hP.un
        have g4' : DGet H2 d (.str "first") (some (.int gg)) := DGet.k (k := .inr "first") (sm1 _ _ h3)
        have rr := r0 (gg ^ i)
        have cm : CMul (gg ^ i % p) gg := .inl ⟨by omega, by omega⟩
        walk_at "ev"
        refine .mk ⟨some (V.int (0 + (i : Int))), ?_, rfl⟩
        show _ = [some (V.ref d), some (V.int (L : Int)), some (V.int (gg ^ (i + 1) % p)), _, _, _, _]
        have est : gg ^ i % p * gg % p = gg ^ (i + 1) % p := by rw [Int.pow_succ, Int.mul_emod (gg ^ i % p) gg, Int.emod_emod, ← Int.mul_emod]
        rw [← est]
        rfl
      · intro σ H2 hP
        obtain ⟨s4, rfl, rfl⟩ := hP.un
        rw [ham]
        have rb := r0 (gg ^ am)
        walk_at "ev"
        refine for_range (lo := 0) (n := _) (fun i σ H' => Hold (∃ (s4 : Option V), σ = [some (.ref d), some (.int (L : Int)), some (.int (gg ^ am % p)), some (.ref l1), s4, none, none] ∧ Same H H' ∧ H' l1 = some (.lst (((List.range (i + 1)).map fun m => gg ^ (am * m) % p).map V.int)))) (.mk ⟨_, rfl, sm1, ?_⟩) ?_ ?_
        · rw [hq1]
          show _ = some (HO.lst [V.int (gg ^ (am * 0) % p)])
          rw [Nat.mul_zero, ← one0]
        · intro i σ H3 hi hP3
          obtain ⟨s4, rfl, sm3, h3'⟩ := hP3.un
          have hL3 := SqL.of (K := K) h3'
          obtain ⟨g1'', g2''⟩ := dget_r (sm3 _ _ h3)
          have hi100 : i < 100 := by omega
          have hat : atI (((List.range (i + 1)).map fun m => gg ^ (am * m) % p).map V.int) (-1) = some (.int (gg ^ (am * i) % p)) := by
            refine at_neg1 (by rw [List.length_map, List.length_map, List.length_range]; omega) ?_
            rw [List.length_map, List.length_map, List.length_range, List.getElem?_map, List.getElem?_map, List.getElem?_range (by omega)]
            rfl
          have rr := r0 (gg ^ (am * i))
          have cm : CMul (gg ^ (am * i) % p) (gg ^ am % p) := .inl ⟨by omega, by omega⟩
          have ty1 : tyV K "list" (.ref l1) H3 := .inl ⟨rfl, _, hL3⟩
          have hsz : (((List.range (i + 1)).map fun m => gg ^ (am * m) % p).map V.int).length < sizeLine := szm (by rw [List.length_map, List.length_map, List.length_range]; omega)
          walk_at "ev"
          refine .mk ⟨_, rfl, same_mut sm3 hl1, ?_⟩
          rw [upd_same, List.range_succ (n := i + 1), List.map_append, List.map_append]
          show some (HO.lst (_ ++ [V.int _])) = some (HO.lst (_ ++ [V.int (gg ^ (am * (i + 1)) % p)]))
          rw [← Int.mul_emod, ← Int.pow_add, Nat.mul_succ]
        · intro σ H3 hP3
          obtain ⟨s4, rfl, sm3, h3'⟩ := hP3.un
          have eL : ((L : Int) - 1).toNat + 1 = L := by omega
          walk_at "ev"
          refine q l1 ((List.range L).map fun m => (V.int (gg ^ (am * m) % p), Wt.i (gg ^ (am * m) % p))) gg H3 ⟨out, hpf, hlg⟩ hl1 sm3 ?_ (fun e he => ?_) ?_
          · rw [h3']
            rw [eL, List.map_map, List.map_map]
            rfl
          · obtain ⟨m, _, rfl⟩ := List.mem_map.mp he
            rfl
          · rw [List.map_map]
            refine List.map_congr_left fun m _ => ?_
            show Wt.i _ = Wt.i _
            rw [ham]
    | roots n =>
      obtain ⟨h1, ⟨n1, n31⟩, l, nlb, h4, h5⟩ := hW
      obtain ⟨g1, g2, g3⟩ := dget_w h4
      have hd' : n % L = 0 := by
        have : ((n : Int)) % (L : Int) = 0 := hd
        omega
      obtain ⟨w2', w31', wlast⟩ := whl_last n n31 n1
      have wbnd := whl_bnd n n31
      have eI : (n : Int) / (L : Int) = ((n / L : Nat) : Int) := rfl
      walk_at "ev"
      intro D hD
      refine lc_range (lo := 0) (n := _) (fun j H' => Hold (∃ rs : Es, rs.length = j ∧ Same H H' ∧ H' D = some (.lst (rs.map (·.1))) ∧ WsAt K H' rs ∧ rs.map (·.2) = (List.range j).map (rtW (.roots n) 0 L))) (.mk ⟨[], rfl, same_new hD, upd_same, (fun e he => by cases he), rfl⟩) ?_ ?_
      · intro j H2 hj hP
        obtain ⟨rs, hrl, sm2, hD2, w2, v2⟩ := hP.un
        have hjL : j < L := by omega
        obtain ⟨g1', g2', g3'⟩ := dget_w (sm2 _ _ h4)
        have hlt := rt_lt n1 L1 hd' hjL
        obtain ⟨e, he⟩ : ∃ e, n / L * j = e := ⟨_, rfl⟩
        rw [he] at hlt
        have eI2 : (n : Int) / (L : Int) * (0 + (j : Int)) = (e : Int) := by
          rw [Int.zero_add, eI, ← Int.natCast_mul, he]
        have cm : CMul ((n : Int) / (L : Int)) (0 + (j : Int)) := .inr ⟨by omega, by omega⟩
        have z2 : -(2 ^ 63) ≤ (n : Int) / (L : Int) * (0 + (j : Int)) := by rw [eI2]; omega
        have z3 : (n : Int) / (L : Int) * (0 + (j : Int)) < 2 ^ 63 := by rw [eI2]; omega
        have z1 : ([V.int 0] : List V).length * ((n : Int) / (L : Int) * (0 + (j : Int))).toNat ≤ sizeLine := szl (by rw [eI2, Int.toNat_natCast]; show 1 * e ≤ 60000; omega)
        walk_at "ev"
        w_cond _3
        walk_at "ev"
        w_cond _4
        walk_at "ev"
        w_cond _5
        have hq4' : H5 l4 = some (.lst ((List.replicate e (0 : Int)).map V.int)) := by
          rw [sm5 _ _ hq4, eI2, Int.toNat_natCast, rep_flat, List.map_replicate]
        have hz : ((List.replicate e (0 : Int)).map V.int).length + 1 ≤ sizeLine := szl (by rw [List.length_map, List.length_replicate]; omega)
        walk_at "ev"
        w_cond _6
        have s26 := sm3.trans (sm4.trans (sm5.trans sm6))
        have hRow : SqL K H6 l6 ((List.replicate e (0 : Int) ++ [1]).map V.int) := by
          rw [List.map_append]
          exact SqL.of hq6
        have hWl : SqL K H6 l ((whl n).map V.int) := SqL.of (s26 _ _ (sm2 _ _ h5))
        have y2 : (whl n).length ≤ 1000 := by omega
        have y3 : (List.replicate e (0 : Int) ++ [1]).length ≤ 1000 := by rw [List.length_append, List.length_replicate]; show e + 1 ≤ 1000; omega
        walk_at "ev"
        intro z H7 hz7 sm7 hq7
        have hD7 := (s26.trans sm7) _ _ hD2
        refine ⟨_, hD7, szm (by rw [List.length_map]; omega), .mk ⟨rs ++ [(.ref z, .v (rtP n e))], by rw [List.length_append, hrl]; rfl, same_mut (sm2.trans (s26.trans sm7)) hD, by rw [upd_same, List.map_append]; rfl, fun u hu => ?_, ?_⟩⟩
        · rcases List.mem_append.mp hu with y | y
          · exact ((w2 u y).same (s26.trans sm7)).mut hD7
          · rw [List.mem_singleton.mp y]
            have hzT : WtAt K H7 (.ref z) (.v (rtP n e)) := ⟨z, rfl, SqT.of hq7⟩
            exact hzT.mut hD7
        · rw [List.map_append, v2, List.range_succ, List.map_append]
          show _ ++ [Wt.v (rtP n e)] = _ ++ [Wt.v (rtP n (n / L * j))]
          rw [he]
      · intro H2 hP
        obtain ⟨rs, hrl, sm2, hD2, w2, v2⟩ := hP.un
        exact q D rs 0 H2 True.intro hD sm2 hD2 w2 v2
end
abbrev s__law_plainly : Stmt := top 47
abbrev N__law_plainly : List Str := ["_law_world_here", "_law_row_here", "_law_sign", "_law_count", "_law_found", "_law_roots_here", "_law_k", "_law_total", "_law_j", "_law_worth_here"]
abbrev P__law_plainly : List Str := ["_law_world_here", "_law_row_here", "_law_sign"]
theorem sc__law_plainly : FnScope N__law_plainly P__law_plainly (defScope s__law_plainly) := ⟨rfl, rfl, rfl, by decide +kernel, rfl, by decide +kernel, by decide +kernel⟩
def spPl (K : PySem.W.Frag) : Sp := fun vs H Q _ => ∃ (b d x : Addr) (g : Gk) (s : Int) (es : Es), vs = [.ref d, .ref x, .int s] ∧ WdM H b d g ∧ (s = 1 ∨ s = -1) ∧ SqL K H x (es.map (·.1)) ∧ WsAt K H es ∧ Nms g (es.map (·.2)) ∧ BwAt (es.map (·.2)) ∧ 1 ≤ es.length ∧ es.length ≤ 60 ∧ numM g % (es.length : Int) = 0 ∧ ∀ p (rs : Es) q H', LgOk g q → H p = none → Same H H' → H' p = some (.lst (rs.map (·.1))) → WsAt K H' rs → rs.map (·.2) = trn g q (es.map (·.2)) s → Q (.ref p) H'
section
variable {P : Program} {w : World} {K : PySem.W.Frag} {mg : Str → Option Value} {base : Heap}
theorem ok_pl {f f1 f2 f3 f4 f5 : Addr} {fd d1 d2 d3 d4 d5 : FuncData} (F : Fun K "_law_plainly" "_law_plainly" s__law_plainly f fd) (T : Blt mg) (D__law_whole : Df K mg "_law_whole" s__law_whole P__law_whole f1 d1) (D__law_plus : Df K mg "_law_plus" s__law_plus P__law_plus f2 d2) (D__law_times : Df K mg "_law_times" s__law_times P__law_times f3 d3) (D__law_rest_by : Df K mg "_law_rest_by" s__law_rest_by P__law_rest_by f4 d4) (D__law_roots : Df K mg "_law_roots" s__law_roots P__law_roots f5 d5) : FnOk P w K mg base CX0 3 f fd P__law_plainly (spPl K) := by
  have G__law_whole : FnOk P w K mg base CX0 1 f1 d1 P__law_whole (spLz K) := ok_lz (k := 0) D__law_whole.F T
  have G__law_plus : FnOk P w K mg base CX0 1 f2 d2 P__law_plus (spLa K) := ok_la (k := 0) D__law_plus.F T
  have G__law_times : FnOk P w K mg base CX0 2 f3 d3 P__law_times (spLm K) := ok_lm (k := 0) D__law_times.F T D__law_rest_by
  have G__law_roots : FnOk P w K mg base CX0 2 f5 d5 P__law_roots (spLr K) := ok_lr (k := 0) D__law_roots.F T D__law_rest_by
  have nd := sc__law_plainly.nd
  refine F.ok sc__law_plainly (fun vs H Q E h => ?_) (fun cdv A outer s H vs Q E hr h => ?_)
  · obtain ⟨b, d, x, g, s, es, rfl, _⟩ := h
    rfl
  · obtain ⟨b, d, x, g, sg, es, rfl, hW, hsg, hX, hes, hnm, hbw, e1, e60, hdv, q⟩ := h
    have hok := hW.ok
    refine ⟨_, (pss_cons (ps_par (i := 3) (j := 4) (by rfl) nd rfl rfl (by decide) rfl rfl (pa_cons (pe_callB (r := rLenQ K) call_len_seq (by rfl) T.b_len (by decide +kernel) (pa_cons (pv 1) pa_nil)) (pa_cons (pe_lst pa_nil) pa_nil)) (by rfl))
      (pss_cons (ps_set (i := 5) nd rfl (Or.inl rfl) (pe_call G__law_roots (hr.mono (by omega)) (by rfl) D__law_roots.g D__law_roots.F.kp D__law_roots.b .nil pass0 (pa_cons (pv 0) (pa_cons (pv 3) pa_nil))))
      (pss_cons (ps_for PassesOwn.never rfl (pi_range1 (by rfl) T.b_range (pa_cons (pv 3) pa_nil)) (pg_name (i := 6) nd rfl (Or.inl rfl))
      (pss_cons (ps_set (i := 7) nd rfl (Or.inl rfl) (pe_call G__law_whole (hr.mono (by omega)) (by rfl) D__law_whole.g D__law_whole.F.kp D__law_whole.b .nil pass0 (pa_cons (pv 0) (pa_cons (pe_int) pa_nil))))
      (pss_cons (ps_for PassesOwn.never rfl (pi_enum (by rfl) T.b_enumerate (pa_cons (pv 1) pa_nil)) (pg_tup (by rfl) (pgs_cons (pg_name (i := 8) nd rfl (Or.inl rfl)) (pgs_cons (pg_name (i := 9) nd rfl (Or.inl rfl)) pgs_nil)))
      (pss_one (ps_set (i := 7) nd rfl (Or.inl rfl) (pe_call G__law_plus (hr.mono (by omega)) (by rfl) D__law_plus.g D__law_plus.F.kp D__law_plus.b .nil pass0 (pa_cons (pv 0) (pa_cons (pv 7) (pa_cons (pe_call G__law_times (hr.mono (by omega)) (by rfl) D__law_times.g D__law_times.F.kp D__law_times.b .nil pass0 (pa_cons (pv 0) (pa_cons (pv 9) (pa_cons (pe_ix (r := rIxL K) ix_list (pv 5) (pe_op op_mod (pe_op op_mul (pe_op op_mul (pv 2) (pv 8)) (pv 6)) (pv 3)) (fun _ _ => rfl)) pa_nil)))) pa_nil)))))))
      (pss_one (ps_expr (pe_bm PySem.F.plainAttrs_list PySem.F.slot_list_append PySem.F.type_list_append mt_append (pv 4) (pa_cons (pv 7) pa_nil)))))))
      (pss_one (ps_ret (pv 4)))))), ?_⟩
    have lx : (es.map (·.1)).length = es.length := List.length_map _
    have l2 : (es.map (·.2)).length = es.length := List.length_map _
    have hX0 : SqL K H x (es.map (·.1)) ∨ SqT K H x (es.map (·.1)) := .inl hX
    have sgb : -1 ≤ sg ∧ sg ≤ 1 := by omega
    walk_at "ev"
    w_cond _1
    have hW1 := hW.up sm1
    have e1' : 1 ≤ (es.map (·.1)).length := by omega
    have e100 : (es.map (·.1)).length ≤ 100 := by omega
    have hdv' : numM g % (((es.map (·.1)).length : Nat) : Int) = 0 := by rw [lx]; exact hdv
    walk_at "ev"
    intro pr rr qq H2 hlg hpr sm2 hqr wr vr
    rw [lx] at vr
    have hrl : rr.length = es.length := by
      have := congrArg List.length vr
      rw [List.length_map, List.length_map, List.length_range] at this
      exact this
    have n1r : l1 ≠ pr := ne_of_none hq1 hpr
    walk_at "ev"
    refine for_range (lo := 0) (n := _) (fun k σ H' => Hold (∃ (rs : Es) (s6 s7 s8 s9 : Option V), σ = [some (.ref d), some (.ref x), some (.int sg), some (.int ((es.map (·.1)).length : Int)), some (.ref l1), some (.ref pr), s6, s7, s8, s9] ∧ Same H H' ∧ H' pr = some (.lst (rr.map (·.1))) ∧ WsAt K H' rr ∧ H' l1 = some (.lst (rs.map (·.1))) ∧ WsAt K H' rs ∧ rs.map (·.2) = (List.range k).map fun k => tnF g qq (es.map (·.2)) sg k es.length)) (.mk ⟨[], _, _, _, _, rfl, sm1.trans sm2, hqr, wr, sm2 _ _ hq1, (fun e he => by cases he), rfl⟩) ?_ ?_
    · intro k σ H3 hk hP
      obtain ⟨rs, s6, s7, s8, s9, rfl, sm3, hr3, wr3, h13, w3, v3⟩ := hP.un
      have hk60 : k < es.length := by omega
      have hW3 := hW.up sm3
      have hrsl : rs.length = k := by
        have := congrArg List.length v3
        rw [List.length_map, List.length_map, List.length_range] at this
        exact this
      walk_at "ev"
      intro v4 H4 sm4 hv4
      rw [gw_z hok] at hv4
      have hX4 := (sm3.trans sm4).seq hX
      walk_at "ev"
      refine for_enumL (K := K) (a := x) (xs := es.map (·.1)) (fun j σ H' => Hold (∃ (v : V) (s8 s9 : Option V), σ = [some (.ref d), some (.ref x), some (.int sg), some (.int ((es.map (·.1)).length : Int)), some (.ref l1), some (.ref pr), some (.int (0 + (k : Int))), some v, s8, s9] ∧ Same H4 H' ∧ WtAt K H' v (tnF g qq (es.map (·.2)) sg k j))) (.mk ⟨v4, _, _, rfl, Same.refl _, hv4⟩) ?_ ?_ ?_
      · intro j σ H5 hP5
        obtain ⟨v, s8, s9, rfl, sm5, hv⟩ := hP5.un
        exact sm5.seq hX4
      · intro j u T' σ H5 hu hP5 hT
        obtain ⟨v, s8, s9, rfl, sm5, hv⟩ := hP5.un
        obtain ⟨wu, hwu⟩ := es_get hu
        have hjl : j < es.length := (List.getElem?_eq_some_iff.mp hwu).1
        have euj : (es.map (·.2)).getD j (gz g) = wu := es_snd hwu
        generalize hGG : upd _ T' _ = H6
        obtain ⟨sm6, hq6⟩ := newO hGG hT
        clear hGG
        have hT6 : SqT K H6 T' [.int (j : Nat), u] := SqT.of hq6
        have s36 := sm4.trans (sm5.trans sm6)
        have s06 := sm3.trans s36
        have hW6 := hW.up s06
        have hR6 := SqL.of (K := K) (s36 _ _ hr3)
        have hti := tix_lt (s := sg) (L := es.length) (j := j) (k := k) e1
        obtain ⟨⟨rv, rw'⟩, hrv⟩ : ∃ e, rr[tix sg es.length j k]? = some e := ⟨_, List.getElem?_eq_getElem (by omega)⟩
        have erw : rw' = rtW g qq es.length (tix sg es.length j k) := by
          have h1 : (rr.map (·.2))[tix sg es.length j k]? = some rw' := by rw [List.getElem?_map, hrv]; rfl
          rw [vr, List.getElem?_map, List.getElem?_range hti] at h1
          exact (Option.some.inj h1).symm
        have m0 := Int.emod_nonneg (sg * (j : Int) * (0 + (k : Int))) (show ((es.map (·.1)).length : Int) ≠ 0 by omega)
        have hIx : sg * (j : Int) * (0 + (k : Int)) % ((es.map (·.1)).length : Int) = ((tix sg es.length j k : Nat) : Int) := by
          unfold tix
          rw [lx] at m0 ⊢
          rw [Int.zero_add] at m0 ⊢
          rw [Int.toNat_of_nonneg m0]
        have hat : atI (rr.map (·.1)) (sg * (j : Int) * (0 + (k : Int)) % ((es.map (·.1)).length : Int)) = some rv := at_of (j := tix sg es.length j k) hIx (by rw [List.getElem?_map, hrv]; rfl)
        have cm1 : CMul sg (j : Int) := .inl ⟨by omega, by omega⟩
        have sj : -60 ≤ sg * (j : Int) ∧ sg * (j : Int) ≤ 60 := by
          rcases hsg with z | z <;> subst z <;> omega
        have cm2 : CMul (sg * (j : Int)) (0 + (k : Int)) := .inl ⟨by omega, by omega⟩
        have hnz : ((es.map (·.1)).length : Int) ≠ 0 := by omega
        have hnp : 0 < ((es.map (·.1)).length : Int) := by omega
        have hrA : WtAt K H6 rv rw' := (wr3 (rv, rw') (List.mem_of_getElem? hrv)).same s36
        have hrN : nm g rw' := by rw [erw]; exact nm_rt hok
        have hrB : bw rw' := by rw [erw]; exact bw_rt hok e1 hdv hti
        have huA : WtAt K H6 u wu := (hes (u, wu) (List.mem_of_getElem? hwu)).same s06
        have huN : nm g wu := hnm wu (getD_m (d := wu) hwu)
        have huB : bw wu := hbw wu (getD_m (d := wu) hwu)
        have hvA := hv.same sm6
        have hvN : nm g (tnF g qq (es.map (·.2)) sg k j) := tnF_nm hok hnm j
        walk_at "ev"
        intro v7 H7 sm7 hv7
        have hW7 := hW6.up sm7
        have hvA7 := hvA.same sm7
        have hmN : nm g (gmul g wu rw') := nm_mul hok huN hrN
        walk_at "ev"
        intro v8 H8 sm8 hv8
        walk_at "ev"
        refine .mk ⟨v8, _, _, rfl, sm5.trans (sm6.trans (sm7.trans sm8)), ?_⟩
        show WtAt K H8 v8 (gadd g _ (gmul g ((es.map (·.2)).getD j (gz g)) (rtW g qq (es.map (·.2)).length (tix sg (es.map (·.2)).length j k))))
        rw [euj, l2, ← erw]
        exact hv8
      · intro σ H5 hP5
        obtain ⟨v, s8, s9, rfl, sm5, hv⟩ := hP5.un
        rw [lx] at hv
        have s35 := sm4.trans sm5
        have h15 := s35 _ _ h13
        have ty1 : tyV K "list" (.ref l1) H5 := .inl ⟨rfl, _, SqL.of h15⟩
        have hsz : (rs.map (·.1)).length < sizeLine := szm (by rw [List.length_map]; omega)
        walk_at "ev"
        refine .mk ⟨rs ++ [(v, tnF g qq (es.map (·.2)) sg k es.length)], _, _, _, _, rfl, same_mut (sm3.trans s35) hl1, by rw [upd_ne n1r.symm]; exact s35 _ _ hr3, (wr3.same s35).mut h15, by rw [upd_same, List.map_append]; rfl, fun e he => ?_, by rw [List.map_append, v3, List.range_succ, List.map_append]; rfl⟩
        rcases List.mem_append.mp he with z | z
        · exact ((w3 e z).same s35).mut h15
        · rw [List.mem_singleton.mp z]
          exact hv.mut h15
    · intro σ H3 hP
      obtain ⟨rs, s6, s7, s8, s9, rfl, sm3, hr3, wr3, h13, w3, v3⟩ := hP.un
      walk_at "ev"
      refine q l1 rs qq H3 hlg hl1 sm3 h13 w3 ?_
      rw [v3]
      unfold trn
      rw [l2]
      congr 2
end
section
variable {X : Cx} {T : String} {name : Str} {id : String} {r : V → List V → Hp → VK → Prop} {o e : Expr} {es : List Expr} {to : TE} {t : TA} {apos cpos : Pos}
end
/-! ### data, alike or not -/
open Classical in
noncomputable def deq (a b : PyData) : Bool := decide (a = b)
open Classical in
theorem deq_t {a b : PyData} (h : a = b) : deq a b = true := decide_eq_true h
open Classical in
theorem deq_f {a b : PyData} (h : a ≠ b) : deq a b = false := decide_eq_false h
open Classical in
theorem deq_iff {a b : PyData} : deq a b = true ↔ a = b := decide_eq_true_iff
theorem deq_b {a b : PyData} {c : Bool} (h : c = true ↔ a = b) : deq a b = c := by
  cases c with
  | true => exact deq_t (h.mp rfl)
  | false => exact deq_f fun e => by have := h.mpr e; cases this
def Fs (n : Nat) (d : PyData) : Prop := Fit n d ∧ SeqAt.shaped d = true
theorem lay_mem : ∀ {ds : List PyData} {e : PyData}, PyData.canLayAll0 ds = true → e ∈ ds → e.canLay0 = true
  | [], _, _, h => by cases h
  | d :: r, e, h, he => by
    rw [PyData.canLayAll0, Bool.and_eq_true] at h
    rcases List.mem_cons.mp he with z | z
    · rw [z]
      exact h.1
    · exact lay_mem h.2 z
theorem dep_mem : ∀ {ds : List PyData} {e : PyData}, e ∈ ds → e.depth ≤ PyData.depthAll ds
  | [], _, h => by cases h
  | d :: r, e, he => by
    rw [PyData.depthAll]
    rcases List.mem_cons.mp he with z | z
    · rw [z]
      exact Nat.le_max_left _ _
    · exact Nat.le_trans (dep_mem z) (Nat.le_max_right _ _)
theorem shp {d : PyData} (h : SeqAt.shaped d = true) : d.canLay0 = true ∧ d.depth ≤ 64 := by
  unfold SeqAt.shaped at h
  rw [Bool.and_eq_true] at h
  exact ⟨h.1, of_decide_eq_true h.2⟩
theorem shp' {d : PyData} (h : d.canLay0 = true) (h2 : d.depth ≤ 64) : SeqAt.shaped d = true := by
  unfold SeqAt.shaped
  rw [h, decide_eq_true h2]
  rfl
theorem Fs.lst {n : Nat} {ds : List PyData} {e : PyData} (h : Fs (n + 1) (.list ds)) (he : e ∈ ds) : Fs n e := by
  obtain ⟨h1, h2⟩ := h
  obtain ⟨a, b⟩ := shp h2
  rw [PyData.canLay0] at a
  rw [PyData.depth] at b
  have := dep_mem he
  exact ⟨h1.2 e he, shp' (lay_mem a he) (by omega)⟩
theorem Fs.tup {n : Nat} {ds : List PyData} {e : PyData} (h : Fs (n + 1) (.tuple ds)) (he : e ∈ ds) : Fs n e := by
  obtain ⟨h1, h2⟩ := h
  obtain ⟨a, b⟩ := shp h2
  rw [PyData.canLay0] at a
  rw [PyData.depth] at b
  have := dep_mem he
  exact ⟨h1.2 e he, shp' (lay_mem a he) (by omega)⟩
theorem zip_deq : ∀ {ds es : List PyData}, ds.length = es.length → ((List.zipWith deq ds es).all id = true ↔ ds = es)
  | [], [], _ => by simp
  | [], _ :: _, h => by simp at h
  | _ :: _, [], h => by simp at h
  | d :: ds, e :: es, h => by
    rw [List.zipWith_cons_cons, List.all_cons, Bool.and_eq_true, zip_deq (by simpa using h)]
    show (deq d e = true ∧ _) ↔ _
    rw [deq_iff, List.cons.injEq]
def spDsm (K : PySem.W.Frag) (n : Nat) : Sp := fun vs H Q _ => ∃ (x y : V) (d e : PyData), vs = [x, y] ∧ Dp K H x d ∧ Dp K H y e ∧ Fs n d ∧ Fs n e ∧ ∀ H', Same H H' → Q (.bl (deq d e)) H'
theorem qdf {Q : VK} {H : Hp} {d e : PyData} (h : Q (.bl (deq d e)) H) (n : d ≠ e) : Q (.bl false) H := by rw [deq_f n] at h; exact h
theorem qdt {Q : VK} {H : Hp} {d e : PyData} (h : Q (.bl (deq d e)) H) (n : d = e) : Q (.bl true) H := by rw [deq_t n] at h; exact h
theorem qdb {Q : VK} {H : Hp} {d e : PyData} {b : Bool} (h : Q (.bl (deq d e)) H) (n : b = true ↔ d = e) : Q (.bl b) H := by rw [deq_b n] at h; exact h
section
variable {P : Program} {w : World} {K : PySem.W.Frag} {mg : Str → Option Value} {base : Heap}
theorem dsm_step {f : Addr} {fd : FuncData} {n : Nat} {spI : Sp} (D__law_same : Df K mg "_law_same" s__law_same P__law_same f fd) (T : Blt mg) (G__law_same : FnOk P w K mg base CX0 n f fd P__law_same spI) (hG : ∀ m, n = m + 1 → spI = spDsm K m) : FnOk P w K mg base CX0 (n + 1) f fd P__law_same (spDsm K n) := by
  have nd := sc__law_same.nd
  refine D__law_same.F.ok sc__law_same (fun vs H Q E h => ?_) (fun cdv A outer s H vs Q E hr h => ?_)
  · obtain ⟨x, y, d, e, rfl, _⟩ := h
    rfl
  · obtain ⟨x, y, d, e, rfl, hx, hy, fx, fy, q⟩ := h
    refine ⟨_, (pss_cons (ps_if (pt_val (pe_callB (r := rIsiT K) call_isiT (by rfl) T.b_isinstance (by decide +kernel) (pa_cons (pv 1) (pa_cons (pe_tup (pa_cons (pe_bltn (v := .ty "list") (by rfl) T.b_list (by decide +kernel) rfl) (pa_cons (pe_bltn (v := .ty "tuple") (by rfl) T.b_tuple (by decide +kernel) rfl) pa_nil))) pa_nil)))) (pss_cons (ps_if (PW.pt (pw_or (pt_cmpR op_ne (pe_callB (r := rIsi K) call_isi (by rfl) T.b_isinstance (by decide +kernel) (pa_cons (pv 0) (pa_cons (pe_bltn (v := .ty "list") (by rfl) T.b_list (by decide +kernel) rfl) pa_nil))) (pe_callB (r := rIsi K) call_isi (by rfl) T.b_isinstance (by decide +kernel) (pa_cons (pv 1) (pa_cons (pe_bltn (v := .ty "list") (by rfl) T.b_list (by decide +kernel) rfl) pa_nil))) (nomark _)) (pw_or1 (pt_cmpR op_ne (pe_callB (r := rIsi K) call_isi (by rfl) T.b_isinstance (by decide +kernel) (pa_cons (pv 0) (pa_cons (pe_bltn (v := .ty "tuple") (by rfl) T.b_tuple (by decide +kernel) rfl) pa_nil))) (pe_callB (r := rIsi K) call_isi (by rfl) T.b_isinstance (by decide +kernel) (pa_cons (pv 1) (pa_cons (pe_bltn (v := .ty "tuple") (by rfl) T.b_tuple (by decide +kernel) rfl) pa_nil))) (nomark _))))) (pss_one (ps_ret (pe_bl))) pss_nil)
      (pss_cons (ps_if (pt_cmpR op_ne (pe_callB (r := rLenQ K) call_len_seq (by rfl) T.b_len (by decide +kernel) (pa_cons (pv 0) pa_nil)) (pe_callB (r := rLenQ K) call_len_seq (by rfl) T.b_len (by decide +kernel) (pa_cons (pv 1) pa_nil)) (nomark _)) (pss_one (ps_ret (pe_bl))) pss_nil)
      (pss_one (ps_ret (pe_callB (r := rAll K) (cr_all rfl) (by rfl) T.b_all (by decide +kernel) (pa_cons (pe_lc (own := [("_law_one", 2), ("_law_two", 3)]) (g := gTup K 2 (gCons (gName 2) (gCons (gName 3) gNil))) (by rfl) nd (RZ.pi_zipA (by rfl) T.b_zip (pa_cons (pv 0) (pa_cons (pv 1) pa_nil))) (blkOk_by (own := [("_law_one", 2), ("_law_two", 3)]) (N := N__law_same) (sc := defScope s__law_same) (by decide +kernel)) (fun _ _ _ _ _ => (pg_tup (by rfl) (pgs_cons (pg_name (i := 2) nd rfl (Or.inl rfl)) (pgs_cons (pg_name (i := 3) nd rfl (Or.inl rfl)) pgs_nil)))) (fun _ _ _ _ _ => pts_nil) (fun _ _ _ _ _ => (pe_call G__law_same (hr.mono (by omega)) (by rfl) D__law_same.g D__law_same.F.kp D__law_same.b .nil pass0 (pa_cons (pv 2) (pa_cons (pv 3) pa_nil))))) pa_nil)))))) pss_nil)
      (pss_cons (ps_if (PW.pt (pw_or (pt_cmpR op_isN (pv 1) (pe_non) (nomark _)) (pw_or1 (pt_val (pe_callB (r := rIsi K) call_isi (by rfl) T.b_isinstance (by decide +kernel) (pa_cons (pv 1) (pa_cons (pe_bltn (v := .ty "str") (by rfl) T.b_str (by decide +kernel) rfl) pa_nil))))))) (pss_one (ps_ret (pe_and (pe_cmpR (r := rEqD K) (op_eqD hr.units) (pv 0) (pv 1) (nomark _)) (pe_one (pe_cmpR op_eq (pe_callB (r := rIsi K) call_isi (by rfl) T.b_isinstance (by decide +kernel) (pa_cons (pv 0) (pa_cons (pe_bltn (v := .ty "str") (by rfl) T.b_str (by decide +kernel) rfl) pa_nil))) (pe_callB (r := rIsi K) call_isi (by rfl) T.b_isinstance (by decide +kernel) (pa_cons (pv 1) (pa_cons (pe_bltn (v := .ty "str") (by rfl) T.b_str (by decide +kernel) rfl) pa_nil))) (nomark _)))))) pss_nil)
      (pss_one (ps_ret (pe_and (pe_callB (r := rIsi K) call_isi (by rfl) T.b_isinstance (by decide +kernel) (pa_cons (pv 0) (pa_cons (pe_bltn (v := .ty "int") (by rfl) T.b_int (by decide +kernel) rfl) pa_nil))) (pe_and (pe_cmpR op_eq (pe_callB (r := rIsi K) call_isi (by rfl) T.b_isinstance (by decide +kernel) (pa_cons (pv 0) (pa_cons (pe_bltn (v := .ty "bool") (by rfl) T.b_bool (by decide +kernel) rfl) pa_nil))) (pe_callB (r := rIsi K) call_isi (by rfl) T.b_isinstance (by decide +kernel) (pa_cons (pv 1) (pa_cons (pe_bltn (v := .ty "bool") (by rfl) T.b_bool (by decide +kernel) rfl) pa_nil))) (nomark _)) (pe_one (pe_cmpR (r := rEqD K) (op_eqD hr.units) (pv 0) (pv 1) (nomark _))))))))), ?_⟩
    walk_at "ev"
    intro p hp
    generalize hH : upd _ p _ = H1
    obtain ⟨sm, hp1⟩ := newO hH hp
    have q1 := q H1 sm
    have hx1 := dp_same sm hx
    have hy1 := dp_same sm hy
    have kx := kdD hx1
    have ky := kdD hy1
    have tx := kx.ty
    have ty := ky.ty
    obtain ⟨a1, a2, a3, a4, a5⟩ := kx.kit
    obtain ⟨b1, b2, b3, b4, b5⟩ := ky.kit
    have kb := kit_lt b4 b5
    have sx := fx.2
    have sy := fy.2
    have hx0 := hx1
    have hy0 := hy1
    clear hx hy hH
    cases hy1 with
    | non =>
      cases hx1 with
      | non =>
        walk_at "ev"
        exact qdb q1 ⟨fun _ => rfl, fun _ => rfl⟩
      | _ =>
        walk_at "ev"
        refine iteFe rfl ?_
        exact qdf q1 (fun z => by cases z)
    | str z =>
      cases hx1 with
      | str z' =>
        walk_at "ev"
        by_cases c : z' = z
        · subst c
          refine iteTe (by rw [PyData.eqv]; exact beq_self_eq_true _) ?_
          walk_at "ev"
          exact qdt q1 rfl
        · refine iteFe (by rw [PyData.eqv]; exact beq_eq_false_iff_ne.mpr c) ?_
          exact qdf q1 (fun z => by cases z; exact c rfl)
      | _ =>
        walk_at "ev"
        refine iteFe rfl ?_
        exact qdf q1 (fun z => by cases z)
    | int j =>
      cases hx1 with
      | int i =>
        walk_at "ev"
        refine qdb q1 ?_
        rw [PyData.eqv, beq_iff_eq]
        exact ⟨fun z => by rw [z], fun z => by cases z; rfl⟩
      | _ =>
        walk_at "ev"
        exact qdf q1 (fun z => by cases z)
    | bl j =>
      cases hx1 with
      | bl i =>
        walk_at "ev"
        refine qdb q1 ?_
        rw [PyData.eqv, beq_iff_eq]
        exact ⟨fun z => by rw [z], fun z => by cases z; rfl⟩
      | _ =>
        walk_at "ev"
        exact qdf q1 (fun z => by cases z)
    | lst ht hb =>
      rename_i b ys es
      cases hx1 with
      | lst hs ha =>
        rename_i a xs ds
        have el1 := dpall_len ha
        have el2 := dpall_len hb
        cases n with
        | zero => exact fx.1.elim
        | succ n =>
        have hS := hG n rfl
        subst hS
        have hf' : ds.length ≤ 4000 ∧ ∀ e ∈ ds, Fit n e := fx.1
        walk_at "ev"
        by_cases el : xs.length = ys.length
        · refine iteFe (by rw [decide_eq_true (by rw [el])]; rfl) ?_
          walk_at "ev"
          refine .inl ⟨hs, ht, fun D hD => ?_⟩
          refine lc_pairs (xs := xs) (ys := ys) (fun i H' => Hold (Same H1 H' ∧ H' D = some (.lst (((List.zipWith deq ds es).take i).map V.bl)))) (.mk ⟨same_new hD, upd_same⟩) ?_ ?_ ?_ ?_ ?_
          · intro i H' hP hi
            obtain ⟨sm2, hD2⟩ := hP.un
            have hi2 : i < ys.length := by omega
            exact ⟨xs, ys, _, _, sm2.seq hs, sm2.seq ht, List.getElem?_eq_getElem hi, List.getElem?_eq_getElem hi2⟩
          · intro i H' v H'' hP hi yl
            obtain ⟨sm2, hD2⟩ := hP.un
            obtain ⟨T, x, y, e1, e2, e3, f1, f2⟩ := yl
            exact ⟨T, x, y, e1, e2, e3, f1 _ (sm2.seq hs), f2 _ (sm2.seq ht)⟩
          · intro H' hP
            obtain ⟨sm2, hD2⟩ := hP.un
            exact ⟨xs, ys, sm2.seq hs, sm2.seq ht, .inl (Nat.le_refl _)⟩
          · intro i x y T' H' H'' hx hy hP hT e
            obtain ⟨sm2, hD2⟩ := hP.un
            obtain ⟨sm3, hT3⟩ := newO e.symm hT
            have hT4 : SqT K H'' T' [x, y] := SqT.of hT3
            obtain ⟨d, hd, hdx⟩ := dpall_get ha hx
            obtain ⟨d', hd', hdy⟩ := dpall_get hb hy
            have sm4 : Same H1 H'' := sm2.trans sm3
            have dx := dp_same sm4 hdx
            have dy := dp_same sm4 hdy
            have ft := fx.lst (List.mem_of_getElem? hd)
            have ft' := fy.lst (List.mem_of_getElem? hd')
            have hil : i < xs.length := (List.getElem?_eq_some_iff.mp hx).1
            have hlen : i ≤ 4000 := by omega
            walk_at "ev"
            intro H5 sm5
            have hD5 := sm5 _ _ (sm3 _ _ hD2)
            refine ⟨_, hD5, szm (by rw [List.length_map, List.length_take]; omega), .mk ⟨same_mut ((sm2.trans sm3).trans sm5) hD, ?_⟩⟩
            rw [upd_same, List.take_add_one, List.getElem?_zipWith, hd, hd', List.map_append]
            rfl
          · intro H' hP
            obtain ⟨sm2, hD2⟩ := hP.un
            refine ⟨D, _, rfl, SqL.of hD2, ?_⟩
            rw [List.take_of_length_le (by rw [List.length_zipWith]; omega)]
            exact qdb (q _ (sm.trans sm2)) ((zip_deq (by omega)).trans ⟨fun z => by rw [z], fun z => by cases z; rfl⟩)
        · refine iteTe (by rw [decide_eq_false fun z => el (by have := V.int.inj z; omega)]; rfl) ?_
          walk_at "ev"
          exact qdf q1 (fun z => by cases z; exact el (by omega))
      | _ =>
        walk_at "ev"
        exact qdf q1 (fun z => by cases z)
    | tup ht hb =>
      rename_i b ys es
      cases hx1 with
      | tup hs ha =>
        rename_i a xs ds
        have el1 := dpall_len ha
        have el2 := dpall_len hb
        cases n with
        | zero => exact fx.1.elim
        | succ n =>
        have hS := hG n rfl
        subst hS
        have hf' : ds.length ≤ 4000 ∧ ∀ e ∈ ds, Fit n e := fx.1
        walk_at "ev"
        by_cases el : xs.length = ys.length
        · refine iteFe (by rw [decide_eq_true (by rw [el])]; rfl) ?_
          walk_at "ev"
          refine .inr ⟨hs, ht, fun D hD => ?_⟩
          refine lc_pairs (xs := xs) (ys := ys) (fun i H' => Hold (Same H1 H' ∧ H' D = some (.lst (((List.zipWith deq ds es).take i).map V.bl)))) (.mk ⟨same_new hD, upd_same⟩) ?_ ?_ ?_ ?_ ?_
          · intro i H' hP hi
            obtain ⟨sm2, hD2⟩ := hP.un
            have hi2 : i < ys.length := by omega
            exact ⟨xs, ys, _, _, same_t sm2 hs, same_t sm2 ht, List.getElem?_eq_getElem hi, List.getElem?_eq_getElem hi2⟩
          · intro i H' v H'' hP hi yl
            obtain ⟨sm2, hD2⟩ := hP.un
            obtain ⟨T, x, y, e1, e2, e3, f1, f2⟩ := yl
            exact ⟨T, x, y, e1, e2, e3, f1 _ (same_t sm2 hs), f2 _ (same_t sm2 ht)⟩
          · intro H' hP
            obtain ⟨sm2, hD2⟩ := hP.un
            exact ⟨xs, ys, same_t sm2 hs, same_t sm2 ht, .inl (Nat.le_refl _)⟩
          · intro i x y T' H' H'' hx hy hP hT e
            obtain ⟨sm2, hD2⟩ := hP.un
            obtain ⟨sm3, hT3⟩ := newO e.symm hT
            have hT4 : SqT K H'' T' [x, y] := SqT.of hT3
            obtain ⟨d, hd, hdx⟩ := dpall_get ha hx
            obtain ⟨d', hd', hdy⟩ := dpall_get hb hy
            have sm4 : Same H1 H'' := sm2.trans sm3
            have dx := dp_same sm4 hdx
            have dy := dp_same sm4 hdy
            have ft := fx.tup (List.mem_of_getElem? hd)
            have ft' := fy.tup (List.mem_of_getElem? hd')
            have hil : i < xs.length := (List.getElem?_eq_some_iff.mp hx).1
            have hlen : i ≤ 4000 := by omega
            walk_at "ev"
            intro H5 sm5
            have hD5 := sm5 _ _ (sm3 _ _ hD2)
            refine ⟨_, hD5, szm (by rw [List.length_map, List.length_take]; omega), .mk ⟨same_mut ((sm2.trans sm3).trans sm5) hD, ?_⟩⟩
            rw [upd_same, List.take_add_one, List.getElem?_zipWith, hd, hd', List.map_append]
            rfl
          · intro H' hP
            obtain ⟨sm2, hD2⟩ := hP.un
            refine ⟨D, _, rfl, SqL.of hD2, ?_⟩
            rw [List.take_of_length_le (by rw [List.length_zipWith]; omega)]
            exact qdb (q _ (sm.trans sm2)) ((zip_deq (by omega)).trans ⟨fun z => by rw [z], fun z => by cases z; rfl⟩)
        · refine iteTe (by rw [decide_eq_false fun z => el (by have := V.int.inj z; omega)]; rfl) ?_
          walk_at "ev"
          exact qdf q1 (fun z => by cases z; exact el (by omega))
      | _ =>
        walk_at "ev"
        exact qdf q1 (fun z => by cases z)
theorem ok_dsm {f : Addr} {fd : FuncData} (D__law_same : Df K mg "_law_same" s__law_same P__law_same f fd) (T : Blt mg) : ∀ n : Nat, FnOk P w K mg base CX0 (n + 1) f fd P__law_same (spDsm K n)
  | 0 => dsm_step (spI := fun _ _ _ _ => False) D__law_same T ⟨fun _ _ _ _ h => h.elim, fun _ _ _ _ _ _ _ _ _ _ _ _ _ h => h.elim⟩ (fun m h => by omega)
  | n + 1 => dsm_step D__law_same T (ok_dsm D__law_same T n) (fun m h => by cases h; rfl)
end
/-! ### data of small depth -/
def Bn (M L : Nat) : Nat → PyData → Prop
  | _, .none => True
  | _, .bool _ => True
  | _, .int i => i.natAbs ≤ M
  | _, .str s => s = "" ∨ s = "0"
  | _, .dict _ => False
  | 0, .list _ => False
  | 0, .tuple _ => False
  | n + 1, .list ds => ds.length ≤ L ∧ ∀ e ∈ ds, Bn M L n e
  | n + 1, .tuple ds => ds.length ≤ L ∧ ∀ e ∈ ds, Bn M L n e
theorem Bn.up {M L M' L' : Nat} (hM : M ≤ M') (hL : L ≤ L') : ∀ {n n' : Nat} {d : PyData}, n ≤ n' → Bn M L n d → Bn M' L' n' d
  | n, n', .none, _, _ => by cases n' <;> exact True.intro
  | n, n', .bool _, _, _ => by cases n' <;> exact True.intro
  | n, n', .int i, _, h => by
    have h' : i.natAbs ≤ M := by cases n <;> exact h
    have : i.natAbs ≤ M' := by omega
    cases n' <;> exact this
  | n, n', .str s, _, h => by
    have h' : s = "" ∨ s = "0" := by cases n <;> exact h
    cases n' <;> exact h'
  | n, n', .dict _, _, h => by cases n <;> exact h.elim
  | 0, n', .list _, _, h => h.elim
  | 0, n', .tuple _, _, h => h.elim
  | n + 1, 0, .list _, e, _ => absurd e (by omega)
  | n + 1, 0, .tuple _, e, _ => absurd e (by omega)
  | n + 1, n' + 1, .list ds, e, h => ⟨Nat.le_trans h.1 hL, fun x hx => Bn.up hM hL (by omega) (h.2 x hx)⟩
  | n + 1, n' + 1, .tuple ds, e, h => ⟨Nat.le_trans h.1 hL, fun x hx => Bn.up hM hL (by omega) (h.2 x hx)⟩
theorem sm_i15 {i : Int} (h : i.natAbs ≤ 1000000000000000) : Sm 20 0 (.int i) := by
  have h0 : i.natAbs < 2 ^ 60 := Nat.lt_of_le_of_lt h (by decide)
  have h1 : PyData.showable (.int i) = true := by
    rw [PyData.showable]
    refine decide_eq_true ?_
    by_cases c : i.natAbs = 0
    · rw [c]
      decide
    · exact Nat.lt_trans ((Nat.log2_lt c).mpr h0) (by decide)
  have h2 : (PyData.shown (.int i)).length ≤ 20 := by
    have e := int_text_length_le10 (a := i) (k := 19) (by decide) (Nat.lt_of_le_of_lt h (by decide))
    show (Str.ofString (toString i)).length ≤ 20
    rw [ofString_length]
    exact e
  have h3 : dw (.int i) = (PyData.shown (.int i)).length := by rw [dw] <;> nofun
  exact ⟨by rw [PyData.canLay0], h1, by omega, by rw [PyData.depth]; exact Nat.le_refl _⟩
theorem layAll_of : ∀ {ds : List PyData}, (∀ e ∈ ds, e.canLay0 = true) → PyData.canLayAll0 ds = true
  | [], _ => by rw [PyData.canLayAll0]
  | d :: r, h => by rw [PyData.canLayAll0, h d List.mem_cons_self, layAll_of fun e he => h e (List.mem_cons_of_mem _ he)]; rfl
theorem shwAll_of : ∀ {ds : List PyData}, (∀ e ∈ ds, e.showable = true) → PyData.showableAll ds = true
  | [], _ => by rw [PyData.showableAll]
  | d :: r, h => by rw [PyData.showableAll, h d List.mem_cons_self, shwAll_of fun e he => h e (List.mem_cons_of_mem _ he)]; rfl
theorem depAll_of {k : Nat} : ∀ {ds : List PyData}, (∀ e ∈ ds, e.depth ≤ k) → PyData.depthAll ds ≤ k
  | [], _ => by rw [PyData.depthAll]; exact Nat.zero_le _
  | d :: r, h => by rw [PyData.depthAll]; exact Nat.max_le.mpr ⟨h d List.mem_cons_self, depAll_of fun e he => h e (List.mem_cons_of_mem _ he)⟩
theorem lay_str {s : Str} (h : s = "" ∨ s = "0") : (PyData.str s).canLay0 = true := by
  rcases h with rfl | rfl
  · exact sm_e.l
  · exact sm_0.l
theorem Bn.all {M L : Nat} (hM : M ≤ 1000000000000000) : ∀ {n : Nat} {d : PyData}, Bn M L n d → d.canLay0 = true ∧ d.showable = true ∧ d.depth ≤ n
  | n, .none, _ => ⟨sm_non.l, sm_non.s, by rw [PyData.depth]; exact Nat.zero_le _⟩
  | n, .bool b, _ => ⟨(sm_bl b).l, (sm_bl b).s, by rw [PyData.depth]; exact Nat.zero_le _⟩
  | n, .int i, h => by
    have h' : i.natAbs ≤ M := by cases n <;> exact h
    have s := sm_i15 (i := i) (by omega)
    exact ⟨s.l, s.s, by rw [PyData.depth]; exact Nat.zero_le _⟩
  | n, .str s, h => by
    have h' : s = "" ∨ s = "0" := by cases n <;> exact h
    exact ⟨lay_str h', by rw [PyData.showable], by rw [PyData.depth]; exact Nat.zero_le _⟩
  | n, .dict _, h => by cases n <;> exact h.elim
  | 0, .list _, h => h.elim
  | 0, .tuple _, h => h.elim
  | n + 1, .list ds, h => ⟨by rw [PyData.canLay0]; exact layAll_of fun e he => (Bn.all hM (h.2 e he)).1, by rw [PyData.showable]; exact shwAll_of fun e he => (Bn.all hM (h.2 e he)).2.1, by
    rw [PyData.depth]
    have := depAll_of fun e he => (Bn.all hM (h.2 e he)).2.2
    omega⟩
  | n + 1, .tuple ds, h => ⟨by rw [PyData.canLay0]; exact layAll_of fun e he => (Bn.all hM (h.2 e he)).1, by rw [PyData.showable]; exact shwAll_of fun e he => (Bn.all hM (h.2 e he)).2.1, by
    rw [PyData.depth]
    have := depAll_of fun e he => (Bn.all hM (h.2 e he)).2.2
    omega⟩
theorem Bn.fit {M L : Nat} (hL : L ≤ 4000) : ∀ {n : Nat} {d : PyData}, Bn M L n d → Fit n d
  | n, .none, _ => by cases n <;> exact True.intro
  | n, .bool _, _ => by cases n <;> exact True.intro
  | n, .int _, _ => by cases n <;> exact True.intro
  | n, .str _, _ => by cases n <;> exact True.intro
  | n, .dict _, h => by cases n <;> exact h.elim
  | 0, .list _, h => h.elim
  | 0, .tuple _, h => h.elim
  | n + 1, .list ds, h => ⟨Nat.le_trans h.1 hL, fun e he => Bn.fit hL (h.2 e he)⟩
  | n + 1, .tuple ds, h => ⟨Nat.le_trans h.1 hL, fun e he => Bn.fit hL (h.2 e he)⟩
theorem Bn.fs {M L n : Nat} {d : PyData} (h : Bn M L n d) (hM : M ≤ 1000000000000000) (hL : L ≤ 4000) (hn : n ≤ 60) : Fs n d := by
  obtain ⟨a, _, c⟩ := h.all hM
  exact ⟨h.fit hL, shp' a (by omega)⟩
theorem Bn.sm {M L n B : Nat} {d : PyData} (h : Bn M L n d) (hM : M ≤ 1000000000000000) (hB : dw d ≤ B) : Sm B n d := by
  obtain ⟨a, b, c⟩ := h.all hM
  exact ⟨a, b, hB, c⟩
/-! ### widths -/
theorem dw_set : ∀ {ds : List PyData} {i : Nat} {e o : PyData}, ds[i]? = some o → dwAll (ds.set i e) + dw o = dwAll ds + dw e
  | [], _, _, _, h => by simp at h
  | d :: r, 0, e, o, h => by
    have : d = o := by simpa using h
    subst this
    rw [List.set_cons_zero, dwAll, dwAll]
    omega
  | d :: r, i + 1, e, o, h => by
    have := dw_set (ds := r) (i := i) (e := e) (o := o) (by simpa using h)
    rw [List.set_cons_succ, dwAll, dwAll]
    omega
theorem dw_mem : ∀ {ds : List PyData} {o : PyData}, o ∈ ds → dw o + 2 ≤ dwAll ds
  | d :: r, o, h => by
    rw [dwAll]
    rcases List.mem_cons.mp h with z | z
    · rw [z]; omega
    · have := dw_mem z; omega
theorem dw_erase : ∀ {ds : List PyData} {i : Nat}, dwAll (ds.eraseIdx i) ≤ dwAll ds
  | [], _ => by rw [List.eraseIdx_nil]; exact Nat.le_refl _
  | d :: r, 0 => by rw [List.eraseIdx_cons_zero, dwAll]; omega
  | d :: r, i + 1 => by
    have := dw_erase (ds := r) (i := i)
    rw [List.eraseIdx_cons_succ, dwAll, dwAll]
    omega
theorem dw_app : ∀ {ds es : List PyData}, dwAll (ds ++ es) = dwAll ds + dwAll es
  | [], es => by rw [List.nil_append, dwAll, Nat.zero_add]
  | d :: r, es => by
    rw [List.cons_append, dwAll, dwAll, dw_app (ds := r)]
    omega
theorem dw_list {ds : List PyData} : dw (.list ds) = 6 + dwAll ds := by rw [dw]
theorem dw_tup {ds : List PyData} : dw (.tuple ds) = 6 + dwAll ds := by rw [dw]
/-! ### == and != of worths, of rows -/
theorem lay_w (w : Wt) : PyData.canLay0 (wD w) = true ∧ PyData.depth (wD w) ≤ 1 := by
  have hi : ∀ xs : List Int, PyData.canLayAll0 (xs.map PyData.int) = true ∧ PyData.depthAll (xs.map PyData.int) = 0 := by
    intro xs
    induction xs with
    | nil => exact ⟨by rw [List.map_nil, PyData.canLayAll0], by rw [List.map_nil, PyData.depthAll]⟩
    | cons x r ih =>
      exact ⟨by rw [List.map_cons, PyData.canLayAll0, PyData.canLay0, ih.1]; rfl, by rw [List.map_cons, PyData.depthAll, PyData.depth, ih.2]; rfl⟩
  cases w with
  | i x => exact ⟨by show PyData.canLay0 (.int x) = true; rw [PyData.canLay0], by show PyData.depth (.int x) ≤ 1; rw [PyData.depth]; decide⟩
  | v xs => exact ⟨by show PyData.canLay0 (.tuple _) = true; rw [PyData.canLay0]; exact (hi xs).1, by show PyData.depth (.tuple _) ≤ 1; rw [PyData.depth, (hi xs).2]; exact Nat.le_refl _⟩
theorem lay_r {ws : List Wt} : PyData.canLay0 (rD ws) = true ∧ PyData.depth (rD ws) ≤ 2 := by
  have ha : PyData.canLayAll0 (ws.map wD) = true ∧ PyData.depthAll (ws.map wD) ≤ 1 := by
    induction ws with
    | nil => exact ⟨by rw [List.map_nil, PyData.canLayAll0], by rw [List.map_nil, PyData.depthAll]; decide⟩
    | cons w r ih =>
      exact ⟨by rw [List.map_cons, PyData.canLayAll0, (lay_w w).1, ih.1]; rfl, by rw [List.map_cons, PyData.depthAll]; exact Nat.max_le.mpr ⟨(lay_w w).2, ih.2⟩⟩
  exact ⟨by show PyData.canLay0 (.list _) = true; rw [PyData.canLay0]; exact ha.1, by show PyData.depth (.list _) ≤ 2; rw [PyData.depth]; omega⟩
theorem shp_r {ws : List Wt} : SeqAt.shaped (rD ws) = true := by
  unfold SeqAt.shaped
  rw [lay_r.1, decide_eq_true (Nat.le_trans lay_r.2 (by decide))]
  rfl
theorem eqv_w (w : Wt) : PyData.eqv (wD w) (wD w) = true := SeqAt.eqv_refl _ (lay_w w).1
/-! ### worths by data -/
def isWD : Gk → PyData → Bool
  | .rests p, .int i => decide (0 ≤ i) && decide (i < p)
  | .rests _, _ => false
  | .roots n, d => isW ((whl n).length - 1) d
def spKd (K : PySem.W.Frag) (C1 C2 : Addr) (r : Bool) : Sp := fun vs H Q _ => ∃ (a : Addr) (g : Gk) (x : V) (d : PyData), vs = [.ref a, x] ∧ GrAt C1 C2 H a g ∧ kdG g = r ∧ GkOk g ∧ Dp K H x d ∧ (∀ ds, d = .tuple ds → ds.length ≤ 100) ∧ ∀ H', Same H H' → Q (.bl (isWD g d)) H'
theorem ints_of : ∀ {ds : List PyData}, ds.all intD = true → ∃ ys : List Int, ds = ys.map PyData.int
  | [], _ => ⟨[], rfl⟩
  | d :: r, h => by
    rw [List.all_cons, Bool.and_eq_true] at h
    obtain ⟨ys, rfl⟩ := ints_of h.2
    cases d with
    | int i => exact ⟨i :: ys, rfl⟩
    | _ => exact absurd h.1 (fun z => by cases z)
section
variable {P : Program} {w : World} {K : PySem.W.Frag} {mg : Str → Option Value} {base : Heap}
theorem mu_isd {CT CB C1 C2 CR CS CI fI : Addr} {fdI : FuncData} {f1 : Addr} {d1 : FuncData} (T : Blt mg) (S : G16 K mg CT CB C1 C2 CR CS CI fI fdI) (X : GX K C1 C2) (D_is_whole : Df K mg "is_whole" s_is_whole P_is_whole f1 d1) : MthU P w K mg base CX0 2 C1 C2 "is_worth" P_Rests_is_worth (spKd K C1 C2) := by
  obtain ⟨_, _, a1, a2, a3⟩ := X.i1
  obtain ⟨_, _, b1, b2, b3⟩ := X.i2
  have A1 := ok_isw (P := P) (w := w) (base := base) (k := 0) a1 T S.R1 D_is_whole
  have A2 := ok_isW (P := P) (w := w) (base := base) (k := 0) b1 T S.R2 D_is_whole
  refine ⟨S.R1.cl, S.R2.cl, ⟨_, _, _, _, a3, b3, a2, b2, fnsub A1 ?_, fnsub A2 ?_⟩, fun H a g h => h.lk (by decide) (by decide) (by decide) (by decide)⟩
  · rintro vs H Q E ⟨a, g, x, d, e1, hG, hk, ok, hx, ht, q⟩
    cases g with
    | roots n => cases hk
    | rests p =>
      refine ⟨a, p, x, _, e1, hG, kdD hx, fun i ei => ?_, fun z => ?_⟩
      · subst ei
        cases hx
        exact q _ (Same.refl _)
      · have hf : isWD (.rests p) d = false := by
          cases d with
          | int i =>
            cases hx
            exact absurd rfl (z i)
          | _ => rfl
        rw [← hf]
        exact q _ (Same.refl _)
  · rintro vs H Q E ⟨a, g, x, d, e1, hG, hk, ok, hx, ht, q⟩
    cases g with
    | rests p => cases hk
    | roots n => exact ⟨a, n, x, d, e1, hG, ok.1, ok.2, hx, ht, q⟩
end
theorem isWD_iff {g : Gk} {d : PyData} {w : Wt} (h : GkOk g) (hw : nm g w) : (isWD g d = true ∧ PyData.eqv d (wD w) = true) ↔ d = wD w := by
  rcases wr g h hw with ⟨p, x, rfl, rfl, x0, x1, p2, p4⟩ | ⟨n, xs, rfl, rfl, lx, w1⟩
  · constructor
    · rintro ⟨h1, h2⟩
      cases d with
      | int i =>
        have h2' : PyData.eqv (.int i) (.int x) = true := h2
        rw [PyData.eqv, beq_iff_eq] at h2'
        rw [h2']
        rfl
      | _ => cases h1
    · rintro rfl
      refine ⟨?_, eqv_w _⟩
      show (decide (0 ≤ x) && decide (x < p)) = true
      rw [decide_eq_true x0, decide_eq_true x1]
      rfl
  · constructor
    · rintro ⟨h1, h2⟩
      cases d with
      | tuple ds =>
        have h1' : (decide (ds.length = (whl n).length - 1) && ds.all intD) = true := h1
        rw [Bool.and_eq_true] at h1'
        obtain ⟨ys, rfl⟩ := ints_of h1'.2
        have h2' : PyData.eqv (.tuple (ys.map PyData.int)) (.tuple (xs.map PyData.int)) = true := h2
        rw [PyData.eqv, eqv_ints] at h2'
        rw [of_decide_eq_true h2']
        rfl
      | _ => cases h1
    · rintro rfl
      refine ⟨?_, eqv_w _⟩
      show (decide ((xs.map PyData.int).length = wl n) && (xs.map PyData.int).all intD) = true
      rw [List.length_map, decide_eq_true lx, Bool.true_and, List.all_eq_true]
      intro d hd
      obtain ⟨y, _, rfl⟩ := List.mem_map.mp hd
      rfl
theorem rows_iff' {g : Gk} (h : GkOk g) : ∀ {ds : List PyData} {ws : List Wt}, Nms g ws → ((ds.all (isWD g) = true ∧ PyData.eqvAll ds (ws.map wD) = true) ↔ ds = ws.map wD)
  | [], [], _ => by simp [PyData.eqvAll]
  | [], _ :: _, _ => by simp [PyData.eqvAll]
  | _ :: _, [], _ => by simp [PyData.eqvAll]
  | d :: ds, w :: ws, hn => by
    have i1 := isWD_iff (d := d) h (hn w List.mem_cons_self)
    have i2 := rows_iff' h (ds := ds) (ws := ws) fun x hx => hn x (List.mem_cons_of_mem _ hx)
    rw [List.map_cons, List.all_cons, Bool.and_eq_true, PyData.eqvAll, Bool.and_eq_true, List.cons.injEq, ← i1, ← i2]
    constructor
    · rintro ⟨⟨a, b⟩, c, e⟩
      exact ⟨⟨a, c⟩, b, e⟩
    · rintro ⟨⟨a, c⟩, b, e⟩
      exact ⟨⟨a, b⟩, c, e⟩
theorem rows_iff {g : Gk} {ds : List PyData} {ws : List Wt} (h : GkOk g) (hn : Nms g ws) : ((ds.all (isWD g) = true ∧ PyData.eqv (.list ds) (rD ws) = true) ↔ PyData.list ds = rD ws) := by
  have e : PyData.eqv (.list ds) (rD ws) = PyData.eqvAll ds (ws.map wD) := by
    show PyData.eqv (.list ds) (.list (ws.map wD)) = _
    rw [PyData.eqv]
  rw [e, rows_iff' h hn]
  exact ⟨fun z => by rw [z]; rfl, fun z => PyData.list.inj z⟩
abbrev s_shows_turning : Stmt := top 4
abbrev N_shows_turning : List Str := ["ground", "row", "thing", "turning", "part"]
abbrev P_shows_turning : List Str := ["ground", "row", "thing"]
theorem sc_shows_turning : FnScope N_shows_turning P_shows_turning (defScope s_shows_turning) := ⟨rfl, rfl, rfl, by decide +kernel, rfl, by decide +kernel, by decide +kernel⟩
def spSh19 (K : PySem.W.Frag) (C1 C2 CR : Addr) : Sp := fun vs H Q E => ∃ (a x : Addr) (v : V) (d : PyData) (g : Gk) (es : Es) (M L n : Nat), vs = [.ref a, .ref x, v] ∧ GrAt C1 C2 H a g ∧ GkOk g ∧ (SqL K H x (es.map (·.1)) ∨ SqT K H x (es.map (·.1))) ∧ PtIn K g H es ∧ Dp K H v d ∧ Bn M L n d ∧ M ≤ 1000000000000000 ∧ L ≤ 100 ∧ n ≤ 10 ∧
  (¬ numM g % (es.length : Int) = 0 → ∀ d' H', H d' = none → Same H H' → H' d' = some (.xd [(("what" : Str), .int (es.length : Int))]) → E (.ref CR) (some d') H') ∧
  (numM g % (es.length : Int) = 0 → ∀ q H', LgOk g q → Same H H' → Q (.bl (deq d (rD (trn g q (es.map (·.2)) 1)))) H')
section
variable {P : Program} {w : World} {K : PySem.W.Frag} {mg : Str → Option Value} {base : Heap}
theorem ok_sh19 {CT CB C1 C2 CR CS CI fI : Addr} {fdI : FuncData} {f f1 f2 : Addr} {fd d1 d2 : FuncData} (F : Fun K "shows_turning" "shows_turning" s_shows_turning f fd) (T : Blt mg) (S : G16 K mg CT CB C1 C2 CR CS CI fI fdI) (X : GX K C1 C2) (D_plain_turning : Dpt K mg f1 d1) (D_is_whole : Df K mg "is_whole" s_is_whole P_is_whole f2 d2) (G_plain_turning : FnOk P w K mg base (L2.CX P w) 5 f1 d1 P_plain_turning (spPt K C1 C2 CR CS)) : FnOk P w K mg base (L2.CX P w) 6 f fd P_shows_turning (spSh19 K C1 C2 CR) := by
  have MU_is_worth := mu_isd (P := P) (w := w) (base := base) T S X D_is_whole
  obtain ⟨dpp, hd_plain_turning, hb_plain_turning⟩ := D_plain_turning.b
  have nd := sc_shows_turning.nd
  refine F.okX sc_shows_turning (fun vs H Q E h => ?_) (fun cdv A outer s H vs Q E hr h => ?_)
  · obtain ⟨a, x, v, d, g, es, M, L, n, rfl, _⟩ := h
    rfl
  · obtain ⟨a, x, v, d, g, es, M, L, n, rfl, hG, hok, hX, hin, hd, hB, hM, hL, hn, q1, q2⟩ := h
    refine ⟨_, (pss_cons (ps_set (i := 3) nd rfl (Or.inl rfl) (pe_call G_plain_turning (hr.mono (by omega)) (by rfl) D_plain_turning.g D_plain_turning.F.kp hb_plain_turning hd_plain_turning (passes_call (takes_of rfl rfl rfl rfl) (fun _ _ _ _ h => h)) (pa_cons (pv 0) (pa_cons (pv 1) pa_nil))))
      (pss_cons (ps_if (pt_not (pt_val (pe_callB (r := rIsi K) call_isi (by rfl) T.b_isinstance (by decide +kernel) (pa_cons (pv 2) (pa_cons (pe_bltn (v := .ty "list") (by rfl) T.b_list (by decide +kernel) rfl) pa_nil))))) (pss_one (ps_ret (pe_bl))) pss_nil)
      (pss_one (ps_ret (pe_and (pe_callB (r := rAll K) (cr_all rfl) (by rfl) T.b_all (by decide +kernel) (pa_cons (pe_lc (own := [("part", 4)]) (g := gName 4) (by rfl) nd (pi_list (pv 2)) (blkOk_by (own := [("part", 4)]) (N := N_shows_turning) (sc := defScope s_shows_turning) (by decide +kernel)) (fun _ _ _ _ _ => (pg_name (i := 4) nd rfl (Or.inl rfl))) (fun _ _ _ _ _ => pts_nil) (fun _ _ _ _ _ => (pe_methU (pv 0) MU_is_worth (hr.mono (by omega)) pass0 (pa_cons (pv 4) pa_nil)))) pa_nil)) (pe_one (pe_cmpR (r := rEqD K) (op_eqD hr.units) (pv 2) (pv 3) (nomark _)))))))), ?_⟩
    have l2 : (es.map (·.2)).length = es.length := List.length_map _
    walk_at "ev"
    refine ⟨fun h d' H' hd' sm hx => q1 (by rw [← l2]; exact h) d' H' hd' sm (by rw [← l2]; exact hx), fun h _ q p rs H1 hlg hp sm1 hq1 hrs hres => ?_, fun _ z => (nomatch z), fun _ z => (nomatch z)⟩
    have h' : numM g % (es.length : Int) = 0 := by rw [← l2]; exact h
    have hd1 := dp_same sm1 hd
    have ty1 := (kdD hd1).ty
    obtain ⟨j1, j2, j3, j4, j5⟩ := (kdD hd1).kit
    have nmW : Nms g (trn g q (es.map (·.2)) 1) := trn_nms hok hin.2.1
    have out : ∀ H', Same H1 H' → ∀ c, (c = true ↔ d = rD (trn g q (es.map (·.2)) 1)) → Q (.bl c) H' := fun H' sm c hc => by
      have := q2 h' q H' hlg (sm1.trans sm)
      rw [deq_b hc] at this
      exact this
    have no : ∀ H', Same H1 H' → d ≠ rD (trn g q (es.map (·.2)) 1) → Q (.bl false) H' := fun H' sm hn => out H' sm false ⟨(fun z => by cases z), fun z => absurd z hn⟩
    cases hd1 with
    | non =>
      walk_at "ev"
      exact no _ (Same.refl _) (fun z => by cases z)
    | bl b =>
      walk_at "ev"
      exact no _ (Same.refl _) (fun z => by cases z)
    | int i =>
      walk_at "ev"
      exact no _ (Same.refl _) (fun z => by cases z)
    | str z =>
      walk_at "ev"
      exact no _ (Same.refl _) (fun z => by cases z)
    | tup hs ha =>
      walk_at "ev"
      exact no _ (Same.refl _) (fun z => by cases z)
    | lst hs ha =>
      rename_i a0 xs ds
      cases n with
      | zero => exact hB.elim
      | succ n =>
      obtain ⟨hLn, hBe⟩ : ds.length ≤ L ∧ ∀ e ∈ ds, Bn M L n e := by
        simpa only [Bn] using hB
      have hdl := dpall_len ha
      have hG1 := hG.same sm1
      have hse : ∃ xs, SqL K H1 a0 xs := ⟨_, hs⟩
      have shd := (hB.fs hM (by omega) (by omega)).2
      walk_at "ev"
      intro D hD
      refine lc_list (K := K) (a := a0) (xs := xs) (fun i H' => Hold (Same H1 H' ∧ H' D = some (.lst (((ds.take i).map (isWD g)).map V.bl)))) (.mk ⟨same_new hD, upd_same⟩) ?_ ?_ ?_
      · intro i H2 hi hP
        obtain ⟨sm2, hD2⟩ := hP.un
        exact sm2.seq hs
      · intro i v H2 hv hP
        obtain ⟨sm2, hD2⟩ := hP.un
        obtain ⟨e, hei, hev⟩ := dpall_get ha hv
        have hil : i < ds.length := (List.getElem?_eq_some_iff.mp hei).1
        have hev2 := dp_same sm2 hev
        have hG2 := hG1.same sm2
        have het : ∀ ds', e = .tuple ds' → ds'.length ≤ 100 := fun ds' z => by
          subst z
          have hz := hBe _ (List.mem_of_getElem? hei)
          cases n with
          | zero => exact hz.elim
          | succ n =>
            have : ds'.length ≤ L := (show ds'.length ≤ L ∧ _ from hz).1
            omega
        walk_at "ev"
        intro H3 sm3
        refine ⟨_, sm3 _ _ hD2, szm (by rw [List.length_map, List.length_map, List.length_take]; omega), .mk ⟨same_mut (sm2.trans sm3) hD, ?_⟩⟩
        rw [upd_same, List.take_add_one, hei, List.map_append, List.map_append]
        rfl
      · intro H2 hP
        obtain ⟨sm2, hD2⟩ := hP.un
        rw [hdl, List.take_length] at hD2
        refine ⟨D, _, rfl, SqL.of hD2, ?_⟩
        have eall : (ds.map (isWD g)).all id = ds.all (isWD g) := by
          rw [List.all_map]
          rfl
        have ri := rows_iff (ds := ds) hok nmW
        have hd2 := dp_same (sm1.trans sm2) hd
        have hr2 : Dp K H2 (.ref p) (rD (rs.map (·.2))) := dp_rD (sm2 _ _ hq1) (hrs.same sm2)
        rw [hres] at hr2
        have sht : SeqAt.shaped (rD (trn g q (es.map (·.2)) 1)) = true := shp_r
        refine ⟨_, rfl, ?_⟩
        rw [eall]
        by_cases c : ds.all (isWD g) = true
        · rw [if_pos c]
          walk_at "ev"
          refine out H2 sm2 _ ?_
          rw [← ri]
          exact ⟨fun z => ⟨c, z⟩, fun z => z.2⟩
        · rw [if_neg c]
          have cf : ds.all (isWD g) = false := by
            cases z : ds.all (isWD g) with
            | true => exact absurd z c
            | false => rfl
          walk_at "ev"
          exact no H2 sm2 (fun z => c (ri.mpr z).1)
end
/-! ### heaps without some of their objects -/
def dX (av : List Addr) (H : Hp) : Hp := fun a => if a ∈ av then none else H a
theorem dX_le {av : List Addr} {H : Hp} : Same (dX av H) H := fun a o h => by
  unfold dX at h
  split at h
  · cases h
  · exact h
theorem dX_of {av : List Addr} {H : Hp} {a : Addr} {o : HO} (n : a ∉ av) (h : H a = some o) : dX av H a = some o := by
  unfold dX
  rw [if_neg n]
  exact h
theorem dX_no {av : List Addr} {H : Hp} {a : Addr} {o : HO} (h : dX av H a = some o) : a ∉ av := fun z => by
  unfold dX at h
  rw [if_pos z] at h
  cases h
/-- all but some objects are kept -/
def KeepX (av : List Addr) (H H' : Hp) : Prop := ∀ a o, a ∉ av → H a = some o → H' a = some o
theorem KeepX.refl {av : List Addr} {H : Hp} : KeepX av H H := fun _ _ _ h => h
theorem KeepX.trans {av : List Addr} {H H1 H2 : Hp} (h : KeepX av H H1) (k : KeepX av H1 H2) : KeepX av H H2 := fun a o n e => k a o n (h a o n e)
theorem KeepX.s {av : List Addr} {H H' : Hp} (h : Same H H') : KeepX av H H' := fun a o _ e => h a o e
theorem KeepX.k {av : List Addr} {b : Addr} {H H' : Hp} (h : Keep b H H') (m : b ∈ av) : KeepX av H H' := fun a o n e => h a o (fun z => n (z ▸ m)) e
theorem KeepX.sub {av bv : List Addr} {H H' : Hp} (h : KeepX av H H') (m : ∀ a ∈ av, a ∈ bv) : KeepX bv H H' := fun a o n e => h a o (fun z => n (m a z)) e
theorem KeepX.d {av : List Addr} {H H' : Hp} (h : KeepX av H H') : Same (dX av H) (dX av H') := fun a o e => dX_of (dX_no e) (h a o (dX_no e) (dX_le a o e))
theorem dX_s {av : List Addr} {H H' : Hp} (h : Same H H') : Same (dX av H) (dX av H') := (KeepX.s h).d
theorem dX_cons {av : List Addr} {H : Hp} {x : Addr} (n : H x = none) : Same (dX av H) (dX (x :: av) H) := fun a o e => dX_of (fun z => by
  rcases List.mem_cons.mp z with h | h
  · have := dX_le a o e
    rw [h, n] at this
    cases this
  · exact dX_no e h) (dX_le a o e)

theorem dp_dX {K : PySem.W.Frag} {av : List Addr} {H : Hp} {v : V} {d : PyData} (h : Dp K (dX av H) v d) : Dp K H v d := dp_same dX_le h
theorem dp_kX {K : PySem.W.Frag} {av : List Addr} {H H' : Hp} {v : V} {d : PyData} (h : Dp K (dX av H) v d) (k : KeepX av H H') : Dp K (dX av H') v d := dp_same k.d h
theorem es_dp {K : PySem.W.Frag} {H : Hp} : ∀ {xs : List V} {ds : List PyData}, DpAll K H xs ds → ∃ es : List (V × PyData), es.map (·.1) = xs ∧ es.map (·.2) = ds ∧ ∀ e ∈ es, Dp K H e.1 e.2
  | _, _, .nil => ⟨[], rfl, rfl, fun e he => nomatch he⟩
  | v :: _, d :: _, .cons h t => by
    obtain ⟨es, e1, e2, e3⟩ := es_dp t
    refine ⟨(v, d) :: es, by rw [List.map_cons, e1], by rw [List.map_cons, e2], fun e he => ?_⟩
    rcases List.mem_cons.mp he with z | z
    · rw [z]; exact h
    · exact e3 e z
theorem es_dpA {K : PySem.W.Frag} {H : Hp} : ∀ {es : List (V × PyData)}, (∀ e ∈ es, Dp K H e.1 e.2) → DpAll K H (es.map (·.1)) (es.map (·.2))
  | [], _ => .nil
  | e :: r, h => .cons (h e List.mem_cons_self) (es_dpA fun x hx => h x (List.mem_cons_of_mem _ hx))
theorem wd_by {H : Hp} {b d : Addr} {g : Gk} (h : WdM H b d g) : ∃ n : Int, DGet H d (.str "by") (some (.int n)) ∧ 1 ≤ n ∧ n ≤ 10000 := by
  have ok := h.ok
  cases g with
  | rests p =>
    have pb := prs_b ok
    obtain ⟨h1, h2, gg, hlg, h3⟩ := h
    exact ⟨p, (dget_r h3).2, by omega, by omega⟩
  | roots n =>
    have n1 := ok.1
    have n31 := ok.2
    obtain ⟨h1, _, l, nlb, h4, h5⟩ := h
    exact ⟨(n : Int), (dget_w h4).2.1, by omega, by omega⟩
theorem dX_sub {av bv : List Addr} {H : Hp} (m : ∀ a ∈ bv, a ∈ av) : Same (dX av H) (dX bv H) := fun a o e => dX_of (fun z => dX_no e (m a z)) (dX_le a o e)
/-- all of these stand -/
def Std (av : List Addr) (H : Hp) : Prop := ∀ a ∈ av, H a ≠ none
theorem Std.no {av : List Addr} {H : Hp} {a : Addr} (h : Std av H) (n : H a = none) : a ∉ av := fun m => h a m n
theorem Std.s {av : List Addr} {H H' : Hp} (h : Std av H) (s : Same H H') : Std av H' := fun a m e => by
  cases z : H a with
  | none => exact h a m z
  | some o =>
    rw [s a o z] at e
    cases e
theorem Std.k {av : List Addr} {b : Addr} {H H' : Hp} {c : Int} (h : Std av H) (k : Keep b H H') (hb : BoxAt H' b c) : Std av H' := fun a m e => by
  by_cases y : a = b
  · obtain ⟨_, _, _, e1, _⟩ := hb
    rw [y, e1] at e
    cases e
  · cases z : H a with
    | none => exact h a m z
    | some o =>
      rw [k a o y z] at e
      cases e
abbrev s__law_odd : Stmt := top 50
abbrev N__law_odd : List Str := ["_law_box_here", "_law_world_here", "_law_some"]
abbrev P__law_odd : List Str := ["_law_box_here", "_law_world_here"]
theorem sc__law_odd : FnScope N__law_odd P__law_odd (defScope s__law_odd) := ⟨rfl, rfl, rfl, by decide +kernel, rfl, by decide +kernel, by decide +kernel⟩
def spOd19 (K : PySem.W.Frag) : Sp := fun vs H Q _ => ∃ (av : List Addr) (b wd : Addr) (g : Gk) (c : Int), vs = [.ref b, .ref wd] ∧ BoxAt H b c ∧ c < 1000000 ∧ WdM H b wd g ∧ Std av H ∧ ∀ v d H', Keep b H H' → BoxAt H' b (c + 1) → Dp K (dX av H') v d → Bn 1000000000 2 1 d → dw d ≤ 60 → Q v H'
theorem dw_i {i : Int} (h : i.natAbs ≤ 1000000000000000) : dw (.int i) ≤ 20 := (sm_i15 h).w
section
variable {P : Program} {w : World} {K : PySem.W.Frag} {mg : Str → Option Value} {base : Heap}
theorem ok_od19 {f f1 f2 : Addr} {fd d1 d2 : FuncData} (F : Fun K "_law_odd" "_law_odd" s__law_odd f fd) (T : Blt mg) (D__law_take : Df K mg "_law_take" s__law_take P__law_take f1 d1) (D__law_pick : Df K mg "_law_pick" s__law_pick P__law_pick f2 d2) : FnOk P w K mg base CX0 3 f fd P__law_odd (spOd19 K) := by
  have G__law_pick : FnOk P w K mg base CX0 2 f2 d2 P__law_pick (spPick K) := ok_pick (k := 0) D__law_pick.F T D__law_take
  have nd := sc__law_odd.nd
  refine F.ok sc__law_odd (fun vs H Q E h => ?_) (fun cdv A outer s H vs Q E hr h => ?_)
  · obtain ⟨av, b, wd, g, c, rfl, _⟩ := h
    rfl
  · obtain ⟨av, b, wd, g, c, rfl, hb, hc, hW, hA, q⟩ := h
    refine ⟨_, (pss_cons (ps_set (i := 2) nd rfl (Or.inl rfl) (pe_lst (pa_cons (pe_non) (pa_cons (pe_bl) (pa_cons (pe_bl) (pa_cons (pe_un un_neg (pe_int)) (pa_cons (pe_int) (pa_cons (pe_int) (pa_cons (pe_dget (du hr) (pv 1) (pe_str) (fun _ _ => rfl)) (pa_cons (pe_str) (pa_cons (pe_str) (pa_cons (pe_lst pa_nil) (pa_cons (pe_tup pa_nil) (pa_cons (pe_tup (pa_cons (pe_int) pa_nil)) (pa_cons (pe_lst (pa_cons (pe_int) pa_nil)) (pa_cons (pe_tup (pa_cons (pe_int) (pa_cons (pe_int) pa_nil))) (pa_cons (pe_op op_pow (pe_int) (pe_int)) pa_nil)))))))))))))))))
      (pss_one (ps_ret (pe_call G__law_pick (hr.mono (by omega)) (by rfl) D__law_pick.g D__law_pick.F.kp D__law_pick.b .nil pass0 (pa_cons (pv 0) (pa_cons (pv 2) pa_nil)))))), ?_⟩
    obtain ⟨by', gb, by1, by2⟩ := wd_by hW
    walk_at "ev"
    w_cond _1
    walk_at "ev"
    w_cond _2
    walk_at "ev"
    w_cond _3
    walk_at "ev"
    w_cond _4
    walk_at "ev"
    w_cond _5
    walk_at "ev"
    w_cond _6
    have hb6 := (((((hb.same sm1).same sm2).same sm3).same sm4).same sm5).same sm6
    have n6 : l6 ≠ b := (((((hb.same sm1).same sm2).same sm3).same sm4).same sm5).ne hl6
    have hL := SqL.of (K := K) hq6
    have sA : Same H H6 := ((((sm1.trans sm2).trans sm3).trans sm4).trans sm5).trans sm6
    walk_at "ev"
    intro v H' hv k hb'
    have m : ∀ (l : Addr) (o : HO), H l = none → H6 l = some o → dX av H' l = some o := fun l o hl h => dX_of (hA.no hl) (k l o (hb.ne hl) h)
    have f2 := sm1.free hl2
    have f3 := (sm1.trans sm2).free hl3
    have f4 := ((sm1.trans sm2).trans sm3).free hl4
    have f5 := (((sm1.trans sm2).trans sm3).trans sm4).free hl5
    have v5 := m l5 _ f5 (sm6 _ _ hq5)
    have v4 := m l4 _ f4 ((sm5.trans sm6) _ _ hq4)
    have v3 := m l3 _ f3 ((sm4.trans (sm5.trans sm6)) _ _ hq3)
    have v2 := m l2 _ f2 ((sm3.trans (sm4.trans (sm5.trans sm6))) _ _ hq2)
    have v1 := m l1 _ hl1 ((sm2.trans (sm3.trans (sm4.trans (sm5.trans sm6)))) _ _ hq1)
    have kk : Keep b H H' := fun a o n e => k a o n (sA a o e)
    have ret : ∀ d, Dp K (dX av H') v d → Bn 1000000000 2 1 d → dw d ≤ 60 → Q v H' := fun d h1 h2 h3 => q v d H' kk hb' h1 h2 h3
    have ii : ∀ i : Int, v = .int i → i.natAbs ≤ 1000000000 → Q v H' := fun i e h => by
      subst e
      have := dw_i (i := i) (by omega)
      exact ret (.int i) (.int i) h (by omega)
    have b0 : Bn 1000000000 2 0 (.int 0) := by
      show (0 : Int).natAbs ≤ 1000000000
      decide
    have b1 : Bn 1000000000 2 0 (.int 1) := by
      show (1 : Int).natAbs ≤ 1000000000
      decide
    have z0 : dw (.int 0) ≤ 20 := dw_i (by decide)
    have z1 : dw (.int 1) ≤ 20 := dw_i (by decide)
    simp only [List.mem_cons, List.not_mem_nil, or_false] at hv
    rcases hv with rfl | rfl | rfl | e | e | e | e | rfl | rfl | rfl | rfl | rfl | rfl | rfl | e
    · exact ret .none .non True.intro (Nat.le_trans sm_non.w (by decide))
    · exact ret (.bool true) (.bl true) True.intro (Nat.le_trans (sm_bl true).w (by decide))
    · exact ret (.bool false) (.bl false) True.intro (Nat.le_trans (sm_bl false).w (by decide))
    · exact ii (-1) e (by decide)
    · exact ii 0 e (by decide)
    · exact ii 1 e (by decide)
    · exact ii by' e (by omega)
    · exact ret (.str "") (.str "") (.inl rfl) (Nat.le_trans sm_e.w (by decide))
    · exact ret (.str "0") (.str "0") (.inr rfl) (Nat.le_trans sm_0.w (by decide))
    · exact ret (.list []) (.lst (SqL.of v1) .nil) ⟨by decide, fun e he => nomatch he⟩ (by rw [dw_list, dwAll]; decide)
    · exact ret (.tuple []) (.tup (SqT.of v2) .nil) ⟨by decide, fun e he => nomatch he⟩ (by rw [dw_tup, dwAll]; decide)
    · refine ret (.tuple [.int 0]) (.tup (SqT.of v3) (.cons (.int 0) .nil)) ⟨by decide, fun e he => ?_⟩ (by rw [dw_tup, dwAll, dwAll]; omega)
      rw [List.mem_singleton.mp he]
      exact b0
    · refine ret (.list [.int 0]) (.lst (SqL.of v4) (.cons (.int 0) .nil)) ⟨by decide, fun e he => ?_⟩ (by rw [dw_list, dwAll, dwAll]; omega)
      rw [List.mem_singleton.mp he]
      exact b0
    · refine ret (.tuple [.int 1, .int 0]) (.tup (SqT.of v5) (.cons (.int 1) (.cons (.int 0) .nil))) ⟨by decide, fun e he => ?_⟩ (by rw [dw_tup, dwAll, dwAll, dwAll]; omega)
      rcases List.mem_cons.mp he with z | z
      · rw [z]
        exact b1
      · rw [List.mem_singleton.mp z]
        exact b0
    · exact ii (10 ^ 9) e (by decide)
end
theorem erm19 {f : V × PyData → α} : ∀ (l : List (V × PyData)) (k : Nat), (l.map f).eraseIdx k = (l.eraseIdx k).map f
  | [], _ => rfl
  | _ :: _, 0 => rfl
  | x :: r, k + 1 => by
    show f x :: (r.map f).eraseIdx k = f x :: (r.eraseIdx k).map f
    rw [erm19 r k]
theorem sqx19 {n i : Nat} (h : i < n) : seqIndex? (i : Int) n = some i := by
  have h0 : ¬ ((i : Int) < 0) := by omega
  unfold seqIndex?
  simp [h, h0]
theorem dX_upd {av : List Addr} {H : Hp} {l : Addr} {o : HO} (m : l ∈ av) : Same (dX av H) (dX av (upd H l o)) := KeepX.d fun a u n e => by rw [upd_ne (fun z => n (by subst z; exact m))]; exact e
abbrev s__law_bent : Stmt := top 51
abbrev N__law_bent : List Str := ["_law_box_here", "_law_world_here", "_law_thing", "_law_some", "_law_at", "_law_way", "_law_to"]
abbrev P__law_bent : List Str := ["_law_box_here", "_law_world_here", "_law_thing"]
theorem sc__law_bent : FnScope N__law_bent P__law_bent (defScope s__law_bent) := ⟨rfl, rfl, rfl, by decide +kernel, rfl, by decide +kernel, by decide +kernel⟩
def spBt19 (K : PySem.W.Frag) (n : Nat) : Sp := fun vs H Q _ => ∃ (av : List Addr) (b wd : Addr) (v : V) (d : PyData) (g : Gk) (c : Int) (M L B : Nat), vs = [.ref b, .ref wd, v] ∧ BoxAt H b c ∧ c + 10 * ((n : Int) + 1) < 900000 ∧ WdM H b wd g ∧ Std av H ∧ b ∈ av ∧ Dp K (dX av H) v d ∧ Bn M L n d ∧ 1000000000 ≤ M ∧ M ≤ 900000000000000 ∧ 2 ≤ L ∧ L ≤ 90 ∧ n ≤ 10 ∧ dw d ≤ B ∧ ∀ v' d' H', Keep b H H' → BoxAt H' b (c + 10 * ((n : Int) + 1)) → Dp K (dX av H') v' d' → Bn (M + 10000) (L + 1) (n + 1) d' → dw d' ≤ 2 * B + 60 → Q v' H'
section
variable {P : Program} {w : World} {K : PySem.W.Frag} {mg : Str → Option Value} {base : Heap}
theorem bt19_step {n : Nat} {spI : Sp} {f f1 f2 f3 : Addr} {fd d1 d2 d3 : FuncData} (D__law_bent : Df K mg "_law_bent" s__law_bent P__law_bent f fd) (T : Blt mg) (D__law_take : Df K mg "_law_take" s__law_take P__law_take f1 d1) (D__law_pick : Df K mg "_law_pick" s__law_pick P__law_pick f2 d2) (D__law_odd : Df K mg "_law_odd" s__law_odd P__law_odd f3 d3) (G__law_bent : FnOk P w K mg base CX0 (n + 3) f fd P__law_bent spI) (hG : ∀ m, n = m + 1 → spI = spBt19 K m) : FnOk P w K mg base CX0 (n + 4) f fd P__law_bent (spBt19 K n) := by
  have G__law_take : FnOk P w K mg base CX0 1 f1 d1 P__law_take spTake := ok_take D__law_take.F
  have G__law_odd : FnOk P w K mg base CX0 3 f3 d3 P__law_odd (spOd19 K) := ok_od19 D__law_odd.F T D__law_take D__law_pick
  have nd := sc__law_bent.nd
  refine D__law_bent.F.ok sc__law_bent (fun vs H Q E h => ?_) (fun cdv A outer s H vs Q E hr h => ?_)
  · obtain ⟨av, b, wd, v, d, g, c, M, L, B, rfl, _⟩ := h
    rfl
  · obtain ⟨av, b, wd, v, d, g, c, M, L, B, rfl, hb, hc, hW, hA, hbA, hd, hB, hM1, hM2, hL1, hL2, hn, hw, nxt⟩ := h
    refine ⟨_, (pss_cons (ps_if (PW.pt (pw_or (pt_not (pt_val (pe_callB (r := rIsiT K) call_isiT (by rfl) T.b_isinstance (by decide +kernel) (pa_cons (pv 2) (pa_cons (pe_tup (pa_cons (pe_bltn (v := .ty "list") (by rfl) T.b_list (by decide +kernel) rfl) (pa_cons (pe_bltn (v := .ty "tuple") (by rfl) T.b_tuple (by decide +kernel) rfl) pa_nil))) pa_nil))))) (pw_or (pt_cmpR op_eq (pe_callB (r := rLenQ K) call_len_seq (by rfl) T.b_len (by decide +kernel) (pa_cons (pv 2) pa_nil)) (pe_int) (nomark _)) (pw_or1 (pt_cmpR op_eq (pe_call G__law_take (hr.mono (by omega)) (by rfl) D__law_take.g D__law_take.F.kp D__law_take.b .nil pass0 (pa_cons (pv 0) (pa_cons (pe_int) pa_nil))) (pe_int) (nomark _)))))) (pss_cons (ps_if (PW.pt (pw_and (pt_val (pe_callB (r := rIsi K) call_isi (by rfl) T.b_isinstance (by decide +kernel) (pa_cons (pv 2) (pa_cons (pe_bltn (v := .ty "int") (by rfl) T.b_int (by decide +kernel) rfl) pa_nil)))) (pw_and (pt_not (pt_val (pe_callB (r := rIsi K) call_isi (by rfl) T.b_isinstance (by decide +kernel) (pa_cons (pv 2) (pa_cons (pe_bltn (v := .ty "bool") (by rfl) T.b_bool (by decide +kernel) rfl) pa_nil))))) (pw_and1 (pt_cmpR op_gt (pe_call G__law_take (hr.mono (by omega)) (by rfl) D__law_take.g D__law_take.F.kp D__law_take.b .nil pass0 (pa_cons (pv 0) (pa_cons (pe_int) pa_nil))) (pe_int) (nomark _)))))) (pss_one (ps_ret (pe_op op_add (pv 2) (pe_ix (r := rIxL K) ix_list (pe_lst (pa_cons (pe_int) (pa_cons (pe_un un_neg (pe_int)) (pa_cons (pe_dget (du hr) (pv 1) (pe_str) (fun _ _ => rfl)) (pa_cons (pe_op op_sub (pe_int) (pe_dget (du hr) (pv 1) (pe_str) (fun _ _ => rfl))) pa_nil))))) (pe_call G__law_take (hr.mono (by omega)) (by rfl) D__law_take.g D__law_take.F.kp D__law_take.b .nil pass0 (pa_cons (pv 0) (pa_cons (pe_int) pa_nil))) (fun _ _ => rfl))))) pss_nil)
      (pss_one (ps_ret (pe_call G__law_odd (hr.mono (by omega)) (by rfl) D__law_odd.g D__law_odd.F.kp D__law_odd.b .nil pass0 (pa_cons (pv 0) (pa_cons (pv 1) pa_nil)))))) pss_nil)
      (pss_cons (ps_par3 (i := 3) (j := 4) (l := 5) (by rfl) nd rfl rfl rfl (by decide) (by decide) (by decide) rfl rfl rfl (pa_cons (pe_callTy call_list_of (by rfl) T.b_list (by decide +kernel) (pa_cons (pv 2) pa_nil)) (pa_cons (pe_ix (r := rIxL K) ix_list (pe_lst (pa_cons (pe_call G__law_take (hr.mono (by omega)) (by rfl) D__law_take.g D__law_take.F.kp D__law_take.b .nil pass0 (pa_cons (pv 0) (pa_cons (pe_callB (r := rLenQ K) call_len_seq (by rfl) T.b_len (by decide +kernel) (pa_cons (pv 2) pa_nil)) pa_nil))) (pa_cons (pe_op op_sub (pe_callB (r := rLenQ K) call_len_seq (by rfl) T.b_len (by decide +kernel) (pa_cons (pv 2) pa_nil)) (pe_int)) pa_nil))) (pe_call G__law_take (hr.mono (by omega)) (by rfl) D__law_take.g D__law_take.F.kp D__law_take.b .nil pass0 (pa_cons (pv 0) (pa_cons (pe_int) pa_nil))) (fun _ _ => rfl)) (pa_cons (pe_call G__law_take (hr.mono (by omega)) (by rfl) D__law_take.g D__law_take.F.kp D__law_take.b .nil pass0 (pa_cons (pv 0) (pa_cons (pe_int) pa_nil))) pa_nil))) (by rfl))
      (pss_cons (ps_if (pt_cmpR op_lt (pv 5) (pe_int) (nomark _)) (pss_one (ps_asg (pe_call G__law_bent (hr.mono (by omega)) (by rfl) D__law_bent.g D__law_bent.F.kp D__law_bent.b .nil pass0 (pa_cons (pv 0) (pa_cons (pv 1) (pa_cons (pe_ix (r := rIxL K) ix_list (pv 3) (pv 4) (fun _ _ => rfl)) pa_nil)))) (pg_sub (pv 3) (pv 4) set_list))) (pss_one (ps_if (pt_cmpR op_eq (pv 5) (pe_int) (nomark _)) (pss_one (ps_expr (pe_bm PySem.F.plainAttrs_list PySem.F.slot_list_pop PySem.F.type_list_pop mt_popAt (pv 3) (pa_cons (pv 4) pa_nil)))) (pss_one (ps_if (pt_cmpR op_eq (pv 5) (pe_int) (nomark _)) (pss_one (ps_expr (pe_bm PySem.F.plainAttrs_list PySem.F.slot_list_insert PySem.F.type_list_insert mt_insert (pv 3) (pa_cons (pe_call G__law_take (hr.mono (by omega)) (by rfl) D__law_take.g D__law_take.F.kp D__law_take.b .nil pass0 (pa_cons (pv 0) (pa_cons (pe_op op_add (pe_callB (r := rLenQ K) call_len_seq (by rfl) T.b_len (by decide +kernel) (pa_cons (pv 3) pa_nil)) (pe_int)) pa_nil))) (pa_cons (pe_ix (r := rIxL K) ix_list (pv 3) (pv 4) (fun _ _ => rfl)) pa_nil))))) (pss_one (ps_if (pt_cmpR op_eq (pv 5) (pe_int) (nomark _)) (pss_cons (ps_set (i := 6) nd rfl (Or.inl rfl) (pe_call G__law_take (hr.mono (by omega)) (by rfl) D__law_take.g D__law_take.F.kp D__law_take.b .nil pass0 (pa_cons (pv 0) (pa_cons (pe_callB (r := rLenQ K) call_len_seq (by rfl) T.b_len (by decide +kernel) (pa_cons (pv 3) pa_nil)) pa_nil))))
      (pss_one (ps_asg (pe_tup (pa_cons (pe_ix (r := rIxL K) ix_list (pv 3) (pv 6) (fun _ _ => rfl)) (pa_cons (pe_ix (r := rIxL K) ix_list (pv 3) (pv 4) (fun _ _ => rfl)) pa_nil))) (pg_tup (by rfl) (pgs_cons (pg_sub (pv 3) (pv 4) set_list) (pgs_cons (pg_sub (pv 3) (pv 6) set_list) pgs_nil)))))) (pss_one (ps_ret (pe_ifExp (pt_val (pe_callB (r := rIsi K) call_isi (by rfl) T.b_isinstance (by decide +kernel) (pa_cons (pv 2) (pa_cons (pe_bltn (v := .ty "list") (by rfl) T.b_list (by decide +kernel) rfl) pa_nil)))) (pe_callTy call_tuple_of (by rfl) T.b_tuple (by decide +kernel) (pa_cons (pv 3) pa_nil)) (pv 3)))))))))))
      (pss_one (ps_ret (pe_ifExp (pt_val (pe_callB (r := rIsi K) call_isi (by rfl) T.b_isinstance (by decide +kernel) (pa_cons (pv 2) (pa_cons (pe_bltn (v := .ty "list") (by rfl) T.b_list (by decide +kernel) rfl) pa_nil)))) (pv 3) (pe_callTy call_tuple_of (by rfl) T.b_tuple (by decide +kernel) (pa_cons (pv 3) pa_nil)))))))), ?_⟩
    have hd0 := dp_dX hd
    have hd1 := hd
    have kd := kdD hd0
    have ty := kd.ty
    obtain ⟨j1, j2, j3, j4, j5⟩ := kd.kit
    have jk := kit_lt j4 j5
    have c1 : c < 1000000 := by omega
    have fo : ∀ v' d' H', Keep b H H' → BoxAt H' b (c + 10) → Dp K (dX av H') v' d' → Bn 1000000000 2 1 d' → dw d' ≤ 60 → Q v' H' := fun v' d' H' k hb' h1 h2 h3 => nxt v' d' H' k (hb'.mono (by omega)) h1 (h2.up (by omega) (by omega) (by omega)) (by omega)
    cases hd with
    | non =>
      walk_at "ev"
      w_cond _1
      have hb1 := hb.same sm1
      have hW1 := hW.up sm1
      have hA1 := hA.s sm1
      have ty1 := (kdD (dp_same sm1 hd0)).ty
      walk_at "ev"
      intro v' d' H2 k2 b2 p2 q2 w2
      walk_at "ev"
      exact fo v' d' H2 ((keepS sm1).trans k2) (b2.mono (by omega)) p2 q2 w2
    | str x =>
      walk_at "ev"
      w_cond _1
      have hb1 := hb.same sm1
      have hW1 := hW.up sm1
      have hA1 := hA.s sm1
      have ty1 := (kdD (dp_same sm1 hd0)).ty
      walk_at "ev"
      intro v' d' H2 k2 b2 p2 q2 w2
      walk_at "ev"
      exact fo v' d' H2 ((keepS sm1).trans k2) (b2.mono (by omega)) p2 q2 w2
    | bl x =>
      walk_at "ev"
      w_cond _1
      have hb1 := hb.same sm1
      have hW1 := hW.up sm1
      have hA1 := hA.s sm1
      have ty1 := (kdD (dp_same sm1 hd0)).ty
      walk_at "ev"
      intro v' d' H2 k2 b2 p2 q2 w2
      walk_at "ev"
      exact fo v' d' H2 ((keepS sm1).trans k2) (b2.mono (by omega)) p2 q2 w2
    | int i =>
      have hi : i.natAbs ≤ M := by cases n <;> exact hB
      walk_at "ev"
      w_cond _1
      have hb1 := hb.same sm1
      have hW1 := hW.up sm1
      have hA1 := hA.s sm1
      have ty1 := (kdD (dp_same sm1 hd0)).ty
      walk_at "ev"
      intro r H2 r0 r1 k2 hb2
      have hW2 := hW1.keep k2
      have hA2 := hA1.k k2 hb2
      obtain ⟨by', gb, by1, by2⟩ := wd_by hW2
      walk_at "ev"
      refine ite2 (fun c0 => ?_) (fun c0 => ?_)
      · walk_at "ev"
        w_cond _3
        have hb3 := hb2.same sm3
        have n3 : l3 ≠ b := hb2.ne hl3
        walk_at "ev"
        intro r' H4 r0' r1' k4 hb4
        have hL4 := SqL.of (K := K) (k4 _ _ n3 hq3)
        have fin : ∀ y : Int, y.natAbs ≤ 10000 → Q (.int (i + y)) H4 := fun y hy => by
          have hz : (i + y).natAbs ≤ M + 10000 := by omega
          refine nxt (.int (i + y)) (.int (i + y)) H4 ((keepS sm1).trans (k2.trans ((keepS sm3).trans k4))) (hb4.mono (by omega)) (.int _) hz ?_
          have := dw_i (i := i + y) (by omega)
          omega
        have : r' = 0 ∨ r' = 1 ∨ r' = 2 ∨ r' = 3 := by omega
        rcases this with rfl | rfl | rfl | rfl
        · have ha : atI [V.int 1, V.int (-1), V.int by', V.int (0 - by')] 0 = some (.int 1) := rfl
          walk_at "ev"
          exact fin 1 (by decide)
        · have ha : atI [V.int 1, V.int (-1), V.int by', V.int (0 - by')] 1 = some (.int (-1)) := rfl
          walk_at "ev"
          exact fin (-1) (by decide)
        · have ha : atI [V.int 1, V.int (-1), V.int by', V.int (0 - by')] 2 = some (.int by') := rfl
          walk_at "ev"
          exact fin by' (by omega)
        · have ha : atI [V.int 1, V.int (-1), V.int by', V.int (0 - by')] 3 = some (.int (0 - by')) := rfl
          walk_at "ev"
          exact fin (0 - by') (by omega)
      · walk_at "ev"
        intro v' d' H3 k3 b3 p3 q3 w3
        walk_at "ev"
        exact fo v' d' H3 ((keepS sm1).trans (k2.trans k3)) (b3.mono (by omega)) p3 q3 w3
    | lst hs ha =>
      rename_i a0 xs ds
      obtain ⟨es, rfl, rfl, hes⟩ := es_dp ha
      cases n with
      | zero => exact hB.elim
      | succ n =>
      obtain ⟨hLn, hBe⟩ : (es.map (·.2)).length ≤ L ∧ ∀ e ∈ es.map (·.2), Bn M L n e := by
        simpa only [Bn] using hB
      have lds : (es.map (·.2)).length = es.length := List.length_map _
      have lxs : (es.map (·.1)).length = es.length := List.length_map _
      have hsH : SqL K H a0 (es.map (·.1)) := dX_le.seq hs
      have hsO : SqL K H a0 (es.map (·.1)) ∨ SqT K H a0 (es.map (·.1)) := .inl hsH
      walk_at "ev"
      w_cond _1
      have hb1 := hb.same sm1
      have hW1 := hW.up sm1
      have hA1 := hA.s sm1
      have ty1 := (kdD (dp_same sm1 hd0)).ty
      have hs1 := sm1.seq hsH
      have hsO1 : SqL K H1 a0 (es.map (·.1)) ∨ SqT K H1 a0 (es.map (·.1)) := .inl hs1
      walk_at "ev"
      refine ite2 (fun c0 => ?_) (fun c0 => ?_)
      · walk_at "ev"
        intro v' d' H3 k3 b3 p3 q3 w3
        walk_at "ev"
        exact fo v' d' H3 ((keepS sm1).trans k3) (b3.mono (by omega)) p3 q3 w3
      walk_at "ev"
      intro r H2 r0 r1 k2 hb2
      have hW2 := hW1.keep k2
      have hA2 := hA1.k k2 hb2
      have k12 := (keepS sm1).trans k2
      walk_at "ev"
      refine ite2 (fun c0' => ?_) (fun c0' => ?_)
      · have ty2 := (kdD (dp_dX (dp_kX hd1 (KeepX.k k12 hbA)))).ty
        walk_at "ev"
        intro v' d' H3 k3 b3 p3 q3 w3
        walk_at "ev"
        exact fo v' d' H3 (k12.trans k3) (b3.mono (by omega)) p3 q3 w3
      have hd2 := dp_kX hd1 (KeepX.k k12 hbA)
      have ty2 := (kdD (dp_dX hd2)).ty
      have hs2 := dX_le.seq ((KeepX.k k12 hbA).d.seq hs)
      have hsO2 : SqL K H2 a0 (es.map (·.1)) ∨ SqT K H2 a0 (es.map (·.1)) := .inl hs2
      walk_at "ev"
      w_cond _3
      have hb3 := hb2.same sm3
      have n3b : l3 ≠ b := hb2.ne hl3
      have hl3' : H l3 = none := by
        cases u : H l3 with
        | none => rfl
        | some o =>
          rw [k12 _ o n3b u] at hl3
          cases hl3
      have n3av : l3 ∉ av := hA.no hl3'
      have hsK : ∀ Hy, Keep b H Hy → SqL K Hy a0 (es.map (·.1)) := fun Hy ky => dX_le.seq ((KeepX.k ky hbA).d.seq hs)
      have tyK : ∀ Hy, Keep b H Hy → TyX K Hy (.ref a0) (Value.type (tyD (PyData.list (es.map (·.2))))) := fun Hy ky => (kdD (dp_dX (dp_kX hd1 (KeepX.k ky hbA)))).ty
      have k13 := k12.trans (keepS sm3)
      have hs3 := hsK _ k13
      have hsO3 : SqL K H3 a0 (es.map (·.1)) ∨ SqT K H3 a0 (es.map (·.1)) := .inl hs3
      have hpos : 0 < ((es.map (·.1)).length : Int) := by
        have : ¬ ((es.map (·.1)).length : Int) = 0 := fun z => c0 (by rw [z]; rfl)
        omega
      have hle : ((es.map (·.1)).length : Int) < 1048576 := by omega
      walk_at "ev"
      intro at' H4 r40 r41 k4 hb4
      have k14 := k13.trans k4
      have hs4 := hsK _ k14
      have hsO4 : SqL K H4 a0 (es.map (·.1)) ∨ SqT K H4 a0 (es.map (·.1)) := .inl hs4
      walk_at "ev"
      w_cond _5
      have hb5 := hb4.same sm5
      have n5b : l5 ≠ b := hb4.ne hl5
      walk_at "ev"
      intro j H6 r60 r61 k6 hb6
      have hL6 := SqL.of (K := K) (k6 _ _ n5b hq5)
      obtain ⟨i, hil, hat⟩ : ∃ i : Nat, i < es.length ∧ atI [V.int at', V.int (((es.map (·.1)).length : Int) - 1)] j = some (.int (i : Int)) := by
        have : j = 0 ∨ j = 1 := by omega
        rcases this with rfl | rfl
        · obtain ⟨i, rfl⟩ := Int.eq_ofNat_of_zero_le r40
          exact ⟨i, by omega, rfl⟩
        · refine ⟨es.length - 1, by omega, ?_⟩
          have e : ((es.map (·.1)).length : Int) - 1 = ((es.length - 1 : Nat) : Int) := by omega
          rw [e]
          rfl
      walk_at "ev"
      intro wy H7 r70 r71 k7 hb7
      have k47 : Keep b H3 H7 := k4.trans ((keepS sm5).trans (k6.trans k7))
      have k17 := k13.trans k47
      have hp7 := k47 _ _ n3b hq3
      have hL7 := SqL.of (K := K) hp7
      obtain ⟨⟨ev, ed⟩, hei⟩ : ∃ e, es[i]? = some e := ⟨_, List.getElem?_eq_getElem hil⟩
      have hem : (ev, ed) ∈ es := List.mem_of_getElem? hei
      have hatv : atI (es.map (·.1)) ((i : Nat) : Int) = some ev := at_of (j := i) rfl (by rw [List.getElem?_map, hei]; rfl)
      have hatd : (es.map (·.2))[i]? = some ed := by rw [List.getElem?_map, hei]; rfl
      have hix : ixN (es.map (·.1)).length ((i : Nat) : Int) = some i := ixn_of (by rw [List.length_map]; exact hil) rfl
      have hedm : ed ∈ es.map (·.2) := List.mem_map.mpr ⟨_, hem, rfl⟩
      have wds : 6 + dwAll (es.map (·.2)) ≤ B := by
        have := hw
        rw [dw_list] at this
        exact this
      have wed := dw_mem hedm
      have hesK : ∀ Hy, Keep b H Hy → ∀ e ∈ es, Dp K (dX (l3 :: av) Hy) e.1 e.2 := fun Hy ky e he => dp_same (KeepX.k ky (List.mem_cons_of_mem _ hbA)).d (dp_same (dX_cons hl3') (hes e he))
      have hesB : ∀ e ∈ es, Bn (M + 10000) (L + 1) (n + 1) e.2 := fun e he => (hBe e.2 (List.mem_map.mpr ⟨e, he, rfl⟩)).up (by omega) (by omega) (by omega)
      have keyL : ∀ (Hx : Hp) (c' : Int) (es' : List (V × PyData)), Keep b H Hx → BoxAt Hx b c' → c' ≤ c + 10 * ((n : Int) + 2) → (∀ e ∈ es', Dp K (dX (l3 :: av) Hx) e.1 e.2) → es'.length ≤ L + 1 → (∀ e ∈ es', Bn (M + 10000) (L + 1) (n + 1) e.2) → dwAll (es'.map (·.2)) ≤ 2 * B + 54 → Hx l3 = some (.lst (es'.map (·.1))) → Q (.ref l3) Hx := fun Hx c' es' kx hbx hc' h1 h2 h3 h4 h5 => nxt (.ref l3) (.list (es'.map (·.2))) Hx kx (hbx.mono (by push_cast; omega)) (.lst (SqL.of (dX_of n3av h5)) (es_dpA fun e he => dp_same (dX_sub fun a ha => List.mem_cons_of_mem _ ha) (h1 e he))) ⟨by rw [List.length_map]; exact h2, fun e he => by
        obtain ⟨z, hz, rfl⟩ := List.mem_map.mp he
        exact h3 z hz⟩ (by rw [dw_list]; omega)
      have keyT : ∀ (Hx Hz : Hp) (z : Addr) (c' : Int) (es' : List (V × PyData)), Keep b H Hx → BoxAt Hx b c' → c' ≤ c + 10 * ((n : Int) + 2) → (∀ e ∈ es', Dp K (dX (l3 :: av) Hx) e.1 e.2) → es'.length ≤ L + 1 → (∀ e ∈ es', Bn (M + 10000) (L + 1) (n + 1) e.2) → dwAll (es'.map (·.2)) ≤ 2 * B + 54 → Hx z = none → Same Hx Hz → Hz z = some (.tup (es'.map (·.1))) → Q (.ref z) Hz := fun Hx Hz z c' es' kx hbx hc' h1 h2 h3 h4 hz sz h5 => nxt (.ref z) (.tuple (es'.map (·.2))) Hz (kx.trans (keepS sz)) ((hbx.same sz).mono (by push_cast; omega)) (.tup (SqT.of (dX_of ((hA.k kx hbx).no hz) h5)) (es_dpA fun e he => dp_same ((dX_sub fun a ha => List.mem_cons_of_mem _ ha).trans (dX_s sz)) (h1 e he))) ⟨by rw [List.length_map]; exact h2, fun e he => by
        obtain ⟨z, hz, rfl⟩ := List.mem_map.mp he
        exact h3 z hz⟩ (by rw [dw_tup]; omega)
      walk_at "ev"
      refine ite2 (fun c1' => ?_) (fun c1' => ?_)
      · have eI := hG n rfl
        subst eI
        have wee : dw ed ≤ dw ed := Nat.le_refl _
        have hA7 : Std (l3 :: av) H7 := fun a ha => by
          rcases List.mem_cons.mp ha with z | z
          · rw [z, hp7]
            nofun
          · exact hA.k k17 hb7 a z
        have hd7 : Dp K (dX (l3 :: av) H7) ev ed := hesK H7 k17 _ hem
        have hB7 : Bn M L n ed := hBe _ hedm
        have hW7 := hW.keep k17
        have c7 : c + 1 + 1 + 1 + 1 + 10 * ((n : Int) + 1) < 900000 := by push_cast at hc; omega
        have bm : b ∈ l3 :: av := List.mem_cons_of_mem _ hbA
        have hn' : n ≤ 10 := by omega
        walk_at "ev"
        intro v' d' H8 k8 b8 p8 q8 w8
        have hp8 := k8 _ _ n3b hp7
        have kx : Keep b H (upd H8 l3 (.lst ((es.map (·.1)).set i v'))) := keep_fresh (k17.trans k8) hl3'
        have tyx := tyK _ kx
        have hLx : SqL K (upd H8 l3 (.lst ((es.map (·.1)).set i v'))) l3 ((es.map (·.1)).set i v') := SqL.of upd_same
        have hE : ∀ e ∈ es.set i (v', d'), Dp K (dX (l3 :: av) (upd H8 l3 (.lst ((es.map (·.1)).set i v')))) e.1 e.2 := fun e he => by
          rcases List.mem_or_eq_of_mem_set he with z | z
          · exact hesK _ kx e z
          · rw [z]
            exact dp_same (dX_upd List.mem_cons_self) p8
        have hN : (es.set i (v', d')).length ≤ L + 1 := by rw [List.length_set]; omega
        have hBn : ∀ e ∈ es.set i (v', d'), Bn (M + 10000) (L + 1) (n + 1) e.2 := fun e he => by
          rcases List.mem_or_eq_of_mem_set he with z | z
          · exact hesB e z
          · rw [z]
            exact q8
        have hD : dwAll ((es.set i (v', d')).map (·.2)) ≤ 2 * B + 54 := by
          have := dw_set (e := d') hatd
          rw [List.map_set]
          show dwAll ((es.map (·.2)).set i d') ≤ _
          omega
        walk_at "ev"
        exact keyL _ (c + 1 + 1 + 1 + 1 + 10 * ((n : Int) + 1)) (es.set i (v', d')) kx (b8.upd n3b) (by omega) hE hN hBn hD (by rw [List.map_set]; exact upd_same)
      walk_at "ev"
      refine ite2 (fun c2' => ?_) (fun c2' => ?_)
      · have kx : Keep b H (upd H7 l3 (.lst ((es.map (·.1)).eraseIdx i))) := keep_fresh k17 hl3'
        have tyx := tyK _ kx
        have hLx : SqL K (upd H7 l3 (.lst ((es.map (·.1)).eraseIdx i))) l3 ((es.map (·.1)).eraseIdx i) := SqL.of upd_same
        have hE : ∀ e ∈ es.eraseIdx i, Dp K (dX (l3 :: av) (upd H7 l3 (.lst ((es.map (·.1)).eraseIdx i)))) e.1 e.2 := fun e he => hesK _ kx e (List.mem_of_mem_eraseIdx he)
        have hN : (es.eraseIdx i).length ≤ L + 1 := by have := List.length_eraseIdx_le es i; omega
        have hBn : ∀ e ∈ es.eraseIdx i, Bn (M + 10000) (L + 1) (n + 1) e.2 := fun e he => hesB e (List.mem_of_mem_eraseIdx he)
        have hD : dwAll ((es.eraseIdx i).map (·.2)) ≤ 2 * B + 54 := by
          have := dw_erase (ds := es.map (·.2)) (i := i)
          rw [← erm19]
          omega
        walk_at "ev"
        refine ⟨sqx19 (by rw [List.length_map]; exact hil), by rw [List.getElem?_map, hei]; rfl, ?_⟩
        walk_at "ev"
        exact keyL _ (c + 1 + 1 + 1 + 1) (es.eraseIdx i) kx (hb7.upd n3b) (by omega) hE hN hBn hD (by rw [← erm19]; exact upd_same)
      walk_at "ev"
      refine ite2 (fun c3' => ?_) (fun c3' => ?_)
      · walk_at "ev"
        intro r8 H8 s0 s1 k8 hb8
        have hp8 := k8 _ _ n3b hp7
        have hL8 := SqL.of (K := K) hp8
        have hsz : (es.map (·.1)).length < sizeLine := szm (by rw [List.length_map]; omega)
        have hr63 : r8 < 2 ^ 63 := by omega
        have kx : Keep b H (upd H8 l3 (.lst ((es.map (·.1)).take r8.toNat ++ [ev] ++ (es.map (·.1)).drop r8.toNat))) := keep_fresh (k17.trans k8) hl3'
        have tyx := tyK _ kx
        have hLx : SqL K (upd H8 l3 (.lst ((es.map (·.1)).take r8.toNat ++ [ev] ++ (es.map (·.1)).drop r8.toNat))) l3 ((es.map (·.1)).take r8.toNat ++ [ev] ++ (es.map (·.1)).drop r8.toNat) := SqL.of upd_same
        have hin : ∀ e ∈ es.take r8.toNat ++ [(ev, ed)] ++ es.drop r8.toNat, e ∈ es := fun e he => by
          rcases List.mem_append.mp he with z | z
          · rcases List.mem_append.mp z with z | z
            · exact List.mem_of_mem_take z
            · rw [List.mem_singleton.mp z]
              exact hem
          · exact List.mem_of_mem_drop z
        have hE : ∀ e ∈ es.take r8.toNat ++ [(ev, ed)] ++ es.drop r8.toNat, Dp K (dX (l3 :: av) (upd H8 l3 (.lst ((es.map (·.1)).take r8.toNat ++ [ev] ++ (es.map (·.1)).drop r8.toNat)))) e.1 e.2 := fun e he => hesK _ kx e (hin e he)
        have hN : (es.take r8.toNat ++ [(ev, ed)] ++ es.drop r8.toNat).length ≤ L + 1 := by
          rw [List.length_append, List.length_append, List.length_take, List.length_drop]
          show min _ _ + 1 + _ ≤ _
          omega
        have hBn : ∀ e ∈ es.take r8.toNat ++ [(ev, ed)] ++ es.drop r8.toNat, Bn (M + 10000) (L + 1) (n + 1) e.2 := fun e he => hesB e (hin e he)
        have hD : dwAll ((es.take r8.toNat ++ [(ev, ed)] ++ es.drop r8.toNat).map (·.2)) ≤ 2 * B + 54 := by
          have h1 := dw_app (ds := (es.map (·.2)).take r8.toNat) (es := (es.map (·.2)).drop r8.toNat)
          rw [List.take_append_drop] at h1
          rw [List.map_append, List.map_append, List.map_take, List.map_drop, dw_app, dw_app, List.map_cons, List.map_nil, dwAll, dwAll]
          show _ + (dw ed + 2 + 0) + _ ≤ _
          omega
        walk_at "ev"
        exact keyL _ (c + 1 + 1 + 1 + 1 + 1) (es.take r8.toNat ++ [(ev, ed)] ++ es.drop r8.toNat) kx (hb8.upd n3b) (by omega) hE hN hBn hD (by rw [List.map_append, List.map_append, List.map_take, List.map_drop]; exact upd_same)
      walk_at "ev"
      refine ite2 (fun c4' => ?_) (fun c4' => ?_)
      · walk_at "ev"
        intro r8 H8 s0 s1 k8 hb8
        obtain ⟨j8, rfl⟩ := Int.eq_ofNat_of_zero_le s0
        have hjl : j8 < es.length := by omega
        obtain ⟨⟨fv, fd'⟩, hfj⟩ : ∃ e, es[j8]? = some e := ⟨_, List.getElem?_eq_getElem hjl⟩
        have hfm : (fv, fd') ∈ es := List.mem_of_getElem? hfj
        have hatj : atI (es.map (·.1)) ((j8 : Nat) : Int) = some fv := at_of (j := j8) rfl (by rw [List.getElem?_map, hfj]; rfl)
        have hp8 := k8 _ _ n3b hp7
        have hL8 := SqL.of (K := K) hp8
        walk_at "ev"
        w_cond _9
        have hT9 := SqT.of (K := K) hq9
        have hp9 := sm9 _ _ hp8
        have hixj : ixN ((es.map (·.1)).set i fv).length ((j8 : Nat) : Int) = some j8 := ixn_of (by rw [List.length_set, List.length_map]; exact hjl) rfl
        have kx : Keep b H (upd (upd H9 l3 (.lst ((es.map (·.1)).set i fv))) l3 (.lst (((es.map (·.1)).set i fv).set j8 ev))) := keep_fresh (keep_fresh (k17.trans (k8.trans (keepS sm9))) hl3') hl3'
        have tyx := tyK _ kx
        have hLx : SqL K (upd (upd H9 l3 (.lst ((es.map (·.1)).set i fv))) l3 (.lst (((es.map (·.1)).set i fv).set j8 ev))) l3 (((es.map (·.1)).set i fv).set j8 ev) := SqL.of upd_same
        have hin : ∀ e ∈ (es.set i (fv, fd')).set j8 (ev, ed), e ∈ es := fun e he => by
          rcases List.mem_or_eq_of_mem_set he with z | z
          · rcases List.mem_or_eq_of_mem_set z with z | z
            · exact z
            · rw [z]
              exact hfm
          · rw [z]
            exact hem
        have hE : ∀ e ∈ (es.set i (fv, fd')).set j8 (ev, ed), Dp K (dX (l3 :: av) (upd (upd H9 l3 (.lst ((es.map (·.1)).set i fv))) l3 (.lst (((es.map (·.1)).set i fv).set j8 ev)))) e.1 e.2 := fun e he => hesK _ kx e (hin e he)
        have hN : ((es.set i (fv, fd')).set j8 (ev, ed)).length ≤ L + 1 := by rw [List.length_set, List.length_set]; omega
        have hBn : ∀ e ∈ (es.set i (fv, fd')).set j8 (ev, ed), Bn (M + 10000) (L + 1) (n + 1) e.2 := fun e he => hesB e (hin e he)
        have hD : dwAll (((es.set i (fv, fd')).set j8 (ev, ed)).map (·.2)) ≤ 2 * B + 54 := by
          have h1 := dw_set (e := fd') hatd
          have hfd : (es.map (·.2))[j8]? = some fd' := by rw [List.getElem?_map, hfj]; rfl
          have wfd := dw_mem (List.mem_of_getElem? hfd)
          rw [List.map_set, List.map_set]
          show dwAll (((es.map (·.2)).set i fd').set j8 ed) ≤ _
          obtain ⟨o, ho⟩ : ∃ o, ((es.map (·.2)).set i fd')[j8]? = some o := ⟨_, List.getElem?_eq_getElem (by rw [List.length_set, List.length_map]; exact hjl)⟩
          have h2 := dw_set (e := ed) ho
          omega
        walk_at "ev"
        exact keyL _ (c + 1 + 1 + 1 + 1 + 1) ((es.set i (fv, fd')).set j8 (ev, ed)) kx (((hb8.same sm9).upd n3b).upd n3b) (by omega) hE hN hBn hD (by rw [List.map_set, List.map_set]; exact upd_same)
      · have kx := k17
        have tyx := tyK _ kx
        have hLx := hL7
        have hE := hesK _ k17
        have hN : es.length ≤ L + 1 := by omega
        have hBn := hesB
        have hD : dwAll (es.map (·.2)) ≤ 2 * B + 54 := by omega
        walk_at "ev"
        refine .inl ⟨hLx, ?_⟩
        w_cond _20
        exact keyT _ _ _ (c + 1 + 1 + 1 + 1) (es) kx hb7 (by omega) hE hN hBn hD hl20 sm20 (by exact hq20)
    | tup hs ha =>
      rename_i a0 xs ds
      obtain ⟨es, rfl, rfl, hes⟩ := es_dp ha
      cases n with
      | zero => exact hB.elim
      | succ n =>
      obtain ⟨hLn, hBe⟩ : (es.map (·.2)).length ≤ L ∧ ∀ e ∈ es.map (·.2), Bn M L n e := by
        simpa only [Bn] using hB
      have lds : (es.map (·.2)).length = es.length := List.length_map _
      have lxs : (es.map (·.1)).length = es.length := List.length_map _
      have hsH : SqT K H a0 (es.map (·.1)) := same_t dX_le hs
      have hsO : SqL K H a0 (es.map (·.1)) ∨ SqT K H a0 (es.map (·.1)) := .inr hsH
      walk_at "ev"
      w_cond _1
      have hb1 := hb.same sm1
      have hW1 := hW.up sm1
      have hA1 := hA.s sm1
      have ty1 := (kdD (dp_same sm1 hd0)).ty
      have hs1 := same_t sm1 hsH
      have hsO1 : SqL K H1 a0 (es.map (·.1)) ∨ SqT K H1 a0 (es.map (·.1)) := .inr hs1
      walk_at "ev"
      refine ite2 (fun c0 => ?_) (fun c0 => ?_)
      · walk_at "ev"
        intro v' d' H3 k3 b3 p3 q3 w3
        walk_at "ev"
        exact fo v' d' H3 ((keepS sm1).trans k3) (b3.mono (by omega)) p3 q3 w3
      walk_at "ev"
      intro r H2 r0 r1 k2 hb2
      have hW2 := hW1.keep k2
      have hA2 := hA1.k k2 hb2
      have k12 := (keepS sm1).trans k2
      walk_at "ev"
      refine ite2 (fun c0' => ?_) (fun c0' => ?_)
      · have ty2 := (kdD (dp_dX (dp_kX hd1 (KeepX.k k12 hbA)))).ty
        walk_at "ev"
        intro v' d' H3 k3 b3 p3 q3 w3
        walk_at "ev"
        exact fo v' d' H3 (k12.trans k3) (b3.mono (by omega)) p3 q3 w3
      have hd2 := dp_kX hd1 (KeepX.k k12 hbA)
      have ty2 := (kdD (dp_dX hd2)).ty
      have hs2 := same_t dX_le (same_t (KeepX.k k12 hbA).d hs)
      have hsO2 : SqL K H2 a0 (es.map (·.1)) ∨ SqT K H2 a0 (es.map (·.1)) := .inr hs2
      walk_at "ev"
      w_cond _3
      have hb3 := hb2.same sm3
      have n3b : l3 ≠ b := hb2.ne hl3
      have hl3' : H l3 = none := by
        cases u : H l3 with
        | none => rfl
        | some o =>
          rw [k12 _ o n3b u] at hl3
          cases hl3
      have n3av : l3 ∉ av := hA.no hl3'
      have hsK : ∀ Hy, Keep b H Hy → SqT K Hy a0 (es.map (·.1)) := fun Hy ky => same_t dX_le (same_t (KeepX.k ky hbA).d hs)
      have tyK : ∀ Hy, Keep b H Hy → TyX K Hy (.ref a0) (Value.type (tyD (PyData.tuple (es.map (·.2))))) := fun Hy ky => (kdD (dp_dX (dp_kX hd1 (KeepX.k ky hbA)))).ty
      have k13 := k12.trans (keepS sm3)
      have hs3 := hsK _ k13
      have hsO3 : SqL K H3 a0 (es.map (·.1)) ∨ SqT K H3 a0 (es.map (·.1)) := .inr hs3
      have hpos : 0 < ((es.map (·.1)).length : Int) := by
        have : ¬ ((es.map (·.1)).length : Int) = 0 := fun z => c0 (by rw [z]; rfl)
        omega
      have hle : ((es.map (·.1)).length : Int) < 1048576 := by omega
      walk_at "ev"
      intro at' H4 r40 r41 k4 hb4
      have k14 := k13.trans k4
      have hs4 := hsK _ k14
      have hsO4 : SqL K H4 a0 (es.map (·.1)) ∨ SqT K H4 a0 (es.map (·.1)) := .inr hs4
      walk_at "ev"
      w_cond _5
      have hb5 := hb4.same sm5
      have n5b : l5 ≠ b := hb4.ne hl5
      walk_at "ev"
      intro j H6 r60 r61 k6 hb6
      have hL6 := SqL.of (K := K) (k6 _ _ n5b hq5)
      obtain ⟨i, hil, hat⟩ : ∃ i : Nat, i < es.length ∧ atI [V.int at', V.int (((es.map (·.1)).length : Int) - 1)] j = some (.int (i : Int)) := by
        have : j = 0 ∨ j = 1 := by omega
        rcases this with rfl | rfl
        · obtain ⟨i, rfl⟩ := Int.eq_ofNat_of_zero_le r40
          exact ⟨i, by omega, rfl⟩
        · refine ⟨es.length - 1, by omega, ?_⟩
          have e : ((es.map (·.1)).length : Int) - 1 = ((es.length - 1 : Nat) : Int) := by omega
          rw [e]
          rfl
      walk_at "ev"
      intro wy H7 r70 r71 k7 hb7
      have k47 : Keep b H3 H7 := k4.trans ((keepS sm5).trans (k6.trans k7))
      have k17 := k13.trans k47
      have hp7 := k47 _ _ n3b hq3
      have hL7 := SqL.of (K := K) hp7
      obtain ⟨⟨ev, ed⟩, hei⟩ : ∃ e, es[i]? = some e := ⟨_, List.getElem?_eq_getElem hil⟩
      have hem : (ev, ed) ∈ es := List.mem_of_getElem? hei
      have hatv : atI (es.map (·.1)) ((i : Nat) : Int) = some ev := at_of (j := i) rfl (by rw [List.getElem?_map, hei]; rfl)
      have hatd : (es.map (·.2))[i]? = some ed := by rw [List.getElem?_map, hei]; rfl
      have hix : ixN (es.map (·.1)).length ((i : Nat) : Int) = some i := ixn_of (by rw [List.length_map]; exact hil) rfl
      have hedm : ed ∈ es.map (·.2) := List.mem_map.mpr ⟨_, hem, rfl⟩
      have wds : 6 + dwAll (es.map (·.2)) ≤ B := by
        have := hw
        rw [dw_tup] at this
        exact this
      have wed := dw_mem hedm
      have hesK : ∀ Hy, Keep b H Hy → ∀ e ∈ es, Dp K (dX (l3 :: av) Hy) e.1 e.2 := fun Hy ky e he => dp_same (KeepX.k ky (List.mem_cons_of_mem _ hbA)).d (dp_same (dX_cons hl3') (hes e he))
      have hesB : ∀ e ∈ es, Bn (M + 10000) (L + 1) (n + 1) e.2 := fun e he => (hBe e.2 (List.mem_map.mpr ⟨e, he, rfl⟩)).up (by omega) (by omega) (by omega)
      have keyL : ∀ (Hx : Hp) (c' : Int) (es' : List (V × PyData)), Keep b H Hx → BoxAt Hx b c' → c' ≤ c + 10 * ((n : Int) + 2) → (∀ e ∈ es', Dp K (dX (l3 :: av) Hx) e.1 e.2) → es'.length ≤ L + 1 → (∀ e ∈ es', Bn (M + 10000) (L + 1) (n + 1) e.2) → dwAll (es'.map (·.2)) ≤ 2 * B + 54 → Hx l3 = some (.lst (es'.map (·.1))) → Q (.ref l3) Hx := fun Hx c' es' kx hbx hc' h1 h2 h3 h4 h5 => nxt (.ref l3) (.list (es'.map (·.2))) Hx kx (hbx.mono (by push_cast; omega)) (.lst (SqL.of (dX_of n3av h5)) (es_dpA fun e he => dp_same (dX_sub fun a ha => List.mem_cons_of_mem _ ha) (h1 e he))) ⟨by rw [List.length_map]; exact h2, fun e he => by
        obtain ⟨z, hz, rfl⟩ := List.mem_map.mp he
        exact h3 z hz⟩ (by rw [dw_list]; omega)
      have keyT : ∀ (Hx Hz : Hp) (z : Addr) (c' : Int) (es' : List (V × PyData)), Keep b H Hx → BoxAt Hx b c' → c' ≤ c + 10 * ((n : Int) + 2) → (∀ e ∈ es', Dp K (dX (l3 :: av) Hx) e.1 e.2) → es'.length ≤ L + 1 → (∀ e ∈ es', Bn (M + 10000) (L + 1) (n + 1) e.2) → dwAll (es'.map (·.2)) ≤ 2 * B + 54 → Hx z = none → Same Hx Hz → Hz z = some (.tup (es'.map (·.1))) → Q (.ref z) Hz := fun Hx Hz z c' es' kx hbx hc' h1 h2 h3 h4 hz sz h5 => nxt (.ref z) (.tuple (es'.map (·.2))) Hz (kx.trans (keepS sz)) ((hbx.same sz).mono (by push_cast; omega)) (.tup (SqT.of (dX_of ((hA.k kx hbx).no hz) h5)) (es_dpA fun e he => dp_same ((dX_sub fun a ha => List.mem_cons_of_mem _ ha).trans (dX_s sz)) (h1 e he))) ⟨by rw [List.length_map]; exact h2, fun e he => by
        obtain ⟨z, hz, rfl⟩ := List.mem_map.mp he
        exact h3 z hz⟩ (by rw [dw_tup]; omega)
      walk_at "ev"
      refine ite2 (fun c1' => ?_) (fun c1' => ?_)
      · have eI := hG n rfl
        subst eI
        have wee : dw ed ≤ dw ed := Nat.le_refl _
        have hA7 : Std (l3 :: av) H7 := fun a ha => by
          rcases List.mem_cons.mp ha with z | z
          · rw [z, hp7]
            nofun
          · exact hA.k k17 hb7 a z
        have hd7 : Dp K (dX (l3 :: av) H7) ev ed := hesK H7 k17 _ hem
        have hB7 : Bn M L n ed := hBe _ hedm
        have hW7 := hW.keep k17
        have c7 : c + 1 + 1 + 1 + 1 + 10 * ((n : Int) + 1) < 900000 := by push_cast at hc; omega
        have bm : b ∈ l3 :: av := List.mem_cons_of_mem _ hbA
        have hn' : n ≤ 10 := by omega
        walk_at "ev"
        intro v' d' H8 k8 b8 p8 q8 w8
        have hp8 := k8 _ _ n3b hp7
        have kx : Keep b H (upd H8 l3 (.lst ((es.map (·.1)).set i v'))) := keep_fresh (k17.trans k8) hl3'
        have tyx := tyK _ kx
        have hLx : SqL K (upd H8 l3 (.lst ((es.map (·.1)).set i v'))) l3 ((es.map (·.1)).set i v') := SqL.of upd_same
        have hE : ∀ e ∈ es.set i (v', d'), Dp K (dX (l3 :: av) (upd H8 l3 (.lst ((es.map (·.1)).set i v')))) e.1 e.2 := fun e he => by
          rcases List.mem_or_eq_of_mem_set he with z | z
          · exact hesK _ kx e z
          · rw [z]
            exact dp_same (dX_upd List.mem_cons_self) p8
        have hN : (es.set i (v', d')).length ≤ L + 1 := by rw [List.length_set]; omega
        have hBn : ∀ e ∈ es.set i (v', d'), Bn (M + 10000) (L + 1) (n + 1) e.2 := fun e he => by
          rcases List.mem_or_eq_of_mem_set he with z | z
          · exact hesB e z
          · rw [z]
            exact q8
        have hD : dwAll ((es.set i (v', d')).map (·.2)) ≤ 2 * B + 54 := by
          have := dw_set (e := d') hatd
          rw [List.map_set]
          show dwAll ((es.map (·.2)).set i d') ≤ _
          omega
        walk_at "ev"
        refine .inl ⟨hLx, ?_⟩
        w_cond _20
        exact keyT _ _ _ (c + 1 + 1 + 1 + 1 + 10 * ((n : Int) + 1)) (es.set i (v', d')) kx (b8.upd n3b) (by omega) hE hN hBn hD hl20 sm20 (by rw [List.map_set]; exact hq20)
      walk_at "ev"
      refine ite2 (fun c2' => ?_) (fun c2' => ?_)
      · have kx : Keep b H (upd H7 l3 (.lst ((es.map (·.1)).eraseIdx i))) := keep_fresh k17 hl3'
        have tyx := tyK _ kx
        have hLx : SqL K (upd H7 l3 (.lst ((es.map (·.1)).eraseIdx i))) l3 ((es.map (·.1)).eraseIdx i) := SqL.of upd_same
        have hE : ∀ e ∈ es.eraseIdx i, Dp K (dX (l3 :: av) (upd H7 l3 (.lst ((es.map (·.1)).eraseIdx i)))) e.1 e.2 := fun e he => hesK _ kx e (List.mem_of_mem_eraseIdx he)
        have hN : (es.eraseIdx i).length ≤ L + 1 := by have := List.length_eraseIdx_le es i; omega
        have hBn : ∀ e ∈ es.eraseIdx i, Bn (M + 10000) (L + 1) (n + 1) e.2 := fun e he => hesB e (List.mem_of_mem_eraseIdx he)
        have hD : dwAll ((es.eraseIdx i).map (·.2)) ≤ 2 * B + 54 := by
          have := dw_erase (ds := es.map (·.2)) (i := i)
          rw [← erm19]
          omega
        walk_at "ev"
        refine ⟨sqx19 (by rw [List.length_map]; exact hil), by rw [List.getElem?_map, hei]; rfl, ?_⟩
        walk_at "ev"
        refine .inl ⟨hLx, ?_⟩
        w_cond _20
        exact keyT _ _ _ (c + 1 + 1 + 1 + 1) (es.eraseIdx i) kx (hb7.upd n3b) (by omega) hE hN hBn hD hl20 sm20 (by rw [← erm19]; exact hq20)
      walk_at "ev"
      refine ite2 (fun c3' => ?_) (fun c3' => ?_)
      · walk_at "ev"
        intro r8 H8 s0 s1 k8 hb8
        have hp8 := k8 _ _ n3b hp7
        have hL8 := SqL.of (K := K) hp8
        have hsz : (es.map (·.1)).length < sizeLine := szm (by rw [List.length_map]; omega)
        have hr63 : r8 < 2 ^ 63 := by omega
        have kx : Keep b H (upd H8 l3 (.lst ((es.map (·.1)).take r8.toNat ++ [ev] ++ (es.map (·.1)).drop r8.toNat))) := keep_fresh (k17.trans k8) hl3'
        have tyx := tyK _ kx
        have hLx : SqL K (upd H8 l3 (.lst ((es.map (·.1)).take r8.toNat ++ [ev] ++ (es.map (·.1)).drop r8.toNat))) l3 ((es.map (·.1)).take r8.toNat ++ [ev] ++ (es.map (·.1)).drop r8.toNat) := SqL.of upd_same
        have hin : ∀ e ∈ es.take r8.toNat ++ [(ev, ed)] ++ es.drop r8.toNat, e ∈ es := fun e he => by
          rcases List.mem_append.mp he with z | z
          · rcases List.mem_append.mp z with z | z
            · exact List.mem_of_mem_take z
            · rw [List.mem_singleton.mp z]
              exact hem
          · exact List.mem_of_mem_drop z
        have hE : ∀ e ∈ es.take r8.toNat ++ [(ev, ed)] ++ es.drop r8.toNat, Dp K (dX (l3 :: av) (upd H8 l3 (.lst ((es.map (·.1)).take r8.toNat ++ [ev] ++ (es.map (·.1)).drop r8.toNat)))) e.1 e.2 := fun e he => hesK _ kx e (hin e he)
        have hN : (es.take r8.toNat ++ [(ev, ed)] ++ es.drop r8.toNat).length ≤ L + 1 := by
          rw [List.length_append, List.length_append, List.length_take, List.length_drop]
          show min _ _ + 1 + _ ≤ _
          omega
        have hBn : ∀ e ∈ es.take r8.toNat ++ [(ev, ed)] ++ es.drop r8.toNat, Bn (M + 10000) (L + 1) (n + 1) e.2 := fun e he => hesB e (hin e he)
        have hD : dwAll ((es.take r8.toNat ++ [(ev, ed)] ++ es.drop r8.toNat).map (·.2)) ≤ 2 * B + 54 := by
          have h1 := dw_app (ds := (es.map (·.2)).take r8.toNat) (es := (es.map (·.2)).drop r8.toNat)
          rw [List.take_append_drop] at h1
          rw [List.map_append, List.map_append, List.map_take, List.map_drop, dw_app, dw_app, List.map_cons, List.map_nil, dwAll, dwAll]
          show _ + (dw ed + 2 + 0) + _ ≤ _
          omega
        walk_at "ev"
        refine .inl ⟨hLx, ?_⟩
        w_cond _20
        exact keyT _ _ _ (c + 1 + 1 + 1 + 1 + 1) (es.take r8.toNat ++ [(ev, ed)] ++ es.drop r8.toNat) kx (hb8.upd n3b) (by omega) hE hN hBn hD hl20 sm20 (by rw [List.map_append, List.map_append, List.map_take, List.map_drop]; exact hq20)
      walk_at "ev"
      refine ite2 (fun c4' => ?_) (fun c4' => ?_)
      · walk_at "ev"
        intro r8 H8 s0 s1 k8 hb8
        obtain ⟨j8, rfl⟩ := Int.eq_ofNat_of_zero_le s0
        have hjl : j8 < es.length := by omega
        obtain ⟨⟨fv, fd'⟩, hfj⟩ : ∃ e, es[j8]? = some e := ⟨_, List.getElem?_eq_getElem hjl⟩
        have hfm : (fv, fd') ∈ es := List.mem_of_getElem? hfj
        have hatj : atI (es.map (·.1)) ((j8 : Nat) : Int) = some fv := at_of (j := j8) rfl (by rw [List.getElem?_map, hfj]; rfl)
        have hp8 := k8 _ _ n3b hp7
        have hL8 := SqL.of (K := K) hp8
        walk_at "ev"
        w_cond _9
        have hT9 := SqT.of (K := K) hq9
        have hp9 := sm9 _ _ hp8
        have hixj : ixN ((es.map (·.1)).set i fv).length ((j8 : Nat) : Int) = some j8 := ixn_of (by rw [List.length_set, List.length_map]; exact hjl) rfl
        have kx : Keep b H (upd (upd H9 l3 (.lst ((es.map (·.1)).set i fv))) l3 (.lst (((es.map (·.1)).set i fv).set j8 ev))) := keep_fresh (keep_fresh (k17.trans (k8.trans (keepS sm9))) hl3') hl3'
        have tyx := tyK _ kx
        have hLx : SqL K (upd (upd H9 l3 (.lst ((es.map (·.1)).set i fv))) l3 (.lst (((es.map (·.1)).set i fv).set j8 ev))) l3 (((es.map (·.1)).set i fv).set j8 ev) := SqL.of upd_same
        have hin : ∀ e ∈ (es.set i (fv, fd')).set j8 (ev, ed), e ∈ es := fun e he => by
          rcases List.mem_or_eq_of_mem_set he with z | z
          · rcases List.mem_or_eq_of_mem_set z with z | z
            · exact z
            · rw [z]
              exact hfm
          · rw [z]
            exact hem
        have hE : ∀ e ∈ (es.set i (fv, fd')).set j8 (ev, ed), Dp K (dX (l3 :: av) (upd (upd H9 l3 (.lst ((es.map (·.1)).set i fv))) l3 (.lst (((es.map (·.1)).set i fv).set j8 ev)))) e.1 e.2 := fun e he => hesK _ kx e (hin e he)
        have hN : ((es.set i (fv, fd')).set j8 (ev, ed)).length ≤ L + 1 := by rw [List.length_set, List.length_set]; omega
        have hBn : ∀ e ∈ (es.set i (fv, fd')).set j8 (ev, ed), Bn (M + 10000) (L + 1) (n + 1) e.2 := fun e he => hesB e (hin e he)
        have hD : dwAll (((es.set i (fv, fd')).set j8 (ev, ed)).map (·.2)) ≤ 2 * B + 54 := by
          have h1 := dw_set (e := fd') hatd
          have hfd : (es.map (·.2))[j8]? = some fd' := by rw [List.getElem?_map, hfj]; rfl
          have wfd := dw_mem (List.mem_of_getElem? hfd)
          rw [List.map_set, List.map_set]
          show dwAll (((es.map (·.2)).set i fd').set j8 ed) ≤ _
          obtain ⟨o, ho⟩ : ∃ o, ((es.map (·.2)).set i fd')[j8]? = some o := ⟨_, List.getElem?_eq_getElem (by rw [List.length_set, List.length_map]; exact hjl)⟩
          have h2 := dw_set (e := ed) ho
          omega
        walk_at "ev"
        refine .inl ⟨hLx, ?_⟩
        w_cond _20
        exact keyT _ _ _ (c + 1 + 1 + 1 + 1 + 1) ((es.set i (fv, fd')).set j8 (ev, ed)) kx (((hb8.same sm9).upd n3b).upd n3b) (by omega) hE hN hBn hD hl20 sm20 (by rw [List.map_set, List.map_set]; exact hq20)
      · have kx := k17
        have tyx := tyK _ kx
        have hLx := hL7
        have hE := hesK _ k17
        have hN : es.length ≤ L + 1 := by omega
        have hBn := hesB
        have hD : dwAll (es.map (·.2)) ≤ 2 * B + 54 := by omega
        walk_at "ev"
        exact keyL _ (c + 1 + 1 + 1 + 1) (es) kx hb7 (by omega) hE hN hBn hD (by exact hp7)
theorem ok_bt19 {f f1 f2 f3 : Addr} {fd d1 d2 d3 : FuncData} (D__law_bent : Df K mg "_law_bent" s__law_bent P__law_bent f fd) (T : Blt mg) (D__law_take : Df K mg "_law_take" s__law_take P__law_take f1 d1) (D__law_pick : Df K mg "_law_pick" s__law_pick P__law_pick f2 d2) (D__law_odd : Df K mg "_law_odd" s__law_odd P__law_odd f3 d3) : ∀ n : Nat, FnOk P w K mg base CX0 (n + 4) f fd P__law_bent (spBt19 K n)
  | 0 => bt19_step (spI := fun _ _ _ _ => False) D__law_bent T D__law_take D__law_pick D__law_odd ⟨fun _ _ _ _ h => h.elim, fun _ _ _ _ _ _ _ _ _ _ _ _ _ h => h.elim⟩ (fun m h => by omega)
  | n + 1 => bt19_step D__law_bent T D__law_take D__law_pick D__law_odd (ok_bt19 D__law_bent T D__law_take D__law_pick D__law_odd n) (fun m h => by cases h; rfl)
end
/-! ### rows as data of small depth -/
theorem bn_w {M : Nat} {g : Gk} {w : Wt} (h : GkOk g) (hw : nm g w) (hb : BB M w) (hM : 1000000000 ≤ M) : Bn M 60 1 (wD w) := by
  rcases wr g h hw with ⟨p, x, rfl, rfl, x0, x1, p2, p3⟩ | ⟨n, xs, rfl, rfl, l, w1⟩
  · show x.natAbs ≤ M
    omega
  · have := nm_len h hw xs rfl
    refine ⟨by rw [List.length_map]; omega, fun e he => ?_⟩
    obtain ⟨x, hx, rfl⟩ := List.mem_map.mp he
    exact hb x hx
theorem bn_r {M : Nat} {g : Gk} {ws : List Wt} (h : GkOk g) (hw : Nms g ws) (hb : ∀ w ∈ ws, BB M w) (hM : 1000000000 ≤ M) (hl : ws.length ≤ 60) : Bn M 60 2 (rD ws) := ⟨by rw [List.length_map]; exact hl, fun e he => by
  obtain ⟨x, hx, rfl⟩ := List.mem_map.mp he
  exact bn_w h (hw x hx) (hb x hx) hM⟩
theorem sm_w15 {M : Nat} {g : Gk} {w : Wt} (h : GkOk g) (hw : nm g w) (hb : BB M w) (hM : M ≤ 1000000000000000) : Sm 666 1 (wD w) := by
  rcases wr g h hw with ⟨p, x, rfl, rfl, x0, x1, p2, p3⟩ | ⟨n, xs, rfl, rfl, l, w1⟩
  · exact (sm_int (by omega)).up (by decide) (by decide)
  · have := nm_len h hw xs rfl
    refine (Sm.tup (B := 20) (k := 0) (n := 30) (by rw [List.length_map]; exact this) fun d hd => ?_).up (by decide) (by decide)
    obtain ⟨x, hx, rfl⟩ := List.mem_map.mp hd
    exact sm_i15 (Nat.le_trans (hb x hx) hM)
theorem sm_r15 {M : Nat} {g : Gk} {ws : List Wt} (h : GkOk g) (hw : Nms g ws) (hb : ∀ w ∈ ws, BB M w) (hM : M ≤ 1000000000000000) (hl : ws.length ≤ 60) : Sm 50000 2 (rD ws) := by
  refine (Sm.lst (B := 666) (k := 1) (n := 60) (by rw [List.length_map]; exact hl) fun d hd => ?_).up (by decide) (by decide)
  obtain ⟨x, hx, rfl⟩ := List.mem_map.mp hd
  exact sm_w15 h (hw x hx) (hb x hx) hM
/-! ### the turning's own law -/
def inF (l : List Stmt) (i : Nat) : List Stmt := match l.drop i with
  | .For _ _ b _ _ :: _ => b
  | _ => []
theorem sqt_dXb {K : PySem.W.Frag} {H : Hp} {b a : Addr} {c : Int} {ys : List V} (h : SqT K H a ys) (hb : BoxAt H b c) : SqT K (dX [b] H) a ys := by
  obtain ⟨_, _, _, e1, _⟩ := hb
  have no : ∀ o : HO, H a = some o → (o = .tup ys ∨ ∃ u, o = .frz u (.tup ys)) → a ∉ [b] := fun o e w m => by
    rw [List.mem_singleton.mp m, e1] at e
    cases e
    rcases w with z | ⟨u, z⟩ <;> cases z
  rcases h with (h | ⟨u, h⟩) | h
  · exact .inl (.inl (dX_of (no _ h (.inl rfl)) h))
  · exact .inl (.inr ⟨u, dX_of (no _ h (.inr ⟨u, rfl⟩)) h⟩)
  · exact .inr h
theorem wt_dX {K : PySem.W.Frag} {H : Hp} {b : Addr} {c : Int} {v : V} {w : Wt} (h : WtAt K H v w) (hb : BoxAt H b c) : WtAt K (dX [b] H) v w := by
  cases w with
  | i x => exact h
  | v xs =>
    obtain ⟨t, h1, h2⟩ := h
    exact ⟨t, h1, sqt_dXb h2 hb⟩
theorem dp_rX {K : PySem.W.Frag} {H : Hp} {a b : Addr} {c : Int} {es : Es} (h : H a = some (.lst (es.map (·.1)))) (hw : WsAt K H es) (hb : BoxAt H b c) (n : a ≠ b) : Dp K (dX [b] H) (.ref a) (rD (es.map (·.2))) := dp_rD (dX_of (fun z => n (List.mem_singleton.mp z)) h) fun e he => wt_dX (hw e he) hb
def spSn19 (K : PySem.W.Frag) (C1 C2 : Addr) : Sp := fun vs H Q _ => ∃ (a x : Addr) (v : V) (d : PyData) (g : Gk) (es : Es) (q : Int) (M L n : Nat), vs = [.ref a, .ref x, v] ∧ GrAt C1 C2 H a g ∧ GkOk g ∧ (SqL K H x (es.map (·.1)) ∨ SqT K H x (es.map (·.1))) ∧ PtIn K g H es ∧ numM g % (es.length : Int) = 0 ∧ LgOk g q ∧ Dp K H v d ∧ Bn M L n d ∧ M ≤ 1000000000000000 ∧ L ≤ 100 ∧ n ≤ 10 ∧ ∀ H', Same H H' → Q (.bl (deq d (rD (trn g q (es.map (·.2)) 1)))) H'
def spB2 (K : PySem.W.Frag) : Sp := fun vs H Q E => spBt19 K 2 vs H Q E ∨ spBt19 K 3 vs H Q E
section
variable {P : Program} {w : World} {K : PySem.W.Frag} {mg : Str → Option Value} {base : Heap}
theorem sn_of {C1 C2 CR : Addr} {f : Addr} {fd : FuncData} {k : Nat} (G : FnOk P w K mg base (L2.CX P w) k f fd P_shows_turning (spSh19 K C1 C2 CR)) : FnOk P w K mg base CX0 k f fd P_shows_turning (spSn19 K C1 C2) := by
  refine fnsub (fnNo G) ?_
  rintro vs H Q E ⟨a, x, v, d, g, es, q, M, L, n, e1, hG, hok, hX, hin, hdv, hq, hd, hB, hM, hL, hn, nx⟩
  refine ⟨a, x, v, d, g, es, M, L, n, e1, hG, hok, hX, hin, hd, hB, hM, hL, hn, fun z => absurd hdv z, fun _ q' H' hq' sm => ?_⟩
  rw [trn_un hq' hq]
  exact nx H' sm
theorem b2_of {f : Addr} {fd : FuncData} (G2 : FnOk P w K mg base CX0 6 f fd P__law_bent (spBt19 K 2)) (G3 : FnOk P w K mg base CX0 7 f fd P__law_bent (spBt19 K 3)) : FnOk P w K mg base CX0 7 f fd P__law_bent (spB2 K) := fnor (G2.mono (by decide)) G3 fun _ _ _ _ h => h
end
abbrev s__law_right : Stmt := top 53
abbrev N__law_right : List Str := ["_law_box_here", "_law_world_here", "_law_count", "_law_ground", "_law_row_here", "_law_due", "_law_turn", "_law_thing", "_law_stays", "_law_told"]
abbrev P__law_right : List Str := ["_law_box_here", "_law_world_here", "_law_count"]
theorem sc__law_right : FnScope N__law_right P__law_right (defScope s__law_right) := ⟨rfl, rfl, rfl, by decide +kernel, rfl, by decide +kernel, by decide +kernel⟩
def spRt19 (K : PySem.W.Frag) : Sp := fun vs H Q _ => ∃ (b d : Addr) (g : Gk) (L : Nat) (n : Int), vs = [.ref b, .ref d, .int (L : Int)] ∧ BoxAt H b n ∧ n < 600000 ∧ WdM H b d g ∧ 1 ≤ L ∧ L ≤ 60 ∧ numM g % (L : Int) = 0 ∧ ∀ H', Keep b H H' → BoxAt H' b (n + 12000) → Q (.bl true) H'
section
variable {P : Program} {w : World} {K : PySem.W.Frag} {mg : Str → Option Value} {base : Heap}
theorem ok_rt19 {C1 C2 : Addr} {f f1 f2 f3 f4 f5 f6 f7 : Addr} {fd d1 d2 d3 d4 d5 d6 d7 : FuncData} (F : Fun K "_law_right" "_law_right" s__law_right f fd) (T : Blt mg) (D__law_made : Df K mg "_law_made" s__law_made P__law_made f1 d1) (D__law_row : Df K mg "_law_row" s__law_row P__law_row f2 d2) (D__law_plainly : Df K mg "_law_plainly" s__law_plainly P__law_plainly f3 d3) (D__law_bent : Df K mg "_law_bent" s__law_bent P__law_bent f4 d4) (D__law_take : Df K mg "_law_take" s__law_take P__law_take f5 d5) (D_shows_turning : Df K mg "shows_turning" s_shows_turning P_shows_turning f6 d6) (D__law_same : Df K mg "_law_same" s__law_same P__law_same f7 d7)
    (G__law_made : FnOk P w K mg base CX0 9 f1 d1 P__law_made (spMade C1 C2)) (G__law_row : FnOk P w K mg base CX0 4 f2 d2 P__law_row (spRowG K)) (G__law_plainly : FnOk P w K mg base CX0 8 f3 d3 P__law_plainly (spPl K)) (G__law_bent : FnOk P w K mg base CX0 7 f4 d4 P__law_bent (spB2 K)) (G__law_take : FnOk P w K mg base CX0 1 f5 d5 P__law_take spTake) (G_shows_turning : FnOk P w K mg base CX0 6 f6 d6 P_shows_turning (spSn19 K C1 C2)) (G__law_same : FnOk P w K mg base CX0 9 f7 d7 P__law_same (spDsm K 8)) : FnG P w K mg base CX0 10 f fd P__law_right (spRt19 K) := by
  have nd := sc__law_right.nd
  refine okG F sc__law_right (fun vs H Q E h => ?_) (fun cdv A outer s H vs Q E hgd hr h => ?_)
  · obtain ⟨b, d, g, L, n, rfl, _⟩ := h
    rfl
  · obtain ⟨b, d, g, L, n, rfl, hb, hn, hW, L1, L60, hdv, q⟩ := h
    have hok := hW.ok
    obtain ⟨tl, htl, fin⟩ : ∃ tl, PSs (cxOf CX0 P w K mg base N__law_right "_law_right" (defScope s__law_right) f cdv A outer s H E).nox ((inF (defBody s__law_right) 2).drop 2) tl ∧ ∀ (Z : Ends) (U : Hp) (ga px pd : Addr) (es : Es) (q : Int) (vy : V) (dy : PyData) (M : Nat) (x6 x8 x9 : Option V),
        GrAt C1 C2 U ga g → SqL K U px (es.map (·.1)) → PtIn K g U es → numM g % (es.length : Int) = 0 → LgOk g q → Dp K U (.ref pd) (rD (trn g q (es.map (·.2)) 1)) → Fs 8 (rD (trn g q (es.map (·.2)) 1)) → Dp K U vy dy → Bn M 62 4 dy → M ≤ 1000000000000000 → dw dy ≤ 200180 →
        (∀ y8 y9 H', Same U H' → Z.nx [some (.ref b), some (.ref d), some (.int (L : Int)), some (.ref ga), some (.ref px), some (.ref pd), x6, some vy, y8, y9] H') →
        tl Z [some (.ref b), some (.ref d), some (.int (L : Int)), some (.ref ga), some (.ref px), some (.ref pd), x6, some vy, x8, x9] U := by
      refine ⟨_, (pss_cons (ps_set (i := 8) nd rfl (Or.inl rfl) (pe_callB (r := rRepG K) (call_reprG hgd hr.units) (by rfl) T.b_repr (by decide +kernel) (pa_cons (pv 7) pa_nil)))
      (pss_cons (ps_set (i := 9) nd rfl (Or.inl rfl) (pe_lst (pa_cons (pe_call G_shows_turning (hr.mono (by omega)) (by rfl) D_shows_turning.g D_shows_turning.F.kp D_shows_turning.b .nil pass0 (pa_cons (pv 3) (pa_cons (pv 4) (pa_cons (pv 7) pa_nil)))) (pa_cons (pe_call G_shows_turning (hr.mono (by omega)) (by rfl) D_shows_turning.g D_shows_turning.F.kp D_shows_turning.b .nil pass0 (pa_cons (pv 3) (pa_cons (pe_callTy call_tuple_of (by rfl) T.b_tuple (by decide +kernel) (pa_cons (pv 4) pa_nil)) (pa_cons (pv 7) pa_nil)))) pa_nil))))
      (pss_one (ps_if (PW.pt (pw_or (pt_not (pt_val (pe_call G__law_same (hr.mono (by omega)) (by rfl) D__law_same.g D__law_same.F.kp D__law_same.b .nil pass0 (pa_cons (pv 9) (pa_cons (pe_op op_rep (pe_lst (pa_cons (pe_call G__law_same (hr.mono (by omega)) (by rfl) D__law_same.g D__law_same.F.kp D__law_same.b .nil pass0 (pa_cons (pv 7) (pa_cons (pv 5) pa_nil))) pa_nil)) (pe_int)) pa_nil))))) (pw_or1 (pt_cmpR op_ne (pe_callB (r := rRepG K) (call_reprG hgd hr.units) (by rfl) T.b_repr (by decide +kernel) (pa_cons (pv 7) pa_nil)) (pv 8) (nomark _))))) (pss_one (ps_ret (pe_bl))) pss_nil)))), ?_⟩
      intro Z U ga px pd es q vy dy M x6 x8 x9 hG hX hin hdv hq hD hF hd hB hM hw nx
      have shn : Shn dy := (hB.sm hM hw).shn (by decide) (by decide)
      have hXO : SqL K U px (es.map (·.1)) ∨ SqT K U px (es.map (·.1)) := .inl hX
      walk_at "ev"
      intro H1 sm1
      have hG1 := hG.same sm1
      have hX1 := sm1.seq hX
      have hin1 : PtIn K g H1 es := ⟨hin.1.same sm1, hin.2⟩
      have hd1 := dp_same sm1 hd
      walk_at "ev"
      refine .inl ⟨hX1, ?_⟩
      w_cond _2
      have s2 := sm1.trans sm2
      have hG2 := hG.same s2
      have hT2 : SqL K H2 l2 (es.map (·.1)) ∨ SqT K H2 l2 (es.map (·.1)) := .inr (SqT.of hq2)
      have hin2 : PtIn K g H2 es := ⟨hin.1.same s2, hin.2⟩
      have hd2 := dp_same s2 hd
      walk_at "ev"
      intro H3 sm3
      walk_at "ev"
      w_cond _4
      have s4 := (s2.trans sm3).trans sm4
      have hd4 := dp_same s4 hd
      have hD4 := dp_same s4 hD
      have hF4 : Fs 8 dy := (hB.up (n' := 8) (Nat.le_refl _) (Nat.le_refl _) (by decide)).fs hM (by decide) (by decide)
      walk_at "ev"
      intro H5 sm5
      walk_at "ev"
      w_cond _6
      have hL6 := SqL.of (K := K) hq6
      walk_at "ev"
      w_cond _7
      obtain ⟨t, ht⟩ : ∃ t, t = deq dy (rD (trn g q (es.map (·.2)) 1)) := ⟨_, rfl⟩
      have q7 : H7 l7 = some (.lst [.bl t, .bl t]) := by rw [ht]; exact hq7
      have q4 : H7 l4 = some (.lst [.bl t, .bl t]) := by rw [ht]; exact (sm5.trans (sm6.trans sm7)) _ _ hq4
      have dA : Dp K H7 (.ref l4) (.list [.bool t, .bool t]) := .lst (SqL.of q4) (.cons (.bl t) (.cons (.bl t) .nil))
      have dB : Dp K H7 (.ref l7) (.list [.bool t, .bool t]) := .lst (SqL.of q7) (.cons (.bl t) (.cons (.bl t) .nil))
      have bAB : Bn 0 60 8 (.list [.bool t, .bool t]) := ⟨(show (2 : Nat) ≤ 60 by decide), fun e he => by
        rcases List.mem_cons.mp he with z | z
        · rw [z]; exact True.intro
        · rw [List.mem_singleton.mp z]; exact True.intro⟩
      have fAB : Fs 8 (.list [.bool t, .bool t]) := bAB.fs (by decide) (by decide) (by decide)
      walk_at "ev"
      intro H8 sm8
      have s8 := s4.trans (sm5.trans (sm6.trans (sm7.trans sm8)))
      have hd8 := dp_same s8 hd
      have hdq : deq (.list [.bool t, .bool t]) (.list [.bool t, .bool t]) = true := deq_t rfl
      rw [hdq]
      walk_at "ev"
      exact nx _ _ H8 s8
    refine ⟨_, (pss_cons (ps_par (i := 3) (j := 4) (by rfl) nd rfl rfl (by decide) rfl rfl (pa_cons (pe_call G__law_made (hr.mono (by omega)) (by rfl) D__law_made.g D__law_made.F.kp D__law_made.b .nil pass0 (pa_cons (pv 1) pa_nil)) (pa_cons (pe_call G__law_row (hr.mono (by omega)) (by rfl) D__law_row.g D__law_row.F.kp D__law_row.b .nil pass0 (pa_cons (pv 0) (pa_cons (pv 1) (pa_cons (pv 2) pa_nil)))) pa_nil)) (by rfl))
      (pss_cons (ps_set (i := 5) nd rfl (Or.inl rfl) (pe_call G__law_plainly (hr.mono (by omega)) (by rfl) D__law_plainly.g D__law_plainly.F.kp D__law_plainly.b .nil pass0 (pa_cons (pv 1) (pa_cons (pv 4) (pa_cons (pe_int) pa_nil)))))
      (pss_cons (ps_for PassesOwn.never rfl (pi_range1 (by rfl) T.b_range (pa_cons (pe_int) pa_nil)) (pg_name (i := 6) nd rfl (Or.inl rfl))
      (pss_cons (ps_set (i := 7) nd rfl (Or.inl rfl) (pe_ix (r := rIxL K) ix_list (pe_lst (pa_cons (pv 5) (pa_cons (pv 4) (pa_cons (pe_call G__law_bent (hr.mono (by omega)) (by rfl) D__law_bent.g D__law_bent.F.kp D__law_bent.b .nil pass0 (pa_cons (pv 0) (pa_cons (pv 1) (pa_cons (pv 5) pa_nil)))) pa_nil)))) (pe_callB (call_min2 rfl) (by rfl) T.b_min (by decide +kernel) (pa_cons (pv 6) (pa_cons (pe_int) pa_nil))) (fun _ _ => rfl)))
      (pss_cons (ps_set (i := 7) nd rfl (Or.inl rfl) (pe_ifExp (PW.pt (pw_and (pt_cmpR op_gt (pv 6) (pe_int) (nomark _)) (pw_and1 (pt_cmpR op_eq (pe_call G__law_take (hr.mono (by omega)) (by rfl) D__law_take.g D__law_take.F.kp D__law_take.b .nil pass0 (pa_cons (pv 0) (pa_cons (pe_int) pa_nil))) (pe_int) (nomark _))))) (pe_call G__law_bent (hr.mono (by omega)) (by rfl) D__law_bent.g D__law_bent.F.kp D__law_bent.b .nil pass0 (pa_cons (pv 0) (pa_cons (pv 1) (pa_cons (pv 7) pa_nil)))) (pv 7)))
      htl)))
      (pss_one (ps_ret (pe_bl)))))), ?_⟩
    have hn8 : n < 800000 := by omega
    have m0 : (0 : Int) ≤ (L : Int) := by omega
    have m1 : (L : Int) ≤ 100 := by omega
    walk_at "ev"
    intro ga H1 hga sm1 hG1
    have hb1 := hb.same sm1
    have hW1 := hW.up sm1
    walk_at "ev"
    intro px es H2 hpx k2 hb2 lx rx hqx
    have npx : px ≠ b := hb1.ne hpx
    have hG2 := hG1.keep hb1 k2
    have hW2 := hW1.keep k2
    have hlen : es.length = L := by omega
    have l2 : (es.map (·.2)).length = es.length := List.length_map _
    have e1 : 1 ≤ es.length := by omega
    have e60 : es.length ≤ 60 := by omega
    have hdv2 : numM g % (es.length : Int) = 0 := by rw [hlen]; exact hdv
    have ne : Nms g (es.map (·.2)) := fun w hw => by
      obtain ⟨e, he, rfl⟩ := List.mem_map.mp hw
      exact (rx e he).2.1
    have h9 : ∀ w ∈ es.map (·.2), BB 1000000000 w := fun w hw => by
      obtain ⟨e, he, rfl⟩ := List.mem_map.mp hw
      exact (rx e he).2.2.bb
    have be : BwAt (es.map (·.2)) := fun w hw => (h9 w hw).bw (by decide +kernel)
    have hX2 : SqL K H2 px (es.map (·.1)) := SqL.of hqx
    have ws2 := rx.ws
    have s1 : (1 : Int) = 1 ∨ (1 : Int) = -1 := .inl rfl
    walk_at "ev"
    intro pd rs qq H3 hlg hpd sm3 hq3 wr vr
    have hb3 := hb2.same sm3
    have hW3 := hW2.up sm3
    have hG3 := hG2.same sm3
    have npd : pd ≠ b := hb2.ne hpd
    have hqx3 := sm3 _ _ hqx
    have rx3 := rx.same sm3
    have lrs : (rs.map (·.2)).length = rs.length := List.length_map _
    have bt : ∀ w ∈ trn g qq (es.map (·.2)) 1, BB 180000000000000 w := bb_trn60 (B := 1000000000) hok ne h9 (by omega) (by omega) (by rw [l2]; exact hdv2)
    have nt : Nms g (trn g qq (es.map (·.2)) 1) := trn_nms hok ne
    have lt : (trn g qq (es.map (·.2)) 1).length = es.length := by unfold trn; rw [List.length_map, List.length_range, l2]
    have bnT : Bn 180000000000000 60 2 (rD (trn g qq (es.map (·.2)) 1)) := bn_r hok nt bt (by decide) (by omega)
    have bnX : Bn 180000000000000 60 2 (rD (es.map (·.2))) := bn_r hok ne (fun w hw => (h9 w hw).up (by decide)) (by decide) (by omega)
    have smT : Sm 50000 2 (rD (trn g qq (es.map (·.2)) 1)) := sm_r15 hok nt bt (by decide) (by omega)
    have smX : Sm 50000 2 (rD (es.map (·.2))) := sm_r15 (M := 180000000000000) hok ne (fun w hw => (h9 w hw).up (by decide)) (by decide) (by omega)
    have fsT : Fs 8 (rD (trn g qq (es.map (·.2)) 1)) := (bnT.up (n' := 8) (Nat.le_refl _) (Nat.le_refl _) (by decide)).fs (by decide) (by decide) (by decide)
    walk_at "ev"
    refine for_range (lo := 0) (n := _) (fun i σ H' => Hold (∃ s6 s7 s8 s9, σ = [some (.ref b), some (.ref d), some (.int (L : Int)), some (.ref ga), some (.ref px), some (.ref pd), s6, s7, s8, s9] ∧ Keep b H3 H' ∧ BoxAt H' b (n + 9000 + 100 * (i : Int)))) (.mk ⟨_, _, _, _, rfl, Keep.refl _ _, hb3.mono (by omega)⟩) ?_ ?_
    · intro i σ H4 hi hP
      obtain ⟨s6, s7, s8, s9, rfl, k4, b4⟩ := hP.un
      have W4 := hW3.keep k4
      have G4 := hG3.keep hb3 k4
      have bb : b ∈ [b] := List.mem_singleton.mpr rfl
      have std4 : Std [b] H4 := fun a ha => by
        obtain ⟨o, e⟩ := b4.some
        rw [List.mem_singleton.mp ha, e]
        nofun
      have c4 : n + 9000 + 100 * (i : Int) + 10 * (((2 : Nat) : Int) + 1) < 900000 := by omega
      have dT4 : Dp K (dX [b] H4) (.ref pd) (rD (trn g qq (es.map (·.2)) 1)) := by
        rw [← vr]
        exact dp_rX (k4 _ _ npd (by assumption)) (wr.keep hb3 k4) b4 npd
      have dX4 : Dp K (dX [b] H4) (.ref px) (rD (es.map (·.2))) := dp_rX (k4 _ _ npx hqx3) (rx3.ws.keep hb3 k4) b4 npx
      have M1 : 1000000000 ≤ 180000000000000 := by decide
      have M2 : 180000000000000 ≤ 900000000000000 := by decide
      have L2' : 2 ≤ 60 := by decide
      have L3' : 60 ≤ 90 := by decide
      have n2' : 2 ≤ 10 := by decide
      have wT := smT.w
      walk_at "ev"
      refine Or.inl ?_
      walk_at "ev"
      intro v1 d1 H5 k5 b5 p5 q5 w5
      have hU : ∀ U c, Keep b H4 U → BoxAt U b c → GrAt C1 C2 U ga g ∧ SqL K U px (es.map (·.1)) ∧ PtIn K g U es ∧ Dp K U (.ref pd) (rD (trn g qq (es.map (·.2)) 1)) := fun U c k hbU => ⟨G4.keep b4 k, SqL.of (k _ _ npx (k4 _ _ npx hqx3)), ⟨((rx3.keep hb3 k4).keep b4 k).ws, ne, be, e1, e60⟩, dp_dX (dp_kX dT4 (KeepX.k k bb))⟩
      walk_at "ev"
      w_cond _6
      have k6 : Keep b H4 H6 := k5.trans (keepS sm6)
      have b6 := b5.same sm6
      have W6 := W4.keep k6
      have std6 := std4.k k6 b6
      have hL6 := SqL.of (K := K) hq6
      obtain ⟨vx, dx, hat, hdx, hBx, hwx⟩ : ∃ vx dx, atI [V.ref pd, V.ref px, v1] (if (2 : Int) < 0 + (i : Int) then 2 else 0 + (i : Int)) = some vx ∧ Dp K (dX [b] H6) vx dx ∧ Bn 180000000010000 61 3 dx ∧ dw dx ≤ 100060 := by
        have : i = 0 ∨ i = 1 ∨ (2 : Int) ≤ 0 + (i : Int) := by omega
        rcases this with rfl | rfl | z
        · exact ⟨.ref pd, _, rfl, dp_kX dT4 (KeepX.k k6 bb), bnT.up (by decide) (by decide) (by decide), by have := smT.w; omega⟩
        · exact ⟨.ref px, _, rfl, dp_kX dX4 (KeepX.k k6 bb), bnX.up (by decide) (by decide) (by decide), by have := smX.w; omega⟩
        · have e : (if (2 : Int) < 0 + (i : Int) then 2 else 0 + (i : Int)) = 2 := by split <;> omega
          rw [e]
          exact ⟨v1, d1, rfl, dp_same (dX_s sm6) p5, q5, w5⟩
      have N1 : 1000000000 ≤ 180000000010000 := by decide
      have N2 : 180000000010000 ≤ 900000000000000 := by decide
      have N3 : 2 ≤ 61 := by decide
      have N4 : 61 ≤ 90 := by decide
      have N5 : 3 ≤ 10 := by decide
      walk_at "ev"
      refine ite2 (fun c1 => ?_) (fun c1 => ?_)
      · walk_at "ev"
        intro r H7 r0 r1 k7 b7
        have k47 := k6.trans k7
        have W7 := W4.keep k47
        have std7 := std4.k k47 b7
        have hdx7 := dp_kX hdx (KeepX.k k7 bb)
        have c7 : n + 9000 + 100 * (i : Int) + 10 * (((2 : Nat) : Int) + 1) + 1 + 10 * (((3 : Nat) : Int) + 1) < 900000 := by omega
        walk_at "ev"
        refine ite2 (fun c2 => ?_) (fun c2 => ?_)
        · walk_at "ev"
          refine Or.inr ?_
          walk_at "ev"
          intro v2 d2' H8 k8 b8 p8 q8 w8
          obtain ⟨u1, u2, u3, u4⟩ := hU H8 _ (k47.trans k8) b8
          walk_at "ev"
          refine fin _ H8 ga px pd es qq v2 d2' 180000000020000 _ _ _ u1 u2 u3 hdv2 hlg u4 fsT (dp_dX p8) q8 (by decide) (by omega) fun y8 y9 H9 sm9 => ?_
          exact .mk ⟨_, _, _, _, rfl, (k4.trans (k47.trans k8)).trans (keepS sm9), (b8.same sm9).mono (by push_cast; omega)⟩
        · obtain ⟨u1, u2, u3, u4⟩ := hU H7 _ k47 b7
          walk_at "ev"
          refine fin _ H7 ga px pd es qq vx dx 180000000020000 _ _ _ u1 u2 u3 hdv2 hlg u4 fsT (dp_dX hdx7) (hBx.up (by decide) (by decide) (by decide)) (by decide) (by omega) fun y8 y9 H9 sm9 => ?_
          exact .mk ⟨_, _, _, _, rfl, (k4.trans k47).trans (keepS sm9), (b7.same sm9).mono (by push_cast; omega)⟩
      · obtain ⟨u1, u2, u3, u4⟩ := hU H6 _ k6 b6
        walk_at "ev"
        refine fin _ H6 ga px pd es qq vx dx 180000000020000 _ _ _ u1 u2 u3 hdv2 hlg u4 fsT (dp_dX hdx) (hBx.up (by decide) (by decide) (by decide)) (by decide) (by omega) fun y8 y9 H9 sm9 => ?_
        exact .mk ⟨_, _, _, _, rfl, (k4.trans k6).trans (keepS sm9), (b6.same sm9).mono (by push_cast; omega)⟩
    · intro σ H4 hP
      obtain ⟨s6, s7, s8, s9, rfl, k4, b4⟩ := hP.un
      have sm13 : Keep b H H3 := (keepS sm1).trans (k2.trans (keepS sm3))
      walk_at "ev"
      exact q _ (sm13.trans k4) (b4.mono (by omega))
end
/-! ### t[lo:hi], whole or not -/
def rSlB (K : PySem.W.Frag) : V → Option Int → Option Int → Hp → VK → Prop := fun x lo hi H Q => ∃ a xs, x = .ref a ∧ SqT K H a xs ∧ ∀ p H', Same H H' → SqT K H' p (cutV xs lo hi) → Q (.ref p) H'
theorem sl_tupB {X : Cx} : SlR X (rSlB X.K) := by
  intro pins s σ H x v vl vu lo hi sl Q I rx hs pl pu h
  obtain ⟨a, xs, e1, hx, q⟩ := h
  refine sl_tupA pins s σ H x v vl vu lo hi sl Q I rx hs pl pu ⟨a, xs, e1, hx, fun hw => q a H (Same.refl _) ?_, fun _ p hp => q p _ (same_new hp) (SqT.of upd_same)⟩
  have e : cutV xs lo hi = xs := by
    unfold cutV
    rw [hw.1, hw.2, List.drop_zero, Nat.sub_zero, List.take_length]
  rw [e]
  exact hx
theorem sIx_N {n i : Nat} (h : i ≤ n) : HT.sIx n 0 (some (i : Int)) = i := by
  unfold HT.sIx
  simp
  split <;> omega
theorem sIx_M {n i : Nat} (h : i ≤ n) : HT.sIx n n (some (i : Int)) = i := by
  unfold HT.sIx
  simp
  split <;> omega
theorem cut_toN {xs : List V} {i : Nat} (h : i ≤ xs.length) : cutV xs none (some (i : Int)) = xs.take i := by
  unfold cutV
  rw [sIx_M h]
  show (xs.drop 0).take (i - 0) = _
  rw [List.drop_zero, Nat.sub_zero]
theorem bb_gw19 {g : Gk} {c : Int} {B : Nat} (h : c.natAbs ≤ B) : BB B (gw g c) := by
  cases g with
  | rests p => exact True.intro
  | roots n =>
    intro x hx
    rcases List.mem_cons.mp hx with z | z
    · rw [z]; exact h
    · rw [(List.mem_replicate.mp z).2]
      exact Nat.zero_le _
theorem cut_from19 {xs : List V} {i : Nat} (h : i ≤ xs.length) : cutV xs (some (i : Int)) none = xs.drop i := by
  unfold cutV
  rw [show HT.sIx xs.length 0 (some (i : Int)) = i from sIx_N h]
  show (xs.drop i).take (xs.length - i) = _
  rw [← List.length_drop, List.take_length]
/-- one of a list is another -/
theorem odd_ne {ds : List PyData} {i : Nat} {o : PyData} (h : i < ds.length) (n : ∀ e ∈ ds, o ≠ e) : ds.take i ++ [o] ++ ds.drop (i + 1) ≠ ds := fun z => by
  have e1 : (ds.take i ++ [o] ++ ds.drop (i + 1))[i]? = some o := by
    have lt : (ds.take i).length = i := by rw [List.length_take]; omega
    rw [List.append_assoc, List.getElem?_append_right (by omega), lt, Nat.sub_self]
    rfl
  rw [z] at e1
  exact n o (List.mem_of_getElem? e1) rfl
theorem dpa_app {K : PySem.W.Frag} {H : Hp} : ∀ {xs ys : List V} {ds es : List PyData}, DpAll K H xs ds → DpAll K H ys es → DpAll K H (xs ++ ys) (ds ++ es)
  | _, _, _, _, .nil, h => h
  | _, _, _, _, .cons a t, h => .cons a (dpa_app t h)
theorem dpa_take {K : PySem.W.Frag} {H : Hp} : ∀ {xs : List V} {ds : List PyData} (n : Nat), DpAll K H xs ds → DpAll K H (xs.take n) (ds.take n)
  | _, _, 0, _ => by rw [List.take_zero, List.take_zero]; exact .nil
  | _, _, _ + 1, .nil => by rw [List.take_nil, List.take_nil]; exact .nil
  | _, _, n + 1, .cons a t => .cons a (dpa_take n t)
theorem dpa_drop {K : PySem.W.Frag} {H : Hp} : ∀ {xs : List V} {ds : List PyData} (n : Nat), DpAll K H xs ds → DpAll K H (xs.drop n) (ds.drop n)
  | _, _, 0, h => h
  | _, _, _ + 1, .nil => by rw [List.drop_nil, List.drop_nil]; exact .nil
  | _, _, n + 1, .cons _ t => dpa_drop n t
abbrev s__law_truths_right : Stmt := top 54
abbrev N__law_truths_right : List Str := ["_law_box_here", "_law_world_here", "_law_ground", "_law_count", "_law_number", "_law_row_here", "_law_due", "_law_odd_here", "_law_at", "_law_own", "_law_spot"]
abbrev P__law_truths_right : List Str := ["_law_box_here", "_law_world_here", "_law_ground", "_law_count"]
theorem sc__law_truths_right : FnScope N__law_truths_right P__law_truths_right (defScope s__law_truths_right) := ⟨rfl, rfl, rfl, by decide +kernel, rfl, by decide +kernel, by decide +kernel⟩
def spTq19 (K : PySem.W.Frag) (C1 C2 : Addr) : Sp := fun vs H Q _ => ∃ (b d ga : Addr) (g : Gk) (L : Nat) (n : Int), vs = [.ref b, .ref d, .ref ga, .int (L : Int)] ∧ BoxAt H b n ∧ n < 900000 ∧ WdM H b d g ∧ GrAt C1 C2 H ga g ∧ 1 ≤ L ∧ L ≤ 60 ∧ numM g % (L : Int) = 0 ∧ ∀ H', Keep b H H' → BoxAt H' b (n + 10) → Q (.bl true) H'
section
variable {P : Program} {w : World} {K : PySem.W.Frag} {mg : Str → Option Value} {base : Heap}
theorem ok_tq19 {C1 C2 : Addr} {f f1 f2 f3 f4 : Addr} {fd d1 d2 d3 d4 : FuncData} (F : Fun K "_law_truths_right" "_law_truths_right" s__law_truths_right f fd) (T : Blt mg) (D__law_whole : Df K mg "_law_whole" s__law_whole P__law_whole f1 d1) (D__law_plainly : Df K mg "_law_plainly" s__law_plainly P__law_plainly f2 d2) (D__law_take : Df K mg "_law_take" s__law_take P__law_take f3 d3) (D_shows_turning : Df K mg "shows_turning" s_shows_turning P_shows_turning f4 d4)
    (G__law_whole : FnOk P w K mg base CX0 1 f1 d1 P__law_whole (spLz K)) (G__law_plainly : FnOk P w K mg base CX0 8 f2 d2 P__law_plainly (spPl K)) (G__law_take : FnOk P w K mg base CX0 1 f3 d3 P__law_take spTake) (G_shows_turning : FnOk P w K mg base CX0 6 f4 d4 P_shows_turning (spSn19 K C1 C2)) : FnOk P w K mg base CX0 10 f fd P__law_truths_right (spTq19 K C1 C2) := by
  have nd := sc__law_truths_right.nd
  refine F.ok sc__law_truths_right (fun vs H Q E h => ?_) (fun cdv A outer s H vs Q E hr h => ?_)
  · obtain ⟨b, d, ga, g, L, n, rfl, _⟩ := h
    rfl
  · obtain ⟨b, d, ga, g, L, n, rfl, hb, hn, hW, hG, L1, L60, hdv, q⟩ := h
    have hok := hW.ok
    obtain ⟨M, rfl⟩ : ∃ M, L = M + 1 := ⟨L - 1, by omega⟩
    obtain ⟨tl, htl, fin⟩ : ∃ tl, PSs (cxOf CX0 P w K mg base N__law_truths_right "_law_truths_right" (defScope s__law_truths_right) f cdv A outer s H E).nox ((inF (defBody s__law_truths_right) 0).drop 3) tl ∧ ∀ (Z : Ends) (U : Hp) (px pd : Addr) (es rs : Es) (q : Int) (vo : V) (do' : PyData) (i : Nat) (x4 x9 x10 : Option V),
        GrAt C1 C2 U ga g → SqL K U px (es.map (·.1)) → PtIn K g U es → numM g % (es.length : Int) = 0 → LgOk g q → U pd = some (.lst (rs.map (·.1))) → WsAt K U rs → rs.map (·.2) = trn g q (es.map (·.2)) 1 → (∀ w ∈ trn g q (es.map (·.2)) 1, BB 1000000000 w) → i < rs.length → Dp K U vo do' → Bn 1000000000 60 1 do' → (∀ w : Wt, do' ≠ wD w) →
        (∀ H', Same U H' → Z.nx [some (.ref b), some (.ref d), some (.ref ga), some (.int ((M + 1 : Nat) : Int)), x4, some (.ref px), some (.ref pd), some vo, some (.int (i : Int)), x9, x10] H') →
        tl Z [some (.ref b), some (.ref d), some (.ref ga), some (.int ((M + 1 : Nat) : Int)), x4, some (.ref px), some (.ref pd), some vo, some (.int (i : Int)), x9, x10] U := by
      refine ⟨_, (pss_one (ps_if (pt_cmpR op_notBl (pe_call G_shows_turning (hr.mono (by omega)) (by rfl) D_shows_turning.g D_shows_turning.F.kp D_shows_turning.b .nil pass0 (pa_cons (pv 2) (pa_cons (pv 5) (pa_cons (pe_op op_cat (pe_op op_cat (pe_slice (r := rSlL K) sl_list (pv 6) po_none (po_some (pv 8))) (pe_lst (pa_cons (pv 7) pa_nil))) (pe_slice (r := rSlL K) sl_list (pv 6) (po_some (pe_op op_add (pv 8) (pe_int))) po_none)) pa_nil)))) (pe_bl) (nomark _)) (pss_one (ps_ret (pe_bl))) pss_nil)), ?_⟩
      intro Z U px pd es rs q vo do' i x4 x9 x10 hG hX hin hdv hq hpd wr vr bt hi hd hB hno nx
      have hXO : SqL K U px (es.map (·.1)) ∨ SqT K U px (es.map (·.1)) := .inl hX
      have hL := SqL.of (K := K) hpd
      have lr : (rs.map (·.1)).length = rs.length := List.length_map _
      have lt : (trn g q (es.map (·.2)) 1).length = rs.length := by rw [← vr, List.length_map]
      have le : (trn g q (es.map (·.2)) 1).length = es.length := by unfold trn; rw [List.length_map, List.length_range, List.length_map]
      have e60 := hin.2.2.2.2
      walk_at "ev"
      w_cond _1
      rw [cut_toN (by omega)] at hq1
      walk_at "ev"
      w_cond _2
      have q12 := sm2 _ _ hq1
      have z2 : ((rs.map (·.1)).take i).length + ([vo] : List V).length ≤ sizeLine := szl (by rw [List.length_take, List.length_singleton]; omega)
      walk_at "ev"
      w_cond _3
      have s3 := sm1.trans (sm2.trans sm3)
      have hL3 := s3.seq hL
      walk_at "ev"
      w_cond _4
      rw [show ((i : Int) + 1) = ((i + 1 : Nat) : Int) from rfl, cut_from19 (by omega)] at hq4
      have q34 := sm4 _ _ hq3
      have z4 : ((rs.map (·.1)).take i ++ [vo]).length + ((rs.map (·.1)).drop (i + 1)).length ≤ sizeLine := szl (by rw [List.length_append, List.length_take, List.length_singleton, List.length_drop]; omega)
      walk_at "ev"
      w_cond _5
      have s5 := s3.trans (sm4.trans sm5)
      have hG5 := hG.same s5
      have hXO5 : SqL K H5 px (es.map (·.1)) ∨ SqT K H5 px (es.map (·.1)) := .inl (s5.seq hX)
      have hin5 : PtIn K g H5 es := ⟨hin.1.same s5, hin.2⟩
      have hdA : DpAll K H5 (rs.map (·.1)) ((trn g q (es.map (·.2)) 1).map wD) := by
        have h1 := dp_row (wr.same s5)
        rw [← vr]
        exact h1
      have hd5 := dp_same s5 hd
      have hD : Dp K H5 (.ref l5) (.list (((trn g q (es.map (·.2)) 1).map wD).take i ++ [do'] ++ ((trn g q (es.map (·.2)) 1).map wD).drop (i + 1))) := .lst (SqL.of hq5) (dpa_app (dpa_app (dpa_take i hdA) (.cons hd5 .nil)) (dpa_drop (i + 1) hdA))
      have lT : ((trn g q (es.map (·.2)) 1).map wD).length = rs.length := by rw [List.length_map, lt]
      have nt : Nms g (trn g q (es.map (·.2)) 1) := trn_nms hok hin.2.1
      have hBD : Bn 1000000000 60 2 (.list (((trn g q (es.map (·.2)) 1).map wD).take i ++ [do'] ++ ((trn g q (es.map (·.2)) 1).map wD).drop (i + 1))) := ⟨by
        rw [List.length_append, List.length_append, List.length_take, List.length_drop, List.length_singleton]
        omega, fun e he => by
        have inT : ∀ e ∈ (trn g q (es.map (·.2)) 1).map wD, Bn 1000000000 60 1 e := fun e he => by
          obtain ⟨w, hw, rfl⟩ := List.mem_map.mp he
          exact bn_w hok (nt w hw) (bt w hw) (Nat.le_refl _)
        rcases List.mem_append.mp he with z | z
        · rcases List.mem_append.mp z with z | z
          · exact inT e (List.mem_of_mem_take z)
          · rw [List.mem_singleton.mp z]
            exact hB
        · exact inT e (List.mem_of_mem_drop z)⟩
      have nD : deq (.list (((trn g q (es.map (·.2)) 1).map wD).take i ++ [do'] ++ ((trn g q (es.map (·.2)) 1).map wD).drop (i + 1))) (rD (trn g q (es.map (·.2)) 1)) = false := deq_f fun z => odd_ne (i := i) (o := do') (ds := (trn g q (es.map (·.2)) 1).map wD) (by omega) (fun e he => by
        obtain ⟨w, hw, rfl⟩ := List.mem_map.mp he
        exact hno w) (PyData.list.inj z)
      walk_at "ev"
      intro H6 sm6
      rw [nD]
      walk_at "ev"
      exact nx H6 (s5.trans sm6)
    refine ⟨_, (pss_cons (ps_for PassesOwn.never rfl (pi_tup (pe_tup (pa_cons (pe_int) (pa_cons (pe_int) pa_nil)))) (pg_name (i := 4) nd rfl (Or.inl rfl))
      (pss_cons (ps_set (i := 5) nd rfl (Or.inl rfl) (pe_op op_cat (pe_lst (pa_cons (pe_call G__law_whole (hr.mono (by omega)) (by rfl) D__law_whole.g D__law_whole.F.kp D__law_whole.b .nil pass0 (pa_cons (pv 1) (pa_cons (pv 4) pa_nil))) pa_nil)) (pe_op op_rep (pe_lst (pa_cons (pe_call G__law_whole (hr.mono (by omega)) (by rfl) D__law_whole.g D__law_whole.F.kp D__law_whole.b .nil pass0 (pa_cons (pv 1) (pa_cons (pe_int) pa_nil))) pa_nil)) (pe_op op_sub (pv 3) (pe_int)))))
      (pss_cons (ps_par3 (i := 6) (j := 7) (l := 8) (by rfl) nd rfl rfl rfl (by decide) (by decide) (by decide) rfl rfl rfl (pa_cons (pe_call G__law_plainly (hr.mono (by omega)) (by rfl) D__law_plainly.g D__law_plainly.F.kp D__law_plainly.b .nil pass0 (pa_cons (pv 1) (pa_cons (pv 5) (pa_cons (pe_int) pa_nil)))) (pa_cons (pe_cmpR op_eq (pv 4) (pe_int) (nomark _)) (pa_cons (pe_call G__law_take (hr.mono (by omega)) (by rfl) D__law_take.g D__law_take.F.kp D__law_take.b .nil pass0 (pa_cons (pv 0) (pa_cons (pv 3) pa_nil))) pa_nil))) (by rfl))
      (pss_cons (ps_if (pt_cmpR op_eq (pe_dget (du hr) (pv 1) (pe_str) (fun _ _ => rfl)) (pe_str) (nomark _)) (pss_cons (ps_par (i := 9) (j := 10) (by rfl) nd rfl rfl (by decide) rfl rfl (pa_cons (pe_ix (r := rIxL K) ix_list (pv 6) (pv 8) (fun _ _ => rfl)) (pa_cons (pe_call G__law_take (hr.mono (by omega)) (by rfl) D__law_take.g D__law_take.F.kp D__law_take.b .nil pass0 (pa_cons (pv 0) (pa_cons (pe_callB (r := rLenQ K) call_len_seq (by rfl) T.b_len (by decide +kernel) (pa_cons (pe_ix (r := rIxL K) ix_list (pv 6) (pv 8) (fun _ _ => rfl)) pa_nil)) pa_nil))) pa_nil)) (by rfl))
      (pss_one (ps_set (i := 7) nd rfl (Or.inl rfl) (pe_op (r := rCatB K) op_catB (pe_op (r := rCatB K) op_catB (pe_slice (r := rSlB K) sl_tupB (pv 9) po_none (po_some (pv 10))) (pe_tup (pa_cons (pe_cmpR op_eq (pe_ix (r := rIxT K) ix_tup (pv 9) (pv 10) (fun _ _ => rfl)) (pe_int) (nomark _)) pa_nil))) (pe_slice (r := rSlB K) sl_tupB (pv 9) (po_some (pe_op op_add (pv 10) (pe_int))) po_none))))) pss_nil)
      htl))))
      (pss_one (ps_ret (pe_bl)))), ?_⟩
    walk_at "ev"
    w_cond _1
    have hT1 := SqT.of (K := K) hq1
    have hse : ∃ xs, SqT K H1 l1 xs := ⟨_, hT1⟩
    have hb1 := hb.same sm1
    have n1b : l1 ≠ b := hb.ne hl1
    walk_at "ev"
    refine for_tup (K := K) (a := l1) (xs := [.int 0, .int 1]) (fun t σ H' => Hold (∃ s4 s5 s6 s7 s8 s9 s10, σ = [some (.ref b), some (.ref d), some (.ref ga), some (.int ((M + 1 : Nat) : Int)), s4, s5, s6, s7, s8, s9, s10] ∧ Keep b H1 H' ∧ BoxAt H' b (n + 4 * (t : Int)))) (.mk ⟨_, _, _, _, _, _, _, rfl, Keep.refl _ _, hb1.mono (by omega)⟩) ?_ ?_ ?_
    · intro t σ H' ht hP
      obtain ⟨s4, s5, s6, s7, s8, s9, s10, rfl, k2, hb2⟩ := hP.un
      exact SqT.of (k2 _ _ n1b hq1)
    · intro t x σ H2 hx hP
      obtain ⟨s4, s5, s6, s7, s8, s9, s10, rfl, k2, hb2⟩ := hP.un
      have ht2 : t < 2 := (List.getElem?_eq_some_iff.mp hx).1
      obtain ⟨num, rfl, u0, u1⟩ : ∃ num : Int, x = .int num ∧ 0 ≤ num ∧ num ≤ 1000 := by
        have := List.mem_of_getElem? hx
        simp only [List.mem_cons, List.not_mem_nil, or_false] at this
        rcases this with z | z
        · exact ⟨0, z, by decide, by decide⟩
        · exact ⟨1, z, by decide, by decide⟩
      have hW2 := (hW.up sm1).keep k2
      have hG2 := (hG.same sm1).keep hb1 k2
      have z0 : (0 : Int) ≤ 0 := by decide
      have z1 : (0 : Int) ≤ 1000 := by decide
      walk_at "ev"
      intro v H3 sm3 hv
      walk_at "ev"
      w_cond _4
      have hW4 := hW2.up (sm3.trans sm4)
      walk_at "ev"
      intro z H5 sm5 hz
      walk_at "ev"
      w_cond _6
      have hsz6 : ([z] : List V).length * (((M + 1 : Nat) : Int) - 1).toNat ≤ sizeLine := szl (by rw [List.length_singleton]; omega)
      walk_at "ev"
      w_cond _7
      rw [show (((M + 1 : Nat) : Int) - 1).toNat = M by omega, rep_flat2] at hq7
      have q47 := (sm5.trans (sm6.trans sm7)) _ _ hq4
      have hsz7 : ([v] : List V).length + (List.replicate M z).length ≤ sizeLine := szl (by rw [List.length_singleton, List.length_replicate]; omega)
      walk_at "ev"
      w_cond _8
      have s58 := sm5.trans (sm6.trans (sm7.trans sm8))
      have s48 := sm4.trans s58
      have s28 := sm3.trans s48
      have hW8 := hW2.up s28
      have hb8 := hb2.same s28
      obtain ⟨es, hes⟩ : ∃ es : Es, es = (v, gw g num) :: List.replicate M (z, gw g 0) := ⟨_, rfl⟩
      have e1 : es.map (·.1) = [v] ++ List.replicate M z := by rw [hes, List.map_cons, List.map_replicate]; rfl
      have e2 : es.map (·.2) = gw g num :: List.replicate M (gw g 0) := by rw [hes, List.map_cons, List.map_replicate]
      have el : es.length = M + 1 := by rw [hes, List.length_cons, List.length_replicate]
      have q88 : H8 l8 = some (.lst (es.map (·.1))) := by rw [e1]; exact hq8
      have hX8 := SqL.of (K := K) q88
      have all : ∀ w ∈ es.map (·.2), w = gw g num ∨ w = gw g 0 := fun w hw => by
        rw [e2] at hw
        rcases List.mem_cons.mp hw with y | y
        · exact .inl y
        · exact .inr (List.mem_replicate.mp y).2
      have nms : Nms g (es.map (·.2)) := fun w hw => by
        rcases all w hw with y | y <;> rw [y] <;> exact nm_gw hok
      have bws : BwAt (es.map (·.2)) := fun w hw => by
        rcases all w hw with y | y <;> rw [y]
        · exact bw_gw u0 u1
        · exact bw_gw z0 z1
      have bbs : ∀ w ∈ es.map (·.2), BB 1000 w := fun w hw => by
        rcases all w hw with y | y <;> rw [y] <;> exact bb_gw19 (by omega)
      have wss : WsAt K H8 es := fun e he => by
        rw [hes] at he
        rcases List.mem_cons.mp he with y | y
        · rw [y]; exact hv.same s48
        · rw [(List.mem_replicate.mp y).2]; exact hz.same (sm6.trans (sm7.trans sm8))
      have el1 : 1 ≤ es.length := by omega
      have el60 : es.length ≤ 60 := by omega
      have dv : numM g % (es.length : Int) = 0 := by rw [el]; exact hdv
      have one : (1 : Int) = 1 ∨ (1 : Int) = -1 := .inl rfl
      walk_at "ev"
      intro pd rs qq H9 hlg hpd sm9 hq9 wr vr
      have hb9 := hb8.same sm9
      have hW9 := hW8.up sm9
      have npd : pd ≠ b := hb8.ne hpd
      have n8b : l8 ≠ b := ((((hb2.same sm3).same sm4).same (sm5.trans sm6)).same sm7).ne hl8
      have hx9 := sm9 _ _ q88
      have ws9 := wss.same sm9
      have lt : (trn g qq (es.map (·.2)) 1).length = es.length := by unfold trn; rw [List.length_map, List.length_range, List.length_map]
      have lrs : rs.length = M + 1 := by
        have := congrArg List.length vr
        rw [List.length_map, lt] at this
        omega
      have tk0 : (0 : Int) < ((M + 1 : Nat) : Int) := by omega
      have tk1 : ((M + 1 : Nat) : Int) < 1048576 := by omega
      have nt : Nms g (trn g qq (es.map (·.2)) 1) := trn_nms hok nms
      have bt : ∀ w ∈ trn g qq (es.map (·.2)) 1, BB 1000000000 w := fun w hw => (bb_trn60 (B := 1000) hok nms bbs (by rw [List.length_map]; exact el1) (by rw [List.length_map]; exact el60) (by rw [List.length_map]; exact dv) w hw).up (by decide)
      walk_at "ev"
      intro i0 H10 i1 i2 k10 hb10
      obtain ⟨i, rfl⟩ := Int.eq_ofNat_of_zero_le i1
      have hi : i < rs.length := by omega
      have hW10 := hW9.keep k10
      have hx10 := k10 _ _ n8b hx9
      have ws10 := ws9.keep hb9 k10
      have hq10 := k10 _ _ npd hq9
      have wr10 := wr.keep hb9 k10
      have k210 : Keep b H2 H10 := (keepS (s28.trans sm9)).trans k10
      have G10 := hG2.keep hb2 k210
      have X10 := SqL.of (K := K) hx10
      have P10 : PtIn K g H10 es := ⟨ws10, nms, bws, el1, el60⟩
      obtain ⟨⟨vi, wi⟩, hri⟩ : ∃ e, rs[i]? = some e := ⟨_, List.getElem?_eq_getElem hi⟩
      have hrm : (vi, wi) ∈ rs := List.mem_of_getElem? hri
      have nwi : nm g wi := nt wi (by rw [← vr]; exact List.mem_map.mpr ⟨_, hrm, rfl⟩)
      have bwi : BB 1000000000 wi := bt wi (by rw [← vr]; exact List.mem_map.mpr ⟨_, hrm, rfl⟩)
      have hat : atI (rs.map (·.1)) ((i : Nat) : Int) = some vi := at_of (j := i) rfl (by rw [List.getElem?_map, hri]; rfl)
      have hWk := hW10
      cases g with
      | rests p =>
        obtain ⟨h1, h2, gg, hlg', h3⟩ := hW10
        obtain ⟨g1, g2⟩ := dget_r h3
        walk_at "ev"
        refine fin _ H10 l8 pd es rs qq _ (.bool (decide (V.int num = V.int 1))) i _ _ _ G10 X10 P10 dv hlg hq10 wr10 vr bt hi (.bl _) True.intro (fun w z => by cases w <;> cases z) fun H11 sm11 => ?_
        exact .mk ⟨_, _, _, _, _, _, _, rfl, k2.trans (k210.trans (keepS sm11)), (hb10.same sm11).mono (by push_cast; omega)⟩
      | roots m =>
        obtain ⟨h1, ⟨n1, n31⟩, l, nlb, h4, h5⟩ := hW10
        obtain ⟨g1, g2, g3⟩ := dget_w h4
        cases wi with
        | i x => exact nwi.elim
        | v ws =>
        have hwv := wr10 _ hrm
        obtain ⟨t0, rfl, hTv⟩ := hwv
        have lw : ws.length = wl m := nwi
        have hLd := SqL.of (K := K) hq10
        have lv : ((ws.map V.int).length : Int) = ws.length := by rw [List.length_map]
        have wpos := whl_last m n31 n1
        have lv0 : (0 : Int) < ((ws.map V.int).length : Int) := by
          have e : wl m = (whl m).length - 1 := rfl
          omega
        have l30 := nm_len hok nwi ws rfl
        have lv1 : ((ws.map V.int).length : Int) < 1048576 := by omega
        walk_at "ev"
        intro r H11 r0 r1 k11 hb11
        obtain ⟨j, rfl⟩ := Int.eq_ofNat_of_zero_le r0
        have hj : j < ws.length := by omega
        obtain ⟨x0, hx0⟩ : ∃ x, ws[j]? = some x := ⟨_, List.getElem?_eq_getElem hj⟩
        have hatx : atI (ws.map V.int) ((j : Nat) : Int) = some (.int x0) := at_of (j := j) rfl (by rw [List.getElem?_map, hx0]; rfl)
        obtain ⟨t1, et1, hT11⟩ := (wr10 _ hrm).keep hb10 k11
        cases et1
        have lwm : (ws.map V.int).length = ws.length := List.length_map _
        walk_at "ev"
        intro p1 H12 sm12 hp1
        rw [cut_toN (by omega)] at hp1
        have hT12 := same_t sm12 hT11
        walk_at "ev"
        w_cond _13
        have hT13 := same_t sm13 hT12
        have hp13 := same_t sm13 hp1
        have hb13 := SqT.of (K := K) hq13
        have z13 : ((ws.map V.int).take j).length + [V.bl (decide (V.int x0 = V.int 1))].length ≤ sizeLine := szl (by rw [List.length_take, List.length_singleton]; omega)
        walk_at "ev"
        intro p2 H14 sm14 hp2
        have hT14 := same_t sm14 hT13
        walk_at "ev"
        intro p3 H15 sm15 hp3
        rw [show ((j : Int) + 1) = ((j + 1 : Nat) : Int) from rfl, cut_from19 (by omega)] at hp3
        have hp25 := same_t sm15 hp2
        have z15 : ((ws.map V.int).take j ++ [V.bl (decide (V.int x0 = V.int 1))]).length + ((ws.map V.int).drop (j + 1)).length ≤ sizeLine := szl (by rw [List.length_append, List.length_take, List.length_singleton, List.length_drop]; omega)
        walk_at "ev"
        intro p4 H16 sm16 hp4
        have s16 : Same H11 H16 := sm12.trans (sm13.trans (sm14.trans (sm15.trans sm16)))
        have k16 : Keep b H10 H16 := k11.trans (keepS s16)
        have b16 := hb11.same s16
        obtain ⟨cc, hcc⟩ : ∃ cc, cc = decide (V.int x0 = V.int 1) := ⟨_, rfl⟩
        rw [← hcc] at hp4
        have hDo : Dp K H16 (.ref p4) (.tuple ((ws.map PyData.int).take j ++ [.bool cc] ++ (ws.map PyData.int).drop (j + 1))) := .tup hp4 (dpa_app (dpa_app (dpa_take j (dp_ints ws)) (.cons (.bl cc) .nil)) (dpa_drop (j + 1) (dp_ints ws)))
        have hBo : Bn 1000000000 60 1 (.tuple ((ws.map PyData.int).take j ++ [.bool cc] ++ (ws.map PyData.int).drop (j + 1))) := ⟨by
          rw [List.length_append, List.length_append, List.length_take, List.length_drop, List.length_singleton, List.length_map]
          omega, fun e he => by
          have inT : ∀ e ∈ ws.map PyData.int, Bn 1000000000 60 0 e := fun e he => by
            obtain ⟨y, hy, rfl⟩ := List.mem_map.mp he
            exact bwi y hy
          rcases List.mem_append.mp he with z | z
          · rcases List.mem_append.mp z with z | z
            · exact inT e (List.mem_of_mem_take z)
            · rw [List.mem_singleton.mp z]
              exact True.intro
          · exact inT e (List.mem_of_mem_drop z)⟩
        walk_at "ev"
        refine fin _ H16 l8 pd es rs qq _ _ i _ _ _ (G10.keep hb10 k16) (SqL.of (k16 _ _ n8b hx10)) ⟨ws10.keep hb10 k16, nms, bws, el1, el60⟩ dv hlg (k16 _ _ npd hq10) (wr10.keep hb10 k16) vr bt hi hDo hBo (fun w z => ?_) fun H17 sm17 => ?_
        · cases w with
          | i x => cases z
          | v xs =>
            have e := PyData.tuple.inj z
            have hm : PyData.bool cc ∈ xs.map PyData.int := by
              rw [← e]
              exact List.mem_append_left _ (List.mem_append_right _ (List.mem_singleton.mpr rfl))
            obtain ⟨y, _, hy⟩ := List.mem_map.mp hm
            cases hy
        · exact .mk ⟨_, _, _, _, _, _, _, rfl, k2.trans (k210.trans (k16.trans (keepS sm17))), (b16.same sm17).mono (by push_cast; omega)⟩
    · intro σ H' hP
      obtain ⟨s4, s5, s6, s7, s8, s9, s10, rfl, k2, hb2⟩ := hP.un
      walk_at "ev"
      exact q _ ((keepS sm1).trans k2) (hb2.mono (by show n + 4 * ((2 : Nat) : Int) ≤ _; omega))
end
/-! ### a caught exception that is read within its clause -/
def wKeepW (K : PySem.W.Frag) (c : Value) (i : Nat) (ts : Addr → Addr → Addr → TS) (Wout : WX) (D : Ends) : WX := fun cls d σ H =>
  ∃ b, PySem.W.exmOne K cls c = some b ∧ (b = true → ∃ C dd, cls = .ref C ∧ d = some dd ∧ ∀ a, H a = none →
    ts a C dd { nx := fun σ2 H2 => D.nx (σ2.set i none) (upd H2 a (XOb C dd a)), rt := fun _ _ => False, bk := fun _ _ => False, ct := fun _ _ => False } (σ.set i (some (.ref a))) H) ∧ (b = false → Wout cls d σ H)
section
variable {X : Cx} {x n : Str} {c : Value} {i : Nat} {body suite : List Stmt} {b₀ : Stmt} {np pos pos' : Pos} {tb : WX → TS} {ts : Addr → Addr → Addr → TS} {Wout : WX}
theorem ps_try_keepW (hs : X.stack = X.env :: X.outer) (hf : X.env.frame = some X.env.locals) (hex : X.ex = []) (hN : X.N.Nodup) (hi : X.N[i]? = some n) (hln : X.env.kindOf n = some .local) (hc : Names X x c) (tk : Takes X Wout)
    (hb : ∀ (W : WX) (pn : List (Addr × Obj)) (xe : Value → Shared → Prop), Takes (X.tr pn xe) W → PassesOwn (model X.prog X.w) X.A X.env xe → PSs (X.tr pn xe) body (tb W))
    (hsu : ∀ (a C dd : Addr) (o : Obj) (fl : Array Value) (pn : List (Addr × Obj)), Zc (.ref C) (some dd) o → o.data = .fields fl → PSs (X.suite a ((a, o) :: pn)) (b₀ :: suite) (ts a C dd)) :
    PS X (.Try body [.ExceptHandler (some (.Name x np)) (some n) (b₀ :: suite) pos'] [] [] pos) (fun D σ H => tb (wKeepW X.K c i ts Wout D) D σ H) := by
  refine ⟨fun pins s σ H D I h => ?_⟩
  have ok := I.ok
  have fr : X.A.frames = some (X.env :: X.outer) := ok.frames.trans (congrArg some hs)
  refine wpAny_Try_except (wpAny_mono ((hb (wKeepW X.K c i ts Wout D) (X.pn ++ pins) (fun e s1 => wpAny (model X.prog X.w) X.A (noteFrame e X.env)
    (fun _ s2 => wpAny (model X.prog X.w) X.A (setFlight e none) (fun _ s3 => wpAny (model X.prog X.w) X.A (handleBy e X.env [.ExceptHandler (some (.Name x np)) (some n) (b₀ :: suite) pos']) (SP X pins D) X.xe s3) X.xe s2) X.xe s1)
    (fun u s1 fly => ?_) PassesOwn.looking).run [] s σ H D (I.toTry _) h) (fun f s1 q => ?_) (fun _ _ z => z))
  · obtain ⟨a, B, s0, pins1, σ1, H1, cls, d, rfl, J0, nb, up, sky, na, os, ag, b, hm, yes, no⟩ := fly
    have J : Inv X pins σ1 H1 s0 := J0.ofTry ok
    have sky1 : Sky B (X.env :: X.outer) a (Zc cls d) X.env.locals s1.heap := hs ▸ sky
    show wpAny (model X.prog X.w) X.A (noteFrame (.ref a) X.env) _ _ _
    refine Sky.land Zc.steady fr hf sky1 fun g3 fly3 up3 => ?_
    have J3 : Inv X pins σ1 H1 { s1 with heap := g3 } := J.landed nb fly3.1 (up.trans up3) os ag
    obtain ⟨o3, f3, e3, z3, d3⟩ := fly3.there
    have away : a ∉ frs (X.env :: X.outer) := fun hmem => by
      obtain ⟨_, o', e', hnf⟩ := fly3.2.2.1.mem hmem
      cases e3.symm.trans e'
      exact hnf _ d3
    have nL : a ≠ X.env.locals := fun z => away (List.mem_filterMap.mpr ⟨X.env, List.mem_cons_self, hf.trans (congrArg some z.symm)⟩)
    have nF : a ∉ X.fs := fun hmem => by
      obtain ⟨e, he, q⟩ := List.mem_filterMap.mp hmem
      exact away (List.mem_filterMap.mpr ⟨e, List.mem_cons_of_mem _ he, q⟩)
    have nB : B.get? a = none := fly3.2.1
    have n0 : X.s_0.heap.get? a = none := by
      cases e : X.s_0.heap.get? a with
      | none => rfl
      | some o =>
        obtain ⟨o', q⟩ := J.base.there a o e (by rw [hex]; exact fun z => nomatch z)
        have q2 := nb a o' q (by rw [hs]; exact away)
        rw [nB] at q2
        cases q2
    have nP : ∀ p ∈ X.pn ++ pins, p.1 ≠ a := fun p hp z => by
      obtain ⟨q, _⟩ := J.pin p hp
      have q2 := nb p.1 p.2 q (by rw [hs, z]; exact away)
      rw [z, nB] at q2
      cases q2
    have S3 := J3.suite e3 d3 na nL nF
    have lt : PySem.W.Looks (model X.prog X.w) g3 (typeOf (.ref a)) cls := fun A Q E s k q => wpAny_typeOf_ref (k _ _ e3) (by rw [z3.1]; exact q)
    have lm := PySem.W.exm_one (M := model X.prog X.w) J3.kIn lt hm
    refine wpAny_handleBy_cons (codeAny_handlers_test ?_) (fun q => nomatch q)
    have named : ∀ {Q E : Value → Shared → Prop}, Q c { s1 with heap := g3 } → wpAny (model X.prog X.w) (X.A.mark (some (.ref a))) (eval (.Name x np) X.env) Q E { s1 with heap := g3 } := fun {Q E} q => by
      rcases hc with ⟨hg, hdb, hm1 | ⟨hm1, hv, hnn⟩⟩
      · exact ld_glob (X := X.suite a ((a, o3) :: (X.pn ++ pins))) S3 hg hm1 q hdb
      · exact ld_blt (X := X.suite a ((a, o3) :: (X.pn ++ pins))) S3 hg hm1 hv q hnn hdb
    refine named (lm.here ?_)
    cases b with
    | true =>
      obtain ⟨C, dd, ec, ed, yes⟩ := yes rfl
      refine codeAny_handlers_suite_as (HandSPX.lands_againZ fly3 fun g4 fly4 up4 => ?_)
      have J4 : Inv X pins σ1 H1 { s1 with heap := g4 } := J.landed nb fly4.1 ((up.trans up3).trans up4) os ag
      obtain ⟨o4, f4, e4, z4, d4⟩ := fly4.there
      refine store_ok (X := X.suite a ((a, o4) :: (X.pn ++ pins))) (v := .ref a) (J4.suite e4 d4 na nL nF) hN hi (.inl hln) rfl (fun s5 S5 => ?_) (.inr hln)
      refine wpAny_mono ((hsu a C dd o4 _ (X.pn ++ pins) (by rw [← ec, ← ed]; exact z4) d4).run [] s5 _ H1 _ S5 (yes a na)) (fun f s6 q6 => ?_) (fun _ _ z => z.elim)
      cases f with
      | next =>
        obtain ⟨σ6, H6, S6, q6⟩ := q6
        refine gone_ok (X := X.suite a ((a, o4) :: (X.pn ++ pins))) (pins := []) S6 hN hi hln fun s7 S7 => ?_
        obtain ⟨e7, n7, _⟩ := S7.pin (a, o4) (List.mem_append_left _ List.mem_cons_self)
        refine ⟨_, _, track (S7.unsuite ok) n0 n7 nL (fun y c' ey z => ?_) nP (xob_ok (C := C) (d := dd) e7 (by rw [← ec, ← ed]; exact z4) d4), q6⟩
        obtain ⟨v, ob, q1, q2⟩ := S7.cell y c' ey
        subst z
        cases e7.symm.trans q1
        cases d4.symm.trans q2
      | brk =>
        obtain ⟨_, _, _, q6⟩ := q6
        exact q6.elim
      | cont =>
        obtain ⟨_, _, _, q6⟩ := q6
        exact q6.elim
      | ret u =>
        obtain ⟨_, _, _, _, _, q6⟩ := q6
        exact q6.elim
    | false =>
      show wpAny _ X.A (handleBy (.ref a) X.env []) _ _ _
      refine wpAny_handleBy_nil ?_
      obtain ⟨k1, k2, k3, ob, fl, T, oT, tl, he, hz, hd, h1, hr⟩ := id fly3
      unfold PySem.passOn
      refine wpAny_bind (wpAny_field he hd h1 ?_)
      rw [if_neg (show ¬ ((Value.ref T == Value.none) = true) from by simp)]
      have fin : wpAny (model X.prog X.w) X.A (setFlight (.ref a) X.env.frame) (fun _ s4 => wpAny (model X.prog X.w) X.A (throw (.ref a) : Sem Flow) (SP X pins D) X.xe s4) X.xe { s1 with heap := g3 } := by
        rw [hf]
        exact HandSPX.setFlight_upZ fly3 fun g4 held4 up4 => wpAny_throw (tk _ _ ⟨a, B, s0, pins, σ1, H1, cls, d, rfl, J, nb, (up.trans up3).trans up4, .inr (.inr (hs ▸ held4)), na, os, ag, no rfl⟩)
      first
        | exact wpAny_bind (wpAny_pure (wpAny_bind fin))
        | exact wpAny_bind fin
  · cases f with
    | next =>
      obtain ⟨σ1, H1, J, q⟩ := q
      exact wpAny_execs_nil ⟨σ1, H1, J.ofTry ok, q⟩
    | brk =>
      obtain ⟨σ1, H1, J, q⟩ := q
      exact ⟨σ1, H1, J.ofTry ok, q⟩
    | cont =>
      obtain ⟨σ1, H1, J, q⟩ := q
      exact ⟨σ1, H1, J.ofTry ok, q⟩
    | ret u =>
      obtain ⟨v, σ1, H1, J, r, q⟩ := q
      exact ⟨v, σ1, H1, J.ofTry ok, r, q⟩
end
def tXwP (K : PySem.W.Frag) (f : Str) (a C dd : Addr) (te : TE) : TE := fun σ H Q => te σ H fun x H1 => ∃ (fs : List (Str × V)) (v : V), x = .ref a ∧ H1 dd = some (.xd fs) ∧ ExK K C ∧ PySem.W.findIn K (.ref C) f = some none ∧ fs.lookup f = some v ∧ Q v H1
theorem pe_xwP {X : Cx} {K : PySem.W.Frag} {a C dd : Addr} {o : Obj} {fl : Array Value} {e : Expr} {te : TE} {pos : Pos} {n : Str} (hz : Zc (.ref C) (some dd) o) (hd : o.data = .fields fl) (hm : (a, o) ∈ X.pn) (hK : X.K = K) (he : PE X e te) (hb : attributeBase e n X.env (eval e X.env) = eval e X.env := by rfl) : PE X (.Attribute e n pos) (tXwP K n a C dd te) := by
  subst hK
  refine ⟨fun pins s σ H Q I h => attr_of hb (thn (he.run pins s σ H _ I h) fun u s1 hh => ?_)⟩
  obtain ⟨x, H1, I1, rx, fs, v, ex, hx, E, hno, l, q⟩ := hh
  subst ex
  cases (show u = Value.ref a from rx)
  obtain ⟨q1, _, _⟩ := I1.pin (a, o) (List.mem_append_left _ hm)
  obtain ⟨mA, hns, hr⟩ := (show ObjOk X.prog X.w H1 s1.heap dd (.xd fs) from I1.hok dd _ hx)
  obtain ⟨od, ho, hl⟩ := lookIn_ns hns
  have J : PySem.W.InstAt s1.heap a o C (some od) := ⟨q1, hz.1, by unfold PySem.W.notCls; rw [hd] <;> rfl, by rw [hz.2]; exact ho⟩
  obtain ⟨u, hu, ru⟩ := RelO.some_of (v := v) (o := mA n) (by rw [← l]; exact hr n)
  exact HandSPX.exc_get I1.kIn J E.xf.ga E.xf.gg E.xf.exC (PySem.W.findObj_own E.xf.hdC hno rfl (by rw [hl, hu])) (handed_of ru) ⟨v, H1, I1.tok _, ru, q⟩
abbrev s__law_refused : Stmt := top 52
abbrev N__law_refused : List Str := ["_law_ground", "_law_row_here", "_law_thing", "_law_found", "error"]
abbrev P__law_refused : List Str := ["_law_ground", "_law_row_here", "_law_thing"]
theorem sc__law_refused : FnScope N__law_refused P__law_refused (defScope s__law_refused) := ⟨rfl, rfl, rfl, by decide +kernel, rfl, by decide +kernel, by decide +kernel⟩
def spRf19 (K : PySem.W.Frag) (C1 C2 : Addr) : Sp := fun vs H Q _ => ∃ (a x : Addr) (v : V) (d : PyData) (g : Gk) (es : Es) (M L n : Nat), vs = [.ref a, .ref x, v] ∧ GrAt C1 C2 H a g ∧ GkOk g ∧ SqL K H x (es.map (·.1)) ∧ PtIn K g H es ∧ ¬ numM g % (es.length : Int) = 0 ∧ Dp K H v d ∧ Bn M L n d ∧ M ≤ 1000000000000000 ∧ L ≤ 100 ∧ n ≤ 10 ∧ ∀ H', Same H H' → Q (.int (es.length : Int)) H'
section
variable {P : Program} {w : World} {K : PySem.W.Frag} {mg : Str → Option Value} {base : Heap}
theorem ok_rf19 {C1 C2 CR CT fI : Addr} {f f1 : Addr} {fd d1 : FuncData} (F : Fun K "_law_refused" "_law_refused" s__law_refused f fd) (T : Blt mg) (RR : Ref K CT CR fI) (M_NoRoot : mg "NoRoot" = some (.ref CR)) (ex : PySem.W.exmOne K (.ref CR) (.ref CR) = some true) (D_shows_turning : Df K mg "shows_turning" s_shows_turning P_shows_turning f1 d1) (G_shows_turning : FnOk P w K mg base (L2.CX P w) 6 f1 d1 P_shows_turning (spSh19 K C1 C2 CR)) : FnOk P w K mg base CX0 7 f fd P__law_refused (spRf19 K C1 C2) := by
  have ek := RR.ek
  have nw := RR.ek.nw
  have nd := sc__law_refused.nd
  refine F.ok sc__law_refused (fun vs H Q E h => ?_) (fun cdv A outer s H vs Q E hr h => ?_)
  · obtain ⟨a, x, v, d, g, es, M, L, n, rfl, _⟩ := h
    rfl
  · obtain ⟨a, x, v, d, g, es, M, L, n, rfl, hG, hok, hX, hin, hdv, hd, hB, hM, hL, hn, q⟩ := h
    have hXO : SqL K H x (es.map (·.1)) ∨ SqT K H x (es.map (·.1)) := .inl hX
    refine ⟨_, (pss_cons (ps_set (i := 3) nd rfl (Or.inl rfl) (pe_str))
      (pss_cons (ps_try_keepW (i := 4) (Wout := fun _ _ _ _ => False) rfl rfl rfl nd rfl rfl ⟨by rfl, by decide, Or.inl M_NoRoot⟩ takes0 (fun W pn xe tk _ => (pss_one (ps_expr (pe_callS G_shows_turning (hr.mono (by omega)) (by rfl) D_shows_turning.g D_shows_turning.F.kp D_shows_turning.b (fun σ => passAt tk σ) (pa_cons (pv 0) (pa_cons (pv 1) (pa_cons (pv 2) pa_nil))))))) (fun a C dd o fl pn hz hd => (pss_one (ps_set (i := 3) nd rfl (Or.inl rfl) (pe_xwP (a := a) (C := C) (dd := dd) (K := K) hz hd List.mem_cons_self rfl (pv 4))))))
      (pss_one (ps_ret (pv 3))))), ?_⟩
    walk_at "ev"
    refine ⟨fun _ d3 H3 hd3 sm3 hwd => ?_, fun z => absurd z hdv⟩
    refine ⟨true, ex, fun _ => ⟨CR, d3, rfl, rfl, fun z hz => ?_⟩, fun z => nomatch z⟩
    have sm4 : Same H3 (upd H3 z (XOb CR d3 z)) := same_new hz
    have hx4 : XAt (upd H3 z (XOb CR d3 z)) z CR [(("what" : Str), .int (es.length : Int))] := ⟨d3, upd_same, sm4 _ _ hwd⟩
    walk_at "ev"
    exact q _ (sm3.trans sm4)
end
abbrev s_law : Stmt := top 55
abbrev N_law : List Str := ["_law_script", "_law_k", "_law_box_here", "_law_turn", "_law_world_here", "_law_wide", "_law_count", "_law_lacking", "_law_other", "_law_row_here", "_law_one"]
abbrev P_law : List Str := ["_law_script"]
theorem sc_law : FnScope N_law P_law (defScope s_law) := ⟨rfl, rfl, rfl, by decide +kernel, rfl, by decide +kernel, by decide +kernel⟩
theorem at_last19 {xs : List V} {v : V} : atI (xs ++ [v]) (-1) = some v := by
  unfold atI
  have e : ixN (xs ++ [v]).length (-1) = some xs.length := by
    unfold ixN
    rw [List.length_append]
    rw [if_neg (by decide), if_pos (by rw [List.length_singleton]; omega)]
    congr 1
    rw [List.length_singleton]
    omega
  rw [e]
  show (xs ++ [v])[xs.length]? = some v
  rw [List.getElem?_append_right (Nat.le_refl _), Nat.sub_self]
  rfl
def spLaw (K : PySem.W.Frag) : Sp := fun vs H Q _ => ∃ (a : Addr) (ns : List Int), vs = [.ref a] ∧ SqL K H a (ns.map V.int) ∧ ns.length ≤ 63 ∧ ∀ H', Q (.bl true) H'
structure Fns (P : Program) (w : World) (K : PySem.W.Frag) (mg : Str → Option Value) (base : Heap) : Prop where
  x0 : ∃ f fd, Df K mg "sum_at" s_sum_at P_sum_at f fd
  x1 : ∃ f fd, Dpt K mg f fd
  x2 : ∃ f fd, Df K mg "shows_turning" s_shows_turning P_shows_turning f fd
  x3 : ∃ f fd, Df K mg "is_whole" s_is_whole P_is_whole f fd
  x4 : ∃ f fd, Df K mg "is_prime" s_is_prime P_is_prime f fd
  x5 : ∃ f fd, Df K mg "factors" s_factors P_factors f fd
  x6 : ∃ f fd, Df K mg "divisors" s_divisors P_divisors f fd
  x7 : ∃ f fd, Df K mg "inverse" s_inverse P_inverse f fd
  x8 : ∃ f fd, Df K mg "power_rest" s_power_rest P_power_rest f fd
  x9 : ∃ f fd, Df K mg "generator" s_generator P_generator f fd
  x10 : ∃ f fd, Df K mg "divided" s_divided P_divided f fd
  x11 : ∃ f fd, Df K mg "multiplied" s_multiplied P_multiplied f fd
  x12 : ∃ f fd, Df K mg "wheel" s_wheel P_wheel f fd
  x13 : ∃ f fd, Df K mg "_law_box" s__law_box P__law_box f fd
  x14 : ∃ f fd, Df K mg "_law_take" s__law_take P__law_take f fd
  x15 : ∃ f fd, Df K mg "_law_pick" s__law_pick P__law_pick f fd
  x16 : ∃ f fd, Df K mg "_law_same" s__law_same P__law_same f fd
  x17 : ∃ f fd, Df K mg "_law_raised" s__law_raised P__law_raised f fd
  x18 : ∃ f fd, Df K mg "_law_is_plain_prime" s__law_is_plain_prime P__law_is_plain_prime f fd
  x19 : ∃ f fd, Df K mg "_law_least_generator" s__law_least_generator P__law_least_generator f fd
  x20 : ∃ f fd, Df K mg "_law_divided" s__law_divided P__law_divided f fd
  x21 : ∃ f fd, Df K mg "_law_own_wheel" s__law_own_wheel P__law_own_wheel f fd
  x22 : ∃ f fd, Df K mg "_law_world" s__law_world P__law_world f fd
  x23 : ∃ f fd, Df K mg "_law_made" s__law_made P__law_made f fd
  x24 : ∃ f fd, Df K mg "_law_has" s__law_has P__law_has f fd
  x25 : ∃ f fd, Df K mg "_law_lengths" s__law_lengths P__law_lengths f fd
  x26 : ∃ f fd, Df K mg "_law_whole" s__law_whole P__law_whole f fd
  x27 : ∃ f fd, Df K mg "_law_plus" s__law_plus P__law_plus f fd
  x28 : ∃ f fd, Df K mg "_law_rest_by" s__law_rest_by P__law_rest_by f fd
  x29 : ∃ f fd, Df K mg "_law_times" s__law_times P__law_times f fd
  x30 : ∃ f fd, Df K mg "_law_roots" s__law_roots P__law_roots f fd
  x31 : ∃ f fd, Df K mg "_law_plainly" s__law_plainly P__law_plainly f fd
  x32 : ∃ f fd, Df K mg "_law_worth" s__law_worth P__law_worth f fd
  x33 : ∃ f fd, Df K mg "_law_row" s__law_row P__law_row f fd
  x34 : ∃ f fd, Df K mg "_law_odd" s__law_odd P__law_odd f fd
  x35 : ∃ f fd, Df K mg "_law_bent" s__law_bent P__law_bent f fd
  x36 : ∃ f fd, Df K mg "_law_refused" s__law_refused P__law_refused f fd
  x37 : ∃ f fd, Df K mg "_law_right" s__law_right P__law_right f fd
  x38 : ∃ f fd, Df K mg "_law_truths_right" s__law_truths_right P__law_truths_right f fd
section
variable {P : Program} {w : World} {K : PySem.W.Frag} {mg : Str → Option Value} {base : Heap}
theorem ok_law {f CT CB C1 C2 CR CS CI fI : Addr} {fd fdI : FuncData} (F : Fun K "law" "law" s_law f fd) (T : Blt mg) (U : Fns P w K mg base) (S : G16 K mg CT CB C1 C2 CR CS CI fI fdI) (X : GX K C1 C2) (ex : PySem.W.exmOne K (.ref CR) (.ref CR) = some true) : FnG P w K mg base CX0 11 f fd P_law (spLaw K) := by
  obtain ⟨⟨f0, d0, D_sum_at⟩, ⟨f1, d1, D_plain_turning⟩, ⟨f2, d2, D_shows_turning⟩, ⟨f3, d3, D_is_whole⟩, ⟨f4, d4, D_is_prime⟩, ⟨f5, d5, D_factors⟩, ⟨f6, d6, D_divisors⟩, ⟨f7, d7, D_inverse⟩, ⟨f8, d8, D_power_rest⟩, ⟨f9, d9, D_generator⟩, ⟨f10, d10, D_divided⟩, ⟨f11, d11, D_multiplied⟩, ⟨f12, d12, D_wheel⟩, ⟨f13, d13, D__law_box⟩, ⟨f14, d14, D__law_take⟩, ⟨f15, d15, D__law_pick⟩, ⟨f16, d16, D__law_same⟩, ⟨f17, d17, D__law_raised⟩, ⟨f18, d18, D__law_is_plain_prime⟩, ⟨f19, d19, D__law_least_generator⟩, ⟨f20, d20, D__law_divided⟩, ⟨f21, d21, D__law_own_wheel⟩, ⟨f22, d22, D__law_world⟩, ⟨f23, d23, D__law_made⟩, ⟨f24, d24, D__law_has⟩, ⟨f25, d25, D__law_lengths⟩, ⟨f26, d26, D__law_whole⟩, ⟨f27, d27, D__law_plus⟩, ⟨f28, d28, D__law_rest_by⟩, ⟨f29, d29, D__law_times⟩, ⟨f30, d30, D__law_roots⟩, ⟨f31, d31, D__law_plainly⟩, ⟨f32, d32, D__law_worth⟩, ⟨f33, d33, D__law_row⟩, ⟨f34, d34, D__law_odd⟩, ⟨f35, d35, D__law_bent⟩, ⟨f36, d36, D__law_refused⟩, ⟨f37, d37, D__law_right⟩, ⟨f38, d38, D__law_truths_right⟩⟩ := U
  have G__law_box : FnOk P w K mg base CX0 1 f13 d13 P__law_box (spBox K) := ok_box D__law_box.F T
  have G__law_take : FnOk P w K mg base CX0 1 f14 d14 P__law_take spTake := ok_take D__law_take.F
  have G__law_pick : FnOk P w K mg base CX0 2 f15 d15 P__law_pick (spPick K) := ok_pick (k := 0) D__law_pick.F T D__law_take
  have G__law_world : FnOk P w K mg base CX0 7 f22 d22 P__law_world spWorld := ok_world D__law_world.F T D__law_take D__law_own_wheel D__law_divided D__law_least_generator D__law_is_plain_prime D__law_raised
  have G__law_made : FnOk P w K mg base CX0 9 f23 d23 P__law_made (spMade C1 C2) := ok_made D__law_made.F T S D_is_whole D_factors D_is_prime D_power_rest D_generator D_wheel D_divisors D_divided
  have G__law_row : FnOk P w K mg base CX0 4 f33 d33 P__law_row (spRowG K) := ok_rowG (k := 0) D__law_row.F T D__law_worth D__law_take D__law_pick
  have G__law_same : FnOk P w K mg base CX0 9 f16 d16 P__law_same (spDsm K 8) := ok_dsm D__law_same T 8
  have G__law_lengths : FnOk P w K mg base CX0 2 f25 d25 P__law_lengths (spLens K) := ok_lens (k := 0) D__law_lengths.F T D__law_has
  have G__law_has : FnOk P w K mg base CX0 1 f24 d24 P__law_has spHas := ok_has (k := 0) D__law_has.F T
  have G__law_whole : FnOk P w K mg base CX0 1 f26 d26 P__law_whole (spLz K) := ok_lz (k := 0) D__law_whole.F T
  have G__law_plainly : FnOk P w K mg base CX0 8 f31 d31 P__law_plainly (spPl K) := (ok_pl D__law_plainly.F T D__law_whole D__law_plus D__law_times D__law_rest_by D__law_roots).mono (by decide)
  have G__law_bent : FnOk P w K mg base CX0 7 f35 d35 P__law_bent (spB2 K) := b2_of (ok_bt19 D__law_bent T D__law_take D__law_pick D__law_odd 2) (ok_bt19 D__law_bent T D__law_take D__law_pick D__law_odd 3)
  have G_shows_turning := ok_sh19 (P := P) (w := w) (base := base) D_shows_turning.F T S X D_plain_turning D_is_whole (ok_pt D_plain_turning.F T S D_sum_at D_divided D_multiplied D_power_rest D_inverse)
  have G_shows := sn_of G_shows_turning
  have G__law_right : FnG P w K mg base CX0 10 f37 d37 P__law_right (spRt19 K) := ok_rt19 D__law_right.F T D__law_made D__law_row D__law_plainly D__law_bent D__law_take D_shows_turning D__law_same G__law_made G__law_row G__law_plainly G__law_bent G__law_take G_shows G__law_same
  have G__law_truths_right : FnOk P w K mg base CX0 10 f38 d38 P__law_truths_right (spTq19 K C1 C2) := ok_tq19 D__law_truths_right.F T D__law_whole D__law_plainly D__law_take D_shows_turning G__law_whole G__law_plainly G__law_take G_shows
  have G__law_refused : FnOk P w K mg base CX0 7 f36 d36 P__law_refused (spRf19 K C1 C2) := ok_rf19 D__law_refused.F T S.RR S.mr ex D_shows_turning G_shows_turning
  have nd := sc_law.nd
  refine okG F sc_law (fun vs H Q E h => ?_) (fun cdv A outer s H vs Q E hgd hr h => ?_)
  · obtain ⟨a, ns, rfl, _⟩ := h
    rfl
  · obtain ⟨a, ns, rfl, hS, hlen, q⟩ := h
    obtain ⟨tt, hin, fin⟩ : ∃ tt, PSs (cxOf CX0 P w K mg base N_law "law" (defScope s_law) f cdv A outer s H E).nox ((inF (inF (defBody s_law) 0) 1).drop 2) tt ∧ ∀ (Z : Ends) (He : Hp) (b d : Addr) (g : Gk) (wv : Bool) (n : Int) (x0 x1 x3 x6 x7 x8 x9 x10 : Option V), BoxAt He b n → n < 500000 → WdM He b d g →
        (∀ (H' : Hp) (y6 y7 y8 y9 y10 : Option V), Keep b He H' → BoxAt H' b (n + 22000) → Z.nx [x0, x1, some (.ref b), x3, some (.ref d), some (.bl wv), y6, y7, y8, y9, y10] H') →
        tt Z [x0, x1, some (.ref b), x3, some (.ref d), some (.bl wv), x6, x7, x8, x9, x10] He := by
      refine ⟨_, (pss_cons (ps_set (i := 6) nd rfl (Or.inl rfl) (pe_call G__law_pick (hr.mono (by omega)) (by rfl) D__law_pick.g D__law_pick.F.kp D__law_pick.b .nil pass0 (pa_cons (pv 2) (pa_cons (pe_call G__law_lengths (hr.mono (by omega)) (by rfl) D__law_lengths.g D__law_lengths.F.kp D__law_lengths.b .nil pass0 (pa_cons (pv 4) (pa_cons (pe_ix (r := rIxL K) ix_list (pe_lst (pa_cons (pe_int) (pa_cons (pe_int) pa_nil))) (pe_callTy call_int1 (by rfl) T.b_int (by decide +kernel) (pa_cons (pv 5) pa_nil)) (fun _ _ => rfl)) pa_nil))) pa_nil))))
      (pss_cons (ps_if (pt_not (pt_val (pe_callG G__law_right hgd (hr.mono (by omega)) (by rfl) D__law_right.g D__law_right.F.kp D__law_right.b .nil pass0 (pa_cons (pv 2) (pa_cons (pv 4) (pa_cons (pv 6) pa_nil)))))) (pss_one (ps_ret (pe_bl))) pss_nil)
      (pss_cons (ps_if (pt_not (pt_val (pe_call G__law_truths_right (hr.mono (by omega)) (by rfl) D__law_truths_right.g D__law_truths_right.F.kp D__law_truths_right.b .nil pass0 (pa_cons (pv 2) (pa_cons (pv 4) (pa_cons (pe_call G__law_made (hr.mono (by omega)) (by rfl) D__law_made.g D__law_made.F.kp D__law_made.b .nil pass0 (pa_cons (pv 4) pa_nil)) (pa_cons (pe_ix (r := rIxL K) ix_list (pe_call G__law_lengths (hr.mono (by omega)) (by rfl) D__law_lengths.g D__law_lengths.F.kp D__law_lengths.b .nil pass0 (pa_cons (pv 4) (pa_cons (pe_ix (r := rIxL K) ix_list (pe_lst (pa_cons (pe_int) (pa_cons (pe_int) pa_nil))) (pe_callTy call_int1 (by rfl) T.b_int (by decide +kernel) (pa_cons (pv 5) pa_nil)) (fun _ _ => rfl)) pa_nil))) (pe_un un_neg (pe_int)) (fun _ _ => rfl)) pa_nil))))))) (pss_one (ps_ret (pe_bl))) pss_nil)
      (pss_cons (ps_setLc (i := 7) (own := [("_law_one", 10)]) (g := gName 10) (by rfl) nd rfl rfl (sw_true rfl rfl rfl (by decide +kernel)) (pi_range2 (by rfl) T.b_range (pa_cons (pe_int) (pa_cons (pe_int) pa_nil))) (blkOk_by (own := [("_law_one", 10)]) (N := N_law) (sc := defScope s_law) (by decide +kernel)) (fun _ _ _ _ _ => (pg_name (i := 10) nd rfl (Or.inl rfl))) (fun _ _ _ _ _ => pts_one (pt_not (pt_val (pe_call G__law_has (hr.mono (by omega)) (by rfl) D__law_has.g D__law_has.F.kp D__law_has.b .nil pass0 (pa_cons (pv 4) (pa_cons (pv 10) pa_nil)))))) (fun _ _ _ _ _ => (pv 10)))
      (pss_one (ps_if (pt_cmpR (r := rNeD K) (op_neD hr.units) (pv 7) (pe_lst pa_nil) (nomark _)) (pss_cons (ps_set (i := 8) nd rfl (Or.inl rfl) (pe_call G__law_pick (hr.mono (by omega)) (by rfl) D__law_pick.g D__law_pick.F.kp D__law_pick.b .nil pass0 (pa_cons (pv 2) (pa_cons (pv 7) pa_nil))))
      (pss_cons (ps_set (i := 9) nd rfl (Or.inl rfl) (pe_call G__law_row (hr.mono (by omega)) (by rfl) D__law_row.g D__law_row.F.kp D__law_row.b .nil pass0 (pa_cons (pv 2) (pa_cons (pv 4) (pa_cons (pv 8) pa_nil)))))
      (pss_one (ps_if (pt_not (pt_val (pe_call G__law_same (hr.mono (by omega)) (by rfl) D__law_same.g D__law_same.F.kp D__law_same.b .nil pass0 (pa_cons (pe_call G__law_refused (hr.mono (by omega)) (by rfl) D__law_refused.g D__law_refused.F.kp D__law_refused.b .nil pass0 (pa_cons (pe_call G__law_made (hr.mono (by omega)) (by rfl) D__law_made.g D__law_made.F.kp D__law_made.b .nil pass0 (pa_cons (pv 4) pa_nil)) (pa_cons (pv 9) (pa_cons (pe_call G__law_pick (hr.mono (by omega)) (by rfl) D__law_pick.g D__law_pick.F.kp D__law_pick.b .nil pass0 (pa_cons (pv 2) (pa_cons (pe_lst (pa_cons (pv 9) (pa_cons (pe_non) (pa_cons (pe_lst pa_nil) pa_nil)))) pa_nil))) pa_nil)))) (pa_cons (pv 8) pa_nil))))) (pss_one (ps_ret (pe_bl))) pss_nil)))) pss_nil)))))), ?_⟩
      intro Z He b d g wv n x0 x1 x3 x6 x7 x8 x9 x10 hbe hn hWe nx
      have hok := hWe.ok
      walk_at "ev"
      w_cond _1
      have hb1 := hbe.same sm1
      have hW1 := hWe.up sm1
      have hL1 := SqL.of (K := K) hq1
      obtain ⟨t0, hat, a0, a1⟩ : ∃ t0 : Nat, atI [V.int 10, V.int 3] (if wv = true then 1 else 0) = some (.int (t0 : Int)) ∧ 1 ≤ t0 ∧ t0 ≤ 10 := by
        cases wv with
        | true => exact ⟨3, rfl, by decide, by decide⟩
        | false => exact ⟨10, rfl, by decide, by decide⟩
      have a2 : t0 ≤ 100 := by omega
      walk_at "ev"
      intro p ls H2 hp sm2 hq2 l1' l2' l3'
      have hb2 := hb1.same sm2
      have hW2 := hW1.up sm2
      have np := hb1.ne hp
      have hL2 := SqL.of (K := K) hq2
      have ll1 : 0 < ((ls.map fun l : Nat => V.int (l : Int)).length : Int) := by rw [List.length_map]; omega
      have ll2 : ((ls.map fun l : Nat => V.int (l : Int)).length : Int) < 1048576 := by rw [List.length_map]; omega
      walk_at "ev"
      intro v H3 hv k3 hb3
      obtain ⟨L, hLm, rfl⟩ := List.mem_map.mp hv
      obtain ⟨y1, y2, y3⟩ := l3' L hLm
      have hW3 := hW2.keep k3
      have L60 : L ≤ 60 := by omega
      walk_at "ev"
      intro H4 k4 hb4
      have hW4 := hW3.keep k4
      walk_at "ev"
      intro ga H5 hga sm5 hG5
      have hb5 := hb4.same sm5
      have hW5 := hW4.up sm5
      walk_at "ev"
      w_cond _6
      have hb6 := hb5.same sm6
      have hW6 := hW5.up sm6
      have hG6 := hG5.same sm6
      have hL6 := SqL.of (K := K) hq6
      obtain ⟨t1, hat1, b0, b1⟩ : ∃ t1 : Nat, atI [V.int 4, V.int 3] (if wv = true then 1 else 0) = some (.int (t1 : Int)) ∧ 1 ≤ t1 ∧ t1 ≤ 10 := by
        cases wv with
        | true => exact ⟨3, rfl, by decide, by decide⟩
        | false => exact ⟨4, rfl, by decide, by decide⟩
      have b2 : t1 ≤ 100 := by omega
      walk_at "ev"
      intro p7 ls7 H7 hp7 sm7 hq7 m1 m2 m3
      have hb7 := hb6.same sm7
      have hW7 := hW6.up sm7
      have hG7 := hG6.same sm7
      have hL7 := SqL.of (K := K) hq7
      obtain ⟨L7, hL7m, hat7⟩ : ∃ L7 ∈ ls7, atI (ls7.map fun l : Nat => V.int (l : Int)) (-1) = some (.int (L7 : Int)) := by
        have nz : ls7 ≠ [] := fun z => by
          rw [z] at m1
          exact absurd m1 (by decide)
        refine ⟨ls7.getLast nz, List.getLast_mem nz, ?_⟩
        obtain ⟨ys, y, e⟩ : ∃ ys y, ls7 = ys ++ [y] := ⟨_, _, (List.dropLast_concat_getLast nz).symm⟩
        subst e
        rw [List.map_append, List.getLast_append]
        exact at_last19
      obtain ⟨z1, z2, z3⟩ := m3 L7 hL7m
      have L760 : L7 ≤ 60 := by omega
      walk_at "ev"
      intro H8 k8 hb8
      have hW8 := hW7.keep k8
      walk_at "ev"
      intro D hD
      refine lc_range (lo := 2) (n := _) (fun i H' => Hold (Same H8 H' ∧ ∃ ls : List Nat, H' D = some (.lst (ls.map fun l : Nat => V.int (l : Int))) ∧ ls.length ≤ i ∧ ∀ l ∈ ls, 2 ≤ l ∧ l ≤ i + 1 ∧ ¬ numM g % (l : Int) = 0)) (.mk ⟨same_new hD, [], upd_same, Nat.le_refl _, fun l hl => by cases hl⟩) ?_ ?_
      · intro i H9 hi hP
        obtain ⟨sm9, ls, hD9, l1, l3⟩ := hP.un
        have hi100 : i < 100 := by
          have : ((14 : Int) - 2).toNat = 12 := rfl
          omega
        have hW9 := hW8.up sm9
        have hsz : (ls.map fun l : Nat => V.int (l : Int)).length < sizeLine := szm (by rw [List.length_map]; omega)
        rw [show (2 : Int) + (i : Int) = ((i + 2 : Nat) : Int) by omega]
        have j1 : 1 ≤ i + 2 := by omega
        have j2 : i + 2 ≤ 1000 := by omega
        walk_at "ev"
        refine ite2 (fun c => ?_) (fun c => ?_)
        · have c' : ¬ numM g % ((i + 2 : Nat) : Int) = 0 := fun z => by
            rw [decide_eq_true z] at c
            cases c
          walk_at "ev"
          refine .mk ⟨same_mut sm9 hD, ls ++ [i + 2], by rw [upd_same, List.map_append]; rfl, by rw [List.length_append]; show ls.length + 1 ≤ i + 1; omega, fun l hl => ?_⟩
          rcases List.mem_append.mp hl with z | z
          · obtain ⟨y1, y2, y3⟩ := l3 l z
            exact ⟨y1, by omega, y3⟩
          · cases List.mem_singleton.mp z
            exact ⟨by omega, by omega, c'⟩
        · refine .mk ⟨sm9, ls, hD9, by omega, fun l hl => ?_⟩
          obtain ⟨y1, y2, y3⟩ := l3 l hl
          exact ⟨y1, by omega, y3⟩
      · intro H9 hP
        obtain ⟨sm9, ls, hD9, l1, l3⟩ := hP.un
        have hb9 := hb8.same sm9
        have hW9 := hW8.up sm9
        have nD := hb8.ne hD
        have k9 : Keep b He H9 := (keepS (sm1.trans sm2)).trans (k3.trans (k4.trans ((keepS (sm5.trans (sm6.trans sm7))).trans (k8.trans (keepS sm9)))))
        walk_at "ev"
        w_cond _10
        have hD10 := sm10 _ _ hD9
        have eA : (ls.map fun l : Nat => V.int (l : Int)) = (ls.map fun l : Nat => (l : Int)).map V.int := by rw [List.map_map]; rfl
        have dA : Dp K H10 (.ref D) (.list ((ls.map fun l : Nat => (l : Int)).map PyData.int)) := .lst (by rw [← eA]; exact SqL.of hD10) (dp_ints _)
        have dB : Dp K H10 (.ref l10) (.list (([] : List Int).map PyData.int)) := .lst (SqL.of hq10) .nil
        have shA : SeqAt.shaped (.list ((ls.map fun l : Nat => (l : Int)).map PyData.int)) = true := PySem.W.ke_shaped_ints _
        have shB : SeqAt.shaped (.list (([] : List Int).map PyData.int)) = true := PySem.W.ke_shaped_ints _
        have eE : PyData.eqv (.list ((ls.map fun l : Nat => (l : Int)).map PyData.int)) (.list (([] : List Int).map PyData.int)) = decide ((ls.map fun l : Nat => (l : Int)) = []) := by
          rw [PyData.eqv]
          exact eqv_ints _ _
        refine ⟨_, _, dA, dB, shA, shB, ?_⟩
        rw [eE]
        cases ls with
        | nil =>
          walk_at "ev"
          exact nx H10 _ _ _ _ _ (k9.trans (keepS sm10)) ((hb9.same sm10).mono (by omega))
        | cons l0 lr =>
          have hb10 := hb9.same sm10
          have hW10 := hW9.up sm10
          have hSD := SqL.of (K := K) hD10
          have c1 : 0 < (((l0 :: lr).map fun l : Nat => V.int (l : Int)).length : Int) := by rw [List.length_map, List.length_cons]; omega
          have e12 : ((14 : Int) - 2).toNat = 12 := rfl
          have c2 : (((l0 :: lr).map fun l : Nat => V.int (l : Int)).length : Int) < 1048576 := by rw [List.length_map]; omega
          walk_at "ev"
          intro v11 H11 hv11 k11 hb11
          obtain ⟨o, ho, rfl⟩ := List.mem_map.mp hv11
          obtain ⟨o1, o2, o3⟩ := l3 o ho
          have hW11 := hW10.keep k11
          have m0 : (0 : Int) ≤ (o : Int) := by omega
          have m1' : (o : Int) ≤ 100 := by omega
          walk_at "ev"
          intro px es H12 hpx k12 hb12 lx rx hqx
          have npx : px ≠ b := hb11.ne hpx
          have hW12 := hW11.keep k12
          walk_at "ev"
          intro gb H13 hgb sm13 hG13
          have hb13 := hb12.same sm13
          walk_at "ev"
          w_cond _14
          have n14 : l14 ≠ b := hb13.ne hl14
          walk_at "ev"
          w_cond _15
          have hb15 := (hb13.same sm14).same sm15
          have hL15 := SqL.of (K := K) hq15
          have n15 : l15 ≠ b := (hb13.same sm14).ne hl15
          have q0 : 0 < (([V.ref px, V.non, V.ref l14] : List V).length : Int) := by show (0 : Int) < 3; decide
          have q1' : (([V.ref px, V.non, V.ref l14] : List V).length : Int) < 1048576 := by show (3 : Int) < 1048576; decide
          walk_at "ev"
          intro v16 H16 hv16 k16 hb16
          have s1315 := sm14.trans sm15
          have k1216 : Keep b H12 H16 := (keepS (sm13.trans s1315)).trans k16
          have hqx16 := k1216 _ _ npx hqx
          have rx16 := rx.keep hb12 k1216
          have hG16 := (hG13.same s1315).keep hb15 k16
          have hX16 := SqL.of (K := K) hqx16
          have l2 : (es.map (·.2)).length = es.length := List.length_map _
          have ne : Nms g (es.map (·.2)) := fun w hw => by
            obtain ⟨e, he, rfl⟩ := List.mem_map.mp hw
            exact (rx e he).2.1
          have h9 : ∀ w ∈ es.map (·.2), BB 1000000000 w := fun w hw => by
            obtain ⟨e, he, rfl⟩ := List.mem_map.mp hw
            exact (rx e he).2.2.bb
          have be : BwAt (es.map (·.2)) := fun w hw => (h9 w hw).bw (by decide +kernel)
          have hin16 : PtIn K g H16 es := ⟨rx16.ws, ne, be, by omega, by omega⟩
          have hnd : ¬ numM g % (es.length : Int) = 0 := by rw [lx]; exact o3
          obtain ⟨dv, hdv, hBv⟩ : ∃ dv, Dp K H16 v16 dv ∧ Bn 1000000000 60 2 dv := by
            simp only [List.mem_cons, List.not_mem_nil, or_false] at hv16
            rcases hv16 with z | z | z
            · subst z
              exact ⟨_, dp_rD hqx16 rx16.ws, bn_r hok ne h9 (Nat.le_refl _) (by omega)⟩
            · subst z
              exact ⟨.none, .non, True.intro⟩
            · subst z
              exact ⟨.list [], .lst (SqL.of (k16 _ _ n14 (sm15 _ _ hq14))) .nil, ⟨by decide, fun e he => nomatch he⟩⟩
          have M15 : (1000000000 : Nat) ≤ 1000000000000000 := by decide
          have L15 : (60 : Nat) ≤ 100 := by decide
          have N15 : (2 : Nat) ≤ 10 := by decide
          walk_at "ev"
          intro H17 sm17
          have fI : ∀ i : Int, i.natAbs ≤ 1000 → Fs 8 (.int i) := fun i hi => Bn.fs (M := 1000) (L := 60) (n := 8) hi (by decide) (by decide) (by decide)
          have fA : Fs 8 (.int (es.length : Int)) := fI _ (by omega)
          have fB : Fs 8 (.int (o : Int)) := fI _ (by omega)
          have dA' : Dp K H17 (.int (es.length : Int)) (.int (es.length : Int)) := .int _
          have dB' : Dp K H17 (.int (o : Int)) (.int (o : Int)) := .int _
          walk_at "ev"
          intro H18 sm18
          have hdq : deq (.int (es.length : Int)) (.int (o : Int)) = true := deq_t (by rw [lx])
          rw [hdq]
          walk_at "ev"
          exact nx H18 _ _ _ _ _ (k9.trans ((keepS sm10).trans (k11.trans (k12.trans (k1216.trans (keepS (sm17.trans sm18))))))) (((hb16.same sm17).same sm18).mono (by omega))
    refine ⟨_, (pss_cons (ps_for PassesOwn.never rfl (pi_range1 (by rfl) T.b_range (pa_cons (pe_op op_add (pe_int) (pe_callB (call_min2 rfl) (by rfl) T.b_min (by decide +kernel) (pa_cons (pe_int) (pa_cons (pe_callB (r := rLenQ K) call_len_seq (by rfl) T.b_len (by decide +kernel) (pa_cons (pv 0) pa_nil)) pa_nil)))) pa_nil)) (pg_name (i := 1) nd rfl (Or.inl rfl))
      (pss_cons (ps_set (i := 2) nd rfl (Or.inl rfl) (pe_call G__law_box (hr.mono (by omega)) (by rfl) D__law_box.g D__law_box.F.kp D__law_box.b .nil pass0 (pa_cons (pv 0) (pa_cons (pv 1) pa_nil))))
      (pss_one (ps_for PassesOwn.never rfl (pi_range1 (by rfl) T.b_range (pa_cons (pe_int) pa_nil)) (pg_name (i := 3) nd rfl (Or.inl rfl))
      (pss_cons (ps_set (i := 4) nd rfl (Or.inr rfl) (pe_call G__law_world (hr.mono (by omega)) (by rfl) D__law_world.g D__law_world.F.kp D__law_world.b .nil pass0 (pa_cons (pv 2) pa_nil)))
      (pss_cons (ps_set (i := 5) nd rfl (Or.inl rfl) (pe_and (pe_cmpR op_eq (pe_dget (du hr) (pv 4) (pe_str) (fun _ _ => rfl)) (pe_str) (nomark _)) (pe_one (pe_cmpR op_gt (pe_callB (r := rLenQ K) call_len_seq (by rfl) T.b_len (by decide +kernel) (pa_cons (pe_dget (du hr) (pv 4) (pe_str) (fun _ _ => rfl)) pa_nil)) (pe_int) (nomark _)))))
      hin))))))
      (pss_one (ps_ret (pe_bl)))), ?_⟩
    have hn1 : ((ns.map V.int).length : Int) = (ns.length : Int) := by rw [List.length_map]
    walk_at "ev"
    refine for_range (lo := 0) (n := _) (fun i σ H' => Hold (∃ s1 s2 s3 s4 s5 s6 s7 s8 s9 s10, σ = [some (.ref a), s1, s2, s3, s4, s5, s6, s7, s8, s9, s10] ∧ Same H H')) (.mk ⟨none, none, none, none, none, none, none, none, none, none, rfl, Same.refl _⟩) ?_ ?_
    · intro i σ Hb hi hP
      obtain ⟨s1, s2, s3, s4, s5, s6, s7, s8, s9, s10, rfl, smb⟩ := hP.un
      have hi3 : i ≤ 100000 := by
        have : (if ((ns.map V.int).length : Int) < 2 then ((ns.map V.int).length : Int) else 2) ≤ 63 := by split <;> omega
        omega
      have hSb := smb.seq hS
      walk_at "ev"
      intro b Hc hb0 smc hbx
      have hbf : H b = none := smb.free hb0
      walk_at "ev"
      refine for_range (lo := 0) (n := _) (fun t σ H' => Hold (∃ s3 s4 s5 s6 s7 s8 s9 s10, σ = [some (.ref a), some (.int (0 + (i : Int))), some (.ref b), s3, s4, s5, s6, s7, s8, s9, s10] ∧ Keep b Hc H' ∧ BoxAt H' b (23000 * (t : Int)))) (.mk ⟨_, _, _, _, _, _, _, _, rfl, Keep.refl _ _, hbx.mono (by omega)⟩) ?_ ?_
      · intro t σ Hd ht hP2
        obtain ⟨s3, s4, s5, s6, s7, s8, s9, s10, rfl, kd, hbd⟩ := hP2.un
        have ht2 : t < 2 := ht
        walk_at "ev"
        intro d He hd1 ke hbe g hW
        have hW' := hW
        cases g with
        | rests p =>
          obtain ⟨h1, h2, gg, hlg, h3⟩ := hW
          obtain ⟨g1, g2⟩ := dget_r h3
          walk_at "ev"
          refine fin _ He b d (.rests p) _ _ _ _ _ _ _ _ _ _ hbe (by omega) hW' fun H' y6 y7 y8 y9 y10 k hb' => ?_
          exact .mk ⟨_, _, _, _, _, _, _, _, rfl, kd.trans (ke.trans k), hb'.mono (by push_cast; omega)⟩
        | roots m =>
          obtain ⟨h1, ⟨n1, n31⟩, l, nlb, h4, h5⟩ := hW
          obtain ⟨g1, g2, g3⟩ := dget_w h4
          have hl' : SqL K He l ((whl m).map V.int) ∨ SqT K He l ((whl m).map V.int) := .inl (SqL.of h5)
          walk_at "ev"
          refine fin _ He b d (.roots m) _ _ _ _ _ _ _ _ _ _ hbe (by omega) hW' fun H' y6 y7 y8 y9 y10 k hb' => ?_
          exact .mk ⟨_, _, _, _, _, _, _, _, rfl, kd.trans (ke.trans k), hb'.mono (by push_cast; omega)⟩
      · intro σ H' hP2
        obtain ⟨s3, s4, s5, s6, s7, s8, s9, s10, rfl, kd, hbd⟩ := hP2.un
        exact .mk ⟨_, _, _, _, _, _, _, _, _, _, rfl, keep_same (smb.trans smc) hbf kd⟩
    · intro σ Hb hP
      obtain ⟨s1, s2, s3, s4, s5, s6, s7, s8, s9, s10, rfl, smb⟩ := hP.un
      walk_at "ev"
      exact q _
end
theorem all_mk {l : PySem.W.OpenLaw} {w : World} {K : PySem.W.Frag} {h : Heap} {mg : Str → Option Value} {fa : Addr} (X : K.In h) (G : h.Ns mainGlobals mg) (hfa : mg "law" = some (.ref fa))
    {od0 an0 : Option Addr} {sl0 : Array (Option Value)} {oc0 kV0 dc0 pm0 cd0 ct0 : Value} {f0 : Addr}
    {od1 an1 : Option Addr} {sl1 : Array (Option Value)} {oc1 dc1 pm1 cd1 ct1 : Value} {f1 D1 : Addr}
    {od2 an2 : Option Addr} {sl2 : Array (Option Value)} {oc2 kV2 dc2 pm2 cd2 ct2 : Value} {f2 : Addr}
    {od3 an3 : Option Addr} {sl3 : Array (Option Value)} {oc3 kV3 dc3 pm3 cd3 ct3 : Value} {f3 : Addr}
    {od4 an4 : Option Addr} {sl4 : Array (Option Value)} {oc4 kV4 dc4 pm4 cd4 ct4 : Value} {f4 : Addr}
    {od5 an5 : Option Addr} {sl5 : Array (Option Value)} {oc5 kV5 dc5 pm5 cd5 ct5 : Value} {f5 : Addr}
    {od6 an6 : Option Addr} {sl6 : Array (Option Value)} {oc6 kV6 dc6 pm6 cd6 ct6 : Value} {f6 : Addr}
    {od7 an7 : Option Addr} {sl7 : Array (Option Value)} {oc7 kV7 dc7 pm7 cd7 ct7 : Value} {f7 : Addr}
    {od8 an8 : Option Addr} {sl8 : Array (Option Value)} {oc8 kV8 dc8 pm8 cd8 ct8 : Value} {f8 : Addr}
    {od9 an9 : Option Addr} {sl9 : Array (Option Value)} {oc9 kV9 dc9 pm9 cd9 ct9 : Value} {f9 : Addr}
    {od10 an10 : Option Addr} {sl10 : Array (Option Value)} {oc10 kV10 dc10 pm10 cd10 ct10 : Value} {f10 : Addr}
    {od11 an11 : Option Addr} {sl11 : Array (Option Value)} {oc11 kV11 dc11 pm11 cd11 ct11 : Value} {f11 : Addr}
    {od12 an12 : Option Addr} {sl12 : Array (Option Value)} {oc12 kV12 dc12 pm12 cd12 ct12 : Value} {f12 : Addr}
    {od13 an13 : Option Addr} {sl13 : Array (Option Value)} {oc13 kV13 dc13 pm13 cd13 ct13 : Value} {f13 : Addr}
    {od14 an14 : Option Addr} {sl14 : Array (Option Value)} {oc14 kV14 dc14 pm14 cd14 ct14 : Value} {f14 : Addr}
    {od15 an15 : Option Addr} {sl15 : Array (Option Value)} {oc15 kV15 dc15 pm15 cd15 ct15 : Value} {f15 : Addr}
    {od16 an16 : Option Addr} {sl16 : Array (Option Value)} {oc16 kV16 dc16 pm16 cd16 ct16 : Value} {f16 : Addr}
    {od17 an17 : Option Addr} {sl17 : Array (Option Value)} {oc17 kV17 dc17 pm17 cd17 ct17 : Value} {f17 : Addr}
    {od18 an18 : Option Addr} {sl18 : Array (Option Value)} {oc18 kV18 dc18 pm18 cd18 ct18 : Value} {f18 : Addr}
    {od19 an19 : Option Addr} {sl19 : Array (Option Value)} {oc19 kV19 dc19 pm19 cd19 ct19 : Value} {f19 : Addr}
    {od20 an20 : Option Addr} {sl20 : Array (Option Value)} {oc20 kV20 dc20 pm20 cd20 ct20 : Value} {f20 : Addr}
    {od21 an21 : Option Addr} {sl21 : Array (Option Value)} {oc21 kV21 dc21 pm21 cd21 ct21 : Value} {f21 : Addr}
    {od22 an22 : Option Addr} {sl22 : Array (Option Value)} {oc22 kV22 dc22 pm22 cd22 ct22 : Value} {f22 : Addr}
    {od23 an23 : Option Addr} {sl23 : Array (Option Value)} {oc23 kV23 dc23 pm23 cd23 ct23 : Value} {f23 : Addr}
    {od24 an24 : Option Addr} {sl24 : Array (Option Value)} {oc24 kV24 dc24 pm24 cd24 ct24 : Value} {f24 : Addr}
    {od25 an25 : Option Addr} {sl25 : Array (Option Value)} {oc25 kV25 dc25 pm25 cd25 ct25 : Value} {f25 : Addr}
    {od26 an26 : Option Addr} {sl26 : Array (Option Value)} {oc26 kV26 dc26 pm26 cd26 ct26 : Value} {f26 : Addr}
    {od27 an27 : Option Addr} {sl27 : Array (Option Value)} {oc27 kV27 dc27 pm27 cd27 ct27 : Value} {f27 : Addr}
    {od28 an28 : Option Addr} {sl28 : Array (Option Value)} {oc28 kV28 dc28 pm28 cd28 ct28 : Value} {f28 : Addr}
    {od29 an29 : Option Addr} {sl29 : Array (Option Value)} {oc29 kV29 dc29 pm29 cd29 ct29 : Value} {f29 : Addr}
    {od30 an30 : Option Addr} {sl30 : Array (Option Value)} {oc30 kV30 dc30 pm30 cd30 ct30 : Value} {f30 : Addr}
    {od31 an31 : Option Addr} {sl31 : Array (Option Value)} {oc31 kV31 dc31 pm31 cd31 ct31 : Value} {f31 : Addr}
    {od32 an32 : Option Addr} {sl32 : Array (Option Value)} {oc32 kV32 dc32 pm32 cd32 ct32 : Value} {f32 : Addr}
    {od33 an33 : Option Addr} {sl33 : Array (Option Value)} {oc33 kV33 dc33 pm33 cd33 ct33 : Value} {f33 : Addr}
    {od34 an34 : Option Addr} {sl34 : Array (Option Value)} {oc34 kV34 dc34 pm34 cd34 ct34 : Value} {f34 : Addr}
    {od35 an35 : Option Addr} {sl35 : Array (Option Value)} {oc35 kV35 dc35 pm35 cd35 ct35 : Value} {f35 : Addr}
    {od36 an36 : Option Addr} {sl36 : Array (Option Value)} {oc36 kV36 dc36 pm36 cd36 ct36 : Value} {f36 : Addr}
    {od37 an37 : Option Addr} {sl37 : Array (Option Value)} {oc37 kV37 dc37 pm37 cd37 ct37 : Value} {f37 : Addr}
    {od38 an38 : Option Addr} {sl38 : Array (Option Value)} {oc38 kV38 dc38 pm38 cd38 ct38 : Value} {f38 : Addr}
    {od39 an39 : Option Addr} {sl39 : Array (Option Value)} {oc39 kV39 dc39 pm39 cd39 ct39 : Value} {f39 : Addr}
    {fI : Addr} {odI anI : Option Addr} {slI : Array (Option Value)} {ocI kVI dcI pmI cdI ctI : Value}
    {C_TurnError : Addr}
    {C_BadGround : Addr}
    {C_NoRoot : Addr}
    {C_NoShare : Addr}
    {C_NoInverse : Addr}
    {C_Rests : Addr}
    {C_Roots : Addr}
    {nm_BadGround q_BadGround : Str} {N_BadGround : Addr} {bs_BadGround : List Value} {sn_BadGround : List Str} {sb_BadGround : List Value} {ab_BadGround : Bool} {co_BadGround : Option Bool} {dd_BadGround : Option Addr} {m0_BadGround m1_BadGround m2_BadGround m3_BadGround m5_BadGround : Option Value}
    {nm_NoRoot q_NoRoot : Str} {N_NoRoot : Addr} {bs_NoRoot : List Value} {sn_NoRoot : List Str} {sb_NoRoot : List Value} {ab_NoRoot : Bool} {co_NoRoot : Option Bool} {dd_NoRoot : Option Addr} {m0_NoRoot m1_NoRoot m2_NoRoot m3_NoRoot m5_NoRoot : Option Value}
    {nm_NoShare q_NoShare : Str} {N_NoShare : Addr} {bs_NoShare : List Value} {sn_NoShare : List Str} {sb_NoShare : List Value} {ab_NoShare : Bool} {co_NoShare : Option Bool} {dd_NoShare : Option Addr} {m0_NoShare m1_NoShare m2_NoShare m3_NoShare m5_NoShare : Option Value}
    {nm_NoInverse q_NoInverse : Str} {N_NoInverse : Addr} {bs_NoInverse : List Value} {sn_NoInverse : List Str} {sb_NoInverse : List Value} {ab_NoInverse : Bool} {co_NoInverse : Option Bool} {dd_NoInverse : Option Addr} {m0_NoInverse m1_NoInverse m2_NoInverse m3_NoInverse m5_NoInverse : Option Value}
    {t_MOST_PRIME : Tok}
    {t_MOST_ORDER : Tok}
    {od_Rests___init__ an_Rests___init__ : Option Addr} {sl_Rests___init__ : Array (Option Value)} {oc_Rests___init__ kV_Rests___init__ dc_Rests___init__ pm_Rests___init__ cd_Rests___init__ ct_Rests___init__ : Value} {f_Rests___init__ : Addr}
    {od_Rests_sum_of an_Rests_sum_of : Option Addr} {sl_Rests_sum_of : Array (Option Value)} {oc_Rests_sum_of kV_Rests_sum_of dc_Rests_sum_of pm_Rests_sum_of cd_Rests_sum_of ct_Rests_sum_of : Value} {f_Rests_sum_of : Addr}
    {od_Rests_product_of an_Rests_product_of : Option Addr} {sl_Rests_product_of : Array (Option Value)} {oc_Rests_product_of kV_Rests_product_of dc_Rests_product_of pm_Rests_product_of cd_Rests_product_of ct_Rests_product_of : Value} {f_Rests_product_of : Addr}
    {od_Rests_has_root an_Rests_has_root : Option Addr} {sl_Rests_has_root : Array (Option Value)} {oc_Rests_has_root kV_Rests_has_root dc_Rests_has_root pm_Rests_has_root cd_Rests_has_root ct_Rests_has_root : Value} {f_Rests_has_root : Addr}
    {od_Rests_root_at an_Rests_root_at : Option Addr} {sl_Rests_root_at : Array (Option Value)} {oc_Rests_root_at kV_Rests_root_at dc_Rests_root_at pm_Rests_root_at cd_Rests_root_at ct_Rests_root_at : Value} {f_Rests_root_at : Addr}
    {od_Rests_shared_by an_Rests_shared_by : Option Addr} {sl_Rests_shared_by : Array (Option Value)} {oc_Rests_shared_by kV_Rests_shared_by dc_Rests_shared_by pm_Rests_shared_by cd_Rests_shared_by ct_Rests_shared_by : Value} {f_Rests_shared_by : Addr}
    {od_Rests_is_worth an_Rests_is_worth : Option Addr} {sl_Rests_is_worth : Array (Option Value)} {oc_Rests_is_worth kV_Rests_is_worth dc_Rests_is_worth pm_Rests_is_worth cd_Rests_is_worth ct_Rests_is_worth : Value} {f_Rests_is_worth : Addr}
    {od_Roots___init__ an_Roots___init__ : Option Addr} {sl_Roots___init__ : Array (Option Value)} {oc_Roots___init__ kV_Roots___init__ dc_Roots___init__ pm_Roots___init__ cd_Roots___init__ ct_Roots___init__ : Value} {f_Roots___init__ : Addr}
    {od_Roots_sum_of an_Roots_sum_of : Option Addr} {sl_Roots_sum_of : Array (Option Value)} {oc_Roots_sum_of kV_Roots_sum_of dc_Roots_sum_of pm_Roots_sum_of cd_Roots_sum_of ct_Roots_sum_of : Value} {f_Roots_sum_of : Addr}
    {od_Roots_product_of an_Roots_product_of : Option Addr} {sl_Roots_product_of : Array (Option Value)} {oc_Roots_product_of kV_Roots_product_of dc_Roots_product_of pm_Roots_product_of cd_Roots_product_of ct_Roots_product_of : Value} {f_Roots_product_of : Addr}
    {od_Roots_has_root an_Roots_has_root : Option Addr} {sl_Roots_has_root : Array (Option Value)} {oc_Roots_has_root kV_Roots_has_root dc_Roots_has_root pm_Roots_has_root cd_Roots_has_root ct_Roots_has_root : Value} {f_Roots_has_root : Addr}
    {od_Roots_root_at an_Roots_root_at : Option Addr} {sl_Roots_root_at : Array (Option Value)} {oc_Roots_root_at kV_Roots_root_at dc_Roots_root_at pm_Roots_root_at cd_Roots_root_at ct_Roots_root_at : Value} {f_Roots_root_at : Addr}
    {od_Roots_shared_by an_Roots_shared_by : Option Addr} {sl_Roots_shared_by : Array (Option Value)} {oc_Roots_shared_by kV_Roots_shared_by dc_Roots_shared_by pm_Roots_shared_by cd_Roots_shared_by ct_Roots_shared_by : Value} {f_Roots_shared_by : Addr}
    {od_Roots_is_worth an_Roots_is_worth : Option Addr} {sl_Roots_is_worth : Array (Option Value)} {oc_Roots_is_worth kV_Roots_is_worth dc_Roots_is_worth pm_Roots_is_worth cd_Roots_is_worth ct_Roots_is_worth : Value} {f_Roots_is_worth : Addr}
    (g_TurnError : PySem.W.nsIn K mainGlobals "TurnError" = some (some (.ref C_TurnError)))
    (g_BadGround : PySem.W.nsIn K mainGlobals "BadGround" = some (some (.ref C_BadGround)))
    (g_NoRoot : PySem.W.nsIn K mainGlobals "NoRoot" = some (some (.ref C_NoRoot)))
    (g_NoShare : PySem.W.nsIn K mainGlobals "NoShare" = some (some (.ref C_NoShare)))
    (g_NoInverse : PySem.W.nsIn K mainGlobals "NoInverse" = some (some (.ref C_NoInverse)))
    (g_Rests : PySem.W.nsIn K mainGlobals "Rests" = some (some (.ref C_Rests)))
    (g_Roots : PySem.W.nsIn K mainGlobals "Roots" = some (some (.ref C_Roots)))
    (on : PySem.W.specialIn K (.builtin "object.__class__") "__get__" = some (some (.builtin "getset_descriptor.__get__")))
    (ot : PySem.W.takesIn K (.builtin "object.__class__") = some true)
    (eT : PySem.W.subIn K (.ref C_TurnError) (.type "BaseException") = some true)
    (hT : PySem.W.hasDictIn K C_TurnError = true)
    (tT : PySem.W.typeIn K (.ref C_TurnError) = some (.type "type"))
    (xL_BadGround : K.lookup C_BadGround = some (excClassObj nm_BadGround q_BadGround C_BadGround N_BadGround bs_BadGround [.ref C_TurnError, .type "ValueError", .type "Exception", .type "BaseException", .type "object"] true sn_BadGround sb_BadGround ab_BadGround co_BadGround dd_BadGround m0_BadGround m1_BadGround m2_BadGround m3_BadGround m5_BadGround "ValueError.__new__"))
    (sa_BadGround : PySem.W.findIn K (.ref C_BadGround) "__setattr__" = some (some (.builtin "object.__setattr__")))
    (ga_BadGround : PySem.W.findIn K (.ref C_BadGround) "__getattribute__" = some (some (.builtin "BaseException.__getattribute__")))
    (gg_BadGround : PySem.W.findIn K (.ref C_BadGround) "__getattr__" = some none)
    (nw_BadGround : PySem.W.findIn K (.ref C_BadGround) "what" = some none)
    (ii_BadGround : PySem.W.findIn K (.ref C_BadGround) "__init__" = some (some (.ref fI)))
    (oc_BadGround : PySem.W.findIn K (.ref C_BadGround) "__class__" = some (some (.builtin "object.__class__")))
    (kC_BadGround : PySem.W.keepIn K (.ref C_BadGround) = true)
    (eC_BadGround : PySem.W.subIn K (.ref C_BadGround) (.type "BaseException") = some true)
    (tC_BadGround : PySem.W.typeIn K (.ref C_BadGround) = some (.type "type"))
    (hC_BadGround : PySem.W.hasDictIn K C_BadGround = true)
    (mo_BadGround : PySem.W.mroIn K C_BadGround (.type "object") = some true)
    (su_BadGround : PySem.W.subIn K (.ref C_BadGround) (.ref C_TurnError) = some true)
    (kv_BadGround : PySem.W.kitOne K (.ref C_BadGround) (.type "ValueError") = some true)
    (kt_BadGround : PySem.W.kitOne K (.ref C_BadGround) (.ref C_TurnError) = some true)
    (xL_NoRoot : K.lookup C_NoRoot = some (excClassObj nm_NoRoot q_NoRoot C_NoRoot N_NoRoot bs_NoRoot [.ref C_TurnError, .type "ValueError", .type "Exception", .type "BaseException", .type "object"] true sn_NoRoot sb_NoRoot ab_NoRoot co_NoRoot dd_NoRoot m0_NoRoot m1_NoRoot m2_NoRoot m3_NoRoot m5_NoRoot "ValueError.__new__"))
    (sa_NoRoot : PySem.W.findIn K (.ref C_NoRoot) "__setattr__" = some (some (.builtin "object.__setattr__")))
    (ga_NoRoot : PySem.W.findIn K (.ref C_NoRoot) "__getattribute__" = some (some (.builtin "BaseException.__getattribute__")))
    (gg_NoRoot : PySem.W.findIn K (.ref C_NoRoot) "__getattr__" = some none)
    (nw_NoRoot : PySem.W.findIn K (.ref C_NoRoot) "what" = some none)
    (ii_NoRoot : PySem.W.findIn K (.ref C_NoRoot) "__init__" = some (some (.ref fI)))
    (oc_NoRoot : PySem.W.findIn K (.ref C_NoRoot) "__class__" = some (some (.builtin "object.__class__")))
    (kC_NoRoot : PySem.W.keepIn K (.ref C_NoRoot) = true)
    (eC_NoRoot : PySem.W.subIn K (.ref C_NoRoot) (.type "BaseException") = some true)
    (tC_NoRoot : PySem.W.typeIn K (.ref C_NoRoot) = some (.type "type"))
    (hC_NoRoot : PySem.W.hasDictIn K C_NoRoot = true)
    (mo_NoRoot : PySem.W.mroIn K C_NoRoot (.type "object") = some true)
    (su_NoRoot : PySem.W.subIn K (.ref C_NoRoot) (.ref C_TurnError) = some true)
    (kv_NoRoot : PySem.W.kitOne K (.ref C_NoRoot) (.type "ValueError") = some true)
    (kt_NoRoot : PySem.W.kitOne K (.ref C_NoRoot) (.ref C_TurnError) = some true)
    (xL_NoShare : K.lookup C_NoShare = some (excClassObj nm_NoShare q_NoShare C_NoShare N_NoShare bs_NoShare [.ref C_TurnError, .type "ValueError", .type "Exception", .type "BaseException", .type "object"] true sn_NoShare sb_NoShare ab_NoShare co_NoShare dd_NoShare m0_NoShare m1_NoShare m2_NoShare m3_NoShare m5_NoShare "ValueError.__new__"))
    (sa_NoShare : PySem.W.findIn K (.ref C_NoShare) "__setattr__" = some (some (.builtin "object.__setattr__")))
    (ga_NoShare : PySem.W.findIn K (.ref C_NoShare) "__getattribute__" = some (some (.builtin "BaseException.__getattribute__")))
    (gg_NoShare : PySem.W.findIn K (.ref C_NoShare) "__getattr__" = some none)
    (nw_NoShare : PySem.W.findIn K (.ref C_NoShare) "what" = some none)
    (ii_NoShare : PySem.W.findIn K (.ref C_NoShare) "__init__" = some (some (.ref fI)))
    (oc_NoShare : PySem.W.findIn K (.ref C_NoShare) "__class__" = some (some (.builtin "object.__class__")))
    (kC_NoShare : PySem.W.keepIn K (.ref C_NoShare) = true)
    (eC_NoShare : PySem.W.subIn K (.ref C_NoShare) (.type "BaseException") = some true)
    (tC_NoShare : PySem.W.typeIn K (.ref C_NoShare) = some (.type "type"))
    (hC_NoShare : PySem.W.hasDictIn K C_NoShare = true)
    (mo_NoShare : PySem.W.mroIn K C_NoShare (.type "object") = some true)
    (su_NoShare : PySem.W.subIn K (.ref C_NoShare) (.ref C_TurnError) = some true)
    (kv_NoShare : PySem.W.kitOne K (.ref C_NoShare) (.type "ValueError") = some true)
    (kt_NoShare : PySem.W.kitOne K (.ref C_NoShare) (.ref C_TurnError) = some true)
    (xL_NoInverse : K.lookup C_NoInverse = some (excClassObj nm_NoInverse q_NoInverse C_NoInverse N_NoInverse bs_NoInverse [.ref C_TurnError, .type "ValueError", .type "Exception", .type "BaseException", .type "object"] true sn_NoInverse sb_NoInverse ab_NoInverse co_NoInverse dd_NoInverse m0_NoInverse m1_NoInverse m2_NoInverse m3_NoInverse m5_NoInverse "ValueError.__new__"))
    (sa_NoInverse : PySem.W.findIn K (.ref C_NoInverse) "__setattr__" = some (some (.builtin "object.__setattr__")))
    (ga_NoInverse : PySem.W.findIn K (.ref C_NoInverse) "__getattribute__" = some (some (.builtin "BaseException.__getattribute__")))
    (gg_NoInverse : PySem.W.findIn K (.ref C_NoInverse) "__getattr__" = some none)
    (nw_NoInverse : PySem.W.findIn K (.ref C_NoInverse) "what" = some none)
    (ii_NoInverse : PySem.W.findIn K (.ref C_NoInverse) "__init__" = some (some (.ref fI)))
    (oc_NoInverse : PySem.W.findIn K (.ref C_NoInverse) "__class__" = some (some (.builtin "object.__class__")))
    (kC_NoInverse : PySem.W.keepIn K (.ref C_NoInverse) = true)
    (eC_NoInverse : PySem.W.subIn K (.ref C_NoInverse) (.type "BaseException") = some true)
    (tC_NoInverse : PySem.W.typeIn K (.ref C_NoInverse) = some (.type "type"))
    (hC_NoInverse : PySem.W.hasDictIn K C_NoInverse = true)
    (mo_NoInverse : PySem.W.mroIn K C_NoInverse (.type "object") = some true)
    (su_NoInverse : PySem.W.subIn K (.ref C_NoInverse) (.ref C_TurnError) = some true)
    (kv_NoInverse : PySem.W.kitOne K (.ref C_NoInverse) (.type "ValueError") = some true)
    (kt_NoInverse : PySem.W.kitOne K (.ref C_NoInverse) (.ref C_TurnError) = some true)
    (lI : K.lookup fI = some ⟨ocI, odI, .func (PySem.W.fnOf "__init__" "TurnError.__init__" (defArgs s_init) (defBody s_init) (defScope s_init) .none kVI dcI pmI anI cdI ctI), slI⟩)
    (cI : PySem.W.codeIn K cdI "TurnError.__init__" = true)
    (kI : PySem.W.keepIn K (.ref fI) = true)
    (tI : PySem.W.typeIn K (.ref fI) = some (.type "function"))
    (g_MOST_PRIME : PySem.W.nsIn K mainGlobals "MOST_PRIME" = some (some (.int 10000 t_MOST_PRIME)))
    (g_MOST_ORDER : PySem.W.nsIn K mainGlobals "MOST_ORDER" = some (some (.int 30 t_MOST_ORDER)))
    (pg_Rests : PySem.W.plainGet K C_Rests Str.empty = true)
    (hd_Rests : PySem.W.hasDictIn K C_Rests = true)
    (po_Rests : PySem.W.plainOver K C_Rests = true)
    (sa_Rests : PySem.W.findIn K (.ref C_Rests) "__setattr__" = some (some (.builtin "object.__setattr__")))
    (mk_Rests : PySem.W.makesIn K C_Rests = true)
    (kc_Rests : PySem.W.keepIn K (.ref C_Rests) = true)
    (nf_Rests_prime : PySem.W.findIn K (.ref C_Rests) "prime" = some none)
    (nf_Rests_base : PySem.W.findIn K (.ref C_Rests) "base" = some none)
    (at_Rests___init__ : PySem.W.findIn K (.ref C_Rests) "__init__" = some (some (.ref f_Rests___init__)))
    (lk_Rests___init__ : K.lookup f_Rests___init__ = some ⟨oc_Rests___init__, od_Rests___init__, .func (PySem.W.fnOf "__init__" "Rests.__init__" (defArgs s_Rests___init__) (defBody s_Rests___init__) (defScope s_Rests___init__) .none kV_Rests___init__ dc_Rests___init__ pm_Rests___init__ an_Rests___init__ cd_Rests___init__ ct_Rests___init__), sl_Rests___init__⟩)
    (cn_Rests___init__ : PySem.W.codeIn K cd_Rests___init__ "Rests.__init__" = true)
    (kp_Rests___init__ : PySem.W.keepIn K (.ref f_Rests___init__) = true)
    (fn_Rests___init__ : PySem.W.isFn K (.ref f_Rests___init__) = true)
    (at_Rests_sum_of : PySem.W.findIn K (.ref C_Rests) "sum_of" = some (some (.ref f_Rests_sum_of)))
    (lk_Rests_sum_of : K.lookup f_Rests_sum_of = some ⟨oc_Rests_sum_of, od_Rests_sum_of, .func (PySem.W.fnOf "sum_of" "Rests.sum_of" (defArgs s_Rests_sum_of) (defBody s_Rests_sum_of) (defScope s_Rests_sum_of) .none kV_Rests_sum_of dc_Rests_sum_of pm_Rests_sum_of an_Rests_sum_of cd_Rests_sum_of ct_Rests_sum_of), sl_Rests_sum_of⟩)
    (cn_Rests_sum_of : PySem.W.codeIn K cd_Rests_sum_of "Rests.sum_of" = true)
    (kp_Rests_sum_of : PySem.W.keepIn K (.ref f_Rests_sum_of) = true)
    (fn_Rests_sum_of : PySem.W.isFn K (.ref f_Rests_sum_of) = true)
    (at_Rests_product_of : PySem.W.findIn K (.ref C_Rests) "product_of" = some (some (.ref f_Rests_product_of)))
    (lk_Rests_product_of : K.lookup f_Rests_product_of = some ⟨oc_Rests_product_of, od_Rests_product_of, .func (PySem.W.fnOf "product_of" "Rests.product_of" (defArgs s_Rests_product_of) (defBody s_Rests_product_of) (defScope s_Rests_product_of) .none kV_Rests_product_of dc_Rests_product_of pm_Rests_product_of an_Rests_product_of cd_Rests_product_of ct_Rests_product_of), sl_Rests_product_of⟩)
    (cn_Rests_product_of : PySem.W.codeIn K cd_Rests_product_of "Rests.product_of" = true)
    (kp_Rests_product_of : PySem.W.keepIn K (.ref f_Rests_product_of) = true)
    (fn_Rests_product_of : PySem.W.isFn K (.ref f_Rests_product_of) = true)
    (at_Rests_has_root : PySem.W.findIn K (.ref C_Rests) "has_root" = some (some (.ref f_Rests_has_root)))
    (lk_Rests_has_root : K.lookup f_Rests_has_root = some ⟨oc_Rests_has_root, od_Rests_has_root, .func (PySem.W.fnOf "has_root" "Rests.has_root" (defArgs s_Rests_has_root) (defBody s_Rests_has_root) (defScope s_Rests_has_root) .none kV_Rests_has_root dc_Rests_has_root pm_Rests_has_root an_Rests_has_root cd_Rests_has_root ct_Rests_has_root), sl_Rests_has_root⟩)
    (cn_Rests_has_root : PySem.W.codeIn K cd_Rests_has_root "Rests.has_root" = true)
    (kp_Rests_has_root : PySem.W.keepIn K (.ref f_Rests_has_root) = true)
    (fn_Rests_has_root : PySem.W.isFn K (.ref f_Rests_has_root) = true)
    (at_Rests_root_at : PySem.W.findIn K (.ref C_Rests) "root_at" = some (some (.ref f_Rests_root_at)))
    (lk_Rests_root_at : K.lookup f_Rests_root_at = some ⟨oc_Rests_root_at, od_Rests_root_at, .func (PySem.W.fnOf "root_at" "Rests.root_at" (defArgs s_Rests_root_at) (defBody s_Rests_root_at) (defScope s_Rests_root_at) .none kV_Rests_root_at dc_Rests_root_at pm_Rests_root_at an_Rests_root_at cd_Rests_root_at ct_Rests_root_at), sl_Rests_root_at⟩)
    (cn_Rests_root_at : PySem.W.codeIn K cd_Rests_root_at "Rests.root_at" = true)
    (kp_Rests_root_at : PySem.W.keepIn K (.ref f_Rests_root_at) = true)
    (fn_Rests_root_at : PySem.W.isFn K (.ref f_Rests_root_at) = true)
    (at_Rests_shared_by : PySem.W.findIn K (.ref C_Rests) "shared_by" = some (some (.ref f_Rests_shared_by)))
    (lk_Rests_shared_by : K.lookup f_Rests_shared_by = some ⟨oc_Rests_shared_by, od_Rests_shared_by, .func (PySem.W.fnOf "shared_by" "Rests.shared_by" (defArgs s_Rests_shared_by) (defBody s_Rests_shared_by) (defScope s_Rests_shared_by) .none kV_Rests_shared_by dc_Rests_shared_by pm_Rests_shared_by an_Rests_shared_by cd_Rests_shared_by ct_Rests_shared_by), sl_Rests_shared_by⟩)
    (cn_Rests_shared_by : PySem.W.codeIn K cd_Rests_shared_by "Rests.shared_by" = true)
    (kp_Rests_shared_by : PySem.W.keepIn K (.ref f_Rests_shared_by) = true)
    (fn_Rests_shared_by : PySem.W.isFn K (.ref f_Rests_shared_by) = true)
    (at_Rests_is_worth : PySem.W.findIn K (.ref C_Rests) "is_worth" = some (some (.ref f_Rests_is_worth)))
    (lk_Rests_is_worth : K.lookup f_Rests_is_worth = some ⟨oc_Rests_is_worth, od_Rests_is_worth, .func (PySem.W.fnOf "is_worth" "Rests.is_worth" (defArgs s_Rests_is_worth) (defBody s_Rests_is_worth) (defScope s_Rests_is_worth) .none kV_Rests_is_worth dc_Rests_is_worth pm_Rests_is_worth an_Rests_is_worth cd_Rests_is_worth ct_Rests_is_worth), sl_Rests_is_worth⟩)
    (cn_Rests_is_worth : PySem.W.codeIn K cd_Rests_is_worth "Rests.is_worth" = true)
    (kp_Rests_is_worth : PySem.W.keepIn K (.ref f_Rests_is_worth) = true)
    (fn_Rests_is_worth : PySem.W.isFn K (.ref f_Rests_is_worth) = true)
    (pg_Roots : PySem.W.plainGet K C_Roots Str.empty = true)
    (hd_Roots : PySem.W.hasDictIn K C_Roots = true)
    (po_Roots : PySem.W.plainOver K C_Roots = true)
    (sa_Roots : PySem.W.findIn K (.ref C_Roots) "__setattr__" = some (some (.builtin "object.__setattr__")))
    (mk_Roots : PySem.W.makesIn K C_Roots = true)
    (kc_Roots : PySem.W.keepIn K (.ref C_Roots) = true)
    (nf_Roots_order : PySem.W.findIn K (.ref C_Roots) "order" = some none)
    (nf_Roots_rim : PySem.W.findIn K (.ref C_Roots) "rim" = some none)
    (at_Roots___init__ : PySem.W.findIn K (.ref C_Roots) "__init__" = some (some (.ref f_Roots___init__)))
    (lk_Roots___init__ : K.lookup f_Roots___init__ = some ⟨oc_Roots___init__, od_Roots___init__, .func (PySem.W.fnOf "__init__" "Roots.__init__" (defArgs s_Roots___init__) (defBody s_Roots___init__) (defScope s_Roots___init__) .none kV_Roots___init__ dc_Roots___init__ pm_Roots___init__ an_Roots___init__ cd_Roots___init__ ct_Roots___init__), sl_Roots___init__⟩)
    (cn_Roots___init__ : PySem.W.codeIn K cd_Roots___init__ "Roots.__init__" = true)
    (kp_Roots___init__ : PySem.W.keepIn K (.ref f_Roots___init__) = true)
    (fn_Roots___init__ : PySem.W.isFn K (.ref f_Roots___init__) = true)
    (at_Roots_sum_of : PySem.W.findIn K (.ref C_Roots) "sum_of" = some (some (.ref f_Roots_sum_of)))
    (lk_Roots_sum_of : K.lookup f_Roots_sum_of = some ⟨oc_Roots_sum_of, od_Roots_sum_of, .func (PySem.W.fnOf "sum_of" "Roots.sum_of" (defArgs s_Roots_sum_of) (defBody s_Roots_sum_of) (defScope s_Roots_sum_of) .none kV_Roots_sum_of dc_Roots_sum_of pm_Roots_sum_of an_Roots_sum_of cd_Roots_sum_of ct_Roots_sum_of), sl_Roots_sum_of⟩)
    (cn_Roots_sum_of : PySem.W.codeIn K cd_Roots_sum_of "Roots.sum_of" = true)
    (kp_Roots_sum_of : PySem.W.keepIn K (.ref f_Roots_sum_of) = true)
    (fn_Roots_sum_of : PySem.W.isFn K (.ref f_Roots_sum_of) = true)
    (at_Roots_product_of : PySem.W.findIn K (.ref C_Roots) "product_of" = some (some (.ref f_Roots_product_of)))
    (lk_Roots_product_of : K.lookup f_Roots_product_of = some ⟨oc_Roots_product_of, od_Roots_product_of, .func (PySem.W.fnOf "product_of" "Roots.product_of" (defArgs s_Roots_product_of) (defBody s_Roots_product_of) (defScope s_Roots_product_of) .none kV_Roots_product_of dc_Roots_product_of pm_Roots_product_of an_Roots_product_of cd_Roots_product_of ct_Roots_product_of), sl_Roots_product_of⟩)
    (cn_Roots_product_of : PySem.W.codeIn K cd_Roots_product_of "Roots.product_of" = true)
    (kp_Roots_product_of : PySem.W.keepIn K (.ref f_Roots_product_of) = true)
    (fn_Roots_product_of : PySem.W.isFn K (.ref f_Roots_product_of) = true)
    (at_Roots_has_root : PySem.W.findIn K (.ref C_Roots) "has_root" = some (some (.ref f_Roots_has_root)))
    (lk_Roots_has_root : K.lookup f_Roots_has_root = some ⟨oc_Roots_has_root, od_Roots_has_root, .func (PySem.W.fnOf "has_root" "Roots.has_root" (defArgs s_Roots_has_root) (defBody s_Roots_has_root) (defScope s_Roots_has_root) .none kV_Roots_has_root dc_Roots_has_root pm_Roots_has_root an_Roots_has_root cd_Roots_has_root ct_Roots_has_root), sl_Roots_has_root⟩)
    (cn_Roots_has_root : PySem.W.codeIn K cd_Roots_has_root "Roots.has_root" = true)
    (kp_Roots_has_root : PySem.W.keepIn K (.ref f_Roots_has_root) = true)
    (fn_Roots_has_root : PySem.W.isFn K (.ref f_Roots_has_root) = true)
    (at_Roots_root_at : PySem.W.findIn K (.ref C_Roots) "root_at" = some (some (.ref f_Roots_root_at)))
    (lk_Roots_root_at : K.lookup f_Roots_root_at = some ⟨oc_Roots_root_at, od_Roots_root_at, .func (PySem.W.fnOf "root_at" "Roots.root_at" (defArgs s_Roots_root_at) (defBody s_Roots_root_at) (defScope s_Roots_root_at) .none kV_Roots_root_at dc_Roots_root_at pm_Roots_root_at an_Roots_root_at cd_Roots_root_at ct_Roots_root_at), sl_Roots_root_at⟩)
    (cn_Roots_root_at : PySem.W.codeIn K cd_Roots_root_at "Roots.root_at" = true)
    (kp_Roots_root_at : PySem.W.keepIn K (.ref f_Roots_root_at) = true)
    (fn_Roots_root_at : PySem.W.isFn K (.ref f_Roots_root_at) = true)
    (at_Roots_shared_by : PySem.W.findIn K (.ref C_Roots) "shared_by" = some (some (.ref f_Roots_shared_by)))
    (lk_Roots_shared_by : K.lookup f_Roots_shared_by = some ⟨oc_Roots_shared_by, od_Roots_shared_by, .func (PySem.W.fnOf "shared_by" "Roots.shared_by" (defArgs s_Roots_shared_by) (defBody s_Roots_shared_by) (defScope s_Roots_shared_by) .none kV_Roots_shared_by dc_Roots_shared_by pm_Roots_shared_by an_Roots_shared_by cd_Roots_shared_by ct_Roots_shared_by), sl_Roots_shared_by⟩)
    (cn_Roots_shared_by : PySem.W.codeIn K cd_Roots_shared_by "Roots.shared_by" = true)
    (kp_Roots_shared_by : PySem.W.keepIn K (.ref f_Roots_shared_by) = true)
    (fn_Roots_shared_by : PySem.W.isFn K (.ref f_Roots_shared_by) = true)
    (at_Roots_is_worth : PySem.W.findIn K (.ref C_Roots) "is_worth" = some (some (.ref f_Roots_is_worth)))
    (lk_Roots_is_worth : K.lookup f_Roots_is_worth = some ⟨oc_Roots_is_worth, od_Roots_is_worth, .func (PySem.W.fnOf "is_worth" "Roots.is_worth" (defArgs s_Roots_is_worth) (defBody s_Roots_is_worth) (defScope s_Roots_is_worth) .none kV_Roots_is_worth dc_Roots_is_worth pm_Roots_is_worth an_Roots_is_worth cd_Roots_is_worth ct_Roots_is_worth), sl_Roots_is_worth⟩)
    (cn_Roots_is_worth : PySem.W.codeIn K cd_Roots_is_worth "Roots.is_worth" = true)
    (kp_Roots_is_worth : PySem.W.keepIn K (.ref f_Roots_is_worth) = true)
    (fn_Roots_is_worth : PySem.W.isFn K (.ref f_Roots_is_worth) = true)
    (sx_NoRoot : PySem.W.subIn K (.ref C_NoRoot) (.ref C_NoRoot) = some true)
    (a0 : PySem.W.nsIn K mainGlobals "sum_at" = some (some (.ref f0))) (l0 : K.lookup f0 = some ⟨oc0, od0, .func (PySem.W.fnOf "sum_at" "sum_at" (defArgs s_sum_at) (defBody s_sum_at) (defScope s_sum_at) .none kV0 dc0 pm0 an0 cd0 ct0), sl0⟩) (c0 : PySem.W.codeIn K cd0 "sum_at" = true) (k0 : PySem.W.keepIn K (.ref f0) = true)
    (a1 : PySem.W.nsIn K mainGlobals "plain_turning" = some (some (.ref f1))) (l1 : K.lookup f1 = some ⟨oc1, od1, .func (PySem.W.fnOf "plain_turning" "plain_turning" (defArgs s_plain_turning) (defBody s_plain_turning) (defScope s_plain_turning) .none (.ref D1) dc1 pm1 an1 cd1 ct1), sl1⟩) (c1 : PySem.W.codeIn K cd1 "plain_turning" = true) (k1 : PySem.W.keepIn K (.ref f1) = true) (n1_back : PySem.W.nsIn K D1 "back" = some (some (.bool false)))
    (a2 : PySem.W.nsIn K mainGlobals "shows_turning" = some (some (.ref f2))) (l2 : K.lookup f2 = some ⟨oc2, od2, .func (PySem.W.fnOf "shows_turning" "shows_turning" (defArgs s_shows_turning) (defBody s_shows_turning) (defScope s_shows_turning) .none kV2 dc2 pm2 an2 cd2 ct2), sl2⟩) (c2 : PySem.W.codeIn K cd2 "shows_turning" = true) (k2 : PySem.W.keepIn K (.ref f2) = true)
    (a3 : PySem.W.nsIn K mainGlobals "is_whole" = some (some (.ref f3))) (l3 : K.lookup f3 = some ⟨oc3, od3, .func (PySem.W.fnOf "is_whole" "is_whole" (defArgs s_is_whole) (defBody s_is_whole) (defScope s_is_whole) .none kV3 dc3 pm3 an3 cd3 ct3), sl3⟩) (c3 : PySem.W.codeIn K cd3 "is_whole" = true) (k3 : PySem.W.keepIn K (.ref f3) = true)
    (a4 : PySem.W.nsIn K mainGlobals "is_prime" = some (some (.ref f4))) (l4 : K.lookup f4 = some ⟨oc4, od4, .func (PySem.W.fnOf "is_prime" "is_prime" (defArgs s_is_prime) (defBody s_is_prime) (defScope s_is_prime) .none kV4 dc4 pm4 an4 cd4 ct4), sl4⟩) (c4 : PySem.W.codeIn K cd4 "is_prime" = true) (k4 : PySem.W.keepIn K (.ref f4) = true)
    (a5 : PySem.W.nsIn K mainGlobals "factors" = some (some (.ref f5))) (l5 : K.lookup f5 = some ⟨oc5, od5, .func (PySem.W.fnOf "factors" "factors" (defArgs s_factors) (defBody s_factors) (defScope s_factors) .none kV5 dc5 pm5 an5 cd5 ct5), sl5⟩) (c5 : PySem.W.codeIn K cd5 "factors" = true) (k5 : PySem.W.keepIn K (.ref f5) = true)
    (a6 : PySem.W.nsIn K mainGlobals "divisors" = some (some (.ref f6))) (l6 : K.lookup f6 = some ⟨oc6, od6, .func (PySem.W.fnOf "divisors" "divisors" (defArgs s_divisors) (defBody s_divisors) (defScope s_divisors) .none kV6 dc6 pm6 an6 cd6 ct6), sl6⟩) (c6 : PySem.W.codeIn K cd6 "divisors" = true) (k6 : PySem.W.keepIn K (.ref f6) = true)
    (a7 : PySem.W.nsIn K mainGlobals "inverse" = some (some (.ref f7))) (l7 : K.lookup f7 = some ⟨oc7, od7, .func (PySem.W.fnOf "inverse" "inverse" (defArgs s_inverse) (defBody s_inverse) (defScope s_inverse) .none kV7 dc7 pm7 an7 cd7 ct7), sl7⟩) (c7 : PySem.W.codeIn K cd7 "inverse" = true) (k7 : PySem.W.keepIn K (.ref f7) = true)
    (a8 : PySem.W.nsIn K mainGlobals "power_rest" = some (some (.ref f8))) (l8 : K.lookup f8 = some ⟨oc8, od8, .func (PySem.W.fnOf "power_rest" "power_rest" (defArgs s_power_rest) (defBody s_power_rest) (defScope s_power_rest) .none kV8 dc8 pm8 an8 cd8 ct8), sl8⟩) (c8 : PySem.W.codeIn K cd8 "power_rest" = true) (k8 : PySem.W.keepIn K (.ref f8) = true)
    (a9 : PySem.W.nsIn K mainGlobals "generator" = some (some (.ref f9))) (l9 : K.lookup f9 = some ⟨oc9, od9, .func (PySem.W.fnOf "generator" "generator" (defArgs s_generator) (defBody s_generator) (defScope s_generator) .none kV9 dc9 pm9 an9 cd9 ct9), sl9⟩) (c9 : PySem.W.codeIn K cd9 "generator" = true) (k9 : PySem.W.keepIn K (.ref f9) = true)
    (a10 : PySem.W.nsIn K mainGlobals "divided" = some (some (.ref f10))) (l10 : K.lookup f10 = some ⟨oc10, od10, .func (PySem.W.fnOf "divided" "divided" (defArgs s_divided) (defBody s_divided) (defScope s_divided) .none kV10 dc10 pm10 an10 cd10 ct10), sl10⟩) (c10 : PySem.W.codeIn K cd10 "divided" = true) (k10 : PySem.W.keepIn K (.ref f10) = true)
    (a11 : PySem.W.nsIn K mainGlobals "multiplied" = some (some (.ref f11))) (l11 : K.lookup f11 = some ⟨oc11, od11, .func (PySem.W.fnOf "multiplied" "multiplied" (defArgs s_multiplied) (defBody s_multiplied) (defScope s_multiplied) .none kV11 dc11 pm11 an11 cd11 ct11), sl11⟩) (c11 : PySem.W.codeIn K cd11 "multiplied" = true) (k11 : PySem.W.keepIn K (.ref f11) = true)
    (a12 : PySem.W.nsIn K mainGlobals "wheel" = some (some (.ref f12))) (l12 : K.lookup f12 = some ⟨oc12, od12, .func (PySem.W.fnOf "wheel" "wheel" (defArgs s_wheel) (defBody s_wheel) (defScope s_wheel) .none kV12 dc12 pm12 an12 cd12 ct12), sl12⟩) (c12 : PySem.W.codeIn K cd12 "wheel" = true) (k12 : PySem.W.keepIn K (.ref f12) = true)
    (a13 : PySem.W.nsIn K mainGlobals "_law_box" = some (some (.ref f13))) (l13 : K.lookup f13 = some ⟨oc13, od13, .func (PySem.W.fnOf "_law_box" "_law_box" (defArgs s__law_box) (defBody s__law_box) (defScope s__law_box) .none kV13 dc13 pm13 an13 cd13 ct13), sl13⟩) (c13 : PySem.W.codeIn K cd13 "_law_box" = true) (k13 : PySem.W.keepIn K (.ref f13) = true)
    (a14 : PySem.W.nsIn K mainGlobals "_law_take" = some (some (.ref f14))) (l14 : K.lookup f14 = some ⟨oc14, od14, .func (PySem.W.fnOf "_law_take" "_law_take" (defArgs s__law_take) (defBody s__law_take) (defScope s__law_take) .none kV14 dc14 pm14 an14 cd14 ct14), sl14⟩) (c14 : PySem.W.codeIn K cd14 "_law_take" = true) (k14 : PySem.W.keepIn K (.ref f14) = true)
    (a15 : PySem.W.nsIn K mainGlobals "_law_pick" = some (some (.ref f15))) (l15 : K.lookup f15 = some ⟨oc15, od15, .func (PySem.W.fnOf "_law_pick" "_law_pick" (defArgs s__law_pick) (defBody s__law_pick) (defScope s__law_pick) .none kV15 dc15 pm15 an15 cd15 ct15), sl15⟩) (c15 : PySem.W.codeIn K cd15 "_law_pick" = true) (k15 : PySem.W.keepIn K (.ref f15) = true)
    (a16 : PySem.W.nsIn K mainGlobals "_law_same" = some (some (.ref f16))) (l16 : K.lookup f16 = some ⟨oc16, od16, .func (PySem.W.fnOf "_law_same" "_law_same" (defArgs s__law_same) (defBody s__law_same) (defScope s__law_same) .none kV16 dc16 pm16 an16 cd16 ct16), sl16⟩) (c16 : PySem.W.codeIn K cd16 "_law_same" = true) (k16 : PySem.W.keepIn K (.ref f16) = true)
    (a17 : PySem.W.nsIn K mainGlobals "_law_raised" = some (some (.ref f17))) (l17 : K.lookup f17 = some ⟨oc17, od17, .func (PySem.W.fnOf "_law_raised" "_law_raised" (defArgs s__law_raised) (defBody s__law_raised) (defScope s__law_raised) .none kV17 dc17 pm17 an17 cd17 ct17), sl17⟩) (c17 : PySem.W.codeIn K cd17 "_law_raised" = true) (k17 : PySem.W.keepIn K (.ref f17) = true)
    (a18 : PySem.W.nsIn K mainGlobals "_law_is_plain_prime" = some (some (.ref f18))) (l18 : K.lookup f18 = some ⟨oc18, od18, .func (PySem.W.fnOf "_law_is_plain_prime" "_law_is_plain_prime" (defArgs s__law_is_plain_prime) (defBody s__law_is_plain_prime) (defScope s__law_is_plain_prime) .none kV18 dc18 pm18 an18 cd18 ct18), sl18⟩) (c18 : PySem.W.codeIn K cd18 "_law_is_plain_prime" = true) (k18 : PySem.W.keepIn K (.ref f18) = true)
    (a19 : PySem.W.nsIn K mainGlobals "_law_least_generator" = some (some (.ref f19))) (l19 : K.lookup f19 = some ⟨oc19, od19, .func (PySem.W.fnOf "_law_least_generator" "_law_least_generator" (defArgs s__law_least_generator) (defBody s__law_least_generator) (defScope s__law_least_generator) .none kV19 dc19 pm19 an19 cd19 ct19), sl19⟩) (c19 : PySem.W.codeIn K cd19 "_law_least_generator" = true) (k19 : PySem.W.keepIn K (.ref f19) = true)
    (a20 : PySem.W.nsIn K mainGlobals "_law_divided" = some (some (.ref f20))) (l20 : K.lookup f20 = some ⟨oc20, od20, .func (PySem.W.fnOf "_law_divided" "_law_divided" (defArgs s__law_divided) (defBody s__law_divided) (defScope s__law_divided) .none kV20 dc20 pm20 an20 cd20 ct20), sl20⟩) (c20 : PySem.W.codeIn K cd20 "_law_divided" = true) (k20 : PySem.W.keepIn K (.ref f20) = true)
    (a21 : PySem.W.nsIn K mainGlobals "_law_own_wheel" = some (some (.ref f21))) (l21 : K.lookup f21 = some ⟨oc21, od21, .func (PySem.W.fnOf "_law_own_wheel" "_law_own_wheel" (defArgs s__law_own_wheel) (defBody s__law_own_wheel) (defScope s__law_own_wheel) .none kV21 dc21 pm21 an21 cd21 ct21), sl21⟩) (c21 : PySem.W.codeIn K cd21 "_law_own_wheel" = true) (k21 : PySem.W.keepIn K (.ref f21) = true)
    (a22 : PySem.W.nsIn K mainGlobals "_law_world" = some (some (.ref f22))) (l22 : K.lookup f22 = some ⟨oc22, od22, .func (PySem.W.fnOf "_law_world" "_law_world" (defArgs s__law_world) (defBody s__law_world) (defScope s__law_world) .none kV22 dc22 pm22 an22 cd22 ct22), sl22⟩) (c22 : PySem.W.codeIn K cd22 "_law_world" = true) (k22 : PySem.W.keepIn K (.ref f22) = true)
    (a23 : PySem.W.nsIn K mainGlobals "_law_made" = some (some (.ref f23))) (l23 : K.lookup f23 = some ⟨oc23, od23, .func (PySem.W.fnOf "_law_made" "_law_made" (defArgs s__law_made) (defBody s__law_made) (defScope s__law_made) .none kV23 dc23 pm23 an23 cd23 ct23), sl23⟩) (c23 : PySem.W.codeIn K cd23 "_law_made" = true) (k23 : PySem.W.keepIn K (.ref f23) = true)
    (a24 : PySem.W.nsIn K mainGlobals "_law_has" = some (some (.ref f24))) (l24 : K.lookup f24 = some ⟨oc24, od24, .func (PySem.W.fnOf "_law_has" "_law_has" (defArgs s__law_has) (defBody s__law_has) (defScope s__law_has) .none kV24 dc24 pm24 an24 cd24 ct24), sl24⟩) (c24 : PySem.W.codeIn K cd24 "_law_has" = true) (k24 : PySem.W.keepIn K (.ref f24) = true)
    (a25 : PySem.W.nsIn K mainGlobals "_law_lengths" = some (some (.ref f25))) (l25 : K.lookup f25 = some ⟨oc25, od25, .func (PySem.W.fnOf "_law_lengths" "_law_lengths" (defArgs s__law_lengths) (defBody s__law_lengths) (defScope s__law_lengths) .none kV25 dc25 pm25 an25 cd25 ct25), sl25⟩) (c25 : PySem.W.codeIn K cd25 "_law_lengths" = true) (k25 : PySem.W.keepIn K (.ref f25) = true)
    (a26 : PySem.W.nsIn K mainGlobals "_law_whole" = some (some (.ref f26))) (l26 : K.lookup f26 = some ⟨oc26, od26, .func (PySem.W.fnOf "_law_whole" "_law_whole" (defArgs s__law_whole) (defBody s__law_whole) (defScope s__law_whole) .none kV26 dc26 pm26 an26 cd26 ct26), sl26⟩) (c26 : PySem.W.codeIn K cd26 "_law_whole" = true) (k26 : PySem.W.keepIn K (.ref f26) = true)
    (a27 : PySem.W.nsIn K mainGlobals "_law_plus" = some (some (.ref f27))) (l27 : K.lookup f27 = some ⟨oc27, od27, .func (PySem.W.fnOf "_law_plus" "_law_plus" (defArgs s__law_plus) (defBody s__law_plus) (defScope s__law_plus) .none kV27 dc27 pm27 an27 cd27 ct27), sl27⟩) (c27 : PySem.W.codeIn K cd27 "_law_plus" = true) (k27 : PySem.W.keepIn K (.ref f27) = true)
    (a28 : PySem.W.nsIn K mainGlobals "_law_rest_by" = some (some (.ref f28))) (l28 : K.lookup f28 = some ⟨oc28, od28, .func (PySem.W.fnOf "_law_rest_by" "_law_rest_by" (defArgs s__law_rest_by) (defBody s__law_rest_by) (defScope s__law_rest_by) .none kV28 dc28 pm28 an28 cd28 ct28), sl28⟩) (c28 : PySem.W.codeIn K cd28 "_law_rest_by" = true) (k28 : PySem.W.keepIn K (.ref f28) = true)
    (a29 : PySem.W.nsIn K mainGlobals "_law_times" = some (some (.ref f29))) (l29 : K.lookup f29 = some ⟨oc29, od29, .func (PySem.W.fnOf "_law_times" "_law_times" (defArgs s__law_times) (defBody s__law_times) (defScope s__law_times) .none kV29 dc29 pm29 an29 cd29 ct29), sl29⟩) (c29 : PySem.W.codeIn K cd29 "_law_times" = true) (k29 : PySem.W.keepIn K (.ref f29) = true)
    (a30 : PySem.W.nsIn K mainGlobals "_law_roots" = some (some (.ref f30))) (l30 : K.lookup f30 = some ⟨oc30, od30, .func (PySem.W.fnOf "_law_roots" "_law_roots" (defArgs s__law_roots) (defBody s__law_roots) (defScope s__law_roots) .none kV30 dc30 pm30 an30 cd30 ct30), sl30⟩) (c30 : PySem.W.codeIn K cd30 "_law_roots" = true) (k30 : PySem.W.keepIn K (.ref f30) = true)
    (a31 : PySem.W.nsIn K mainGlobals "_law_plainly" = some (some (.ref f31))) (l31 : K.lookup f31 = some ⟨oc31, od31, .func (PySem.W.fnOf "_law_plainly" "_law_plainly" (defArgs s__law_plainly) (defBody s__law_plainly) (defScope s__law_plainly) .none kV31 dc31 pm31 an31 cd31 ct31), sl31⟩) (c31 : PySem.W.codeIn K cd31 "_law_plainly" = true) (k31 : PySem.W.keepIn K (.ref f31) = true)
    (a32 : PySem.W.nsIn K mainGlobals "_law_worth" = some (some (.ref f32))) (l32 : K.lookup f32 = some ⟨oc32, od32, .func (PySem.W.fnOf "_law_worth" "_law_worth" (defArgs s__law_worth) (defBody s__law_worth) (defScope s__law_worth) .none kV32 dc32 pm32 an32 cd32 ct32), sl32⟩) (c32 : PySem.W.codeIn K cd32 "_law_worth" = true) (k32 : PySem.W.keepIn K (.ref f32) = true)
    (a33 : PySem.W.nsIn K mainGlobals "_law_row" = some (some (.ref f33))) (l33 : K.lookup f33 = some ⟨oc33, od33, .func (PySem.W.fnOf "_law_row" "_law_row" (defArgs s__law_row) (defBody s__law_row) (defScope s__law_row) .none kV33 dc33 pm33 an33 cd33 ct33), sl33⟩) (c33 : PySem.W.codeIn K cd33 "_law_row" = true) (k33 : PySem.W.keepIn K (.ref f33) = true)
    (a34 : PySem.W.nsIn K mainGlobals "_law_odd" = some (some (.ref f34))) (l34 : K.lookup f34 = some ⟨oc34, od34, .func (PySem.W.fnOf "_law_odd" "_law_odd" (defArgs s__law_odd) (defBody s__law_odd) (defScope s__law_odd) .none kV34 dc34 pm34 an34 cd34 ct34), sl34⟩) (c34 : PySem.W.codeIn K cd34 "_law_odd" = true) (k34 : PySem.W.keepIn K (.ref f34) = true)
    (a35 : PySem.W.nsIn K mainGlobals "_law_bent" = some (some (.ref f35))) (l35 : K.lookup f35 = some ⟨oc35, od35, .func (PySem.W.fnOf "_law_bent" "_law_bent" (defArgs s__law_bent) (defBody s__law_bent) (defScope s__law_bent) .none kV35 dc35 pm35 an35 cd35 ct35), sl35⟩) (c35 : PySem.W.codeIn K cd35 "_law_bent" = true) (k35 : PySem.W.keepIn K (.ref f35) = true)
    (a36 : PySem.W.nsIn K mainGlobals "_law_refused" = some (some (.ref f36))) (l36 : K.lookup f36 = some ⟨oc36, od36, .func (PySem.W.fnOf "_law_refused" "_law_refused" (defArgs s__law_refused) (defBody s__law_refused) (defScope s__law_refused) .none kV36 dc36 pm36 an36 cd36 ct36), sl36⟩) (c36 : PySem.W.codeIn K cd36 "_law_refused" = true) (k36 : PySem.W.keepIn K (.ref f36) = true)
    (a37 : PySem.W.nsIn K mainGlobals "_law_right" = some (some (.ref f37))) (l37 : K.lookup f37 = some ⟨oc37, od37, .func (PySem.W.fnOf "_law_right" "_law_right" (defArgs s__law_right) (defBody s__law_right) (defScope s__law_right) .none kV37 dc37 pm37 an37 cd37 ct37), sl37⟩) (c37 : PySem.W.codeIn K cd37 "_law_right" = true) (k37 : PySem.W.keepIn K (.ref f37) = true)
    (a38 : PySem.W.nsIn K mainGlobals "_law_truths_right" = some (some (.ref f38))) (l38 : K.lookup f38 = some ⟨oc38, od38, .func (PySem.W.fnOf "_law_truths_right" "_law_truths_right" (defArgs s__law_truths_right) (defBody s__law_truths_right) (defScope s__law_truths_right) .none kV38 dc38 pm38 an38 cd38 ct38), sl38⟩) (c38 : PySem.W.codeIn K cd38 "_law_truths_right" = true) (k38 : PySem.W.keepIn K (.ref f38) = true)
    (a39 : PySem.W.nsIn K mainGlobals "law" = some (some (.ref f39))) (l39 : K.lookup f39 = some ⟨oc39, od39, .func (PySem.W.fnOf "law" "law" (defArgs s_law) (defBody s_law) (defScope s_law) .none kV39 dc39 pm39 an39 cd39 ct39), sl39⟩) (c39 : PySem.W.codeIn K cd39 "law" = true) (k39 : PySem.W.keepIn K (.ref f39) = true)
    (z0 : PySem.W.nsIn K mainGlobals "ValueError" = some none) (z1 : PySem.W.nsIn K mainGlobals "abs" = some none) (z2 : PySem.W.nsIn K mainGlobals "all" = some none) (z3 : PySem.W.nsIn K mainGlobals "any" = some none) (z4 : PySem.W.nsIn K mainGlobals "bool" = some none) (z5 : PySem.W.nsIn K mainGlobals "enumerate" = some none) (z6 : PySem.W.nsIn K mainGlobals "int" = some none) (z7 : PySem.W.nsIn K mainGlobals "isinstance" = some none) (z8 : PySem.W.nsIn K mainGlobals "len" = some none) (z9 : PySem.W.nsIn K mainGlobals "list" = some none) (z10 : PySem.W.nsIn K mainGlobals "min" = some none) (z11 : PySem.W.nsIn K mainGlobals "range" = some none) (z12 : PySem.W.nsIn K mainGlobals "repr" = some none) (z13 : PySem.W.nsIn K mainGlobals "set" = some none) (z14 : PySem.W.nsIn K mainGlobals "sorted" = some none) (z15 : PySem.W.nsIn K mainGlobals "str" = some none) (z16 : PySem.W.nsIn K mainGlobals "tuple" = some none) (z17 : PySem.W.nsIn K mainGlobals "zip" = some none) :
    ∃ fd : FuncData, (∀ (s : Shared) (v : Value), BindsTo s fd ⟨[v], []⟩ [("_law_script", v)]) ∧ ∀ base : Heap, K.In base → base.Ns mainGlobals mg → FnG l.prog w K mg base CX0 11 fa fd ["_law_script"] (spLaw K) := by
  have e := hfa.symm.trans (PySem.W.mg_of X G a39)
  cases e
  have T : Blt mg := ⟨PySem.W.mg_none_of X G z0, PySem.W.mg_none_of X G z1, PySem.W.mg_none_of X G z2, PySem.W.mg_none_of X G z3, PySem.W.mg_none_of X G z4, PySem.W.mg_none_of X G z5, PySem.W.mg_none_of X G z6, PySem.W.mg_none_of X G z7, PySem.W.mg_none_of X G z8, PySem.W.mg_none_of X G z9, PySem.W.mg_none_of X G z10, PySem.W.mg_none_of X G z11, PySem.W.mg_none_of X G z12, PySem.W.mg_none_of X G z13, PySem.W.mg_none_of X G z14, PySem.W.mg_none_of X G z15, PySem.W.mg_none_of X G z16, PySem.W.mg_none_of X G z17⟩
  have F0 := fun_mk (st := s_sum_at) l0 c0 k0
  have b0 := F0.binds (ps := P_sum_at) fun _ _ _ _ _ _ us hl => match us, hl with | [_, _, _, _], _ => rfl
  have F1 := fun_mk (st := s_plain_turning) l1 c1 k1
  have F2 := fun_mk (st := s_shows_turning) l2 c2 k2
  have b2 := F2.binds (ps := P_shows_turning) fun _ _ _ _ _ _ us hl => match us, hl with | [_, _, _], _ => rfl
  have F3 := fun_mk (st := s_is_whole) l3 c3 k3
  have b3 := F3.binds (ps := P_is_whole) fun _ _ _ _ _ _ us hl => match us, hl with | [_], _ => rfl
  have F4 := fun_mk (st := s_is_prime) l4 c4 k4
  have b4 := F4.binds (ps := P_is_prime) fun _ _ _ _ _ _ us hl => match us, hl with | [_], _ => rfl
  have F5 := fun_mk (st := s_factors) l5 c5 k5
  have b5 := F5.binds (ps := P_factors) fun _ _ _ _ _ _ us hl => match us, hl with | [_], _ => rfl
  have F6 := fun_mk (st := s_divisors) l6 c6 k6
  have b6 := F6.binds (ps := P_divisors) fun _ _ _ _ _ _ us hl => match us, hl with | [_], _ => rfl
  have F7 := fun_mk (st := s_inverse) l7 c7 k7
  have b7 := F7.binds (ps := P_inverse) fun _ _ _ _ _ _ us hl => match us, hl with | [_, _], _ => rfl
  have F8 := fun_mk (st := s_power_rest) l8 c8 k8
  have b8 := F8.binds (ps := P_power_rest) fun _ _ _ _ _ _ us hl => match us, hl with | [_, _, _], _ => rfl
  have F9 := fun_mk (st := s_generator) l9 c9 k9
  have b9 := F9.binds (ps := P_generator) fun _ _ _ _ _ _ us hl => match us, hl with | [_], _ => rfl
  have F10 := fun_mk (st := s_divided) l10 c10 k10
  have b10 := F10.binds (ps := P_divided) fun _ _ _ _ _ _ us hl => match us, hl with | [_, _], _ => rfl
  have F11 := fun_mk (st := s_multiplied) l11 c11 k11
  have b11 := F11.binds (ps := P_multiplied) fun _ _ _ _ _ _ us hl => match us, hl with | [_, _], _ => rfl
  have F12 := fun_mk (st := s_wheel) l12 c12 k12
  have b12 := F12.binds (ps := P_wheel) fun _ _ _ _ _ _ us hl => match us, hl with | [_], _ => rfl
  have F13 := fun_mk (st := s__law_box) l13 c13 k13
  have b13 := F13.binds (ps := P__law_box) fun _ _ _ _ _ _ us hl => match us, hl with | [_, _], _ => rfl
  have F14 := fun_mk (st := s__law_take) l14 c14 k14
  have b14 := F14.binds (ps := P__law_take) fun _ _ _ _ _ _ us hl => match us, hl with | [_, _], _ => rfl
  have F15 := fun_mk (st := s__law_pick) l15 c15 k15
  have b15 := F15.binds (ps := P__law_pick) fun _ _ _ _ _ _ us hl => match us, hl with | [_, _], _ => rfl
  have F16 := fun_mk (st := s__law_same) l16 c16 k16
  have b16 := F16.binds (ps := P__law_same) fun _ _ _ _ _ _ us hl => match us, hl with | [_, _], _ => rfl
  have F17 := fun_mk (st := s__law_raised) l17 c17 k17
  have b17 := F17.binds (ps := P__law_raised) fun _ _ _ _ _ _ us hl => match us, hl with | [_, _, _], _ => rfl
  have F18 := fun_mk (st := s__law_is_plain_prime) l18 c18 k18
  have b18 := F18.binds (ps := P__law_is_plain_prime) fun _ _ _ _ _ _ us hl => match us, hl with | [_], _ => rfl
  have F19 := fun_mk (st := s__law_least_generator) l19 c19 k19
  have b19 := F19.binds (ps := P__law_least_generator) fun _ _ _ _ _ _ us hl => match us, hl with | [_], _ => rfl
  have F20 := fun_mk (st := s__law_divided) l20 c20 k20
  have b20 := F20.binds (ps := P__law_divided) fun _ _ _ _ _ _ us hl => match us, hl with | [_, _], _ => rfl
  have F21 := fun_mk (st := s__law_own_wheel) l21 c21 k21
  have b21 := F21.binds (ps := P__law_own_wheel) fun _ _ _ _ _ _ us hl => match us, hl with | [_], _ => rfl
  have F22 := fun_mk (st := s__law_world) l22 c22 k22
  have b22 := F22.binds (ps := P__law_world) fun _ _ _ _ _ _ us hl => match us, hl with | [_], _ => rfl
  have F23 := fun_mk (st := s__law_made) l23 c23 k23
  have b23 := F23.binds (ps := P__law_made) fun _ _ _ _ _ _ us hl => match us, hl with | [_], _ => rfl
  have F24 := fun_mk (st := s__law_has) l24 c24 k24
  have b24 := F24.binds (ps := P__law_has) fun _ _ _ _ _ _ us hl => match us, hl with | [_, _], _ => rfl
  have F25 := fun_mk (st := s__law_lengths) l25 c25 k25
  have b25 := F25.binds (ps := P__law_lengths) fun _ _ _ _ _ _ us hl => match us, hl with | [_, _], _ => rfl
  have F26 := fun_mk (st := s__law_whole) l26 c26 k26
  have b26 := F26.binds (ps := P__law_whole) fun _ _ _ _ _ _ us hl => match us, hl with | [_, _], _ => rfl
  have F27 := fun_mk (st := s__law_plus) l27 c27 k27
  have b27 := F27.binds (ps := P__law_plus) fun _ _ _ _ _ _ us hl => match us, hl with | [_, _, _], _ => rfl
  have F28 := fun_mk (st := s__law_rest_by) l28 c28 k28
  have b28 := F28.binds (ps := P__law_rest_by) fun _ _ _ _ _ _ us hl => match us, hl with | [_, _], _ => rfl
  have F29 := fun_mk (st := s__law_times) l29 c29 k29
  have b29 := F29.binds (ps := P__law_times) fun _ _ _ _ _ _ us hl => match us, hl with | [_, _, _], _ => rfl
  have F30 := fun_mk (st := s__law_roots) l30 c30 k30
  have b30 := F30.binds (ps := P__law_roots) fun _ _ _ _ _ _ us hl => match us, hl with | [_, _], _ => rfl
  have F31 := fun_mk (st := s__law_plainly) l31 c31 k31
  have b31 := F31.binds (ps := P__law_plainly) fun _ _ _ _ _ _ us hl => match us, hl with | [_, _, _], _ => rfl
  have F32 := fun_mk (st := s__law_worth) l32 c32 k32
  have b32 := F32.binds (ps := P__law_worth) fun _ _ _ _ _ _ us hl => match us, hl with | [_, _], _ => rfl
  have F33 := fun_mk (st := s__law_row) l33 c33 k33
  have b33 := F33.binds (ps := P__law_row) fun _ _ _ _ _ _ us hl => match us, hl with | [_, _, _], _ => rfl
  have F34 := fun_mk (st := s__law_odd) l34 c34 k34
  have b34 := F34.binds (ps := P__law_odd) fun _ _ _ _ _ _ us hl => match us, hl with | [_, _], _ => rfl
  have F35 := fun_mk (st := s__law_bent) l35 c35 k35
  have b35 := F35.binds (ps := P__law_bent) fun _ _ _ _ _ _ us hl => match us, hl with | [_, _, _], _ => rfl
  have F36 := fun_mk (st := s__law_refused) l36 c36 k36
  have b36 := F36.binds (ps := P__law_refused) fun _ _ _ _ _ _ us hl => match us, hl with | [_, _, _], _ => rfl
  have F37 := fun_mk (st := s__law_right) l37 c37 k37
  have b37 := F37.binds (ps := P__law_right) fun _ _ _ _ _ _ us hl => match us, hl with | [_, _, _], _ => rfl
  have F38 := fun_mk (st := s__law_truths_right) l38 c38 k38
  have b38 := F38.binds (ps := P__law_truths_right) fun _ _ _ _ _ _ us hl => match us, hl with | [_, _, _, _], _ => rfl
  have F39 := fun_mk (st := s_law) l39 c39 k39
  have F_I := fun_mk (st := s_init) lI cI kI
  have b_I := F_I.binds (ps := N_init) fun _ _ _ _ _ _ us hl => match us, hl with | [_, _], _ => rfl
  have EK_BadGround : ExK K C_BadGround := ⟨⟨⟨nm_BadGround, q_BadGround, N_BadGround, bs_BadGround, _, sn_BadGround, sb_BadGround, ab_BadGround, co_BadGround, dd_BadGround, m0_BadGround, m1_BadGround, m2_BadGround, m3_BadGround, m5_BadGround, xL_BadGround, rfl⟩, sa_BadGround, eC_BadGround, tC_BadGround, kC_BadGround⟩, ⟨ga_BadGround, gg_BadGround, eC_BadGround, hC_BadGround⟩, ⟨ga_BadGround, gg_BadGround, eC_BadGround, hC_BadGround, oc_BadGround, on, ot, mo_BadGround⟩, nw_BadGround⟩
  have R_BadGround : Ref K C_TurnError C_BadGround fI := ⟨EK_BadGround, ii_BadGround, PySem.W.exm_ref eT hT tT su_BadGround, kv_BadGround, kt_BadGround⟩
  have EK_NoRoot : ExK K C_NoRoot := ⟨⟨⟨nm_NoRoot, q_NoRoot, N_NoRoot, bs_NoRoot, _, sn_NoRoot, sb_NoRoot, ab_NoRoot, co_NoRoot, dd_NoRoot, m0_NoRoot, m1_NoRoot, m2_NoRoot, m3_NoRoot, m5_NoRoot, xL_NoRoot, rfl⟩, sa_NoRoot, eC_NoRoot, tC_NoRoot, kC_NoRoot⟩, ⟨ga_NoRoot, gg_NoRoot, eC_NoRoot, hC_NoRoot⟩, ⟨ga_NoRoot, gg_NoRoot, eC_NoRoot, hC_NoRoot, oc_NoRoot, on, ot, mo_NoRoot⟩, nw_NoRoot⟩
  have R_NoRoot : Ref K C_TurnError C_NoRoot fI := ⟨EK_NoRoot, ii_NoRoot, PySem.W.exm_ref eT hT tT su_NoRoot, kv_NoRoot, kt_NoRoot⟩
  have EK_NoShare : ExK K C_NoShare := ⟨⟨⟨nm_NoShare, q_NoShare, N_NoShare, bs_NoShare, _, sn_NoShare, sb_NoShare, ab_NoShare, co_NoShare, dd_NoShare, m0_NoShare, m1_NoShare, m2_NoShare, m3_NoShare, m5_NoShare, xL_NoShare, rfl⟩, sa_NoShare, eC_NoShare, tC_NoShare, kC_NoShare⟩, ⟨ga_NoShare, gg_NoShare, eC_NoShare, hC_NoShare⟩, ⟨ga_NoShare, gg_NoShare, eC_NoShare, hC_NoShare, oc_NoShare, on, ot, mo_NoShare⟩, nw_NoShare⟩
  have R_NoShare : Ref K C_TurnError C_NoShare fI := ⟨EK_NoShare, ii_NoShare, PySem.W.exm_ref eT hT tT su_NoShare, kv_NoShare, kt_NoShare⟩
  have EK_NoInverse : ExK K C_NoInverse := ⟨⟨⟨nm_NoInverse, q_NoInverse, N_NoInverse, bs_NoInverse, _, sn_NoInverse, sb_NoInverse, ab_NoInverse, co_NoInverse, dd_NoInverse, m0_NoInverse, m1_NoInverse, m2_NoInverse, m3_NoInverse, m5_NoInverse, xL_NoInverse, rfl⟩, sa_NoInverse, eC_NoInverse, tC_NoInverse, kC_NoInverse⟩, ⟨ga_NoInverse, gg_NoInverse, eC_NoInverse, hC_NoInverse⟩, ⟨ga_NoInverse, gg_NoInverse, eC_NoInverse, hC_NoInverse, oc_NoInverse, on, ot, mo_NoInverse⟩, nw_NoInverse⟩
  have R_NoInverse : Ref K C_TurnError C_NoInverse fI := ⟨EK_NoInverse, ii_NoInverse, PySem.W.exm_ref eT hT tT su_NoInverse, kv_NoInverse, kt_NoInverse⟩
  have M_MOST_PRIME := PySem.W.mg_of X G g_MOST_PRIME
  have M_MOST_ORDER := PySem.W.mg_of X G g_MOST_ORDER
  have CL_Rests : L2.Cls K C_Rests := ⟨pg_Rests, hd_Rests, po_Rests, sa_Rests⟩
  have F_Rests___init__ := fun_mk (st := s_Rests___init__) lk_Rests___init__ cn_Rests___init__ kp_Rests___init__
  have B_Rests___init__ := F_Rests___init__.binds (ps := P_Rests___init__) fun _ _ _ _ _ _ us hl => match us, hl with | [_, _], _ => rfl
  have MK_Rests : Mk K C_Rests f_Rests___init__ := ⟨mk_Rests, at_Rests___init__, fn_Rests___init__, kc_Rests⟩
  have F_Rests_sum_of := fun_mk (st := s_Rests_sum_of) lk_Rests_sum_of cn_Rests_sum_of kp_Rests_sum_of
  have B_Rests_sum_of := F_Rests_sum_of.binds (ps := P_Rests_sum_of) fun _ _ _ _ _ _ us hl => match us, hl with | [_, _, _], _ => rfl
  have ME_Rests_sum_of : Meth K C_Rests "sum_of" f_Rests_sum_of := ⟨at_Rests_sum_of, fn_Rests_sum_of, kp_Rests_sum_of⟩
  have F_Rests_product_of := fun_mk (st := s_Rests_product_of) lk_Rests_product_of cn_Rests_product_of kp_Rests_product_of
  have B_Rests_product_of := F_Rests_product_of.binds (ps := P_Rests_product_of) fun _ _ _ _ _ _ us hl => match us, hl with | [_, _, _], _ => rfl
  have ME_Rests_product_of : Meth K C_Rests "product_of" f_Rests_product_of := ⟨at_Rests_product_of, fn_Rests_product_of, kp_Rests_product_of⟩
  have F_Rests_has_root := fun_mk (st := s_Rests_has_root) lk_Rests_has_root cn_Rests_has_root kp_Rests_has_root
  have B_Rests_has_root := F_Rests_has_root.binds (ps := P_Rests_has_root) fun _ _ _ _ _ _ us hl => match us, hl with | [_, _], _ => rfl
  have ME_Rests_has_root : Meth K C_Rests "has_root" f_Rests_has_root := ⟨at_Rests_has_root, fn_Rests_has_root, kp_Rests_has_root⟩
  have F_Rests_root_at := fun_mk (st := s_Rests_root_at) lk_Rests_root_at cn_Rests_root_at kp_Rests_root_at
  have B_Rests_root_at := F_Rests_root_at.binds (ps := P_Rests_root_at) fun _ _ _ _ _ _ us hl => match us, hl with | [_, _, _], _ => rfl
  have ME_Rests_root_at : Meth K C_Rests "root_at" f_Rests_root_at := ⟨at_Rests_root_at, fn_Rests_root_at, kp_Rests_root_at⟩
  have F_Rests_shared_by := fun_mk (st := s_Rests_shared_by) lk_Rests_shared_by cn_Rests_shared_by kp_Rests_shared_by
  have B_Rests_shared_by := F_Rests_shared_by.binds (ps := P_Rests_shared_by) fun _ _ _ _ _ _ us hl => match us, hl with | [_, _, _], _ => rfl
  have ME_Rests_shared_by : Meth K C_Rests "shared_by" f_Rests_shared_by := ⟨at_Rests_shared_by, fn_Rests_shared_by, kp_Rests_shared_by⟩
  have F_Rests_is_worth := fun_mk (st := s_Rests_is_worth) lk_Rests_is_worth cn_Rests_is_worth kp_Rests_is_worth
  have B_Rests_is_worth := F_Rests_is_worth.binds (ps := P_Rests_is_worth) fun _ _ _ _ _ _ us hl => match us, hl with | [_, _], _ => rfl
  have ME_Rests_is_worth : Meth K C_Rests "is_worth" f_Rests_is_worth := ⟨at_Rests_is_worth, fn_Rests_is_worth, kp_Rests_is_worth⟩
  have CL_Roots : L2.Cls K C_Roots := ⟨pg_Roots, hd_Roots, po_Roots, sa_Roots⟩
  have F_Roots___init__ := fun_mk (st := s_Roots___init__) lk_Roots___init__ cn_Roots___init__ kp_Roots___init__
  have B_Roots___init__ := F_Roots___init__.binds (ps := P_Roots___init__) fun _ _ _ _ _ _ us hl => match us, hl with | [_, _], _ => rfl
  have MK_Roots : Mk K C_Roots f_Roots___init__ := ⟨mk_Roots, at_Roots___init__, fn_Roots___init__, kc_Roots⟩
  have F_Roots_sum_of := fun_mk (st := s_Roots_sum_of) lk_Roots_sum_of cn_Roots_sum_of kp_Roots_sum_of
  have B_Roots_sum_of := F_Roots_sum_of.binds (ps := P_Roots_sum_of) fun _ _ _ _ _ _ us hl => match us, hl with | [_, _, _], _ => rfl
  have ME_Roots_sum_of : Meth K C_Roots "sum_of" f_Roots_sum_of := ⟨at_Roots_sum_of, fn_Roots_sum_of, kp_Roots_sum_of⟩
  have F_Roots_product_of := fun_mk (st := s_Roots_product_of) lk_Roots_product_of cn_Roots_product_of kp_Roots_product_of
  have B_Roots_product_of := F_Roots_product_of.binds (ps := P_Roots_product_of) fun _ _ _ _ _ _ us hl => match us, hl with | [_, _, _], _ => rfl
  have ME_Roots_product_of : Meth K C_Roots "product_of" f_Roots_product_of := ⟨at_Roots_product_of, fn_Roots_product_of, kp_Roots_product_of⟩
  have F_Roots_has_root := fun_mk (st := s_Roots_has_root) lk_Roots_has_root cn_Roots_has_root kp_Roots_has_root
  have B_Roots_has_root := F_Roots_has_root.binds (ps := P_Roots_has_root) fun _ _ _ _ _ _ us hl => match us, hl with | [_, _], _ => rfl
  have ME_Roots_has_root : Meth K C_Roots "has_root" f_Roots_has_root := ⟨at_Roots_has_root, fn_Roots_has_root, kp_Roots_has_root⟩
  have F_Roots_root_at := fun_mk (st := s_Roots_root_at) lk_Roots_root_at cn_Roots_root_at kp_Roots_root_at
  have B_Roots_root_at := F_Roots_root_at.binds (ps := P_Roots_root_at) fun _ _ _ _ _ _ us hl => match us, hl with | [_, _, _], _ => rfl
  have ME_Roots_root_at : Meth K C_Roots "root_at" f_Roots_root_at := ⟨at_Roots_root_at, fn_Roots_root_at, kp_Roots_root_at⟩
  have F_Roots_shared_by := fun_mk (st := s_Roots_shared_by) lk_Roots_shared_by cn_Roots_shared_by kp_Roots_shared_by
  have B_Roots_shared_by := F_Roots_shared_by.binds (ps := P_Roots_shared_by) fun _ _ _ _ _ _ us hl => match us, hl with | [_, _, _], _ => rfl
  have ME_Roots_shared_by : Meth K C_Roots "shared_by" f_Roots_shared_by := ⟨at_Roots_shared_by, fn_Roots_shared_by, kp_Roots_shared_by⟩
  have F_Roots_is_worth := fun_mk (st := s_Roots_is_worth) lk_Roots_is_worth cn_Roots_is_worth kp_Roots_is_worth
  have B_Roots_is_worth := F_Roots_is_worth.binds (ps := P_Roots_is_worth) fun _ _ _ _ _ _ us hl => match us, hl with | [_, _], _ => rfl
  have ME_Roots_is_worth : Meth K C_Roots "is_worth" f_Roots_is_worth := ⟨at_Roots_is_worth, fn_Roots_is_worth, kp_Roots_is_worth⟩
  have M_TurnError := PySem.W.mg_of X G g_TurnError
  have M_BadGround := PySem.W.mg_of X G g_BadGround
  have M_NoRoot := PySem.W.mg_of X G g_NoRoot
  have M_NoShare := PySem.W.mg_of X G g_NoShare
  have M_NoInverse := PySem.W.mg_of X G g_NoInverse
  have M_Rests := PySem.W.mg_of X G g_Rests
  have M_Roots := PySem.W.mg_of X G g_Roots
  refine ⟨_, fun s v => .of_eq rfl, fun base _ _ => ok_law (P := l.prog) (w := w) (base := base) F39 T ⟨⟨_, _, F0, b0, PySem.W.mg_of X G a0⟩, ⟨_, _, F1, dpt_b l1 c1 k1 n1_back, PySem.W.mg_of X G a1⟩, ⟨_, _, F2, b2, PySem.W.mg_of X G a2⟩, ⟨_, _, F3, b3, PySem.W.mg_of X G a3⟩, ⟨_, _, F4, b4, PySem.W.mg_of X G a4⟩, ⟨_, _, F5, b5, PySem.W.mg_of X G a5⟩, ⟨_, _, F6, b6, PySem.W.mg_of X G a6⟩, ⟨_, _, F7, b7, PySem.W.mg_of X G a7⟩, ⟨_, _, F8, b8, PySem.W.mg_of X G a8⟩, ⟨_, _, F9, b9, PySem.W.mg_of X G a9⟩, ⟨_, _, F10, b10, PySem.W.mg_of X G a10⟩, ⟨_, _, F11, b11, PySem.W.mg_of X G a11⟩, ⟨_, _, F12, b12, PySem.W.mg_of X G a12⟩, ⟨_, _, F13, b13, PySem.W.mg_of X G a13⟩, ⟨_, _, F14, b14, PySem.W.mg_of X G a14⟩, ⟨_, _, F15, b15, PySem.W.mg_of X G a15⟩, ⟨_, _, F16, b16, PySem.W.mg_of X G a16⟩, ⟨_, _, F17, b17, PySem.W.mg_of X G a17⟩, ⟨_, _, F18, b18, PySem.W.mg_of X G a18⟩, ⟨_, _, F19, b19, PySem.W.mg_of X G a19⟩, ⟨_, _, F20, b20, PySem.W.mg_of X G a20⟩, ⟨_, _, F21, b21, PySem.W.mg_of X G a21⟩, ⟨_, _, F22, b22, PySem.W.mg_of X G a22⟩, ⟨_, _, F23, b23, PySem.W.mg_of X G a23⟩, ⟨_, _, F24, b24, PySem.W.mg_of X G a24⟩, ⟨_, _, F25, b25, PySem.W.mg_of X G a25⟩, ⟨_, _, F26, b26, PySem.W.mg_of X G a26⟩, ⟨_, _, F27, b27, PySem.W.mg_of X G a27⟩, ⟨_, _, F28, b28, PySem.W.mg_of X G a28⟩, ⟨_, _, F29, b29, PySem.W.mg_of X G a29⟩, ⟨_, _, F30, b30, PySem.W.mg_of X G a30⟩, ⟨_, _, F31, b31, PySem.W.mg_of X G a31⟩, ⟨_, _, F32, b32, PySem.W.mg_of X G a32⟩, ⟨_, _, F33, b33, PySem.W.mg_of X G a33⟩, ⟨_, _, F34, b34, PySem.W.mg_of X G a34⟩, ⟨_, _, F35, b35, PySem.W.mg_of X G a35⟩, ⟨_, _, F36, b36, PySem.W.mg_of X G a36⟩, ⟨_, _, F37, b37, PySem.W.mg_of X G a37⟩, ⟨_, _, F38, b38, PySem.W.mg_of X G a38⟩⟩ ⟨F_I, b_I, tI, R_BadGround, M_BadGround, ⟨CL_Rests, nf_Rests_prime, nf_Rests_base⟩, ⟨CL_Roots, nf_Roots_order, nf_Roots_rim⟩, M_Rests, M_Roots, ⟨_, M_MOST_PRIME⟩, ⟨_, M_MOST_ORDER⟩, ⟨_, _, MK_Rests, F_Rests___init__, B_Rests___init__⟩, ⟨_, _, MK_Roots, F_Roots___init__, B_Roots___init__⟩, ⟨_, _, F_Rests_sum_of, B_Rests_sum_of, ME_Rests_sum_of⟩, ⟨_, _, F_Rests_product_of, B_Rests_product_of, ME_Rests_product_of⟩, ⟨_, _, F_Rests_has_root, B_Rests_has_root, ME_Rests_has_root⟩, ⟨_, _, F_Rests_root_at, B_Rests_root_at, ME_Rests_root_at⟩, ⟨_, _, F_Rests_shared_by, B_Rests_shared_by, ME_Rests_shared_by⟩, ⟨_, _, F_Roots_sum_of, B_Roots_sum_of, ME_Roots_sum_of⟩, ⟨_, _, F_Roots_product_of, B_Roots_product_of, ME_Roots_product_of⟩, ⟨_, _, F_Roots_has_root, B_Roots_has_root, ME_Roots_has_root⟩, ⟨_, _, F_Roots_root_at, B_Roots_root_at, ME_Roots_root_at⟩, ⟨_, _, F_Roots_shared_by, B_Roots_shared_by, ME_Roots_shared_by⟩, R_NoRoot, M_NoRoot, R_NoShare, M_NoShare, R_NoInverse, M_NoInverse, M_TurnError⟩ ⟨⟨_, _, F_Rests_is_worth, B_Rests_is_worth, ME_Rests_is_worth⟩, ⟨_, _, F_Roots_is_worth, B_Roots_is_worth, ME_Roots_is_worth⟩⟩ (PySem.W.exm_ref eC_NoRoot hC_NoRoot tC_NoRoot sx_NoRoot)⟩
end My
open PySem PySem.W PyProof.Rows
set_option maxRecDepth 100000 in
set_option maxHeartbeats 0 in
theorem PySem.Challenge.cw_turnsums_k19_whole_turnings_spoilt_holds : PySem.Challenge.rw_turnsums_k19_whole_turnings_spoilt.Holds := by
  refine My.hdtop ?_
  k_fill
  refine My.walk_ofG (l := PySem.Challenge.rw_turnsums_k19_whole_turnings_spoilt) (n := 63) (k := 11) (x := "_law_script") (sp := fun w => My.spLaw _) rfl (by decide) rfl ⟨rfl, by decide, by decide⟩ (fun w h Y => PySem.W.kIn_of Y) ?F (fun _ _ a ns hl _ hS => ⟨a, ns, rfl, hS, hl, fun _ => rfl⟩)
  case F =>
    intro w mg fa h KX G hmg
    refine' My.all_mk KX G hmg ?g_TurnError ?g_BadGround ?g_NoRoot ?g_NoShare ?g_NoInverse ?g_Rests ?g_Roots ?on ?ot ?eT ?hT ?tT ?xL_BadGround ?sa_BadGround ?ga_BadGround ?gg_BadGround ?nw_BadGround ?ii_BadGround ?oc_BadGround ?kC_BadGround ?eC_BadGround ?tC_BadGround ?hC_BadGround ?mo_BadGround ?su_BadGround ?kv_BadGround ?kt_BadGround ?xL_NoRoot ?sa_NoRoot ?ga_NoRoot ?gg_NoRoot ?nw_NoRoot ?ii_NoRoot ?oc_NoRoot ?kC_NoRoot ?eC_NoRoot ?tC_NoRoot ?hC_NoRoot ?mo_NoRoot ?su_NoRoot ?kv_NoRoot ?kt_NoRoot ?xL_NoShare ?sa_NoShare ?ga_NoShare ?gg_NoShare ?nw_NoShare ?ii_NoShare ?oc_NoShare ?kC_NoShare ?eC_NoShare ?tC_NoShare ?hC_NoShare ?mo_NoShare ?su_NoShare ?kv_NoShare ?kt_NoShare ?xL_NoInverse ?sa_NoInverse ?ga_NoInverse ?gg_NoInverse ?nw_NoInverse ?ii_NoInverse ?oc_NoInverse ?kC_NoInverse ?eC_NoInverse ?tC_NoInverse ?hC_NoInverse ?mo_NoInverse ?su_NoInverse ?kv_NoInverse ?kt_NoInverse ?lI ?cI ?kI ?tI ?g_MOST_PRIME ?g_MOST_ORDER ?pg_Rests ?hd_Rests ?po_Rests ?sa_Rests ?mk_Rests ?kc_Rests ?nf_Rests_prime ?nf_Rests_base ?at_Rests___init__ ?lk_Rests___init__ ?cn_Rests___init__ ?kp_Rests___init__ ?fn_Rests___init__ ?at_Rests_sum_of ?lk_Rests_sum_of ?cn_Rests_sum_of ?kp_Rests_sum_of ?fn_Rests_sum_of ?at_Rests_product_of ?lk_Rests_product_of ?cn_Rests_product_of ?kp_Rests_product_of ?fn_Rests_product_of ?at_Rests_has_root ?lk_Rests_has_root ?cn_Rests_has_root ?kp_Rests_has_root ?fn_Rests_has_root ?at_Rests_root_at ?lk_Rests_root_at ?cn_Rests_root_at ?kp_Rests_root_at ?fn_Rests_root_at ?at_Rests_shared_by ?lk_Rests_shared_by ?cn_Rests_shared_by ?kp_Rests_shared_by ?fn_Rests_shared_by ?at_Rests_is_worth ?lk_Rests_is_worth ?cn_Rests_is_worth ?kp_Rests_is_worth ?fn_Rests_is_worth ?pg_Roots ?hd_Roots ?po_Roots ?sa_Roots ?mk_Roots ?kc_Roots ?nf_Roots_order ?nf_Roots_rim ?at_Roots___init__ ?lk_Roots___init__ ?cn_Roots___init__ ?kp_Roots___init__ ?fn_Roots___init__ ?at_Roots_sum_of ?lk_Roots_sum_of ?cn_Roots_sum_of ?kp_Roots_sum_of ?fn_Roots_sum_of ?at_Roots_product_of ?lk_Roots_product_of ?cn_Roots_product_of ?kp_Roots_product_of ?fn_Roots_product_of ?at_Roots_has_root ?lk_Roots_has_root ?cn_Roots_has_root ?kp_Roots_has_root ?fn_Roots_has_root ?at_Roots_root_at ?lk_Roots_root_at ?cn_Roots_root_at ?kp_Roots_root_at ?fn_Roots_root_at ?at_Roots_shared_by ?lk_Roots_shared_by ?cn_Roots_shared_by ?kp_Roots_shared_by ?fn_Roots_shared_by ?at_Roots_is_worth ?lk_Roots_is_worth ?cn_Roots_is_worth ?kp_Roots_is_worth ?fn_Roots_is_worth ?sx_NoRoot ?a0 ?l0 ?c0 ?k0 ?a1 ?l1 ?c1 ?k1 ?n1_back ?a2 ?l2 ?c2 ?k2 ?a3 ?l3 ?c3 ?k3 ?a4 ?l4 ?c4 ?k4 ?a5 ?l5 ?c5 ?k5 ?a6 ?l6 ?c6 ?k6 ?a7 ?l7 ?c7 ?k7 ?a8 ?l8 ?c8 ?k8 ?a9 ?l9 ?c9 ?k9 ?a10 ?l10 ?c10 ?k10 ?a11 ?l11 ?c11 ?k11 ?a12 ?l12 ?c12 ?k12 ?a13 ?l13 ?c13 ?k13 ?a14 ?l14 ?c14 ?k14 ?a15 ?l15 ?c15 ?k15 ?a16 ?l16 ?c16 ?k16 ?a17 ?l17 ?c17 ?k17 ?a18 ?l18 ?c18 ?k18 ?a19 ?l19 ?c19 ?k19 ?a20 ?l20 ?c20 ?k20 ?a21 ?l21 ?c21 ?k21 ?a22 ?l22 ?c22 ?k22 ?a23 ?l23 ?c23 ?k23 ?a24 ?l24 ?c24 ?k24 ?a25 ?l25 ?c25 ?k25 ?a26 ?l26 ?c26 ?k26 ?a27 ?l27 ?c27 ?k27 ?a28 ?l28 ?c28 ?k28 ?a29 ?l29 ?c29 ?k29 ?a30 ?l30 ?c30 ?k30 ?a31 ?l31 ?c31 ?k31 ?a32 ?l32 ?c32 ?k32 ?a33 ?l33 ?c33 ?k33 ?a34 ?l34 ?c34 ?k34 ?a35 ?l35 ?c35 ?k35 ?a36 ?l36 ?c36 ?k36 ?a37 ?l37 ?c37 ?k37 ?a38 ?l38 ?c38 ?k38 ?a39 ?l39 ?c39 ?k39 ?z0 ?z1 ?z2 ?z3 ?z4 ?z5 ?z6 ?z7 ?z8 ?z9 ?z10 ?z11 ?z12 ?z13 ?z14 ?z15 ?z16 ?z17
    (case g_TurnError => as_aux_lemma => first | k_is | rfl)
    (case g_BadGround => as_aux_lemma => first | k_is | rfl)
    (case g_NoRoot => as_aux_lemma => first | k_is | rfl)
    (case g_NoShare => as_aux_lemma => first | k_is | rfl)
    (case g_NoInverse => as_aux_lemma => first | k_is | rfl)
    (case g_Rests => as_aux_lemma => first | k_is | rfl)
    (case g_Roots => as_aux_lemma => first | k_is | rfl)
    (case on => as_aux_lemma => first | k_is | rfl)
    (case ot => as_aux_lemma => first | k_is | rfl)
    (case eT => as_aux_lemma => first | k_is | rfl)
    (case hT => as_aux_lemma => first | k_is | rfl)
    (case tT => as_aux_lemma => first | k_is | rfl)
    (case xL_BadGround => as_aux_lemma => first | k_is | rfl)
    (case sa_BadGround => as_aux_lemma => first | k_is | rfl)
    (case ga_BadGround => as_aux_lemma => first | k_is | rfl)
    (case gg_BadGround => as_aux_lemma => first | k_is | rfl)
    (case nw_BadGround => as_aux_lemma => first | k_is | rfl)
    (case ii_BadGround => as_aux_lemma => first | k_is | rfl)
    (case oc_BadGround => as_aux_lemma => first | k_is | rfl)
    (case kC_BadGround => as_aux_lemma => first | k_is | rfl)
    (case eC_BadGround => as_aux_lemma => first | k_is | rfl)
    (case tC_BadGround => as_aux_lemma => first | k_is | rfl)
    (case hC_BadGround => as_aux_lemma => first | k_is | rfl)
    (case mo_BadGround => as_aux_lemma => first | k_is | rfl)
    (case su_BadGround => as_aux_lemma => first | k_is | rfl)
    (case kv_BadGround => as_aux_lemma => first | k_is | rfl)
    (case kt_BadGround => as_aux_lemma => first | k_is | rfl)
    (case xL_NoRoot => as_aux_lemma => first | k_is | rfl)
    (case sa_NoRoot => as_aux_lemma => first | k_is | rfl)
    (case ga_NoRoot => as_aux_lemma => first | k_is | rfl)
    (case gg_NoRoot => as_aux_lemma => first | k_is | rfl)
    (case nw_NoRoot => as_aux_lemma => first | k_is | rfl)
    (case ii_NoRoot => as_aux_lemma => first | k_is | rfl)
    (case oc_NoRoot => as_aux_lemma => first | k_is | rfl)
    (case kC_NoRoot => as_aux_lemma => first | k_is | rfl)
    (case eC_NoRoot => as_aux_lemma => first | k_is | rfl)
    (case tC_NoRoot => as_aux_lemma => first | k_is | rfl)
    (case hC_NoRoot => as_aux_lemma => first | k_is | rfl)
    (case mo_NoRoot => as_aux_lemma => first | k_is | rfl)
    (case su_NoRoot => as_aux_lemma => first | k_is | rfl)
    (case kv_NoRoot => as_aux_lemma => first | k_is | rfl)
    (case kt_NoRoot => as_aux_lemma => first | k_is | rfl)
    (case xL_NoShare => as_aux_lemma => first | k_is | rfl)
    (case sa_NoShare => as_aux_lemma => first | k_is | rfl)
    (case ga_NoShare => as_aux_lemma => first | k_is | rfl)
    (case gg_NoShare => as_aux_lemma => first | k_is | rfl)
    (case nw_NoShare => as_aux_lemma => first | k_is | rfl)
    (case ii_NoShare => as_aux_lemma => first | k_is | rfl)
    (case oc_NoShare => as_aux_lemma => first | k_is | rfl)
    (case kC_NoShare => as_aux_lemma => first | k_is | rfl)
    (case eC_NoShare => as_aux_lemma => first | k_is | rfl)
    (case tC_NoShare => as_aux_lemma => first | k_is | rfl)
    (case hC_NoShare => as_aux_lemma => first | k_is | rfl)
    (case mo_NoShare => as_aux_lemma => first | k_is | rfl)
    (case su_NoShare => as_aux_lemma => first | k_is | rfl)
    (case kv_NoShare => as_aux_lemma => first | k_is | rfl)
    (case kt_NoShare => as_aux_lemma => first | k_is | rfl)
    (case xL_NoInverse => as_aux_lemma => first | k_is | rfl)
    (case sa_NoInverse => as_aux_lemma => first | k_is | rfl)
    (case ga_NoInverse => as_aux_lemma => first | k_is | rfl)
    (case gg_NoInverse => as_aux_lemma => first | k_is | rfl)
    (case nw_NoInverse => as_aux_lemma => first | k_is | rfl)
    (case ii_NoInverse => as_aux_lemma => first | k_is | rfl)
    (case oc_NoInverse => as_aux_lemma => first | k_is | rfl)
    (case kC_NoInverse => as_aux_lemma => first | k_is | rfl)
    (case eC_NoInverse => as_aux_lemma => first | k_is | rfl)
    (case tC_NoInverse => as_aux_lemma => first | k_is | rfl)
    (case hC_NoInverse => as_aux_lemma => first | k_is | rfl)
    (case mo_NoInverse => as_aux_lemma => first | k_is | rfl)
    (case su_NoInverse => as_aux_lemma => first | k_is | rfl)
    (case kv_NoInverse => as_aux_lemma => first | k_is | rfl)
    (case kt_NoInverse => as_aux_lemma => first | k_is | rfl)
    (case lI => as_aux_lemma => first | k_is | rfl)
    (case cI => as_aux_lemma => first | k_is | rfl)
    (case kI => as_aux_lemma => first | k_is | rfl)
    (case tI => as_aux_lemma => first | k_is | rfl)
    (case g_MOST_PRIME => as_aux_lemma => first | k_is | rfl)
    (case g_MOST_ORDER => as_aux_lemma => first | k_is | rfl)
    (case pg_Rests => as_aux_lemma => first | k_is | rfl)
    (case hd_Rests => as_aux_lemma => first | k_is | rfl)
    (case po_Rests => as_aux_lemma => first | k_is | rfl)
    (case sa_Rests => as_aux_lemma => first | k_is | rfl)
    (case mk_Rests => as_aux_lemma => first | k_is | rfl)
    (case kc_Rests => as_aux_lemma => first | k_is | rfl)
    (case nf_Rests_prime => as_aux_lemma => first | k_is | rfl)
    (case nf_Rests_base => as_aux_lemma => first | k_is | rfl)
    (case at_Rests___init__ => as_aux_lemma => first | k_is | rfl)
    (case lk_Rests___init__ => as_aux_lemma => first | k_is | rfl)
    (case cn_Rests___init__ => as_aux_lemma => first | k_is | rfl)
    (case kp_Rests___init__ => as_aux_lemma => first | k_is | rfl)
    (case fn_Rests___init__ => as_aux_lemma => first | k_is | rfl)
    (case at_Rests_sum_of => as_aux_lemma => first | k_is | rfl)
    (case lk_Rests_sum_of => as_aux_lemma => first | k_is | rfl)
    (case cn_Rests_sum_of => as_aux_lemma => first | k_is | rfl)
    (case kp_Rests_sum_of => as_aux_lemma => first | k_is | rfl)
    (case fn_Rests_sum_of => as_aux_lemma => first | k_is | rfl)
    (case at_Rests_product_of => as_aux_lemma => first | k_is | rfl)
    (case lk_Rests_product_of => as_aux_lemma => first | k_is | rfl)
    (case cn_Rests_product_of => as_aux_lemma => first | k_is | rfl)
    (case kp_Rests_product_of => as_aux_lemma => first | k_is | rfl)
    (case fn_Rests_product_of => as_aux_lemma => first | k_is | rfl)
    (case at_Rests_has_root => as_aux_lemma => first | k_is | rfl)
    (case lk_Rests_has_root => as_aux_lemma => first | k_is | rfl)
    (case cn_Rests_has_root => as_aux_lemma => first | k_is | rfl)
    (case kp_Rests_has_root => as_aux_lemma => first | k_is | rfl)
    (case fn_Rests_has_root => as_aux_lemma => first | k_is | rfl)
    (case at_Rests_root_at => as_aux_lemma => first | k_is | rfl)
    (case lk_Rests_root_at => as_aux_lemma => first | k_is | rfl)
    (case cn_Rests_root_at => as_aux_lemma => first | k_is | rfl)
    (case kp_Rests_root_at => as_aux_lemma => first | k_is | rfl)
    (case fn_Rests_root_at => as_aux_lemma => first | k_is | rfl)
    (case at_Rests_shared_by => as_aux_lemma => first | k_is | rfl)
    (case lk_Rests_shared_by => as_aux_lemma => first | k_is | rfl)
    (case cn_Rests_shared_by => as_aux_lemma => first | k_is | rfl)
    (case kp_Rests_shared_by => as_aux_lemma => first | k_is | rfl)
    (case fn_Rests_shared_by => as_aux_lemma => first | k_is | rfl)
    (case at_Rests_is_worth => as_aux_lemma => first | k_is | rfl)
    (case lk_Rests_is_worth => as_aux_lemma => first | k_is | rfl)
    (case cn_Rests_is_worth => as_aux_lemma => first | k_is | rfl)
    (case kp_Rests_is_worth => as_aux_lemma => first | k_is | rfl)
    (case fn_Rests_is_worth => as_aux_lemma => first | k_is | rfl)
    (case pg_Roots => as_aux_lemma => first | k_is | rfl)
    (case hd_Roots => as_aux_lemma => first | k_is | rfl)
    (case po_Roots => as_aux_lemma => first | k_is | rfl)
    (case sa_Roots => as_aux_lemma => first | k_is | rfl)
    (case mk_Roots => as_aux_lemma => first | k_is | rfl)
    (case kc_Roots => as_aux_lemma => first | k_is | rfl)
    (case nf_Roots_order => as_aux_lemma => first | k_is | rfl)
    (case nf_Roots_rim => as_aux_lemma => first | k_is | rfl)
    (case at_Roots___init__ => as_aux_lemma => first | k_is | rfl)
    (case lk_Roots___init__ => as_aux_lemma => first | k_is | rfl)
    (case cn_Roots___init__ => as_aux_lemma => first | k_is | rfl)
    (case kp_Roots___init__ => as_aux_lemma => first | k_is | rfl)
    (case fn_Roots___init__ => as_aux_lemma => first | k_is | rfl)
    (case at_Roots_sum_of => as_aux_lemma => first | k_is | rfl)
    (case lk_Roots_sum_of => as_aux_lemma => first | k_is | rfl)
    (case cn_Roots_sum_of => as_aux_lemma => first | k_is | rfl)
    (case kp_Roots_sum_of => as_aux_lemma => first | k_is | rfl)
    (case fn_Roots_sum_of => as_aux_lemma => first | k_is | rfl)
    (case at_Roots_product_of => as_aux_lemma => first | k_is | rfl)
    (case lk_Roots_product_of => as_aux_lemma => first | k_is | rfl)
    (case cn_Roots_product_of => as_aux_lemma => first | k_is | rfl)
    (case kp_Roots_product_of => as_aux_lemma => first | k_is | rfl)
    (case fn_Roots_product_of => as_aux_lemma => first | k_is | rfl)
    (case at_Roots_has_root => as_aux_lemma => first | k_is | rfl)
    (case lk_Roots_has_root => as_aux_lemma => first | k_is | rfl)
    (case cn_Roots_has_root => as_aux_lemma => first | k_is | rfl)
    (case kp_Roots_has_root => as_aux_lemma => first | k_is | rfl)
    (case fn_Roots_has_root => as_aux_lemma => first | k_is | rfl)
    (case at_Roots_root_at => as_aux_lemma => first | k_is | rfl)
    (case lk_Roots_root_at => as_aux_lemma => first | k_is | rfl)
    (case cn_Roots_root_at => as_aux_lemma => first | k_is | rfl)
    (case kp_Roots_root_at => as_aux_lemma => first | k_is | rfl)
    (case fn_Roots_root_at => as_aux_lemma => first | k_is | rfl)
    (case at_Roots_shared_by => as_aux_lemma => first | k_is | rfl)
    (case lk_Roots_shared_by => as_aux_lemma => first | k_is | rfl)
    (case cn_Roots_shared_by => as_aux_lemma => first | k_is | rfl)
    (case kp_Roots_shared_by => as_aux_lemma => first | k_is | rfl)
    (case fn_Roots_shared_by => as_aux_lemma => first | k_is | rfl)
    (case at_Roots_is_worth => as_aux_lemma => first | k_is | rfl)
    (case lk_Roots_is_worth => as_aux_lemma => first | k_is | rfl)
    (case cn_Roots_is_worth => as_aux_lemma => first | k_is | rfl)
    (case kp_Roots_is_worth => as_aux_lemma => first | k_is | rfl)
    (case fn_Roots_is_worth => as_aux_lemma => first | k_is | rfl)
    (case sx_NoRoot => as_aux_lemma => first | k_is | rfl)
    (case a0 => as_aux_lemma => k_is)
    (case l0 => as_aux_lemma => k_is)
    (case c0 => as_aux_lemma => k_is)
    (case k0 => as_aux_lemma => k_is)
    (case a1 => as_aux_lemma => k_is)
    (case l1 => as_aux_lemma => k_is)
    (case c1 => as_aux_lemma => k_is)
    (case k1 => as_aux_lemma => k_is)
    (case n1_back => as_aux_lemma => k_is)
    (case a2 => as_aux_lemma => k_is)
    (case l2 => as_aux_lemma => k_is)
    (case c2 => as_aux_lemma => k_is)
    (case k2 => as_aux_lemma => k_is)
    (case a3 => as_aux_lemma => k_is)
    (case l3 => as_aux_lemma => k_is)
    (case c3 => as_aux_lemma => k_is)
    (case k3 => as_aux_lemma => k_is)
    (case a4 => as_aux_lemma => k_is)
    (case l4 => as_aux_lemma => k_is)
    (case c4 => as_aux_lemma => k_is)
    (case k4 => as_aux_lemma => k_is)
    (case a5 => as_aux_lemma => k_is)
    (case l5 => as_aux_lemma => k_is)
    (case c5 => as_aux_lemma => k_is)
    (case k5 => as_aux_lemma => k_is)
    (case a6 => as_aux_lemma => k_is)
    (case l6 => as_aux_lemma => k_is)
    (case c6 => as_aux_lemma => k_is)
    (case k6 => as_aux_lemma => k_is)
    (case a7 => as_aux_lemma => k_is)
    (case l7 => as_aux_lemma => k_is)
    (case c7 => as_aux_lemma => k_is)
    (case k7 => as_aux_lemma => k_is)
    (case a8 => as_aux_lemma => k_is)
    (case l8 => as_aux_lemma => k_is)
    (case c8 => as_aux_lemma => k_is)
    (case k8 => as_aux_lemma => k_is)
    (case a9 => as_aux_lemma => k_is)
    (case l9 => as_aux_lemma => k_is)
    (case c9 => as_aux_lemma => k_is)
    (case k9 => as_aux_lemma => k_is)
    (case a10 => as_aux_lemma => k_is)
    (case l10 => as_aux_lemma => k_is)
    (case c10 => as_aux_lemma => k_is)
    (case k10 => as_aux_lemma => k_is)
    (case a11 => as_aux_lemma => k_is)
    (case l11 => as_aux_lemma => k_is)
    (case c11 => as_aux_lemma => k_is)
    (case k11 => as_aux_lemma => k_is)
    (case a12 => as_aux_lemma => k_is)
    (case l12 => as_aux_lemma => k_is)
    (case c12 => as_aux_lemma => k_is)
    (case k12 => as_aux_lemma => k_is)
    (case a13 => as_aux_lemma => k_is)
    (case l13 => as_aux_lemma => k_is)
    (case c13 => as_aux_lemma => k_is)
    (case k13 => as_aux_lemma => k_is)
    (case a14 => as_aux_lemma => k_is)
    (case l14 => as_aux_lemma => k_is)
    (case c14 => as_aux_lemma => k_is)
    (case k14 => as_aux_lemma => k_is)
    (case a15 => as_aux_lemma => k_is)
    (case l15 => as_aux_lemma => k_is)
    (case c15 => as_aux_lemma => k_is)
    (case k15 => as_aux_lemma => k_is)
    (case a16 => as_aux_lemma => k_is)
    (case l16 => as_aux_lemma => k_is)
    (case c16 => as_aux_lemma => k_is)
    (case k16 => as_aux_lemma => k_is)
    (case a17 => as_aux_lemma => k_is)
    (case l17 => as_aux_lemma => k_is)
    (case c17 => as_aux_lemma => k_is)
    (case k17 => as_aux_lemma => k_is)
    (case a18 => as_aux_lemma => k_is)
    (case l18 => as_aux_lemma => k_is)
    (case c18 => as_aux_lemma => k_is)
    (case k18 => as_aux_lemma => k_is)
    (case a19 => as_aux_lemma => k_is)
    (case l19 => as_aux_lemma => k_is)
    (case c19 => as_aux_lemma => k_is)
    (case k19 => as_aux_lemma => k_is)
    (case a20 => as_aux_lemma => k_is)
    (case l20 => as_aux_lemma => k_is)
    (case c20 => as_aux_lemma => k_is)
    (case k20 => as_aux_lemma => k_is)
    (case a21 => as_aux_lemma => k_is)
    (case l21 => as_aux_lemma => k_is)
    (case c21 => as_aux_lemma => k_is)
    (case k21 => as_aux_lemma => k_is)
    (case a22 => as_aux_lemma => k_is)
    (case l22 => as_aux_lemma => k_is)
    (case c22 => as_aux_lemma => k_is)
    (case k22 => as_aux_lemma => k_is)
    (case a23 => as_aux_lemma => k_is)
    (case l23 => as_aux_lemma => k_is)
    (case c23 => as_aux_lemma => k_is)
    (case k23 => as_aux_lemma => k_is)
    (case a24 => as_aux_lemma => k_is)
    (case l24 => as_aux_lemma => k_is)
    (case c24 => as_aux_lemma => k_is)
    (case k24 => as_aux_lemma => k_is)
    (case a25 => as_aux_lemma => k_is)
    (case l25 => as_aux_lemma => k_is)
    (case c25 => as_aux_lemma => k_is)
    (case k25 => as_aux_lemma => k_is)
    (case a26 => as_aux_lemma => k_is)
    (case l26 => as_aux_lemma => k_is)
    (case c26 => as_aux_lemma => k_is)
    (case k26 => as_aux_lemma => k_is)
    (case a27 => as_aux_lemma => k_is)
    (case l27 => as_aux_lemma => k_is)
    (case c27 => as_aux_lemma => k_is)
    (case k27 => as_aux_lemma => k_is)
    (case a28 => as_aux_lemma => k_is)
    (case l28 => as_aux_lemma => k_is)
    (case c28 => as_aux_lemma => k_is)
    (case k28 => as_aux_lemma => k_is)
    (case a29 => as_aux_lemma => k_is)
    (case l29 => as_aux_lemma => k_is)
    (case c29 => as_aux_lemma => k_is)
    (case k29 => as_aux_lemma => k_is)
    (case a30 => as_aux_lemma => k_is)
    (case l30 => as_aux_lemma => k_is)
    (case c30 => as_aux_lemma => k_is)
    (case k30 => as_aux_lemma => k_is)
    (case a31 => as_aux_lemma => k_is)
    (case l31 => as_aux_lemma => k_is)
    (case c31 => as_aux_lemma => k_is)
    (case k31 => as_aux_lemma => k_is)
    (case a32 => as_aux_lemma => k_is)
    (case l32 => as_aux_lemma => k_is)
    (case c32 => as_aux_lemma => k_is)
    (case k32 => as_aux_lemma => k_is)
    (case a33 => as_aux_lemma => k_is)
    (case l33 => as_aux_lemma => k_is)
    (case c33 => as_aux_lemma => k_is)
    (case k33 => as_aux_lemma => k_is)
    (case a34 => as_aux_lemma => k_is)
    (case l34 => as_aux_lemma => k_is)
    (case c34 => as_aux_lemma => k_is)
    (case k34 => as_aux_lemma => k_is)
    (case a35 => as_aux_lemma => k_is)
    (case l35 => as_aux_lemma => k_is)
    (case c35 => as_aux_lemma => k_is)
    (case k35 => as_aux_lemma => k_is)
    (case a36 => as_aux_lemma => k_is)
    (case l36 => as_aux_lemma => k_is)
    (case c36 => as_aux_lemma => k_is)
    (case k36 => as_aux_lemma => k_is)
    (case a37 => as_aux_lemma => k_is)
    (case l37 => as_aux_lemma => k_is)
    (case c37 => as_aux_lemma => k_is)
    (case k37 => as_aux_lemma => k_is)
    (case a38 => as_aux_lemma => k_is)
    (case l38 => as_aux_lemma => k_is)
    (case c38 => as_aux_lemma => k_is)
    (case k38 => as_aux_lemma => k_is)
    (case a39 => as_aux_lemma => k_is)
    (case l39 => as_aux_lemma => k_is)
    (case c39 => as_aux_lemma => k_is)
    (case k39 => as_aux_lemma => k_is)
    (case z0 => as_aux_lemma => k_is)
    (case z1 => as_aux_lemma => k_is)
    (case z2 => as_aux_lemma => k_is)
    (case z3 => as_aux_lemma => k_is)
    (case z4 => as_aux_lemma => k_is)
    (case z5 => as_aux_lemma => k_is)
    (case z6 => as_aux_lemma => k_is)
    (case z7 => as_aux_lemma => k_is)
    (case z8 => as_aux_lemma => k_is)
    (case z9 => as_aux_lemma => k_is)
    (case z10 => as_aux_lemma => k_is)
    (case z11 => as_aux_lemma => k_is)
    (case z12 => as_aux_lemma => k_is)
    (case z13 => as_aux_lemma => k_is)
    (case z14 => as_aux_lemma => k_is)
    (case z15 => as_aux_lemma => k_is)
    (case z16 => as_aux_lemma => k_is)
    (case z17 => as_aux_lemma => k_is)

