import PyProof.Rows.All
import Wide.All
import OpenK.AllK
import Wide.FinOn
import HandS.ForMost
import HandS.IsInst
import HandS.Style
import HandS.Wide
import HandS.WideMore
import HandS.Zip
import HandS.Flow
import HandS.SetFor
import HandS.Strs
import HandS.SortInts
import HandS.ExcInit
import HandS.ExcField
import HandS.ExcIs
import HandS.ExcValue
import HandS.WordsExc
import HandS.NoneIn
import HandS.Conv
import HandS.TupMul
import HandS.TupAny
import HandS.Dict
import HandS.Deep
import KE.KExcIs
import KE.GoesMore
import HandS.Small
import HandS.Text
import HandS.FStr
import KE.GoesEnum
import KE.GoesRaise
import HandS.Defaults
import HandS.CallSlots
import HandS.IterVal
import PyProof.Draws
import KE.OsRunLaw
import PySem.Challenge.RW_turnsums_k15_whole_grounds_by_names
set_option Elab.async false
set_option linter.all false
set_option maxRecDepth 100000
set_option maxHeartbeats 4000000
namespace My
open PySem L2
def top (i : Nat) : Stmt := PySem.Challenge.pw_turnsums_k15_whole_grounds_by_names.main.body.getD i (.Pass ⟨0, 0, 0, 0⟩)
/-- a def of the text: where it stands, how it is called -/
structure Df (K : PySem.W.Frag) (mg : Str → Option Value) (x : Str) (st : Stmt) (ps : List Str) (f : Addr) (fd : FuncData) : Prop where
  F : Fun K x x st f fd
  b : Binds K fd ps []
  g : mg x = some (.ref f)
/-! heaps: all but the box stays -/
theorem same_upd {H H' : Hp} {p : Addr} {o : HO} (h : Same H H') (n : H' p = none) : Same H (upd H' p o) := fun b x e => by
  rw [upd_ne (ne_of_none (h b x e) n)]
  exact h b x e
theorem same_new {H : Hp} {p : Addr} {o : HO} (n : H p = none) : Same H (upd H p o) := same_upd (Same.refl H) n
theorem same_mut {H H' : Hp} {p : Addr} {o : HO} (h : Same H H') (n : H p = none) : Same H (upd H' p o) := fun b x e => by
  rw [upd_ne (ne_of_none e n)]
  exact h b x e
theorem same_t {K : PySem.W.Frag} {H H' : Hp} {a : Addr} {xs : List V} (e : Same H H') (h : SqT K H a xs) : SqT K H' a xs := by
  rcases h with (h | ⟨o, h⟩) | h
  · exact .inl (.inl (e _ _ h))
  · exact .inl (.inr ⟨o, e _ _ h⟩)
  · exact .inr h
def Keep (b : Addr) (H H' : Hp) : Prop := ∀ a o, a ≠ b → H a = some o → H' a = some o
theorem Keep.refl (b : Addr) (H : Hp) : Keep b H H := fun _ _ _ h => h
theorem Keep.trans {b : Addr} {H H1 H2 : Hp} (a : Keep b H H1) (c : Keep b H1 H2) : Keep b H H2 := fun x o n h => c x o n (a x o n h)
theorem keepS {b : Addr} {H H' : Hp} (h : Same H H') : Keep b H H' := fun x o _ e => h x o e
theorem keep_same {b : Addr} {H0 H H' : Hp} (a : Same H0 H) (n : H0 b = none) (k : Keep b H H') : Same H0 H' := fun x o e => k x o (ne_of_none e n) (a x o e)
theorem keep_upd {b : Addr} {H H' : Hp} {o : HO} (h : Keep b H H') : Keep b H (upd H' b o) := fun a u n e => by
  rw [upd_ne n]
  exact h a u n e
theorem Keep.seq {K : PySem.W.Frag} {b a : Addr} {H H' : Hp} {xs : List V} (e : Keep b H H') (n : a ≠ b) (h : SqL K H a xs) : SqL K H' a xs := by
  rcases h with (h | ⟨o, h⟩) | h
  · exact .inl (.inl (e _ _ n h))
  · exact .inl (.inr ⟨o, e _ _ n h⟩)
  · exact .inr h
def BoxAt (H : Hp) (b : Addr) (n : Int) : Prop := ∃ x y z : Int, H b = some (.lst [.int x, .int y, .int z]) ∧ 0 ≤ x ∧ 0 ≤ y ∧ y ≤ 4294967296 ∧ 0 ≤ z ∧ z ≤ n
theorem BoxAt.mono {H : Hp} {b : Addr} {n m : Int} (h : BoxAt H b n) (e : n ≤ m) : BoxAt H b m := by
  obtain ⟨x, y, z, a1, a2, a3, a4, a5, a6⟩ := h
  exact ⟨x, y, z, a1, a2, a3, a4, a5, by omega⟩
theorem BoxAt.same {H H' : Hp} {b : Addr} {n : Int} (h : BoxAt H b n) (e : Same H H') : BoxAt H' b n := by
  obtain ⟨x, y, z, a1, a2⟩ := h
  exact ⟨x, y, z, e _ _ a1, a2⟩
theorem BoxAt.some {H : Hp} {b : Addr} {n : Int} (h : BoxAt H b n) : ∃ o, H b = some o := by
  obtain ⟨x, y, z, a1, a2⟩ := h
  exact ⟨_, a1⟩
theorem BoxAt.ne {H : Hp} {b p : Addr} {n : Int} (h : BoxAt H b n) (e : H p = none) : p ≠ b := by
  obtain ⟨o, h⟩ := h.some
  exact (ne_of_none h e).symm
theorem szl {n : Nat} (h : n ≤ 60000) : n ≤ sizeLine := Nat.le_trans h (by decide)
theorem szm {n : Nat} (h : n ≤ 60000) : n < sizeLine := Nat.lt_of_le_of_lt h (by decide)
theorem pw6 : (10 : Int) ^ Int.toNat 6 = 1000000 := by decide
theorem pw9 : (10 : Int) ^ Int.toNat 9 = 1000000000 := by decide
theorem newO {H H' : Hp} {p : Addr} {o : HO} (e : upd H p o = H') (hp : H p = none) : Same H H' ∧ H' p = some o := by
  subst e
  exact ⟨same_new hp, upd_same⟩
theorem mutO {H H' : Hp} {p : Addr} {o : HO} (e : upd H p o = H') : Keep p H H' ∧ H' p = some o := by
  subst e
  exact ⟨keep_upd (Keep.refl _ _), upd_same⟩
/-- a word of ours that the walk must not open -/
inductive Hold (p : Prop) : Prop
  | mk : p → Hold p
theorem Hold.un {p : Prop} (h : Hold p) : p := by
  cases h with
  | mk h => exact h
theorem holdN {W : Nat → L2.St → Hp → Prop} {m : Nat} : ∀ (σ' : L2.St) (H' : Hp), Hold (∃ m', m' < m ∧ W m' σ' H') → ∃ m', m' < m ∧ W m' σ' H' := fun _ _ h => h.un
theorem ite_dec {c A B : Prop} [Decidable c] (hc : c) (h : A) : if decide c = true then A else B := by
  rw [decide_eq_true hc]
  exact iteT h
def rLenQ (K : PySem.W.Frag) : List V → Hp → VK → Prop := fun xs H Q => ∃ p ys, xs = [.ref p] ∧ (SqL K H p ys ∨ SqT K H p ys) ∧ Q (.int ys.length) H
theorem iteTe {b : Bool} {A B : Prop} (e : b = true) (h : A) : if b = true then A else B := by
  rw [if_pos e]
  exact h
theorem iteFe {b : Bool} {A B : Prop} (e : b = false) (h : B) : if b = true then A else B := by
  rw [e]
  exact iteF h
theorem cmul_b {i : Int} {b : Bool} : CMul i (if b then 1 else 0) := by
  refine .inr ?_
  cases b <;> exact ⟨by decide, by decide⟩
theorem at_ints {ns : List Int} {k : Int} (h0 : 0 ≤ k) (h : k < (ns.length : Int)) : ∃ c, c ∈ ns ∧ atI (ns.map V.int) k = some (.int c) := by
  have hk : k.toNat < ns.length := by omega
  refine ⟨ns[k.toNat], List.getElem_mem hk, at_of (j := k.toNat) (by omega) ?_⟩
  rw [List.getElem?_map, List.getElem?_eq_getElem hk]
  rfl
theorem at_some {xs : List V} {k : Int} (h0 : 0 ≤ k) (h : k < (xs.length : Int)) : ∃ v, v ∈ xs ∧ atI xs k = some v := by
  have hk : k.toNat < xs.length := by omega
  exact ⟨xs[k.toNat], List.getElem_mem hk, at_of (j := k.toNat) (by omega) (List.getElem?_eq_getElem hk)⟩
structure Blt (mg : Str → Option Value) : Prop where
  b_ValueError : mg "ValueError" = none
  b_abs : mg "abs" = none
  b_all : mg "all" = none
  b_any : mg "any" = none
  b_bool : mg "bool" = none
  b_enumerate : mg "enumerate" = none
  b_int : mg "int" = none
  b_isinstance : mg "isinstance" = none
  b_len : mg "len" = none
  b_list : mg "list" = none
  b_max : mg "max" = none
  b_min : mg "min" = none
  b_range : mg "range" = none
  b_repr : mg "repr" = none
  b_set : mg "set" = none
  b_sorted : mg "sorted" = none
  b_str : mg "str" = none
  b_tuple : mg "tuple" = none
  b_zip : mg "zip" = none
/-! the head: the top by one run -/
section
open PySem PySem.W PySem.Calls PyProof.Rows
abbrev hdR : OpenRow := OpenLaw.row PySem.Challenge.rw_turnsums_k15_whole_grounds_by_names
def hdV : Program := view hdR.prog [31]
def hdN : List PySem.Str := (["__name__", "TurnError", "NoInverse", "BadGround", "NoRoot", "NoShare", "is_whole", "is_prime", "factors", "divisors", "inverse", "power_rest", "generator", "MOST_ORDER", "divided", "multiplied", "wheel", "Roots", "MOST_PRIME", "Rests", "_law_box", "_law_take", "_law_pick", "_law_by_places", "_law_by_names", "_law_refused", "_law_told_right"] : List PySem.Str)
open HeadRun in
theorem hd_left {p q : Program} {loose : List PySem.Str} {Xt : Shared → Bool} {K : Params → Frag} {as : List Addr} {ek : ∀ P, as = (K P).map (·.1)} {N M : Nat}
    (e : opening p = plainProg p.main.scope.names) (hN : Nat.ble 600 N = true) (f : ∀ s, fenceModules? p s = some s) (le : Nat.ble M N = true)
    (run : ∀ (b : Bool) (w : World) (os : OsState), (fun w : World => (endF (stepQ (denQ tabQ) p w) M p w os).map (fun s => (looksF p (boot_heap w.params) s.abs, seenQ q loose (importedModules p.main.body) Xt s.abs, as.map (getT s))) = some (true, openGood q loose, (K w.params).map fun x => some x.2)) (w.withFollow "special-get-raises" b)) :
    LeftO p q loose Xt (Hook.obs (kHook K as ek)) (Hook.val (kHook K as ek)) N true :=
  left_oneK (M := M) e hN f le fun w => byRow2 "special-get-raises" (P := fun w => ∀ os : OsState, (endF (stepQ (denQ tabQ) p w) M p w os).map (fun s => (looksF p (boot_heap w.params) s.abs, seenQ q loose (importedModules p.main.body) Xt s.abs, as.map (getT s))) = some (true, openGood q loose, (K w.params).map fun x => some x.2)) (fun w os => run false w os) (fun w os => run true w os) w
local macro_rules
  | `(tactic| o_head $H) => `(tactic| (
    refine holds_open (q := hdV) (loose := hdN) (Xt := fun s => xlAt hdV [] s && recOk (RowW.records (OpenRow.toRowW hdR)) s) (XP := XL hdV []) (Yf := Hook.obs $H) (Ya := Hook.val $H) (YP := Hook.says $H) (N := 81000) ?hl (Hook.of $H) (Hook.keeps $H) (fun s e => xl_of s (Bool.and_eq_true_iff.mp e).1) XL.keeps (by rfl) (by rfl) (by rfl) (fun s e => recFacts_of (Bool.and_eq_true_iff.mp e).2) (by rfl) (by first | assumption | decide +kernel) (by decide +kernel) ⟨rfl, rfl, rfl, rfl, rfl, by decide +kernel⟩ ?hw ?hc
    (case hl =>
      refine hd_left (M := 80000) (by kernel_rfl) (by rfl) (fun s => by kernel_rfl) (by rfl) ?_
      intro b w os
      cases b
      · kernel_rfl
      · kernel_rfl)))
set_option maxHeartbeats 0 in
open_top hdtop for PySem.Challenge.rw_turnsums_k15_whole_grounds_by_names
end
/-! ### sorted(set(xs)), xs a list of few ints -/
section
open PySem.Spec PyProof.Rows PySem.Calls
abbrev bareSet (w : World) : Obj := { cls := .type "set", dict := none, data := .set #[] 0 (.fresh 0 0 (!w.params.followText "set-order")) }
/-- what set(xs) leaves behind -/
def SetLeft (w : World) (s : Shared) (ns : List Int) (h' : Heap) (c : Nat) : Prop := SetR w h' s.heap.objs.size (fun j => decide (j ∈ ns)) c ∧ c ≤ ns.length ∧ ∀ b o, s.heap.get? b = some o → h'.get? b = some o
variable {P : Program} {w : World} {A : Around} {E : Value → Shared → Prop} {s : Shared}
theorem items_ints {items : Array Value} {ns : List Int} (hi : IntsAre items.toList ns) (i : Nat) (v : Value) (hv : items[i]? = some v) : ∃ k t, ns[i]? = some k ∧ v = .int k t := by
  have hl : items.size = ns.length := by
    rw [← Array.length_toList]
    exact hi.length
  have hlt : i < ns.length := by
    rw [← hl]
    exact (Array.getElem?_eq_some_iff.mp hv).1
  obtain ⟨t, e⟩ := hi.int_at i v (by rw [Array.getElem?_toList]; exact hv)
  refine ⟨ns[i], t, List.getElem?_eq_getElem hlt, e.trans ?_⟩
  rw [List.getD_eq_getElem?_getD, List.getElem?_eq_getElem hlt]
  rfl
set_option maxHeartbeats 3200000 in
theorem set_of_list {l : Addr} {items : Array Value} {ns : List Int} {Q : Value → Shared → Prop} (hh : A.handled = none) (hl : s.heap.IsList l items) (hi : IntsAre items.toList ns) (hb : ns.length + 1 < scanBound)
    (h : ∀ (h' : Heap) (tk c : Nat), SetLeft w s ns h' c → Q (.ref s.heap.objs.size) { s with heap := h', toks := tk }) : wpAny (model P w) A (call (.type "set") [.ref l]) Q E s := by
  have hsz : items.size = ns.length := by
    rw [← Array.length_toList]
    exact hi.length
  obtain ⟨mc, mt, hmro⟩ := F.called_set.mro
  have a1 := F.called_set.made; have a2 := F.called_set.sub; have a3 := F.called_set.notType; have a4 := F.called_set.canCreate; have a5 := F.typeCall_set_1 (.ref l)
  refine wpAny_call (codeAny_of_tree (show wpAny _ _ (callAny (.type "set") _) _ _ _ from wpAny_pure ⟨Code.quiet_builtin _ (by decide +kernel), codeAny_builtin F.entry_type_call ?_⟩))
  rw [Around.under_plain (weight_type_call_type "set" [.ref l] []) rfl]; repeat (any_goals (first | assumption | wp_step))
  refine codeAny_mono (code_set_led1 (.ref l) (E := E) (Q₁ := fun v s' => v = .ref s.heap.objs.size ∧ s' = { s with heap := s.heap.push (bareSet w) }) ⟨rfl, rfl⟩) fun res s1 hres => ?_
  match res, hres with
  | .error e, hres => exact hres
  | .ok .next, hres => exact hres.elim
  | .ok .cont, hres => exact hres.elim
  | .ok .brk, hres => exact hres.elim
  | .ok (.ret v), hres =>
    obtain ⟨rfl, rfl⟩ := hres
    have g0 : (s.heap.push (bareSet w)).get? s.heap.objs.size = some (bareSet w) := Heap.get?_push_size _ rfl
    have ty0 : Shared.TypeIs { s with heap := s.heap.push (bareSet w) } (.ref s.heap.objs.size) "set" := ⟨_, g0, rfl⟩
    have i1 := F.called_set.init.lookup; have i2 := F.called_set.init.bind (.ref s.heap.objs.size)
    repeat (any_goals (first | assumption | wp_step))
    refine codeAny_mono (codeAny_call_builtin (R := wants (fun v s' => v = .none ∧ ∃ h' tk c, s' = { s with heap := h', toks := tk } ∧ SetLeft w s ns h' c) E) F.called_set.init.plain F.entry_set_init (check_set_init_1 ty0 ?_)) fun res2 s2 hres2 => ?_
    · obtain ⟨⟨lc, ld, la, ls⟩, hol, hcl, nl, hdl⟩ := hl
      simp only at hcl hdl; subst hcl; subst hdl
      have hol1 := Heap.get?_push_of_some (bareSet w) hol
      have hL1 : (s.heap.push (bareSet w)).IsList l items := ⟨_, hol1, rfl, nl, rfl⟩
      have n1 := F.sub_list_set; have n2 := F.sub_list_frozenset; have n3 : (Value.type "list" == Value.type "dict") = false := by decide
      unfold Builtin.«set.__init__» noKeywords Builtin.Frozenset.updateFrom; generalize hgo : pyIter = go; wp_walk; subst hgo
      refine wpAny_pyIter_list hL1 (wpAny_bind (wpAny_runValue ?_))
      have ll := Heap.lt_size hol
      have hhd : A.in1.in1.in1.handled = none := by simp [hh]
      have sz1 : (s.heap.push (bareSet w)).objs.size = s.heap.objs.size + 1 := Heap.size_push ..
      have off : l ≠ (s.heap.push (bareSet w)).objs.size := by rw [sz1]; exact Nat.ne_of_lt (Nat.lt_succ_of_lt ll)
      have out : s.heap.objs.size ∉ [(s.heap.push (bareSet w)).objs.size, l] := by
        intro z
        rcases List.mem_cons.mp z with z | z
        · rw [sz1] at z
          exact absurd z (Nat.ne_of_lt (Nat.lt_succ_self _))
        · exact absurd (List.mem_singleton.mp z) (Nat.ne_of_gt ll)
      refine set_update_ints ((Walks.list hhd _ l off items).toS) s.heap.objs.size out ns hsz hb (items_ints hi) (items.size - 0) 0 _ (by omega) (Nat.zero_le _) ⟨⟨_, Heap.get?_push_size _ rfl, rfl, rfl⟩, hL1.push _⟩ ⟨0, Nat.le_refl 0, setR_new_at (Heap.get?_push_of_some _ g0)⟩ ?_
      rintro ⟨h', g', d', tk', os'⟩ c' hm hc' hS'
      obtain ⟨e1, e2, e3⟩ := (show g' = s.gens ∧ d' = s.drawn ∧ os' = s.os from ⟨hm.gens, hm.drawn, hm.os⟩)
      subst e1; subst e2; subst e3
      refine wpAny_pure (show wpAny _ _ (ret Value.none) _ _ _ from wpAny_pure ⟨rfl, h', tk', c', rfl, hS', by omega, fun b o e => ?_⟩)
      have lb := Heap.lt_size e
      refine hm.heap b o ?_ (Heap.get?_push_of_some _ (Heap.get?_push_of_some _ e))
      intro z
      rcases List.mem_cons.mp z with z | z
      · exact absurd z (Nat.ne_of_lt lb)
      · have z2 := List.mem_singleton.mp z
        rw [sz1] at z2
        exact absurd z2 (Nat.ne_of_lt (Nat.lt_succ_of_lt lb))
    · match res2, hres2 with
      | .error e, hres2 => exact hres2
      | .ok .next, hres2 => exact hres2.elim
      | .ok .cont, hres2 => exact hres2.elim
      | .ok .brk, hres2 => exact hres2.elim
      | .ok (.ret v2), hres2 =>
        obtain ⟨rfl, h', tk, c', rfl, hS'⟩ := hres2
        repeat (any_goals (first | assumption | wp_step))
        exact h _ _ _ hS'
end
open PySem.Spec PyProof.Rows in
/-- sorted of a set of ints, however many -/
theorem set_sorted {P : Program} {w : World} {A : Around} {E : Value → Shared → Prop} {s : Shared} {a : Addr} {S : Int → Bool} {n : Nat} {Q : Value → Shared → Prop} (R : SetR w s.heap a S n) (hh : A.handled = none)
    (q : ∀ s' p (out : List Value) (c : Nat) (ms : List Int), (∀ b o, s.heap.get? b = some o → s'.heap.get? b = some o) → s'.gens = s.gens → s'.os = s.os → s.heap.objs.size ≤ p →
      s'.heap.get? p = some (seqObj "list" out.toArray c) → IntsAre out ms → ms.Pairwise (· < ·) → (∀ k, k ∈ ms ↔ S k = true) → ms.length = n → Q (.ref p) s') : wpAny (model P w) A (call (.builtin "sorted") [.ref a]) Q E s := by
  obtain ⟨o, es, ep, t, g1, g2, g3, good, nod, mem, g4, g5, g6, g7, g8⟩ := R
  refine Calls.call_function_entry kind_sorted plain_sorted entry_sorted (args_sorted1 _) ?_; unfold Builtin.«sorted»
  refine wpAny_bind (m := checkCount "sorted" 1 1 _) (wpAny_pure (wpAny_bind (collect_set (A := A.in1) hh ⟨o, g1, g2.1, g3⟩ g5 g4 g7 g8 fun s1 vs k1 z1 e1 e2 pm => ?_)))
  have len : vs.length = n := by
    rw [pm.length_eq, List.length_map, Array.length_toList]
    exact g6
  have ivs : ∀ e ∈ es.toList, SrtO.iv e.2 = keyOf e := fun e he => by
    obtain ⟨k, tk, h1, _⟩ := good e he
    unfold keyOf
    rw [h1]
    rfl
  have hI : IntsAre vs (vs.map SrtO.iv) := SrtO.ints_iv fun v hv => by
    obtain ⟨e, he, ev⟩ := List.mem_map.mp (pm.mem_iff.mp hv)
    obtain ⟨k, tk, h1, _⟩ := good e he
    exact ⟨k, tk, ev.symm.trans h1⟩
  have prm : (vs.map SrtO.iv).Perm (es.toList.map keyOf) := by
    refine (pm.map SrtO.iv).trans ?_
    rw [List.map_map]
    exact List.Perm.of_eq (List.map_congr_left ivs)
  have zn : n ≤ sizeLine := by
    unfold scanBound at g4
    exact szl (by omega)
  refine wpAny_bind (wpAny_newList ?_ (by rw [len]; exact zn))
  have at1 : (s1.heap.push (seqObj "list" vs.toArray 0)).get? s1.heap.objs.size = some (seqObj "list" vs.toArray 0) := Heap.get?_push_size _ rfl
  refine wpAny_bind (wpAny_holding (wpAny_call_entry slot_list_sort ⟨_, at1, rfl⟩ entry_list_sort (SrtO.list_sort_ord SrtO.swo_int at1 (by rw [len]; exact zn) (fun two => SrtO.ints_sortable hI two) fun out o1 o2 => ⟨_, rfl, ?_⟩) (args_list_sort _)))
  obtain ⟨j1, j2, j3⟩ := SrtO.ints_out hI o1 o2
  obtain ⟨c, at2⟩ := sortedHeap_at (vs := vs) (out := out.toArray) at1
  have prm2 := j2.trans prm
  refine wpAny_pure ⟨_, rfl, q _ s1.heap.objs.size out c _ (fun b u e => ?_) e1 e2 z1 at2 j1 (lt_of_le_nodup _ j3 (prm2.nodup_iff.mpr nod)) (fun k => by rw [prm2.mem_iff, ← mem k]) (by rw [prm2.length_eq, List.length_map, Array.length_toList]; exact g6)⟩
  have e3 := k1 b u e
  have l3 := Heap.lt_size e3
  exact (sortedHeap_old (vs := vs) (out := out.toArray) (Nat.ne_of_lt l3) (by rw [size_push']; exact Nat.lt_succ_of_lt l3)).trans (Heap.get?_push_of_some _ e3)
def tSortSet (K : PySem.W.Frag) (ta : TE) : TE := fun σ H Q => ta σ H fun x H1 => ∃ (l : Addr) (ns : List Int), x = .ref l ∧ SqL K H1 l (ns.map V.int) ∧ ns.length ≤ 4000 ∧
  ∀ (out : List Int) (p : Addr), H1 p = none → out.Pairwise (· < ·) → (∀ k, k ∈ out ↔ k ∈ ns) → out.length ≤ ns.length → Q (.ref p) (upd H1 p (.lst (out.map V.int)))
open PySem.Spec PyProof.Rows in
theorem pe_sortSet {X : Cx} {a : Expr} {ta : TE} {p p2 q pos : Pos} (hg : Gl X "sorted") (hm : X.mg "sorted" = none) (hg2 : Gl X "set") (hm2 : X.mg "set" = none) (ha : PE X a ta) (hc : X.calm = true := by rfl)
    (na : starEach [a] X.env = (false, eval a X.env) :: starEach [] X.env := by rfl) : PE X (.Call (.Name "sorted" p) [.Call (.Name "set" p2) [a] [] q] [] pos) (tSortSet X.K ta) := by
  refine ⟨fun pins s σ H Q I h => ?_⟩
  refine Call_ (ld_blt I hg hm boot_sorted (callWith_builtin1 (args_cons (Call_ (ld_blt I hg2 hm2 boot_set (callWith_type1 (args_cons (thn (ha.run pins s σ H _ I h) fun v s1 ⟨x, H1, I1, r1, q1⟩ => args_nil ?_) na) na rfl))) rfl) rfl rfl))
  obtain ⟨l, ns, rfl, hq, hn, q1⟩ := q1
  cases r1
  obtain ⟨its, r, pl, hz⟩ := I1.list hq
  have hd := I1.ok.hd hc
  refine set_of_list hd pl.isList (by simpa using ints_of_vals r) (by unfold scanBound; omega) fun h' tk c hL => args_nil ?_
  obtain ⟨R1, hcn, kept⟩ := hL
  refine set_sorted (s := { s1 with heap := h', toks := tk }) R1 hd fun s' pp out cc ms k g o hp hgt hi hs hmem hlen => ?_
  have kk : ∀ b u, s1.heap.get? b = some u → s'.heap.get? b = some u := fun b u e => k b u (kept b u e)
  have hpp : s1.heap.objs.size ≤ pp := Nat.le_trans (Nat.le_of_lt R1.lt) hp
  have fr : H1 pp = none := I1.hok.fresh hpp
  have sl : (ms.map V.int).length ≤ sizeLine := by
    rw [List.length_map, hlen]
    exact szl (by omega)
  have hos : s'.os = s1.os := o
  have J : Inv X pins σ (upd H1 pp (.lst (ms.map V.int))) { s1 with heap := s'.heap, gens := s'.gens, drawn := s'.drawn, toks := s'.toks } :=
    I1.call (ch := []) (Un.laid kk hpp fr) (I1.hok.laid kk hpp ⟨sl, out, cc, vals_of_ints hi, hgt⟩) (by rw [g]; exact I1.bare) (fun _ z => nomatch z)
  have es : s' = { s1 with heap := s'.heap, gens := s'.gens, drawn := s'.drawn, toks := s'.toks } := by
    obtain ⟨b1, b2, b3, b4, b5⟩ := s'
    simp only at hos
    subst hos
    rfl
  rw [es]
  exact ⟨.ref pp, _, J, rfl, q1 ms pp fr hs (fun j => (hmem j).trans decide_eq_true_iff) (by omega)⟩
local macro_rules | `(tactic| walk_at "ev4") => `(tactic| with_reducible show (_ : Nat) ≤ _)
local macro_rules | `(tactic| walk_at "ev4") => `(tactic| with_reducible show (_ : Nat) < _)
local macro_rules | `(tactic| walk_at "ev4") => `(tactic| with_reducible show (_ : Int) ≤ _)
local macro_rules | `(tactic| walk_at "ev4") => `(tactic| with_reducible show (_ : Int) < _)
local macro_rules | `(tactic| walk_at "ev4") => `(tactic| with_reducible show (_ : Int) = _)
local macro_rules | `(tactic| walk_at "ev3") => `(tactic| (simp only [List.length_cons, List.length_nil, List.length_append, List.length_map, List.length_replicate]; omega))
local macro_rules | `(tactic| walk_at "ev3") => `(tactic| (simp only [pw6, pw9]; omega))
local macro_rules | `(tactic| walk_at "ev3") => `(tactic| decide)
local macro_rules | `(tactic| walk_at "ev3") => `(tactic| omega)
local macro_rules | `(tactic| walk_at "ev1m") => `(tactic| (refine szm ?_; simp only [List.length_cons, List.length_nil, List.length_append, List.length_map, List.length_replicate]; omega))
local macro_rules | `(tactic| walk_at "ev1m") => `(tactic| (refine szl ?_; simp only [List.length_cons, List.length_nil, List.length_append, List.length_map, List.length_replicate]; omega))
local macro_rules | `(tactic| walk_at "ev1m") => `(tactic| exact .cons (.ty _) (.cons (.ty _) .nil))
local macro_rules | `(tactic| walk_at "ev1m") => `(tactic| exact ClsV.ty _)
local macro_rules | `(tactic| walk_at "ev1m") => `(tactic| exact (Or.inl ⟨rfl, _, SqL.of (by assumption)⟩))
local macro_rules | `(tactic| walk_at "ev1m") => `(tactic| exact (show CDivW _ _ from wide_div (b := 31) (by omega) (by omega) (by decide) (by decide)))
local macro_rules | `(tactic| walk_at "ev1m") => `(tactic| exact (show CMul _ _ from cmul_b))
local macro_rules | `(tactic| walk_at "ev1m") => `(tactic| exact (show CMul _ _ from .inr ⟨by omega, by omega⟩))
local macro_rules | `(tactic| walk_at "ev1m") => `(tactic| exact (show CMul _ _ from .inl ⟨by omega, by omega⟩))
local macro_rules | `(tactic| walk_at "ev1m") => `(tactic| exact (show CPow _ _ from ⟨by omega, by omega, by omega⟩))
local macro_rules | `(tactic| walk_at "ev1m") => `(tactic| exact (show CDiv _ _ from ⟨by omega, by omega⟩))
local macro_rules | `(tactic| walk_at "ev1m") => `(tactic| omega)
local macro_rules | `(tactic| walk_at "ev1m") => `(tactic| exact Or.inr (by assumption))
local macro_rules | `(tactic| walk_at "ev1m") => `(tactic| exact Or.inl (by assumption))
local macro_rules | `(tactic| walk_at "ev1m") => `(tactic| exact Or.inl (SqL.of upd_same))
local macro_rules | `(tactic| walk_at "ev1m") => `(tactic| exact SqL.of upd_same)
local macro_rules | `(tactic| walk_at "ev1m") => `(tactic| exact upd_same)
local macro_rules | `(tactic| walk_at "ev1m") => `(tactic| assumption)
local macro_rules | `(tactic| walk_at "ev1m") => `(tactic| (walk_at "ev4"; walk_at "ev3"))
local macro_rules | `(tactic| walk_at "ev1m") => `(tactic| ((with_reducible show _ = _); exact rfl))
local macro_rules | `(tactic| walk_at "ev1m") => `(tactic| with_reducible assumption)
local macro_rules | `(tactic| walk_at "sm") => `(tactic| ((fail_if_success (refine @Exists.intro (Nat → Nat → L2.St → Hp → Prop) _ ?_ ?_)); (fail_if_success (refine @Exists.intro (Nat → L2.St → Hp → Prop) _ ?_ ?_)); (fail_if_success (refine @Exists.intro (L2.St → Hp → Prop) _ ?_ ?_)); (fail_if_success (refine @Exists.intro (Hp → Prop) _ ?_ ?_)); (fail_if_success (refine @Exists.intro (Nat → Nat → Hp → Prop) _ ?_ ?_)); apply Exists.intro))
local macro_rules | `(tactic| walk_at "sm") => `(tactic| (apply Or.inr; apply Exists.intro; apply And.intro rfl))
local macro_rules | `(tactic| walk_at "sm") => `(tactic| (apply Or.inl; apply Exists.intro; apply And.intro rfl))
local macro_rules | `(tactic| walk_at "sm") => `(tactic| with_reducible refine iteNS (by assumption) ?_)
local macro_rules | `(tactic| walk_at "sm") => `(tactic| with_reducible refine iteNS rfl ?_)
local macro_rules | `(tactic| walk_at "sm") => `(tactic| with_reducible refine ite_dec rfl ?_)
local macro_rules | `(tactic| walk_at "sm") => `(tactic| with_reducible refine iteF ?_)
local macro_rules | `(tactic| walk_at "sm") => `(tactic| with_reducible refine iteT ?_)
local macro_rules | `(tactic| walk_at "sm") => `(tactic| (refine And.intro ?l ?_; (case l => walk_at "ev1m")))
local macro_rules | `(tactic| walk_at "ev1") => `(tactic| first | walk_at "ev1m" | fail)
local macro_rules | `(tactic| walk_at "s") => `(tactic| first | walk_at "sm" | fail)
local macro_rules | `(tactic| walk_at "ev") => `(tactic| repeat (walk_at "sm"))
local macro_rules | `(tactic| w_cond $i:ident) => do
  let b := (i.getId.toString.drop 1).toString
  let l := Lean.mkIdent (.mkSimple ("l" ++ b))
  let hl := Lean.mkIdent (.mkSimple ("hl" ++ b))
  let h := Lean.mkIdent (.mkSimple ("H" ++ b))
  let sm := Lean.mkIdent (.mkSimple ("sm" ++ b))
  let hq := Lean.mkIdent (.mkSimple ("hq" ++ b))
  `(tactic| (intro $l:ident $hl:ident; generalize hG : upd _ $l:ident _ = $h:ident; obtain ⟨$sm:ident, $hq:ident⟩ := newO hG $hl:ident; clear hG))
/-! ### a caught exception that a name keeps behind its clause -/
/-- at a: an exception of the class at C, its dict at d -/
def XOb (C d a : Addr) : HO := .ext fun h => ∃ (ob : Obj) (fl : Array Value), h.get? a = some ob ∧ Zc (.ref C) (some d) ob ∧ ob.data = .fields fl
theorem xob_ok {P : Program} {w : World} {H : Hp} {h : Heap} {C d a : Addr} {ob : Obj} {fl : Array Value} (q1 : h.get? a = some ob) (q2 : Zc (.ref C) (some d) ob) (q3 : ob.data = .fields fl) : ObjOk P w H h a (XOb C d a) :=
  ⟨⟨ob, fl, q1, q2, q3⟩, ⟨ob, q1⟩, fun _ _ ⟨u, v, r1, r2⟩ k => ⟨u, v, k u r1, r2⟩⟩
/-- an object of the heap that nobody tracks is tracked from now on -/
theorem track {X : Cx} {pins : List (Addr × Obj)} {σ : L2.St} {H : Hp} {s : Shared} {a : Addr} {o : HO} (I : Inv X pins σ H s) (n0 : X.s_0.heap.get? a = none) (hn : H a = none) (nL : a ≠ X.env.locals) (nC : ∀ x c, X.env.cells.lookup x = some c → c ≠ a)
    (nP : ∀ p ∈ X.pn ++ pins, p.1 ≠ a) (new : ObjOk X.prog X.w (upd H a o) s.heap a o) : Inv X pins σ (upd H a o) s := by
  have ne : ∀ {b : Addr} {u : HO}, H b = some u → b ≠ a := fun e => ne_of_none e hn
  refine ⟨I.ok, I.os, I.bare, ⟨I.base.keep, I.base.slot, fun b u e n hx => ?_, I.base.there, fun b xs e => ?_, fun b u v e => ?_, fun b ps e => ?_⟩, I.loc, I.cell, ?_, fun x c e => ?_, fun p hp => ?_, I.hok.laidN (fun _ _ z => z) hn new, I.len⟩
  · have : b ≠ a := fun z => by
      rw [z, n0] at e
      cases e
    rw [upd_ne this]
    exact I.base.free b u e n hx
  · have q := I.base.tups b xs e
    rw [upd_ne (ne q)]
    exact q
  · have q := I.base.frzs b u v e
    rw [upd_ne (ne q)]
    exact q
  · obtain ⟨m, q⟩ := I.base.tbls b ps e
    exact ⟨m, by rw [upd_ne (ne q)]; exact q⟩
  · rw [upd_ne nL.symm]
    exact I.free
  · rw [upd_ne (nC x c e)]
    exact I.freeC x c e
  · obtain ⟨e, n, r⟩ := I.pin p hp
    exact ⟨e, by rw [upd_ne (nP p hp)]; exact n, r⟩
section
variable {X : Cx} {x n : Str} {c : Value} {i : Nat} {body suite : List Stmt} {b₀ : Stmt} {np pos pos' : Pos} {tb : WX → TS} {ts : Addr → TS} {Wout : WX}
end
/-- what is told of an own exception class -/
structure ExK (K : PySem.W.Frag) (C : Addr) : Prop where
  oex : OexC K C
  xf : XfC K C
  ec : ExcC K C
  nw : PySem.W.findIn K (.ref C) "what" = some none
/-- an exception object, tracked, with its fields -/
def XAt (H : Hp) (a C : Addr) (fs : List (Str × V)) : Prop := ∃ d, H a = some (XOb C d a) ∧ H d = some (.xd fs)
theorem XAt.same {H H' : Hp} {a C : Addr} {fs : List (Str × V)} (h : XAt H a C fs) (e : Same H H') : XAt H' a C fs := by
  obtain ⟨d, h1, h2⟩ := h
  exact ⟨d, e _ _ h1, e _ _ h2⟩
theorem xat_inst {X : Cx} {pins : List (Addr × Obj)} {σ : L2.St} {H : Hp} {s : Shared} {a C : Addr} {fs : List (Str × V)} (I : Inv X pins σ H s) (h : XAt H a C fs) : ∃ (ob od : Obj) (mA : Str → Option Value), PySem.W.InstAt s.heap a ob C (some od) ∧ (∀ name, PySem.W.lookIn name od = some (mA name)) ∧ ∀ f, RelO (fs.lookup f) (mA f) := by
  obtain ⟨d, h1, h2⟩ := h
  obtain ⟨⟨ob, fl, q1, q2, q3⟩, _, _⟩ := (show ObjOk X.prog X.w H s.heap a (XOb C d a) from I.hok a _ h1)
  obtain ⟨mA, hns, hr⟩ := (show ObjOk X.prog X.w H s.heap d (.xd fs) from I.hok d _ h2)
  obtain ⟨od, ho, hl⟩ := lookIn_ns hns
  exact ⟨ob, od, mA, ⟨q1, q2.1, by unfold PySem.W.notCls; rw [q3] <;> rfl, by rw [q2.2]; exact ho⟩, hl, hr⟩
/-- e.f, e tracked -/
def tXw (K : PySem.W.Frag) (f : Str) (te : TE) : TE := fun σ H Q => te σ H fun x H1 => ∃ (a C : Addr) (fs : List (Str × V)) (v : V), x = .ref a ∧ XAt H1 a C fs ∧ ExK K C ∧ PySem.W.findIn K (.ref C) f = some none ∧ fs.lookup f = some v ∧ Q v H1
theorem pe_xw {X : Cx} {e : Expr} {te : TE} {pos : Pos} {n : Str} (he : PE X e te) (hb : attributeBase e n X.env (eval e X.env) = eval e X.env := by rfl) : PE X (.Attribute e n pos) (tXw X.K n te) := by
  refine ⟨fun pins s σ H Q I h => attr_of hb (thn (he.run pins s σ H _ I h) fun u s1 hh => ?_)⟩
  obtain ⟨x, H1, I1, rx, a, C, fs, v, ex, hx, E, hno, l, q⟩ := hh
  subst ex
  cases (show u = Value.ref a from rx)
  obtain ⟨ob, od, mA, J, hl, hr⟩ := xat_inst I1 hx
  obtain ⟨u, hu, ru⟩ := RelO.some_of (v := v) (o := mA n) (by rw [← l]; exact hr n)
  exact HandSPX.exc_get I1.kIn J E.xf.ga E.xf.gg E.xf.exC (PySem.W.findObj_own E.xf.hdC hno rfl (by rw [hl, hu])) (handed_of ru) ⟨v, H1, I1.tok _, ru, q⟩
/-! ### methods and classes, what they raise wished for at the caller's slots -/
def tMakeS (C : Addr) (sp : Sp) (E : L2.St → XK) (t : TA) : TE := fun σ H Q => t σ H fun vs H1 => ∀ x dx, H1 x = none → H1 dx = none → dx ≠ x → sp (.ref x :: vs) (upd (upd H1 dx (.own x)) x (.ins C dx [])) (fun v H2 => v = .non ∧ Q (.ref x) H2) (E σ)
section
variable {X : Cx} {CX : CXT} {k : Nat} {f C : Addr} {fd : FuncData} {ps : List Str} {sp : Sp} {E : L2.St → XK} {x m : Str} {p pos apos : Pos} {e o : Expr} {es : List Expr} {ta : TE} {t : TA}
theorem run_makeS {pins : List (Addr × Obj)} {σ : L2.St} {H : Hp} {s : Shared} {Q : VK} {us : List Value} {vs : List V} (M : Mk X.K C f) (F : FnOk X.prog X.w X.K X.mg X.base CX k f fd ps sp) (hr : Room (k + 1) X.A) (hb : Binds X.K fd ps []) (hx : PassesAt CX X σ (E σ)) (I : Inv X pins σ H s) (r : Vals vs us)
    (h : ∀ y dx, H y = none → H dx = none → dx ≠ y → sp (.ref y :: vs) (upd (upd H dx (.own y)) y (.ins C dx [])) (fun v H2 => v = .non ∧ Q (.ref y) H2) (E σ)) : wpAny (model X.prog X.w) X.A (call (.ref C) us) (EP X pins σ Q) X.xe s := by
  have hq := h (s.heap.objs.size + 1) s.heap.objs.size (I.hok.fresh (Nat.le_succ _)) (I.hok.fresh (Nat.le_refl _)) (Nat.ne_of_lt (Nat.lt_succ_self _))
  have J := Inv.made (C := C) I
  have r2 : Vals (V.ref (s.heap.objs.size + 1) :: vs) (Value.ref (s.heap.objs.size + 1) :: us) := .cons rfl r
  have hl : (Value.ref (s.heap.objs.size + 1) :: us).length = ps.length := r2.length.symm.trans (F.len _ _ _ _ hq)
  have bi := hb _ (Value.ref (s.heap.objs.size + 1) :: us) J.kIn (by rw [List.append_nil]; exact hl)
  rw [List.append_nil] at bi
  refine wpAny_call (make_map (f := f) I.kIn M.makes M.init (beq_iff_eq.mp M.fn) (codeAny_mono (F.run _ X.stack _ _ ⟨_, []⟩ _ _ _ (E σ) (hr.make C us []) (J.env0.make C us []) bi r2 hq) fun rs s1 q1 => ?_))
  cases rs with
  | error er => exact hx pins _ _ er s1 J q1
  | ok fl =>
    cases fl with
    | ret u =>
      obtain ⟨v, H3, I3, rv, ev, q3⟩ := J.after q1
      subst ev
      exact ⟨rv, ⟨V.ref (s.heap.objs.size + 1), H3, I3, rfl, q3⟩⟩
    | next => exact q1.elim
    | brk => exact q1.elim
    | cont => exact q1.elim
theorem pe_makeS (M : Mk X.K C f) (F : FnOk X.prog X.w X.K X.mg X.base CX k f fd ps sp) (hr : Room (k + 1) X.A) (hg : Gl X x) (hm : X.mg x = some (.ref C)) (hb : Binds X.K fd ps []) (hx : ∀ σ, PassesAt CX X σ (E σ)) (ha : PA X (e :: es) t)
    (hdb : (x == ("__debug__" : Str)) = false := by decide) (he : starEach (e :: es) X.env = (false, eval e X.env) :: starEach es X.env := by rfl) (hpl : (backTo pos (starEach es X.env)).any (·.1) = false := by rfl) : PE X (.Call (.Name x p) (e :: es) [] pos) (tMakeS C sp E t) := by
  refine ⟨fun pins s σ H Q I h => wpAny_Call_Name_kw (ld_glob I hg hm (PySem.W.callWith_K (h₀ := X.base) I.ok.mod.kin M.kp (thn (ha.run pos pins s σ H _ I h) fun us s1 q1 => ?_) he hpl) hdb)⟩
  obtain ⟨vs, H1, I1, r, q⟩ := q1
  exact ⟨I1.kIn, run_makeS M F hr hb (hx σ) I1 r q⟩
end
/-! ### xs[i] op= e, xs a list -/
section
open PySem.Spec PyProof.Rows
variable {X : Cx}
theorem get_list : PGet X (rIxL X.K) := by
  intro pins s σ H o i ov iv Q I ro ri h
  obtain ⟨p, xs, k, z, rfl, rfl, hq, he, q⟩ := h
  cases ro
  obtain ⟨t, rfl⟩ := ri
  obtain ⟨its, r, pl, hz⟩ := I.list hq
  obtain ⟨j, h1, h2, h3, h4, h5⟩ := atI_get he
  obtain ⟨w, ew, rw'⟩ := r.get h2
  have hl := r.length
  have hn := line63
  have fin : EP X pins σ Q w s := ⟨z, H, I, rw', q⟩
  by_cases h0 : 0 ≤ k
  · have hj : k.toNat = j := by
      rw [seqIndex_of h0 h5] at h1
      exact Option.some.inj h1
    exact wpAny_getItem_list pl.isList h0 (by omega) (by rw [hj]; simpa using ew) fin
  · have hj : (k + (its.toArray.size : Int)).toNat = j := by
      rw [seqIndex_neg (by omega) h4] at h1
      rw [List.size_toArray, ← hl]
      exact Option.some.inj h1
    exact wpAny_getItem_list_neg pl.isList (by omega) (by rw [List.size_toArray] <;> omega) (by omega) (by rw [hj]; simpa using ew) fin
end
/-! ### the drawing -/
theorem log2_lt60 {t : Int} (h0 : 0 < t) (h : t < 1152921504606846976) : t.natAbs.log2 < 9000 := by
  have h1 : t.natAbs < 2 ^ 60 := by
    have : (2 : Nat) ^ 60 = 1152921504606846976 := by decide
    omega
  exact Nat.lt_trans ((Nat.log2_lt (by omega)).mpr h1) (by decide)
abbrev s__law_take : Stmt := top 25
abbrev N__law_take : List Str := ["_law_box_here", "_law_top", "_law_found", "_law_once"]
abbrev P__law_take : List Str := ["_law_box_here", "_law_top"]
theorem sc__law_take : FnScope N__law_take P__law_take (defScope s__law_take) := ⟨rfl, rfl, rfl, by decide +kernel, rfl, by decide +kernel, by decide +kernel⟩
def spTake : Sp := fun vs H Q _ => ∃ (b : Addr) (top n : Int), vs = [.ref b, .int top] ∧ BoxAt H b n ∧ 0 < top ∧ top < 1152921504606846976 ∧ n < 1048576 ∧ ∀ r H', 0 ≤ r → r < top → Keep b H H' → BoxAt H' b (n + 1) → Q (.int r) H'
section
variable {P : Program} {w : World} {K : PySem.W.Frag} {mg : Str → Option Value} {base : Heap}
theorem ok_take {f : Addr} {fd : FuncData} {k : Nat} (F : Fun K "_law_take" "_law_take" s__law_take f fd) : FnOk P w K mg base CX0 (k + 1) f fd P__law_take spTake := by
  have nd := sc__law_take.nd
  refine F.ok sc__law_take (fun vs H Q E h => ?_) (fun cdv A outer s H vs Q E hr h => ?_)
  · obtain ⟨b, top, n, rfl, _⟩ := h
    rfl
  · obtain ⟨b, top, n, rfl, ⟨x, y, z, hb, hx, hy, hy2, hz, hzn⟩, ht, ht2, hn, q⟩ := h
    refine ⟨_, (pss_cons (ps_if (pt_cmpR op_gt (pe_ix (r := rIxL K) ix_list (pv 0) (pe_int) (fun _ _ => rfl)) (pe_int) (nomark _)) (pss_cons (ps_set (i := 2) nd rfl (Or.inl rfl) (pe_op op_mod (pe_ix (r := rIxL K) ix_list (pv 0) (pe_int) (fun _ _ => rfl)) (pv 1)))
      (pss_cons (ps_asg (pe_op op_fdivW (pe_ix (r := rIxL K) ix_list (pv 0) (pe_int) (fun _ _ => rfl)) (pv 1)) (pg_sub (pv 0) (pe_int) set_list))
      (pss_one (ps_ret (pv 2))))) pss_nil)
      (pss_cons (ps_asg (pe_op op_add (pe_ix (r := rIxL K) ix_list (pv 0) (pe_int) (fun _ _ => rfl)) (pe_int)) (pg_sub (pv 0) (pe_int) set_list))
      (pss_cons (ps_set (i := 3) nd rfl (Or.inl rfl) (pe_op op_mod (pe_op op_pow (pe_op op_add (pe_ix (r := rIxL K) ix_list (pv 0) (pe_int) (fun _ _ => rfl)) (pe_op op_mul (pe_int) (pe_ix (r := rIxL K) ix_list (pv 0) (pe_int) (fun _ _ => rfl)))) (pe_int)) (pe_int)))
      (pss_one (ps_ret (pe_op op_mod (pe_op op_fdivW (pe_op op_mod (pe_op op_add (pe_op op_mul (pv 3) (pe_op op_add (pe_op op_mod (pv 3) (pe_int)) (pe_int))) (pe_op op_mul (pe_ix (r := rIxL K) ix_list (pv 0) (pe_int) (fun _ _ => rfl)) (pe_int))) (pe_int)) (pe_int)) (pv 1))))))), ?_⟩
    have hL : SqL K H b [.int x, .int y, .int z] := SqL.of hb
    have cw : ∀ i : Int, CDivW i top := fun i => ⟨ht, log2_lt60 ht ht2⟩
    have cw6 : ∀ i : Int, CDivW i 64 := fun i => ⟨by decide, by decide⟩
    have cw1 := cw x
    walk_at "ev"
    refine ite2 (fun e => ?_) (fun e => ?_)
    · have e1 : 0 < x := of_decide_eq_true e
      walk_at "ev"
      exact q _ _ (Int.emod_nonneg _ (by omega)) (Int.emod_lt_of_pos _ ht) (keep_upd (Keep.refl _ _)) ⟨_, _, _, upd_same, Int.ediv_nonneg hx (by omega), hy, hy2, hz, by omega⟩
    · walk_at "ev"
      exact q _ _ (Int.emod_nonneg _ (by omega)) (Int.emod_lt_of_pos _ ht) (keep_upd (Keep.refl _ _)) ⟨_, _, _, upd_same, hx, hy, hy2, by omega, by omega⟩
end
abbrev s__law_box : Stmt := top 24
abbrev N__law_box : List Str := ["_law_script", "_law_k", "_law_cell"]
abbrev P__law_box : List Str := ["_law_script", "_law_k"]
theorem sc__law_box : FnScope N__law_box P__law_box (defScope s__law_box) := ⟨rfl, rfl, rfl, by decide +kernel, rfl, by decide +kernel, by decide +kernel⟩
def spBox (K : PySem.W.Frag) : Sp := fun vs H Q _ => ∃ (a : Addr) (ns : List Int) (k : Int), vs = [.ref a, .int k] ∧ SqL K H a (ns.map V.int) ∧ 0 ≤ k ∧ k ≤ 100000 ∧ ∀ p H', H p = none → Same H H' → BoxAt H' p 0 → Q (.ref p) H'
section
variable {P : Program} {w : World} {K : PySem.W.Frag} {mg : Str → Option Value} {base : Heap}
theorem ok_box {f : Addr} {fd : FuncData} {k : Nat} (F : Fun K "_law_box" "_law_box" s__law_box f fd) (T : Blt mg) : FnOk P w K mg base CX0 (k + 1) f fd P__law_box (spBox K) := by
  have nd := sc__law_box.nd
  refine F.ok sc__law_box (fun vs H Q E h => ?_) (fun cdv A outer s H vs Q E hr h => ?_)
  · obtain ⟨b, top, n, rfl, _⟩ := h
    rfl
  · obtain ⟨a, ns, k, rfl, hL, h0, h1, q⟩ := h
    refine ⟨_, (pss_cons (ps_set (i := 2) nd rfl (Or.inl rfl) (pe_int))
      (pss_cons (ps_if (pt_cmpR op_lt (pv 1) (pe_callB (r := rLenQ K) call_len_seq (by rfl) T.b_len (by decide +kernel) (pa_cons (pv 0) pa_nil)) (nomark _)) (pss_one (ps_set (i := 2) nd rfl (Or.inl rfl) (pe_ix (r := rIxL K) ix_list (pv 0) (pv 1) (fun _ _ => rfl)))) pss_nil)
      (pss_one (ps_ret (pe_lst (pa_cons (pe_op op_mul (pe_callB call_abs (by rfl) T.b_abs (by decide +kernel) (pa_cons (pv 2) pa_nil)) (pe_callTy call_int1 (by rfl) T.b_int (by decide +kernel) (pa_cons (pe_cmpR op_ge (pe_callB call_abs (by rfl) T.b_abs (by decide +kernel) (pa_cons (pv 2) pa_nil)) (pe_op op_pow (pe_int) (pe_int)) (nomark _)) pa_nil))) (pa_cons (pe_op op_add (pe_op op_add (pe_op op_mod (pv 2) (pe_int)) (pe_op op_mul (pe_int) (pv 1))) (pe_int)) (pa_cons (pe_int) pa_nil)))))))), ?_⟩
    have fin : ∀ c : Int, ∀ p, H p = none → Q (.ref p) (upd H p (.lst [.int ((if c < 0 then -c else c) * (if decide ((10 : Int) ^ 18 ≤ if c < 0 then -c else c) then 1 else 0)), .int (c % 2147483629 + 7919 * k + 11), .int 0])) := by
      intro c p hp
      refine q p _ hp (same_new hp) ⟨_, _, _, upd_same, ?_, ?_, ?_, by omega, by omega⟩
      · refine Int.mul_nonneg ?_ ?_
        · split <;> omega
        · split <;> omega
      · have := Int.emod_nonneg c (show (2147483629 : Int) ≠ 0 by decide)
        omega
      · have := Int.emod_lt_of_pos c (show (0 : Int) < 2147483629 by decide)
        omega
    walk_at "ev"
    refine ite2 (fun e => ?_) (fun e => ?_)
    · have e1 : k < ((ns.map V.int).length : Int) := of_decide_eq_true e
      rw [List.length_map] at e1
      obtain ⟨c, hc, hat⟩ := at_ints h0 e1
      walk_at "ev"
      exact fin c
    · walk_at "ev"
      exact fin 0
end
/-! ### the mathematics of primes -/
def Rough (n d : Int) : Prop := ∀ e : Int, 2 ≤ e → e < d → ¬ e ∣ n
inductive Fac : Int → List Int → Prop
  | one : Fac 1 []
  | cons {n p q : Int} {ps : List Int} : 2 ≤ p → n = p * q → 1 ≤ q → Rough n p → Fac q ps → Fac n (p :: ps)
theorem Fac.uniq : ∀ {n : Int} {xs ys : List Int}, Fac n xs → Fac n ys → xs = ys := by
  intro n xs ys h
  induction h generalizing ys with
  | one =>
    intro k
    cases k with
    | one => rfl
    | cons h1 h2 h3 h4 h5 =>
      rename_i p q ps
      have : 2 * 1 ≤ p * q := Int.mul_le_mul h1 h3 (by omega) (by omega)
      omega
  | cons h1 h2 h3 h4 h5 ih =>
    rename_i n p q ps
    intro k
    cases k with
    | one =>
      have : 2 * 1 ≤ p * q := Int.mul_le_mul h1 h3 (by omega) (by omega)
      omega
    | cons g1 g2 g3 g4 g5 =>
      rename_i p' q' ps'
      have e : p = p' := by
        rcases Int.lt_trichotomy p p' with l | l | l
        · exact absurd ⟨q, h2⟩ (g4 p h1 l)
        · exact l
        · exact absurd ⟨q', g2⟩ (h4 p' g1 l)
      subst e
      have e2 : q = q' := by
        have : p * q = p * q' := by omega
        exact Int.eq_of_mul_eq_mul_left (by omega) this
      subst e2
      rw [ih g5]
theorem Fac.self {n : Int} (h : 2 ≤ n) (r : Rough n n) : Fac n [n] := .cons h (by omega) (by omega) r .one
theorem Rough.of_fac {n : Int} (h : Fac n [n]) : 2 ≤ n ∧ Rough n n := by
  cases h with
  | cons h1 h2 h3 h4 h5 => exact ⟨h1, h4⟩
theorem Rough.step {n d : Int} (h : Rough n d) (e : ¬ d ∣ n) : Rough n (d + 1) := fun c h1 h2 => by
  by_cases q : c = d
  · rw [q]; exact e
  · exact h c h1 (by omega)
theorem Rough.quot {n p q d : Int} (h : Rough n d) (e : n = p * q) : Rough q d := fun c h1 h2 k => h c h1 h2 (by rw [e]; exact Int.dvd_trans k (Int.dvd_mul_left p q))
/-- nothing below d divides n, d squared is above n: n has no divisor at all -/
theorem Rough.top {n d : Int} (h : Rough n d) (hd : 2 ≤ d) (hn : 2 ≤ n) (e : n < d * d) : Rough n n := fun c h1 h2 k => by
  obtain ⟨q, hq⟩ := k
  by_cases hc : c < d
  · exact h c h1 hc ⟨q, hq⟩
  · have hq0 : 0 < q := by
      apply Int.lt_of_not_ge
      intro z
      have : c * q ≤ 0 := Int.mul_nonpos_of_nonneg_of_nonpos (by omega) z
      omega
    have hq1 : q ≠ 1 := by
      intro z
      rw [z] at hq
      omega
    have hqd : q < d := by
      apply Int.lt_of_not_ge
      intro z
      have : d * d ≤ c * q := Int.mul_le_mul (by omega) z (by omega) (by omega)
      omega
    exact h q (by omega) hqd ⟨c, by rw [hq, Int.mul_comm]⟩
theorem dvd_iff {n d : Int} : n % d = 0 ↔ d ∣ n := ⟨Int.dvd_of_emod_eq_zero, Int.emod_eq_zero_of_dvd⟩
/-- a divisor taken out -/
theorem Fac.out {n num d : Int} {found : List Int} (h : ∀ ps, Fac num ps → Fac n (found ++ ps)) (hd : 2 ≤ d) (h1 : 1 ≤ num) (r : Rough num d) (e : num % d = 0) :
    (∀ ps, Fac (num / d) ps → Fac n ((found ++ [d]) ++ ps)) ∧ 1 ≤ num / d ∧ Rough (num / d) d ∧ 2 * (num / d) ≤ num := by
  have e1 : num = d * (num / d) := (Int.mul_ediv_cancel' (Int.dvd_of_emod_eq_zero e)).symm
  generalize num / d = q at *
  have q0 : 0 < q := by
    apply Int.lt_of_not_ge
    intro z
    have : d * q ≤ 0 := Int.mul_nonpos_of_nonneg_of_nonpos (by omega) z
    omega
  refine ⟨fun ps f => ?_, q0, r.quot e1, ?_⟩
  · rw [List.append_assoc]
    exact h _ (.cons hd e1 q0 r f)
  · have : 2 * q ≤ d * q := Int.mul_le_mul_of_nonneg_right hd (by omega)
    omega
theorem pow_len {L : Nat} {num n : Int} (h : 2 ^ L * num.toNat ≤ n.toNat) (h1 : 1 ≤ num) (hn : n ≤ 1000000000) : L ≤ 30 := by
  apply Nat.le_of_not_gt
  intro z
  have a : 2 ^ 31 ≤ 2 ^ L := Nat.pow_le_pow_right (by decide) z
  have b : 2 ^ L * 1 ≤ 2 ^ L * num.toNat := Nat.mul_le_mul_left _ (by omega)
  have h31 : (2 : Nat) ^ 31 = 2147483648 := by decide
  omega
theorem pow_step {L : Nat} {num q n : Int} (h : 2 ^ L * num.toNat ≤ n.toNat) (e : 2 * q ≤ num) : 2 ^ (L + 1) * q.toNat ≤ n.toNat := by
  have : 2 ^ (L + 1) * q.toNat = 2 ^ L * (2 * q.toNat) := by rw [Nat.pow_succ, Nat.mul_assoc]
  rw [this]
  exact Nat.le_trans (Nat.mul_le_mul_left _ (by omega)) h
/-! ### kinds of things -/
inductive Kd (K : PySem.W.Frag) (H : Hp) : V → String → Prop
  | non : Kd K H .non "NoneType"
  | bl (b : Bool) : Kd K H (.bl b) "bool"
  | int (i : Int) : Kd K H (.int i) "int"
  | str (x : Str) : Kd K H (.str x) "str"
  | lst {a : Addr} {xs : List V} : SqL K H a xs → Kd K H (.ref a) "list"
  | tup {a : Addr} {xs : List V} : SqT K H a xs → Kd K H (.ref a) "tuple"
theorem Kd.ty {K : PySem.W.Frag} {H : Hp} {x : V} {t : String} (h : Kd K H x t) : TyX K H x (.type t) := by
  cases h with
  | non => exact .base .non
  | bl b => exact .base (.bl b)
  | int i => exact .base (.int i)
  | str x => exact .base (.str x)
  | lst h =>
    rcases h with (h | ⟨o, h⟩) | ⟨o, its, n, h1, h2, _⟩
    · exact .base (.lst h)
    · exact .base (.frz h)
    · exact .kList h1 h2
  | tup h =>
    rcases h with (h | ⟨o, h⟩) | ⟨o, its, n, h1, h2, _⟩
    · exact .base (.tup h)
    · exact .fTuple h
    · exact .kTuple h1 h2
theorem Kd.same {K : PySem.W.Frag} {H H' : Hp} {x : V} {t : String} (h : Kd K H x t) (e : Same H H') : Kd K H' x t := by
  cases h with
  | non => exact .non
  | bl b => exact .bl b
  | int i => exact .int i
  | str x => exact .str x
  | lst h => exact .lst (e.seq h)
  | tup h => exact .tup (same_t e h)
def tis (t c : String) : Bool := t == c || (t == "bool" && c == "int")
theorem Kd.kit {K : PySem.W.Frag} {H : Hp} {x : V} {t : String} (h : Kd K H x t) : PySem.W.kitOne K (.type t) (.type "int") = some (tis t "int") ∧ PySem.W.kitOne K (.type t) (.type "bool") = some (tis t "bool") ∧ PySem.W.kitOne K (.type t) (.type "str") = some (tis t "str") ∧ PySem.W.kitOne K (.type t) (.type "list") = some (tis t "list") ∧ PySem.W.kitOne K (.type t) (.type "tuple") = some (tis t "tuple") := by
  cases h <;> exact ⟨kit_ty (by decide +kernel), kit_ty (by decide +kernel), kit_ty (by decide +kernel), kit_ty (by decide +kernel), kit_ty (by decide +kernel)⟩
/-! ### == of lists of ints -/
theorem dp_ints {K : PySem.W.Frag} {H : Hp} : ∀ ns : List Int, DpAll K H (ns.map V.int) (ns.map PyData.int)
  | [] => .nil
  | n :: r => .cons (.int n) (dp_ints r)
theorem eqv_ints : ∀ ns ms : List Int, PyData.eqvAll (ns.map PyData.int) (ms.map PyData.int) = decide (ns = ms)
  | [], [] => by simp [PyData.eqvAll]
  | [], _ :: _ => by simp [PyData.eqvAll]
  | _ :: _, [] => by simp [PyData.eqvAll]
  | a :: r, b :: t => by
    simp only [List.map_cons, PyData.eqvAll, PyData.eqv, eqv_ints r t]
    by_cases h : a = b <;> by_cases h' : r = t <;> simp [h, h']
theorem eqd_ints {K : PySem.W.Frag} {H : Hp} {a b : Addr} {ns ms : List Int} {Q : VK} (ha : SqL K H a (ns.map V.int)) (hb : SqL K H b (ms.map V.int)) (q : Q (.bl (decide (ns = ms))) H) : rEqD K (.ref a) (.ref b) H Q := by
  refine ⟨_, _, .lst ha (dp_ints ns), .lst hb (dp_ints ms), PySem.W.ke_shaped_ints ns, PySem.W.ke_shaped_ints ms, ?_⟩
  have e : PyData.eqv (.list (ns.map PyData.int)) (.list (ms.map PyData.int)) = decide (ns = ms) := by
    rw [PyData.eqv]
    exact eqv_ints ns ms
  rw [e]
  exact q
abbrev s_factors : Stmt := top 9
abbrev N_factors : List Str := ["number", "found", "divisor"]
abbrev P_factors : List Str := ["number"]
theorem sc_factors : FnScope N_factors P_factors (defScope s_factors) := ⟨rfl, rfl, rfl, by decide +kernel, rfl, by decide +kernel, by decide +kernel⟩
def spFactors : Sp := fun vs H Q _ => ∃ (n : Int), vs = [.int n] ∧ 1 ≤ n ∧ n ≤ 1000000000 ∧ ∀ xs p H', Fac n xs → H p = none → Same H H' → H' p = some (.lst (xs.map V.int)) → Q (.ref p) H'
section
variable {P : Program} {w : World} {K : PySem.W.Frag} {mg : Str → Option Value} {base : Heap}
theorem ok_factors {f : Addr} {fd : FuncData} {k : Nat} (F : Fun K "factors" "factors" s_factors f fd) : FnOk P w K mg base CX0 (k + 1) f fd P_factors spFactors := by
  have nd := sc_factors.nd
  refine F.ok sc_factors (fun vs H Q E h => ?_) (fun cdv A outer s H vs Q E hr h => ?_)
  · obtain ⟨n, rfl, _⟩ := h
    rfl
  · obtain ⟨n, rfl, hn1, hn2, q⟩ := h
    refine ⟨_, (pss_cons (ps_set (i := 1) nd rfl (Or.inl rfl) (pe_lst pa_nil))
      (pss_cons (ps_set (i := 2) nd rfl (Or.inl rfl) (pe_int))
      (pss_cons (ps_while PassesOwn.never (pt_cmpR op_le (pe_op op_mul (pv 2) (pv 2)) (pv 0) (nomark _))
      (pss_one (ps_if (pt_cmpR op_eq (pe_op op_mod (pv 0) (pv 2)) (pe_int) (nomark _)) (pss_cons (ps_expr (pe_bm PySem.F.plainAttrs_list PySem.F.slot_list_append PySem.F.type_list_append mt_append (pv 1) (pa_cons (pv 2) pa_nil)))
      (pss_one (ps_aug (i := 0) nd rfl (Or.inl rfl) (pv 2) iop_fdivW))) (pss_one (ps_aug (i := 2) nd rfl (Or.inl rfl) (pe_int) ip_add)))))
      (pss_cons (ps_if (pt_cmpR op_gt (pv 0) (pe_int) (nomark _)) (pss_one (ps_expr (pe_bm PySem.F.plainAttrs_list PySem.F.slot_list_append PySem.F.type_list_append mt_append (pv 1) (pa_cons (pv 0) pa_nil)))) pss_nil)
      (pss_one (ps_ret (pv 1))))))), ?_⟩
    walk_at "ev"
    intro p hp
    generalize hG : upd _ p _ = H1
    obtain ⟨sm, hp1⟩ := newO hG hp
    refine ⟨fun m σ H' => ∃ (num d : Int) (found : List Int), σ = [some (.int num), some (.ref p), some (.int d)] ∧ m = (num - d).toNat + num.toNat ∧ 1 ≤ num ∧ num ≤ n ∧ 2 ≤ d ∧ d ≤ n + 2 ∧ 2 ^ found.length * num.toNat ≤ n.toNat ∧ Rough num d ∧ (∀ ps, Fac num ps → Fac n (found ++ ps)) ∧ Same H H' ∧ H' p = some (.lst (found.map V.int)), ⟨_, n, 2, [], rfl, rfl, hn1, by omega, by omega, by omega, by simp, fun e h1 h2 => by omega, fun ps f => f, sm, hp1⟩, ?_⟩
    rintro m σ H' ⟨num, d, found, rfl, rfl, h1, h2, h3, h4, h5, hr', hf, sm', hp'⟩
    have hL := pow_len h5 h1 hn2
    have cm : CMul d d := .inl ⟨by omega, by omega⟩
    walk_at "ev"
    refine ite2 (fun e => ?_) (fun e => ?_)
    · have e1 : d * d ≤ num := of_decide_eq_true e
      refine ⟨_, holdN, ?_⟩
      walk_at "ev"
      refine ite2 (fun e2 => ?_) (fun e2 => ?_)
      · have e3 : num % d = 0 := V.int.inj (of_decide_eq_true e2)
        obtain ⟨o1, o2, o3, o4⟩ := Fac.out hf h3 h1 hr' e3
        walk_at "ev"
        refine .mk ⟨(num / d - d).toNat + (num / d).toNat, by omega, num / d, d, found ++ [d], rfl, rfl, o2, by omega, h3, h4, ?_, o3, o1, same_mut sm' hp, by rw [upd_same, List.map_append]; rfl⟩
        rw [List.length_append]
        exact pow_step h5 o4
      · have e3 : ¬ num % d = 0 := fun z => e2 (decide_eq_true (congrArg V.int z))
        have e4 : 2 * d ≤ d * d := Int.mul_le_mul_of_nonneg_right h3 (by omega)
        walk_at "ev"
        exact .mk ⟨(num - (d + 1)).toNat + num.toNat, by omega, num, d + 1, found, rfl, rfl, h1, h2, by omega, by omega, h5, hr'.step (fun z => e3 (dvd_iff.mpr z)), hf, sm', hp'⟩
    · have e1 : ¬ d * d ≤ num := fun z => e (decide_eq_true z)
      walk_at "ev"
      refine ite2 (fun e2 => ?_) (fun e2 => ?_)
      · have e3 : 1 < num := of_decide_eq_true e2
        walk_at "ev"
        refine q (found ++ [num]) _ _ (hf _ (Fac.self (by omega) (hr'.top h3 (by omega) (by omega)))) hp (same_mut sm' hp) (by rw [upd_same, List.map_append]; rfl)
      · have e3 : ¬ 1 < num := fun z => e2 (decide_eq_true z)
        have e4 : num = 1 := by omega
        walk_at "ev"
        subst e4
        have fin := hf [] .one
        rw [List.append_nil] at fin
        exact q found _ _ fin hp sm' hp'
end
/-! ### the law's own comparing, of like things -/
theorem dpall_len {K : PySem.W.Frag} {H : Hp} : ∀ {xs : List V} {ds : List PyData}, DpAll K H xs ds → xs.length = ds.length
  | _, _, .nil => rfl
  | _, _, .cons _ h => by rw [List.length_cons, List.length_cons, dpall_len h]
theorem dpall_get {K : PySem.W.Frag} {H : Hp} : ∀ {xs : List V} {ds : List PyData} {i : Nat} {x : V}, DpAll K H xs ds → xs[i]? = some x → ∃ d, ds[i]? = some d ∧ Dp K H x d
  | _, _, _, _, .nil, h => by simp at h
  | _, _, 0, _, .cons (d := d) h1 h2, h => ⟨d, rfl, by
      have e := Option.some.inj h
      rw [← e]
      exact h1⟩
  | _, _, i + 1, _, .cons h1 h2, h => dpall_get (i := i) h2 h
mutual
theorem dp_same {K : PySem.W.Frag} {H H' : Hp} (e : Same H H') : ∀ {x : V} {d : PyData}, Dp K H x d → Dp K H' x d
  | _, _, .non => .non
  | _, _, .bl b => .bl b
  | _, _, .int i => .int i
  | _, _, .str x => .str x
  | _, _, .lst h a => .lst (e.seq h) (dpall_same e a)
  | _, _, .tup h a => .tup (same_t e h) (dpall_same e a)
theorem dpall_same {K : PySem.W.Frag} {H H' : Hp} (e : Same H H') : ∀ {xs : List V} {ds : List PyData}, DpAll K H xs ds → DpAll K H' xs ds
  | _, _, .nil => .nil
  | _, _, .cons h a => .cons (dp_same e h) (dpall_same e a)
end
/-- a comprehension over pairs -/
theorem lc_pairs {J : It} {xs ys : List V} {g : TG} {tt : TT} {te : TE} {vs : List Nat} {σ : L2.St} {H1 : Hp} {D : Addr} {Qd : Hp → Prop} (Pv : Nat → Hp → Prop) (h0 : Pv 0 (upd H1 D (.lst [])))
    (hgo : ∀ i H, Pv i H → i < xs.length → J.go i H) (hy : ∀ i H v H', Pv i H → i < xs.length → J.yld i H v H' → ∃ T x y, v = .ref T ∧ H T = none ∧ H' = upd H T (.tup [x, y]) ∧ xs[i]? = some x ∧ ys[i]? = some y)
    (hst : ∀ H, Pv xs.length H → J.stop xs.length H)
    (hs : ∀ i x y T H H', xs[i]? = some x → ys[i]? = some y → Pv i H → H T = none → H' = upd H T (.tup [x, y]) → g (.ref T) (wipe σ vs) H' fun σ2 H2 => wipe σ2 vs = wipe σ vs ∧ tt σ2 H2 fun b H3 =>
      if b = true then te σ2 H3 fun y H4 => ∃ acc, H4 D = some (.lst acc) ∧ acc.length < sizeLine ∧ Pv (i + 1) (upd H4 D (.lst (acc ++ [y]))) else Pv (i + 1) H3) (hd : ∀ H, Pv xs.length H → Qd H) :
    ∃ W : Nat → Nat → Hp → Prop, (∃ m, W 0 m (upd H1 D (.lst []))) ∧ ∀ i m H, W i m H →
      (J.stop i H ∧ Qd H) ∨ (J.go i H ∧ ∃ Nx : Hp → Prop, (∀ H', Nx H' → ∃ m', m' < m ∧ W (i + 1) m' H') ∧ ∀ x H', J.yld i H x H' → g x (wipe σ vs) H' fun σ2 H2 => wipe σ2 vs = wipe σ vs ∧ tt σ2 H2 fun b H3 =>
        if b = true then te σ2 H3 fun y H4 => ∃ acc, H4 D = some (.lst acc) ∧ acc.length < sizeLine ∧ Nx (upd H4 D (.lst (acc ++ [y]))) else Nx H3) := by
  refine ⟨fun i m H => m = xs.length - i ∧ i ≤ xs.length ∧ Pv i H, ⟨xs.length, by simp, Nat.zero_le _, h0⟩, ?_⟩
  rintro i m H ⟨rfl, hi, p⟩
  by_cases hlt : i < xs.length
  · refine .inr ⟨hgo i H p hlt, Pv (i + 1), fun H' p' => ⟨xs.length - (i + 1), by omega, rfl, hlt, p'⟩, fun v H' yl => ?_⟩
    obtain ⟨T, x, y, rfl, hT, e, f1, f2⟩ := hy i H v H' p hlt yl
    exact hs i x y T H H' f1 f2 p hT e
  · have e : i = xs.length := by omega
    subst e
    exact .inl ⟨hst H p, hd H p⟩
theorem srt_ext : ∀ {l m : List Int}, l.Pairwise (· < ·) → m.Pairwise (· < ·) → (∀ k, k ∈ l ↔ k ∈ m) → l = m
  | [], [], _, _, _ => rfl
  | [], y :: m, _, _, h => by
    have := (h y).mpr List.mem_cons_self
    simp at this
  | x :: l, [], _, _, h => by
    have := (h x).mp List.mem_cons_self
    simp at this
  | x :: l, y :: m, hl, hm, h => by
    obtain ⟨hx, hl'⟩ := List.pairwise_cons.mp hl
    obtain ⟨hy, hm'⟩ := List.pairwise_cons.mp hm
    have e : x = y := by
      have a1 := (h x).mp List.mem_cons_self
      have a2 := (h y).mpr List.mem_cons_self
      rcases List.mem_cons.mp a1 with e | e
      · exact e
      · rcases List.mem_cons.mp a2 with e2 | e2
        · exact e2.symm
        · have := hy x e
          have := hx y e2
          omega
    subst e
    rw [srt_ext hl' hm' fun k => ?_]
    constructor
    · intro hk
      rcases List.mem_cons.mp ((h k).mp (List.mem_cons_of_mem _ hk)) with e | e
      · have := hx k hk
        omega
      · exact e
    · intro hk
      rcases List.mem_cons.mp ((h k).mpr (List.mem_cons_of_mem _ hk)) with e | e
      · have := hy k hk
        omega
      · exact e
theorem Fac.len {n : Int} {xs : List Int} (h : Fac n xs) (hn : n ≤ 1000000000) : xs.length ≤ 30 := by
  have key : ∀ {n : Int} {xs : List Int}, Fac n xs → 2 ^ xs.length * 1 ≤ n.toNat ∧ 1 ≤ n := by
    intro n xs h
    induction h with
    | one => exact ⟨by decide, by decide⟩
    | cons h1 h2 h3 h4 h5 ih =>
      rename_i n p q ps
      obtain ⟨i1, i2⟩ := ih
      have : 2 * q ≤ p * q := Int.mul_le_mul_of_nonneg_right h1 (by omega)
      refine ⟨?_, by omega⟩
      rw [List.length_cons, Nat.pow_succ]
      omega
  obtain ⟨k1, k2⟩ := key h
  exact pow_len (num := 1) (n := n) (by simpa using k1) (by decide) hn
theorem Fac.pos {n : Int} {xs : List Int} (h : Fac n xs) : 1 ≤ n := by
  induction h with
  | one => decide
  | cons h1 h2 h3 h4 h5 ih =>
    rename_i n p q ps
    have : 1 * 1 ≤ p * q := Int.mul_le_mul (by omega) ih (by omega) (by omega)
    omega
theorem Fac.le {n : Int} {xs : List Int} (h : Fac n xs) : ∀ q ∈ xs, q ≤ n := by
  induction h with
  | one => intro q hq; simp at hq
  | cons h1 h2 h3 h4 h5 ih =>
    rename_i n p q ps
    intro x hx
    rcases List.mem_cons.mp hx with e | e
    · rw [e]
      have : p * 1 ≤ p * q := Int.mul_le_mul_of_nonneg_left h3 (by omega)
      omega
    · have := ih x e
      have : 1 * q ≤ p * q := Int.mul_le_mul_of_nonneg_right (by omega) (by omega)
      omega
theorem Fac.primes {n : Int} {xs : List Int} (h : Fac n xs) : ∀ q ∈ xs, 2 ≤ q ∧ Rough q q := by
  induction h with
  | one => intro q hq; simp at hq
  | cons h1 h2 h3 h4 h5 ih =>
    rename_i n p q ps
    intro x hx
    rcases List.mem_cons.mp hx with e | e
    · rw [e]
      exact ⟨h1, fun c c1 c2 c3 => h4 c c1 c2 (Int.dvd_trans c3 ⟨q, h2⟩)⟩
    · exact ih x e
/-! ### all divisors, rising -/
/-- ds is the rising list of all that divides n -/
def IsDv (n : Int) (ds : List Int) : Prop := ds.Pairwise (· < ·) ∧ ∀ k, k ∈ ds ↔ 1 ≤ k ∧ k ∣ n
theorem IsDv.uniq {n : Int} {l m : List Int} (a : IsDv n l) (b : IsDv n m) : l = m := srt_ext a.1 b.1 fun k => (a.2 k).trans (b.2 k).symm
theorem sq_lt {a b : Int} (ha : 0 ≤ a) (h : a * a < b * b) (hb : 0 ≤ b) : a < b := by
  apply Int.lt_of_not_ge
  intro z
  have : b * b ≤ a * a := Int.mul_le_mul z z hb ha
  omega
/-- low: those below c; high: the partners of those whose square is less, falling -/
structure Half (n c : Int) (low high : List Int) : Prop where
  up : low.Pairwise (· < ·)
  mem : ∀ k, k ∈ low ↔ 1 ≤ k ∧ k < c ∧ k ∣ n
  down : high.Pairwise (· > ·)
  part : ∀ y, y ∈ high ↔ ∃ d, 1 ≤ d ∧ d < c ∧ d * d < n ∧ y * d = n
  sq : ∀ d, 1 ≤ d → d < c → d * d ≤ n
theorem Half.start (n : Int) : Half n 1 [] [] := ⟨.nil, fun k => ⟨fun h => by simp at h, fun ⟨a, b, _⟩ => by omega⟩, .nil, fun y => ⟨fun h => by simp at h, fun ⟨d, a, b, _⟩ => by omega⟩, fun d a b => by omega⟩
theorem Half.skip {n c : Int} {low high : List Int} (h : Half n c low high) (hc : 1 ≤ c) (e : ¬ c ∣ n) (s : c * c ≤ n) : Half n (c + 1) low high := by
  refine ⟨h.up, fun k => ?_, h.down, fun y => ?_, fun d a b => ?_⟩
  · rw [h.mem]
    constructor
    · rintro ⟨a, b, d⟩
      exact ⟨a, by omega, d⟩
    · rintro ⟨a, b, d⟩
      refine ⟨a, ?_, d⟩
      have : k ≠ c := fun z => e (z ▸ d)
      omega
  · rw [h.part]
    constructor
    · rintro ⟨d, a, b, x, z⟩
      exact ⟨d, a, by omega, x, z⟩
    · rintro ⟨d, a, b, x, z⟩
      refine ⟨d, a, ?_, x, z⟩
      have : d ≠ c := fun w => e ⟨y, by rw [← w, Int.mul_comm]; exact z.symm⟩
      omega
  · by_cases z : d = c
    · rw [z]; exact s
    · exact h.sq d a (by omega)
theorem pw_append {R : Int → Int → Prop} {l : List Int} {x : Int} (h : l.Pairwise R) (k : ∀ y ∈ l, R y x) : (l ++ [x]).Pairwise R := by
  rw [List.pairwise_append]
  exact ⟨h, List.pairwise_singleton _ _, fun a ha b hb => by
    have e : b = x := by simpa using hb
    rw [e]
    exact k a ha⟩
theorem Half.low {n c : Int} {low high : List Int} (h : Half n c low high) (hc : 1 ≤ c) (e : c ∣ n) (s : c * c ≤ n) :
    (c * c < n → Half n (c + 1) (low ++ [c]) (high ++ [n / c])) ∧ (¬ c * c < n → Half n (c + 1) (low ++ [c]) high) := by
  have up : (low ++ [c]).Pairwise (· < ·) := pw_append h.up fun y hy => ((h.mem y).mp hy).2.1
  have mem : ∀ k, k ∈ low ++ [c] ↔ 1 ≤ k ∧ k < c + 1 ∧ k ∣ n := fun k => by
    rw [List.mem_append, h.mem, List.mem_singleton]
    constructor
    · rintro (⟨a, b, d⟩ | z)
      · exact ⟨a, by omega, d⟩
      · rw [z]
        exact ⟨hc, by omega, e⟩
    · rintro ⟨a, b, d⟩
      by_cases z : k = c
      · exact .inr z
      · exact .inl ⟨a, by omega, d⟩
  have sq : ∀ d, 1 ≤ d → d < c + 1 → d * d ≤ n := fun d a b => by
    by_cases z : d = c
    · rw [z]; exact s
    · exact h.sq d a (by omega)
  have ec : n / c * c = n := Int.ediv_mul_cancel e
  constructor
  · intro lt
    refine ⟨up, mem, pw_append h.down fun y hy => ?_, fun y => ?_, sq⟩
    · obtain ⟨d, a, b, x, z⟩ := (h.part y).mp hy
      show n / c < y
      apply Int.lt_of_not_ge
      intro w
      have p1 : y * d ≤ n / c * d := Int.mul_le_mul_of_nonneg_right w (by omega)
      have q0 : 0 < n / c := by
        apply Int.lt_of_not_ge
        intro v
        have : n / c * c ≤ 0 := Int.mul_nonpos_of_nonpos_of_nonneg v (by omega)
        have : 1 * 1 ≤ c * c := Int.mul_le_mul hc hc (by omega) (by omega)
        omega
      have p2 : n / c * d < n / c * c := Int.mul_lt_mul_of_pos_left b q0
      omega
    · rw [List.mem_append, h.part, List.mem_singleton]
      constructor
      · rintro (⟨d, a, b, x, z⟩ | w)
        · exact ⟨d, a, by omega, x, z⟩
        · rw [w]
          exact ⟨c, hc, by omega, lt, ec⟩
      · rintro ⟨d, a, b, x, z⟩
        by_cases w : d = c
        · right
          subst w
          have : y * d = n / d * d := by omega
          exact Int.eq_of_mul_eq_mul_right (by omega) this
        · exact .inl ⟨d, a, by omega, x, z⟩
  · intro nlt
    refine ⟨up, mem, h.down, fun y => ?_, sq⟩
    rw [h.part]
    constructor
    · rintro ⟨d, a, b, x, z⟩
      exact ⟨d, a, by omega, x, z⟩
    · rintro ⟨d, a, b, x, z⟩
      refine ⟨d, a, ?_, x, z⟩
      have : d ≠ c := fun w => nlt (w ▸ x)
      omega
theorem Half.done {n c : Int} {low high : List Int} (h : Half n c low high) (hn : 1 ≤ n) (hc : 1 ≤ c) (e : n < c * c) : IsDv n (low ++ high.reverse) := by
  constructor
  · rw [List.pairwise_append]
    refine ⟨h.up, ?_, fun x hx y hy => ?_⟩
    · rw [List.pairwise_reverse]
      exact h.down
    · obtain ⟨a, b, d⟩ := (h.mem x).mp hx
      obtain ⟨d', a', b', s', z'⟩ := (h.part y).mp (List.mem_reverse.mp hy)
      have sx := h.sq x a b
      -- y * y > n ≥ x * x
      have y0 : 0 < y := by
        apply Int.lt_of_not_ge
        intro v
        have : y * d' ≤ 0 := Int.mul_nonpos_of_nonpos_of_nonneg v (by omega)
        omega
      have yd : d' < y := by
        apply Int.lt_of_not_ge
        intro v
        have : y * d' ≤ d' * d' := Int.mul_le_mul_of_nonneg_right v (by omega)
        omega
      have : y * d' < y * y := Int.mul_lt_mul_of_pos_left yd y0
      exact sq_lt (by omega) (by omega) (by omega)
  · intro k
    rw [List.mem_append, List.mem_reverse, h.mem, h.part]
    constructor
    · rintro (⟨a, b, d⟩ | ⟨d, a, b, x, z⟩)
      · exact ⟨a, d⟩
      · refine ⟨?_, ⟨d, z.symm⟩⟩
        show 0 < k
        apply Int.lt_of_not_ge
        intro v
        have : k * d ≤ 0 := Int.mul_nonpos_of_nonpos_of_nonneg (by omega) (by omega)
        omega
    · rintro ⟨a, b⟩
      by_cases kc : k < c
      · exact .inl ⟨a, kc, b⟩
      · right
        obtain ⟨d, hd⟩ := b
        have d0 : 0 < d := by
          apply Int.lt_of_not_ge
          intro v
          have : k * d ≤ 0 := Int.mul_nonpos_of_nonneg_of_nonpos (by omega) v
          omega
        have dc : d < c := by
          apply Int.lt_of_not_ge
          intro v
          have : c * c ≤ k * d := Int.mul_le_mul (by omega) v (by omega) (by omega)
          omega
        have dk : d < k := by omega
        have : d * d < k * d := Int.mul_lt_mul_of_pos_right dk d0
        exact ⟨d, by omega, dc, by omega, hd.symm⟩
theorem half_len {m : Int} (hm : 1 ≤ m) (hm2 : m ≤ 1000000) : ∀ c : Nat, 1 ≤ c → (∃ (c' : Nat) (low high : List Int), 1 ≤ c' ∧ c' ≤ c ∧ m < (c' : Int) * c' ∧ Half m c' low high ∧ low.length + high.length + 2 ≤ 2 * c') ∨ (∃ low high : List Int, Half m c low high ∧ low.length + high.length + 2 ≤ 2 * c) := by
  intro c
  induction c with
  | zero => intro h; omega
  | succ c ih =>
    intro _
    by_cases c0 : c = 0
    · subst c0
      exact .inr ⟨[], [], Half.start m, by simp⟩
    · rcases ih (by omega) with ⟨c', low, high, a1, a2, a3, a4, a5⟩ | ⟨low, high, a4, a5⟩
      · exact .inl ⟨c', low, high, a1, by omega, a3, a4, a5⟩
      · by_cases z : m < (c : Int) * c
        · exact .inl ⟨c, low, high, by omega, by omega, z, a4, a5⟩
        · have e1 : (((c + 1 : Nat) : Int)) = (c : Int) + 1 := by omega
          by_cases dv : (c : Int) ∣ m
          · obtain ⟨b1, b2⟩ := a4.low (by omega) dv (by omega)
            by_cases lt : (c : Int) * c < m
            · refine .inr ⟨_, _, by rw [e1]; exact b1 lt, ?_⟩
              simp
              omega
            · refine .inr ⟨_, _, by rw [e1]; exact b2 lt, ?_⟩
              simp
              omega
          · refine .inr ⟨low, high, by rw [e1]; exact a4.skip (by omega) dv (by omega), by omega⟩
theorem IsDv.len {m : Int} {ds : List Int} (h : IsDv m ds) (hm : 1 ≤ m) (hm2 : m ≤ 1000000) : ds.length ≤ 2000 := by
  rcases half_len hm hm2 1001 (by decide) with ⟨c', low, high, a1, a2, a3, a4, a5⟩ | ⟨low, high, a4, a5⟩
  · have e := h.uniq (a4.done hm (by omega) a3)
    rw [e, List.length_append, List.length_reverse]
    omega
  · have big : m < ((1001 : Nat) : Int) * ((1001 : Nat) : Int) := by
      have e : ((1001 : Nat) : Int) * ((1001 : Nat) : Int) = 1002001 := by decide
      omega
    have e := h.uniq (a4.done hm (by omega) big)
    rw [e, List.length_append, List.length_reverse]
    omega
/-- d divides m * p, p a prime -/
theorem dv_prime {k m p : Int} (hk : 1 ≤ k) (hp : 2 ≤ p) (r : Rough p p) (h : k ∣ m * p) : k ∣ m ∨ ∃ e, k = e * p := by
  by_cases hpk : p ∣ k
  · obtain ⟨e, he⟩ := hpk
    exact .inr ⟨e, by rw [he, Int.mul_comm]⟩
  · left
    have hg : Nat.gcd k.natAbs p.natAbs = 1 := by
      have d1 := Nat.gcd_dvd_left k.natAbs p.natAbs
      have d2 := Nat.gcd_dvd_right k.natAbs p.natAbs
      generalize Nat.gcd k.natAbs p.natAbs = g at *
      have gp : (g : Int) ∣ p := by
        rw [← Int.natAbs_dvd_natAbs, Int.natAbs_natCast]
        exact d2
      have gk : (g : Int) ∣ k := by
        rw [← Int.natAbs_dvd_natAbs, Int.natAbs_natCast]
        exact d1
      have gle : (g : Int) ≤ p := Int.le_of_dvd (by omega) gp
      have g0 : g ≠ 0 := fun z => by
        rw [z] at gp
        have := Int.zero_dvd.mp gp
        omega
      by_cases g1 : g = 1
      · exact g1
      · exfalso
        by_cases gpe : (g : Int) = p
        · rw [gpe] at gk
          exact hpk gk
        · exact r g (by omega) (by omega) gp
    have h1 : k.natAbs ∣ m.natAbs * p.natAbs := by
      rw [← Int.natAbs_mul]
      exact Int.natAbs_dvd_natAbs.mpr h
    have h2 := Nat.Coprime.dvd_of_dvd_mul_right (show Nat.Coprime k.natAbs p.natAbs from hg) h1
    exact Int.natAbs_dvd_natAbs.mp h2
abbrev s_divisors : Stmt := top 10
abbrev N_divisors : List Str := ["number", "low", "high", "divisor"]
abbrev P_divisors : List Str := ["number"]
theorem sc_divisors : FnScope N_divisors P_divisors (defScope s_divisors) := ⟨rfl, rfl, rfl, by decide +kernel, rfl, by decide +kernel, by decide +kernel⟩
def spDiv : Sp := fun vs H Q _ => ∃ (n : Int), vs = [.int n] ∧ 1 ≤ n ∧ n ≤ 1000000 ∧ ∀ ds l H', IsDv n ds → H l = none → Same H H' → H' l = some (.lst (ds.map V.int)) → Q (.ref l) H'
section
variable {P : Program} {w : World} {K : PySem.W.Frag} {mg : Str → Option Value} {base : Heap}
theorem ok_divisors {f : Addr} {fd : FuncData} {k : Nat} (F : Fun K "divisors" "divisors" s_divisors f fd) (T : Blt mg) : FnOk P w K mg base CX0 (k + 1) f fd P_divisors spDiv := by
  have nd := sc_divisors.nd
  refine F.ok sc_divisors (fun vs H Q E h => ?_) (fun cdv A outer s H vs Q E hr h => ?_)
  · obtain ⟨n, rfl, _⟩ := h
    rfl
  · obtain ⟨n, rfl, h1, h2, q⟩ := h
    refine ⟨_, (pss_cons (ps_set (i := 1) nd rfl (Or.inl rfl) (pe_lst pa_nil))
      (pss_cons (ps_set (i := 2) nd rfl (Or.inl rfl) (pe_lst pa_nil))
      (pss_cons (ps_set (i := 3) nd rfl (Or.inl rfl) (pe_int))
      (pss_cons (ps_while PassesOwn.never (pt_cmpR op_le (pe_op op_mul (pv 3) (pv 3)) (pv 0) (nomark _))
      (pss_cons (ps_if (pt_cmpR op_eq (pe_op op_mod (pv 0) (pv 3)) (pe_int) (nomark _)) (pss_cons (ps_expr (pe_bm PySem.F.plainAttrs_list PySem.F.slot_list_append PySem.F.type_list_append mt_append (pv 1) (pa_cons (pv 3) pa_nil)))
      (pss_one (ps_if (pt_cmpR op_lt (pe_op op_mul (pv 3) (pv 3)) (pv 0) (nomark _)) (pss_one (ps_expr (pe_bm PySem.F.plainAttrs_list PySem.F.slot_list_append PySem.F.type_list_append mt_append (pv 2) (pa_cons (pe_op op_fdiv (pv 0) (pv 3)) pa_nil)))) pss_nil))) pss_nil)
      (pss_one (ps_aug (i := 3) nd rfl (Or.inl rfl) (pe_int) ip_add))))
      (pss_one (ps_ret (pe_op op_cat (pv 1) (pe_revL (pv 2))))))))), ?_⟩
    walk_at "ev"
    intro a ha
    generalize hG1 : upd _ a _ = H1
    obtain ⟨sm1, hq1⟩ := newO hG1 ha
    walk_at "ev"
    intro b hb
    generalize hG2 : upd _ b _ = H2
    obtain ⟨sm2, hq2⟩ := newO hG2 hb
    have nab : a ≠ b := ne_of_none hq1 hb
    have hbf : H b = none := sm1.free hb
    refine ⟨fun m σ H' => ∃ (c : Int) (low high : List Int), σ = [some (.int n), some (.ref a), some (.ref b), some (.int c)] ∧ m = (n + 1 - c).toNat ∧ 1 ≤ c ∧ c ≤ 1001 ∧ c ≤ n + 1 ∧ Half n c low high ∧ low.length + high.length + 2 ≤ 2 * c.toNat ∧ Same H H' ∧ H' a = some (.lst (low.map V.int)) ∧ H' b = some (.lst (high.map V.int)), ⟨_, 1, [], [], rfl, rfl, by omega, by omega, by omega, Half.start n, by simp, sm1.trans sm2, sm2 _ _ hq1, hq2⟩, ?_⟩
    rintro m σ H' ⟨c, low, high, rfl, rfl, c1, c2, c3, hf, hl, sm, hqa, hqb⟩
    have cm : CMul c c := .inl ⟨by omega, by omega⟩
    walk_at "ev"
    refine ite2 (fun e => ?_) (fun e => ?_)
    · have e1 : c * c ≤ n := of_decide_eq_true e
      have cl : c ≤ c * c := by
        have : 1 * c ≤ c * c := Int.mul_le_mul_of_nonneg_right c1 (by omega)
        omega
      have c1000 : c ≤ 1000 := by
        apply Int.le_of_not_gt
        intro z
        have : 1001 * 1001 ≤ c * c := Int.mul_le_mul (by omega) (by omega) (by omega) (by omega)
        omega
      refine ⟨_, holdN, ?_⟩
      walk_at "ev"
      refine ite2 (fun e2 => ?_) (fun e2 => ?_)
      · have e3 : n % c = 0 := V.int.inj (of_decide_eq_true e2)
        obtain ⟨g1, g2⟩ := hf.low c1 (dvd_iff.mp e3) e1
        have hty : tyV K "list" (.ref a) H' := .inl ⟨rfl, _, SqL.of hqa⟩
        have hsa : (low.map V.int).length < sizeLine := by
          rw [List.length_map]
          exact szm (by omega)
        walk_at "ev"
        generalize hG3 : upd H' a _ = H3
        have hqa3 : H3 a = some (.lst ((low ++ [c]).map V.int)) := by
          rw [(mutO hG3).2, List.map_append]
          rfl
        have hqb3 : H3 b = some (.lst (high.map V.int)) := (mutO hG3).1 _ _ nab.symm hqb
        have sm3 : Same H H3 := by
          rw [← hG3]
          exact same_mut sm ha
        clear hG3
        refine ite2 (fun e4 => ?_) (fun e4 => ?_)
        · have e5 : c * c < n := of_decide_eq_true e4
          have hty3 : tyV K "list" (.ref b) H3 := .inl ⟨rfl, _, SqL.of hqb3⟩
          have hsb : (high.map V.int).length < sizeLine := by
            rw [List.length_map]
            exact szm (by omega)
          walk_at "ev"
          refine .mk ⟨(n + 1 - (c + 1)).toNat, by omega, c + 1, low ++ [c], high ++ [n / c], rfl, rfl, by omega, by omega, by omega, g1 e5, ?_, same_mut sm3 hbf, ?_, ?_⟩
          · simp
            omega
          · rw [upd_ne nab]
            exact hqa3
          · rw [upd_same, List.map_append]
            rfl
        · have e5 : ¬ c * c < n := fun z => e4 (decide_eq_true z)
          walk_at "ev"
          refine .mk ⟨(n + 1 - (c + 1)).toNat, by omega, c + 1, low ++ [c], high, rfl, rfl, by omega, by omega, by omega, g2 e5, ?_, sm3, hqa3, hqb3⟩
          simp
          omega
      · have e3 : ¬ n % c = 0 := fun z => e2 (decide_eq_true (congrArg V.int z))
        walk_at "ev"
        exact .mk ⟨(n + 1 - (c + 1)).toNat, by omega, c + 1, low, high, rfl, rfl, by omega, by omega, by omega, hf.skip c1 (fun z => e3 (dvd_iff.mpr z)) e1, by omega, sm, hqa, hqb⟩
    · have e1 : ¬ c * c ≤ n := fun z => e (decide_eq_true z)
      have hLb : SqL K H' b (high.map V.int) := SqL.of hqb
      walk_at "ev"
      intro r hr'
      generalize hG3 : upd _ r _ = H3
      obtain ⟨sm3, hq3⟩ := newO hG3 hr'
      have hqa3 := sm3 _ _ hqa
      have hsz : (low.map V.int).length + (high.map V.int).reverse.length ≤ sizeLine := by
        rw [List.length_map, List.length_reverse, List.length_map]
        exact szl (by omega)
      walk_at "ev"
      intro p hp
      generalize hG4 : upd _ p _ = H4
      obtain ⟨sm4, hq4⟩ := newO hG4 hp
      refine q (low ++ high.reverse) p H4 (hf.done h1 c1 (by omega)) ((sm.trans sm3).free hp) (sm.trans (sm3.trans sm4)) ?_
      rw [hq4, List.map_append, List.map_reverse]
end
/-! ### the sieve: mathematics -/
def pk (m j : Nat) : Bool := (List.range' 2 (m - 2)).all fun d => decide (j < d * d) || decide (j % d ≠ 0)
theorem pk_iff {m j : Nat} : pk m j = true ↔ ∀ d, 2 ≤ d → d < m → d * d ≤ j → ¬ d ∣ j := by
  unfold pk
  rw [List.all_eq_true]
  constructor
  · intro h d h1 h2 h3 h4
    have := h d (List.mem_range'_1.mpr ⟨h1, by omega⟩)
    rw [Bool.or_eq_true, decide_eq_true_iff, decide_eq_true_iff] at this
    rcases this with z | z
    · omega
    · exact z (Nat.mod_eq_zero_of_dvd h4)
  · intro h d hd
    have h1 := List.mem_range'_1.mp hd
    rw [Bool.or_eq_true, decide_eq_true_iff, decide_eq_true_iff]
    by_cases z : j < d * d
    · exact .inl z
    · exact .inr fun e => h d h1.1 (by omega) (by omega) (Nat.dvd_of_mod_eq_zero e)
/-- what is marked behind t turns at m -/
def mk (m t j : Nat) : Bool := pk m j && !(decide (m * m ≤ j) && decide (j % m = 0) && decide (j < m * m + t * m))
def prs (top : Nat) : List Int := ((List.range' 2 (top - 1)).filter (pk (top + 1))).map Int.ofNat
/-! ### the law's own dividing -/
theorem mem_prs {top : Nat} {x : Int} : x ∈ prs top ↔ ∃ j : Nat, x = (j : Int) ∧ 2 ≤ j ∧ j ≤ top ∧ pk (top + 1) j = true := by
  unfold prs
  rw [List.mem_map]
  constructor
  · rintro ⟨j, hj, e⟩
    have h1 := List.mem_filter.mp hj
    have h2 := List.mem_range'_1.mp h1.1
    exact ⟨j, e.symm, h2.1, by omega, h1.2⟩
  · rintro ⟨j, e, h1, h2, h3⟩
    exact ⟨j, List.mem_filter.mpr ⟨List.mem_range'_1.mpr ⟨h1, by omega⟩, h3⟩, e.symm⟩
/-! ### powers by rests -/
theorem emod_pow (a m : Int) : ∀ k : Nat, (a % m) ^ k % m = a ^ k % m
  | 0 => by rw [Int.pow_zero, Int.pow_zero]
  | k + 1 => by rw [Int.pow_succ, Int.pow_succ, Int.mul_emod, emod_pow a m k, Int.emod_emod_of_dvd _ (Int.dvd_refl m), ← Int.mul_emod]
theorem mul_pow_mod (t b m : Int) (k : Nat) : t * (b % m) ^ k % m = t * b ^ k % m := by
  rw [Int.mul_emod, emod_pow, ← Int.mul_emod]
theorem mod_mul_mod (t x m : Int) : t % m * x % m = t * x % m := by
  rw [Int.mul_emod, Int.emod_emod_of_dvd _ (Int.dvd_refl m), ← Int.mul_emod]
theorem pow_sq (b : Int) : ∀ k : Nat, (b * b) ^ k = b ^ (2 * k)
  | 0 => by rw [Nat.mul_zero, Int.pow_zero, Int.pow_zero]
  | k + 1 => by
    rw [Int.pow_succ, pow_sq b k, show 2 * (k + 1) = 2 * k + 1 + 1 by omega, Int.pow_succ, Int.pow_succ, Int.mul_assoc]
theorem step_odd {t b m e : Int} (h : e % 2 = 1) (he : 0 ≤ e) : t * b % m * (b * b % m) ^ (e / 2).toNat % m = t * b ^ e.toNat % m := by
  rw [mul_pow_mod, mod_mul_mod, pow_sq]
  have : e.toNat = 2 * (e / 2).toNat + 1 := by omega
  rw [this, Int.pow_succ, Int.mul_comm (b ^ _) b, ← Int.mul_assoc]
theorem step_even {t b m e : Int} (h : ¬ e % 2 = 1) (he : 0 ≤ e) : t * (b * b % m) ^ (e / 2).toNat % m = t * b ^ e.toNat % m := by
  rw [mul_pow_mod, pow_sq]
  have : e.toNat = 2 * (e / 2).toNat := by omega
  rw [← this]
abbrev s_power_rest : Stmt := top 12
abbrev N_power_rest : List Str := ["number", "power", "by", "told"]
abbrev P_power_rest : List Str := ["number", "power", "by"]
theorem sc_power_rest : FnScope N_power_rest P_power_rest (defScope s_power_rest) := ⟨rfl, rfl, rfl, by decide +kernel, rfl, by decide +kernel, by decide +kernel⟩
def spPow : Sp := fun vs H Q _ => ∃ (b e m : Int), vs = [.int b, .int e, .int m] ∧ 0 ≤ e ∧ 1 ≤ m ∧ m ≤ 1000000 ∧ Q (.int (b ^ e.toNat % m)) H
section
variable {P : Program} {w : World} {K : PySem.W.Frag} {mg : Str → Option Value} {base : Heap}
theorem ok_power {f : Addr} {fd : FuncData} {k : Nat} (F : Fun K "power_rest" "power_rest" s_power_rest f fd) : FnOk P w K mg base CX0 (k + 1) f fd P_power_rest spPow := by
  have nd := sc_power_rest.nd
  refine F.ok sc_power_rest (fun vs H Q E h => ?_) (fun cdv A outer s H vs Q E hr h => ?_)
  · obtain ⟨b, e, m, rfl, _⟩ := h
    rfl
  · obtain ⟨b, e, m, rfl, he, hm1, hm2, q⟩ := h
    refine ⟨_, (pss_cons (ps_set (i := 3) nd rfl (Or.inl rfl) (pe_op op_mod (pe_int) (pv 2)))
      (pss_cons (ps_set (i := 0) nd rfl (Or.inl rfl) (pe_op op_mod (pv 0) (pv 2)))
      (pss_cons (ps_while PassesOwn.never (pt_cmpR op_gt (pv 1) (pe_int) (nomark _))
      (pss_cons (ps_if (pt_cmpR op_eq (pe_op op_mod (pv 1) (pe_int)) (pe_int) (nomark _)) (pss_one (ps_set (i := 3) nd rfl (Or.inl rfl) (pe_op op_mod (pe_op op_mul (pv 3) (pv 0)) (pv 2)))) pss_nil)
      (pss_cons (ps_set (i := 0) nd rfl (Or.inl rfl) (pe_op op_mod (pe_op op_mul (pv 0) (pv 0)) (pv 2)))
      (pss_one (ps_aug (i := 1) nd rfl (Or.inl rfl) (pe_int) iop_fdivW)))))
      (pss_one (ps_ret (pv 3)))))), ?_⟩
    walk_at "ev"
    have r0 : ∀ x : Int, 0 ≤ x % m ∧ x % m < m := fun x => ⟨Int.emod_nonneg _ (by omega), Int.emod_lt_of_pos _ (by omega)⟩
    refine ⟨fun z σ H' => H' = H ∧ ∃ (x p t : Int), σ = [some (.int x), some (.int p), some (.int m), some (.int t)] ∧ z = p.toNat ∧ 0 ≤ p ∧ 0 ≤ t ∧ t < m ∧ 0 ≤ x ∧ x < m ∧ t * x ^ p.toNat % m = b ^ e.toNat % m, ⟨_, rfl, b % m, e, 1 % m, rfl, rfl, he, (r0 _).1, (r0 _).2, (r0 _).1, (r0 _).2, ?_⟩, ?_⟩
    · rw [mod_mul_mod, mul_pow_mod, Int.one_mul]
    · rintro z σ H' ⟨rfl, x, p, t, rfl, rfl, p0, t0, t1, x0, x1, inv⟩
      have cm1 : CMul t x := .inl ⟨by omega, by omega⟩
      have cm2 : CMul x x := .inl ⟨by omega, by omega⟩
      walk_at "ev"
      refine ite2 (fun c => ?_) (fun c => ?_)
      · have c1 : 0 < p := of_decide_eq_true c
        refine ⟨_, holdN, ?_⟩
        walk_at "ev"
        refine ite2 (fun d => ?_) (fun d => ?_)
        · have d1 : p % 2 = 1 := V.int.inj (of_decide_eq_true d)
          walk_at "ev"
          exact .mk ⟨(p / 2).toNat, by omega, rfl, x * x % m, p / 2, t * x % m, rfl, rfl, by omega, (r0 _).1, (r0 _).2, (r0 _).1, (r0 _).2, by rw [step_odd d1 p0]; exact inv⟩
        · have d1 : ¬ p % 2 = 1 := fun z => d (decide_eq_true (congrArg V.int z))
          walk_at "ev"
          exact .mk ⟨(p / 2).toNat, by omega, rfl, x * x % m, p / 2, t, rfl, rfl, by omega, t0, t1, (r0 _).1, (r0 _).2, by rw [step_even d1 p0]; exact inv⟩
      · have c1 : p = 0 := by
          have : ¬ 0 < p := fun z => c (decide_eq_true z)
          omega
        subst c1
        walk_at "ev"
        have et : t = b ^ e.toNat % m := by
          rw [← inv]
          show t = t * x ^ (0 : Nat) % m
          rw [Int.pow_zero, Int.mul_one, Int.emod_eq_of_lt t0 t1]
        rw [et]
        exact q
end
abbrev s_generator : Stmt := top 13
abbrev N_generator : List Str := ["prime", "early", "number", "factor", "power"]
abbrev P_generator : List Str := ["prime"]
theorem sc_generator : FnScope N_generator P_generator (defScope s_generator) := ⟨rfl, rfl, rfl, by decide +kernel, rfl, by decide +kernel, by decide +kernel⟩
/-- the exponents at which powers may come round too early -/
def erl (p : Int) (fs : List Int) : List Int := fs.map fun f => (p - 1) / f
def GenOk (p g : Int) (es : List Int) : Prop := ∀ e ∈ es, ¬ g ^ e.toNat % p = 1
def LeastGen (p g : Int) (es : List Int) : Prop := 1 ≤ g ∧ g < p ∧ GenOk p g es ∧ ∀ x, 1 ≤ x → x < g → ¬ GenOk p x es
def spGen : Sp := fun vs H Q _ => ∃ (p g0 : Int) (fs out : List Int), vs = [.int p] ∧ 2 ≤ p ∧ p ≤ 1000000 ∧ Fac (p - 1) fs ∧ out.Pairwise (· < ·) ∧ (∀ k, k ∈ out ↔ k ∈ fs) ∧ 1 ≤ g0 ∧ g0 < p ∧ GenOk p g0 (erl p out) ∧ ∀ g H', Same H H' → LeastGen p g (erl p out) → Q (.int g) H'
section
variable {P : Program} {w : World} {K : PySem.W.Frag} {mg : Str → Option Value} {base : Heap}
theorem ok_generator {f f1 f2 : Addr} {fd d1 d2 : FuncData} {k : Nat} (F : Fun K "generator" "generator" s_generator f fd) (T : Blt mg) (D_factors : Df K mg "factors" s_factors P_factors f1 d1) (D_power_rest : Df K mg "power_rest" s_power_rest P_power_rest f2 d2) : FnOk P w K mg base CX0 (k + 2) f fd P_generator spGen := by
  have G_factors : FnOk P w K mg base CX0 (k + 1) f1 d1 P_factors spFactors := ok_factors D_factors.F
  have G_power_rest : FnOk P w K mg base CX0 (k + 1) f2 d2 P_power_rest spPow := ok_power D_power_rest.F
  have nd := sc_generator.nd
  refine F.ok sc_generator (fun vs H Q E h => ?_) (fun cdv A outer s H vs Q E hr h => ?_)
  · obtain ⟨p, g0, fs, out, rfl, _⟩ := h
    rfl
  · obtain ⟨p, g0, fs, out, rfl, p2, p6, hfac, hso, hmo, g1, gp, hg0, q⟩ := h
    refine ⟨_, (pss_cons (ps_setLc (i := 1) (own := [("factor", 3)]) (g := gName 3) (by rfl) nd rfl rfl (sw_true rfl rfl rfl (by decide +kernel)) (pi_list (pe_sortSet (by rfl) T.b_sorted (by rfl) T.b_set (pe_call G_factors (hr.mono (by omega)) (by rfl) D_factors.g D_factors.F.kp D_factors.b .nil pass0 (pa_cons (pe_op op_sub (pv 0) (pe_int)) pa_nil)))) (blkOk_by (own := [("factor", 3)]) (N := N_generator) (sc := defScope s_generator) (by decide +kernel)) (fun _ _ _ _ _ => (pg_name (i := 3) nd rfl (Or.inl rfl))) (fun _ _ _ _ _ => pts_nil) (fun _ _ _ _ _ => (pe_op op_fdiv (pe_op op_sub (pv 0) (pe_int)) (pv 3))))
      (pss_cons (ps_set (i := 2) nd rfl (Or.inr rfl) (pe_int))
      (pss_cons (ps_while PassesOwn.never (pt_val (pe_callB (r := rAny K) (cr_any rfl) (by rfl) T.b_any (by decide +kernel) (pa_cons (pe_lc (own := [("power", 4)]) (g := gName 4) (by rfl) nd (pi_list (pv 1)) (blkOk_by (own := [("power", 4)]) (N := N_generator) (sc := defScope s_generator) (by decide +kernel)) (fun _ _ _ _ _ => (pg_name (i := 4) nd rfl (Or.inl rfl))) (fun _ _ _ _ _ => pts_nil) (fun _ _ _ _ _ => (pe_cmpR op_eq (pe_call G_power_rest (hr.mono (by omega)) (by rfl) D_power_rest.g D_power_rest.F.kp D_power_rest.b .nil pass0 (pa_cons (pv 2) (pa_cons (pv 4) (pa_cons (pv 0) pa_nil)))) (pe_int) (nomark _)))) pa_nil)))
      (pss_one (ps_aug (i := 2) nd rfl (Or.inr rfl) (pe_int) ip_add)))
      (pss_one (ps_ret (pv 2)))))), ?_⟩
    walk_at "ev"
    intro xs l H1 hf1 hl sm1 hq1
    have ex : xs = fs := hf1.uniq hfac
    subst ex
    have hxl := hfac.len (by omega)
    have hL1 : SqL K H1 l (xs.map V.int) := SqL.of hq1
    refine ⟨l, xs, rfl, hL1, by omega, ?_⟩
    intro out2 l2 hl2 hs2 hm2 ho2
    have eo : out2 = out := srt_ext hs2 hso fun k => (hm2 k).trans (hmo k).symm
    subst eo
    generalize hG2 : upd _ l2 _ = H2
    obtain ⟨sm2, hq2⟩ := newO hG2 hl2
    have hL2 : SqL K H2 l2 (out2.map V.int) := SqL.of hq2
    refine ⟨l2, rfl, ⟨_, hL2⟩, fun D hD => ?_⟩
    refine lc_list (K := K) (a := l2) (xs := out2.map V.int) (fun i H' => Hold (Same H2 H' ∧ H' D = some (.lst ((erl p (out2.take i)).map V.int)))) (.mk ⟨same_new hD, upd_same⟩) ?_ ?_ ?_
    · intro i H3 hi hP
      obtain ⟨sm3, hD3⟩ := hP.un
      exact sm3.seq hL2
    · intro i v H3 hv hP
      obtain ⟨sm3, hD3⟩ := hP.un
      rw [List.getElem?_map] at hv
      obtain ⟨x, hx, ev⟩ := Option.map_eq_some_iff.mp hv
      subst ev
      have hxm := (hmo x).mp (List.mem_of_getElem? hx)
      obtain ⟨x2, _⟩ := hfac.primes x hxm
      have hx6 : x ≤ p - 1 := hfac.le x hxm
      have hil : i < out2.length := (List.getElem?_eq_some_iff.mp hx).1
      have hsz : ((erl p (out2.take i)).map V.int).length < sizeLine := by
        unfold erl
        rw [List.length_map, List.length_map, List.length_take]
        exact szm (by omega)
      walk_at "ev"
      refine .mk ⟨same_mut sm3 hD, ?_⟩
      unfold erl
      rw [upd_same, List.take_add_one, hx, List.map_append, List.map_append]
      rfl
    · intro H3 hP
      obtain ⟨sm3, hD3⟩ := hP.un
      rw [List.length_map, List.take_length] at hD3
      have sm03 := sm1.trans (sm2.trans sm3)
      have hlE : (erl p out2).length ≤ 30 := by
        unfold erl
        rw [List.length_map]
        omega
      have he0 : ∀ e ∈ erl p out2, 0 ≤ e := by
        intro e he
        obtain ⟨x, hx, ee⟩ := List.mem_map.mp he
        obtain ⟨x2, _⟩ := hfac.primes x ((hmo x).mp hx)
        rw [← ee]
        exact Int.ediv_nonneg (by omega) (by omega)
      generalize erl p out2 = es at *
      clear hG2 hP
      have hD1 : H D = none := (sm1.trans sm2).free hD
      walk_at "ev"
      refine ⟨fun z σ H' => ∃ (x : Int) (s3 s4 : Option V), σ = [some (.int p), some (.ref D), some (.int x), s3, s4] ∧ z = (g0 - x).toNat ∧ 1 ≤ x ∧ x ≤ g0 ∧ (∀ y, 1 ≤ y → y < x → ¬ GenOk p y es) ∧ Same H3 H', ⟨_, 1, _, _, rfl, rfl, by omega, by omega, fun y a b => by omega, Same.refl _⟩, ?_⟩
      rintro z σ H4 ⟨x, s3, s4, rfl, rfl, x1, x2, hless, sm4⟩
      have hL4 : SqL K H4 D (es.map V.int) := SqL.of (sm4 _ _ hD3)
      have hL4' : ∃ xs, SqL K H4 D xs := ⟨_, hL4⟩
      walk_at "ev"
      intro D5 hD5
      refine lc_list (K := K) (a := D) (xs := es.map V.int) (fun i H' => Hold (Same H4 H' ∧ H' D5 = some (.lst (((es.take i).map fun e => decide (x ^ e.toNat % p = 1)).map V.bl)))) (.mk ⟨same_new hD5, upd_same⟩) ?_ ?_ ?_
      · intro i H5 hi hP
        obtain ⟨sm5, hq5⟩ := hP.un
        exact sm5.seq hL4
      · intro i v H5 hv hP
        obtain ⟨sm5, hq5⟩ := hP.un
        rw [List.getElem?_map] at hv
        obtain ⟨e, he, ev⟩ := Option.map_eq_some_iff.mp hv
        subst ev
        have e0 := he0 e (List.mem_of_getElem? he)
        have hil : i < es.length := (List.getElem?_eq_some_iff.mp he).1
        have hsz : (((es.take i).map fun e => decide (x ^ e.toNat % p = 1)).map V.bl).length < sizeLine := by
          rw [List.length_map, List.length_map, List.length_take]
          exact szm (by omega)
        walk_at "ev"
        refine .mk ⟨same_mut sm5 hD5, ?_⟩
        have ed : decide (V.int (x ^ e.toNat % p) = V.int 1) = decide (x ^ e.toNat % p = 1) := by
          by_cases c : x ^ e.toNat % p = 1
          · rw [decide_eq_true c, decide_eq_true (congrArg V.int c)]
          · rw [decide_eq_false c, decide_eq_false fun z => c (V.int.inj z)]
        rw [upd_same, List.take_add_one, he, List.map_append, List.map_append, ed]
        rfl
      · intro H5 hP
        obtain ⟨sm5, hq5⟩ := hP.un
        rw [List.length_map, List.take_length] at hq5
        refine ⟨D5, _, rfl, SqL.of hq5, _, rfl, ?_⟩
        refine ite2 (fun c => ?_) (fun c => ?_)
        · have bad : ¬ GenOk p x es := by
            obtain ⟨b, hb, eb⟩ := List.any_eq_true.mp c
            obtain ⟨e, he, ee⟩ := List.mem_map.mp hb
            intro ok
            refine ok e he ?_
            rw [← ee] at eb
            exact of_decide_eq_true eb
          have xne : x ≠ g0 := fun z => bad (z ▸ hg0)
          refine ⟨_, holdN, ?_⟩
          walk_at "ev"
          refine .mk ⟨(g0 - (x + 1)).toNat, by omega, x + 1, _, _, rfl, rfl, by omega, by omega, fun y a b => ?_, sm4.trans sm5⟩
          by_cases yx : y = x
          · rw [yx]; exact bad
          · exact hless y a (by omega)
        · have good : GenOk p x es := by
            intro e he z
            apply c
            rw [List.any_eq_true]
            exact ⟨true, List.mem_map.mpr ⟨e, he, decide_eq_true z⟩, rfl⟩
          walk_at "ev"
          exact q _ _ (sm03.trans (sm4.trans sm5)) ⟨x1, by omega, good, hless⟩
end
def IsPf (n : Int) (out : List Int) : Prop := out.Pairwise (· < ·) ∧ ∀ k, k ∈ out ↔ 2 ≤ k ∧ k ∣ n ∧ Rough k k
/-! ### what stands in a list of primes; counts to 300 -/
theorem Fac.dvds {n : Int} {xs : List Int} (h : Fac n xs) : ∀ q ∈ xs, q ∣ n := by
  induction h with
  | one => intro q hq; simp at hq
  | cons h1 h2 h3 h4 h5 ih =>
    rename_i n p q ps
    intro x hx
    rcases List.mem_cons.mp hx with e | e
    · rw [e]
      exact ⟨q, h2⟩
    · exact Int.dvd_trans (ih x e) ⟨p, by rw [h2, Int.mul_comm]⟩
theorem Fac.mem_iff {n : Int} {xs : List Int} (h : Fac n xs) : ∀ k, k ∈ xs ↔ 2 ≤ k ∧ k ∣ n ∧ Rough k k := by
  intro k
  constructor
  · intro hk
    obtain ⟨a, b⟩ := h.primes k hk
    exact ⟨a, h.dvds k hk, b⟩
  · rintro ⟨k2, kn, kr⟩
    induction h with
    | one =>
      have := Int.le_of_dvd (by decide) kn
      omega
    | cons h1 h2 h3 h4 h5 ih =>
      rename_i n p q ps
      have pr : Rough p p := fun c c1 c2 c3 => h4 c c1 c2 (Int.dvd_trans c3 ⟨q, h2⟩)
      have kn' : k ∣ q * p := by
        rw [Int.mul_comm, ← h2]
        exact kn
      rcases dv_prime (by omega) h1 pr kn' with z | ⟨e, he⟩
      · exact List.mem_cons_of_mem _ (ih z)
      · have pk : p ∣ k := ⟨e, by rw [he, Int.mul_comm]⟩
        have ple := Int.le_of_dvd (by omega) pk
        have : ¬ p < k := fun z => kr p h1 z pk
        have : k = p := by omega
        rw [this]
        exact List.mem_cons_self
theorem fac_ex : ∀ n : Nat, 1 ≤ n → ∃ xs, Fac (n : Int) xs := by
  intro n
  induction n using Nat.strongRecOn with
  | ind n ih =>
    intro h1
    by_cases n1 : n = 1
    · subst n1
      exact ⟨[], .one⟩
    · -- the least divisor
      have ex : ∃ d : Nat, 2 ≤ d ∧ d ∣ n := ⟨n, by omega, Nat.dvd_refl n⟩
      obtain ⟨d, ⟨d2, dn⟩, least⟩ : ∃ d : Nat, (2 ≤ d ∧ d ∣ n) ∧ ∀ c, c < d → ¬ (2 ≤ c ∧ c ∣ n) := by
        obtain ⟨m, hm⟩ := ex
        revert hm
        induction m using Nat.strongRecOn with
        | ind m im =>
          intro hm
          by_cases hc : ∃ c, c < m ∧ 2 ≤ c ∧ c ∣ n
          · obtain ⟨c, c1, c2⟩ := hc
            exact im c c1 c2
          · exact ⟨m, hm, fun c c1 c2 => hc ⟨_, c1, c2⟩⟩
      obtain ⟨q, hq⟩ := dn
      have q1 : 1 ≤ q := by
        apply Nat.pos_of_ne_zero
        intro z
        rw [z] at hq
        omega
      have qn : q < n := by
        have : 2 * q ≤ d * q := Nat.mul_le_mul_right q d2
        omega
      obtain ⟨xs, hx⟩ := ih q qn q1
      refine ⟨(d : Int) :: xs, .cons (by omega) (by rw [hq, Int.natCast_mul]) (by omega) ?_ hx⟩
      intro e e2 ed en
      refine least e.toNat (by omega) ⟨by omega, ?_⟩
      rw [← Int.natCast_dvd_natCast, Int.toNat_of_nonneg (by omega)]
      exact en
theorem pf_ex {n : Int} (h1 : 1 ≤ n) : ∃ fs out, Fac n fs ∧ out.Pairwise (· < ·) ∧ (∀ k, k ∈ out ↔ k ∈ fs) ∧ IsPf n out := by
  obtain ⟨fs, hf⟩ := fac_ex n.toNat (by omega)
  rw [Int.toNat_of_nonneg (by omega)] at hf
  have hs : (((List.range' 2 n.toNat : List Nat).filter (fun (k : Nat) => decide ((k : Int) ∈ fs))).map Int.ofNat).Pairwise (· < ·) := by
    rw [List.pairwise_map]
    refine List.Pairwise.imp (R := fun a b : Nat => a < b) (fun {a b} h => ?_) ((List.pairwise_lt_range' (s := 2) (n := n.toNat) (step := 1)).sublist List.filter_sublist)
    show (a : Int) < (b : Int)
    omega
  have hm : ∀ k, k ∈ ((List.range' 2 n.toNat : List Nat).filter (fun (k : Nat) => decide ((k : Int) ∈ fs))).map Int.ofNat ↔ k ∈ fs := by
    intro k
    rw [List.mem_map]
    constructor
    · rintro ⟨j, hj, e⟩
      have := of_decide_eq_true (List.mem_filter.mp hj).2
      rw [← e]
      exact this
    · intro hk
      obtain ⟨k2, kd, _⟩ := (hf.mem_iff k).mp hk
      have kn := Int.le_of_dvd (by omega) kd
      have ek : ((k.toNat : Nat) : Int) = k := Int.toNat_of_nonneg (by omega)
      refine ⟨k.toNat, List.mem_filter.mpr ⟨List.mem_range'_1.mpr ⟨by omega, by omega⟩, decide_eq_true (by rw [ek]; exact hk)⟩, ek⟩
  exact ⟨fs, _, hf, hs, hm, hs, fun k => (hm k).trans (hf.mem_iff k)⟩
/-! ### a list or a tuple -/
section
open PySem.Spec PyProof.Rows
variable {X : Cx}
def rIxQ (K : PySem.W.Frag) : R2 := fun x y H Q => ∃ p xs i v, x = .ref p ∧ y = .int i ∧ (SqL K H p xs ∨ SqT K H p xs) ∧ atI xs i = some v ∧ Q v H
theorem ix_seq : IxR X (rIxQ X.K) := by
  intro value slice pins s σ H x y v u Q I rx ry h hs
  obtain ⟨p, xs, i, z, e1, e2, hq | hq, he, q⟩ := h
  · exact ix_list value slice pins s σ H x y v u Q I rx ry ⟨p, xs, i, z, e1, e2, hq, he, q⟩ hs
  · exact ix_tup value slice pins s σ H x y v u Q I rx ry ⟨p, xs, i, z, e1, e2, hq, he, q⟩ hs
end
theorem sq_same {K : PySem.W.Frag} {H H' : Hp} {a : Addr} {xs : List V} (e : Same H H') (h : SqL K H a xs ∨ SqT K H a xs) : SqL K H' a xs ∨ SqT K H' a xs := by
  rcases h with h | h
  · exact .inl (e.seq h)
  · exact .inr (same_t e h)
/-! ### the refusals' own making -/
abbrev s_init : Stmt := inClass (top 1) 0
abbrev N_init : List Str := ["self", "what"]
theorem sc_init : FnScope N_init N_init (defScope s_init) := ⟨rfl, rfl, rfl, by decide +kernel, rfl, by decide +kernel, by decide +kernel⟩
def spInit (K : PySem.W.Frag) : Sp := fun vs H Q _ => ∃ (a C : Addr) (v : V), vs = [.ref a, v] ∧ OexC K C ∧ PySem.W.findIn K (.ref C) "what" = some none ∧ H a = some (exo a C none) ∧
  ∀ dx, H dx = none → dx ≠ a → Q .non (upd (upd H dx (exd dx [(("what" : Str), v)])) a (exo a C (some dx)))
section
variable {P : Program} {w : World} {K : PySem.W.Frag} {mg : Str → Option Value} {base : Heap}
theorem ok_init {f : Addr} {fd : FuncData} {k : Nat} (F : Fun K "__init__" "TurnError.__init__" s_init f fd) : FnOk P w K mg base CX0 (k + 1) f fd N_init (spInit K) := by
  refine F.ok sc_init (fun vs H Q E h => ?_) (fun cdv A outer s H vs Q E hr h => ?_)
  · obtain ⟨a, C, v, rfl, _⟩ := h
    rfl
  · obtain ⟨a, C, v, rfl, T, nw, ha, q⟩ := h
    refine ⟨_, pss_one (ps_ost (pv 0) (pv 1)), ?_⟩
    exact ⟨_, rfl, _, rfl, a, C, rfl, T, nw, .inl ⟨ha, q⟩⟩
end
/-- C(v), made to be raised -/
theorem mk_what {K : PySem.W.Frag} {C : Addr} {v : V} {Q : XK} {H1 : Hp} (E : ExK K C) (h : ∀ d H', H1 d = none → Same H1 H' → H' d = some (.xd [(("what" : Str), v)]) → Q (.ref C) (some d) H') : ∀ a, H1 a = none → spInit K (.ref a :: ([v] ++ [])) (upd H1 a (exo a C none))
    (fun v' H2 => v' = .non ∧ ∃ (d : Addr) (fs : List (Str × V)), H2 a = some (exo a C (some d)) ∧ H2 d = some (exd d fs) ∧ H1 d = none ∧ Q (.ref C) (some d) (upd (del H2 a) d (.xd fs))) (fun _ _ _ => False) := by
  intro a ha
  refine ⟨a, C, v, rfl, E.oex, E.nw, upd_same, fun dx hd ne => ?_⟩
  rw [upd_ne ne] at hd
  refine ⟨rfl, dx, _, upd_same, ?_, hd, h dx _ hd (fun b o e => ?_) upd_same⟩
  · rw [upd_ne ne, upd_same]
  · have n1 := ne_of_none e hd
    have n2 := ne_of_none e ha
    rw [upd_ne n1, del_ne n2, upd_ne n2, upd_ne n1, upd_ne n2]
    exact e
/-- what is told of the class of a refusal, under TurnError at CT -/
structure Ref (K : PySem.W.Frag) (CT C fI : Addr) : Prop where
  ek : ExK K C
  ini : PySem.W.findIn K (.ref C) "__init__" = some (some (.ref fI))
  em : PySem.W.exmOne K (.ref C) (.ref CT) = some true
  kv : PySem.W.kitOne K (.ref C) (.type "ValueError") = some true
  kt : PySem.W.kitOne K (.ref C) (.ref CT) = some true
/-! ### divisors in common -/
theorem gcd_step {a b : Int} (ha : 0 ≤ a) (hb : 0 ≤ b) : Int.gcd b (a % b) = Int.gcd a b := by
  obtain ⟨m, rfl⟩ := Int.eq_ofNat_of_zero_le ha
  obtain ⟨n, rfl⟩ := Int.eq_ofNat_of_zero_le hb
  have e : ((m : Int) % (n : Int)).natAbs = m % n := by rw [← Int.natCast_emod]; rfl
  show Nat.gcd n ((m : Int) % (n : Int)).natAbs = Nat.gcd m n
  rw [e, Nat.gcd_comm n, ← Nat.gcd_rec, Nat.gcd_comm]
/-- a product has the rest 1: no divisor in common -/
theorem gcd_of_inv {n x m : Int} (h : n * x % m = 1) : Int.gcd n m = 1 := by
  have h1 : ((Int.gcd n m : Nat) : Int) ∣ n * x := Int.dvd_mul_of_dvd_left (Int.gcd_dvd_left n m)
  have h2 : ((Int.gcd n m : Nat) : Int) ∣ m * (n * x / m) := Int.dvd_mul_of_dvd_left (Int.gcd_dvd_right n m)
  have h3 : n * x % m + m * (n * x / m) = n * x := Int.emod_add_mul_ediv _ _
  have h4 : ((Int.gcd n m : Nat) : Int) ∣ 1 := by
    have : (1 : Int) = n * x - m * (n * x / m) := by omega
    rw [this]
    exact Int.dvd_sub h1 h2
  have h5 := Int.le_of_dvd (by decide) h4
  have h6 : Int.gcd n m ≠ 0 := by
    intro z
    rw [z] at h4
    exact absurd (Int.zero_dvd.mp h4) (by decide)
  omega
abbrev s_inverse : Stmt := top 11
abbrev N_inverse : List Str := ["number", "by", "high", "low", "high_share", "low_share", "times", "found"]
abbrev P_inverse : List Str := ["number", "by"]
theorem sc_inverse : FnScope N_inverse P_inverse (defScope s_inverse) := ⟨rfl, rfl, rfl, by decide +kernel, rfl, by decide +kernel, by decide +kernel⟩
def spInv (C : Addr) : Sp := fun vs H Q E => ∃ (n m : Int), vs = [.int n, .int m] ∧ 0 ≤ n ∧ n ≤ 1000000000 ∧ 2 ≤ m ∧ m ≤ 1000000000 ∧ (Int.gcd n m = 1 → ∀ x, 0 ≤ x → x < m → n * x % m = 1 → ∀ H', Same H H' → Q (.int x) H') ∧
  (Int.gcd n m ≠ 1 → ∀ d H', H d = none → Same H H' → H' d = some (.xd [(("what" : Str), .int n)]) → E (.ref C) (some d) H')
theorem mod_of_sub {m u v : Int} (h : m ∣ u - v) : u % m = v % m := Int.emod_eq_emod_iff_emod_sub_eq_zero.mpr (Int.emod_eq_zero_of_dvd h)
section
variable {P : Program} {w : World} {K : PySem.W.Frag} {mg : Str → Option Value} {base : Heap}
theorem ok_inverse {f fI C CT : Addr} {fd fdI : FuncData} {k : Nat} (F : Fun K "inverse" "inverse" s_inverse f fd) (FI : Fun K "__init__" "TurnError.__init__" s_init fI fdI) (I_b : Binds K fdI N_init []) (I_ty : PySem.W.typeIn K (.ref fI) = some (.type "function"))
    (R : Ref K CT C fI) (M_NoInverse : mg "NoInverse" = some (.ref C)) : FnOk P w K mg base (L2.CX P w) (k + 3) f fd P_inverse (spInv C) := by
  have G_init : FnOk P w K mg base CX0 1 fI fdI N_init (spInit K) := ok_init FI
  have EK_NoInverse := R.ek
  have II_NoInverse := R.ini
  have nd := sc_inverse.nd
  refine F.okX sc_inverse (fun vs H Q E h => ?_) (fun cdv A outer s H vs Q E hr h => ?_)
  · obtain ⟨n, m, rfl, _⟩ := h
    rfl
  · obtain ⟨n, m, rfl, n0, n9, m2, m9, qy, qn⟩ := h
    refine ⟨_, (pss_cons (ps_par (i := 2) (j := 3) (by rfl) nd rfl rfl (by decide) rfl rfl (pa_cons (pv 1) (pa_cons (pe_op op_mod (pv 0) (pv 1)) pa_nil)) (by rfl))
      (pss_cons (ps_asg (pe_tup (pa_cons (pe_int) (pa_cons (pe_int) pa_nil))) (pg_tup (by rfl) (pgs_cons (pg_name (i := 4) nd rfl (Or.inl rfl)) (pgs_cons (pg_name (i := 5) nd rfl (Or.inl rfl)) pgs_nil))))
      (pss_cons (ps_while (passes_of rfl) (pt_cmpR op_ne (pv 3) (pe_int) (nomark _))
      (pss_cons (ps_set (i := 6) nd rfl (Or.inl rfl) (pe_op op_fdiv (pv 2) (pv 3)))
      (pss_cons (ps_par (i := 2) (j := 3) (by rfl) nd rfl rfl (by decide) rfl rfl (pa_cons (pv 3) (pa_cons (pe_op op_sub (pv 2) (pe_op op_mul (pv 6) (pv 3))) pa_nil)) (by rfl))
      (pss_one (ps_par (i := 4) (j := 5) (by rfl) nd rfl rfl (by decide) rfl rfl (pa_cons (pv 5) (pa_cons (pe_op op_sub (pv 4) (pe_op op_mul (pv 6) (pv 5))) pa_nil)) (by rfl))))))
      (pss_cons (ps_set (i := 7) nd rfl (Or.inl rfl) (pe_op op_mod (pv 4) (pv 1)))
      (pss_cons (ps_if (pt_cmpR op_ne (pe_op op_mod (pe_op op_mul (pv 0) (pv 7)) (pv 1)) (pe_int) (nomark _)) (pss_one (ps_raise rfl (takes_of rfl rfl rfl rfl) (pmk_oex EK_NoInverse.oex II_NoInverse I_ty G_init (hr.mono (by omega)) I_b .nil pass0 (by rfl) M_NoInverse (pa_cons (pv 0) pa_nil)))) pss_nil)
      (pss_one (ps_ret (pv 7)))))))), ?_⟩
    walk_at "ev"
    have l0 := Int.emod_nonneg n (show m ≠ 0 by omega)
    have l1 := Int.emod_lt_of_pos n (show 0 < m by omega)
    have ls : m ∣ n * 1 - n % m := by
      rw [Int.mul_one]
      have := Int.emod_add_mul_ediv n m
      exact ⟨n / m, by omega⟩
    intro tp hp
    generalize hG : upd _ tp _ = H1
    obtain ⟨sm1, hq1⟩ := newO hG hp
    have hT1 : SqT K H1 tp [.int 0, .int 1] := SqT.of hq1
    clear hG hq1
    walk_at "ev"
    refine ⟨fun z σ H' => H' = H1 ∧ ∃ (hi lo hs lo' : Int) (s6 : Option V), σ = [some (.int n), some (.int m), some (.int hi), some (.int lo), some (.int hs), some (.int lo'), s6, none] ∧ z = lo.toNat ∧ 0 ≤ hi ∧ hi ≤ m ∧ 0 ≤ lo ∧ lo ≤ m ∧ Int.gcd hi lo = Int.gcd m (n % m) ∧ m ∣ n * hs - hi ∧ m ∣ n * lo' - lo,
      ⟨_, rfl, m, n % m, 0, 1, none, rfl, rfl, by omega, by omega, l0, by omega, rfl, by rw [Int.mul_zero, Int.zero_sub]; exact Int.dvd_neg.mpr (Int.dvd_refl m), ls⟩, ?_⟩
    rintro z σ H' ⟨rfl, hi, lo, hs, lo', s6, rfl, rfl, h0, h1, g0, g1, hg, d1, d2⟩
    walk_at "ev"
    by_cases c : lo = 0
    · subst c
      refine iteFe (by simp) ?_
      have hgc : hi = ((Int.gcd n m : Nat) : Int) := by
        rw [gcd_step n0 (by omega), Int.gcd_zero_right] at hg
        omega
      have r0 := Int.emod_nonneg hs (show m ≠ 0 by omega)
      have r1 := Int.emod_lt_of_pos hs (show 0 < m by omega)
      have ep : n * (hs % m) % m = hi % m := by
        rw [Int.mul_emod, Int.emod_emod_of_dvd _ (Int.dvd_refl m), ← Int.mul_emod]
        exact mod_of_sub d1
      have cm : CMul n (hs % m) := .inl ⟨by omega, by omega⟩
      walk_at "ev"
      by_cases e : Int.gcd n m = 1
      · have e1 : n * (hs % m) % m = 1 := by
          rw [ep, hgc, e]
          exact Int.emod_eq_of_lt (by decide) (by show (1 : Int) < m; omega)
        refine iteFe (by simp [e1]) ?_
        walk_at "ev"
        exact qy e _ r0 r1 e1 _ sm1
      · have e1 : ¬ n * (hs % m) % m = 1 := fun z => e (gcd_of_inv z)
        refine iteTe (by simp [e1]) ?_
        refine ⟨_, rfl, (by show 1 ≤ 1000; decide), mk_what R.ek fun d H' hd sm hq => ?_⟩
        exact qn e d H' (sm1.free hd) (sm1.trans sm) hq
    · refine iteTe (by simp [c]) ?_
      refine ⟨_, holdN, ?_⟩
      have t0 : 0 ≤ hi / lo := Int.ediv_nonneg h0 g0
      have t1 : hi / lo ≤ hi := Int.ediv_le_self _ h0
      have cm1 : CMul (hi / lo) lo := .inl ⟨by omega, by omega⟩
      have cm2 : CMul (hi / lo) lo' := .inl ⟨by omega, by omega⟩
      have cd : CDiv hi lo := ⟨by omega, by omega⟩
      walk_at "ev"
      have em : hi - hi / lo * lo = hi % lo := by
        have := Int.emod_add_mul_ediv hi lo
        rw [Int.mul_comm lo] at this
        omega
      have u0 := Int.emod_nonneg hi c
      have u1 := Int.emod_lt_of_pos hi (show 0 < lo by omega)
      refine .mk ⟨(hi - hi / lo * lo).toNat, by omega, rfl, lo, hi - hi / lo * lo, lo', hs - hi / lo * lo', _, rfl, rfl, g0, g1, by omega, by omega, ?_, d2, ?_⟩
      · rw [em, gcd_step h0 g0]
        exact hg
      · have : n * (hs - hi / lo * lo') - (hi - hi / lo * lo) = (n * hs - hi) - hi / lo * (n * lo' - lo) := by
          rw [Int.mul_sub, Int.mul_sub, ← Int.mul_assoc, ← Int.mul_assoc, Int.mul_comm n (hi / lo)]
          omega
        rw [this]
        exact Int.dvd_sub d1 (Int.dvd_mul_of_dvd_right d2)
end
abbrev s_is_whole : Stmt := top 7
abbrev N_is_whole : List Str := ["thing"]
abbrev P_is_whole : List Str := ["thing"]
theorem sc_is_whole : FnScope N_is_whole P_is_whole (defScope s_is_whole) := ⟨rfl, rfl, rfl, by decide +kernel, rfl, by decide +kernel, by decide +kernel⟩
def spWhole (K : PySem.W.Frag) : Sp := fun vs H Q _ => ∃ (x : V) (t : String), vs = [x] ∧ Kd K H x t ∧ Q (.bl (t == "int")) H
section
variable {P : Program} {w : World} {K : PySem.W.Frag} {mg : Str → Option Value} {base : Heap}
theorem ok_whole {f : Addr} {fd : FuncData} {k : Nat} (F : Fun K "is_whole" "is_whole" s_is_whole f fd) (T : Blt mg) : FnOk P w K mg base CX0 (k + 1) f fd P_is_whole (spWhole K) := by
  have nd := sc_is_whole.nd
  refine F.ok sc_is_whole (fun vs H Q E h => ?_) (fun cdv A outer s H vs Q E hr h => ?_)
  · obtain ⟨x, t, rfl, _⟩ := h
    rfl
  · obtain ⟨x, t, rfl, kd, q⟩ := h
    refine ⟨_, (pss_one (ps_ret (pe_and (pe_callB (r := rIsi K) call_isi (by rfl) T.b_isinstance (by decide +kernel) (pa_cons (pv 0) (pa_cons (pe_bltn (v := .ty "int") (by rfl) T.b_int (by decide +kernel) rfl) pa_nil))) (pe_one (pe_not (pe_callB (r := rIsi K) call_isi (by rfl) T.b_isinstance (by decide +kernel) (pa_cons (pv 0) (pa_cons (pe_bltn (v := .ty "bool") (by rfl) T.b_bool (by decide +kernel) rfl) pa_nil)))))))), ?_⟩
    have ty := kd.ty
    obtain ⟨k1, k2, k3, k4, k5⟩ := kd.kit
    walk_at "ev"
    cases kd
    all_goals (walk_at "ev"; exact q)
end
abbrev s_is_prime : Stmt := top 8
abbrev N_is_prime : List Str := ["thing"]
abbrev P_is_prime : List Str := ["thing"]
theorem sc_is_prime : FnScope N_is_prime P_is_prime (defScope s_is_prime) := ⟨rfl, rfl, rfl, by decide +kernel, rfl, by decide +kernel, by decide +kernel⟩
def spPrime (K : PySem.W.Frag) : Sp := fun vs H Q _ => ∃ (x : V) (t : String), vs = [x] ∧ Kd K H x t ∧ (∀ n, x = .int n → n ≤ 1000000000) ∧ ∀ b H', Same H H' → (b = true ↔ ∃ n, x = .int n ∧ Fac n [n]) → Q (.bl b) H'
section
variable {P : Program} {w : World} {K : PySem.W.Frag} {mg : Str → Option Value} {base : Heap}
theorem ok_prime {f fW fF : Addr} {fd fdW fdF : FuncData} {k : Nat} (F : Fun K "is_prime" "is_prime" s_is_prime f fd) (T : Blt mg) (D_is_whole : Df K mg "is_whole" s_is_whole P_is_whole fW fdW) (D_factors : Df K mg "factors" s_factors P_factors fF fdF) : FnOk P w K mg base CX0 (k + 2) f fd P_is_prime (spPrime K) := by
  have G_is_whole : FnOk P w K mg base CX0 (k + 1) fW fdW P_is_whole (spWhole K) := ok_whole D_is_whole.F T
  have G_factors : FnOk P w K mg base CX0 (k + 1) fF fdF P_factors spFactors := ok_factors D_factors.F
  have nd := sc_is_prime.nd
  refine F.ok sc_is_prime (fun vs H Q E h => ?_) (fun cdv A outer s H vs Q E hr h => ?_)
  · obtain ⟨x, t, rfl, _⟩ := h
    rfl
  · obtain ⟨x, t, rfl, kd, hb, q⟩ := h
    refine ⟨_, (pss_one (ps_ret (pe_and (pe_call G_is_whole (hr.mono (by omega)) (by rfl) D_is_whole.g D_is_whole.F.kp D_is_whole.b .nil pass0 (pa_cons (pv 0) pa_nil)) (pe_and (pe_cmpR op_gt (pv 0) (pe_int) (nomark _)) (pe_one (pe_cmpR (r := rEqD K) (op_eqD hr.units) (pe_call G_factors (hr.mono (by omega)) (by rfl) D_factors.g D_factors.F.kp D_factors.b .nil pass0 (pa_cons (pv 0) pa_nil)) (pe_lst (pa_cons (pv 0) pa_nil)) (nomark _))))))), ?_⟩
    walk_at "ev"
    cases kd with
    | int n =>
      have hn := hb n rfl
      walk_at "ev"
      refine ite2 (fun e => ?_) (fun e => ?_)
      · have e1 : 1 < n := of_decide_eq_true e
        walk_at "ev"
        intro xs p H' hf hp sm hp'
        walk_at "ev"
        intro p2 hp2
        generalize hG : upd _ p2 _ = H2
        obtain ⟨sm2, hp3⟩ := newO hG hp2
        refine eqd_ints (ns := xs) (ms := [n]) (SqL.of (sm2 _ _ hp')) (SqL.of hp3) ?_
        refine q _ _ (sm.trans sm2) ?_
        rw [decide_eq_true_iff]
        constructor
        · intro z
          exact ⟨n, rfl, z ▸ hf⟩
        · rintro ⟨m, z, hm⟩
          cases z
          exact hf.uniq hm
      · have e1 : ¬ 1 < n := fun z => e (decide_eq_true z)
        refine q _ _ (Same.refl _) ⟨fun z => Bool.noConfusion z, ?_⟩
        rintro ⟨m, z, hm⟩
        cases z
        have := (Rough.of_fac hm).1
        omega
    | _ =>
      walk_at "ev"
      refine q _ _ (Same.refl _) ⟨fun z => Bool.noConfusion z, ?_⟩
      rintro ⟨m, z, hm⟩
      cases z
end
abbrev s__law_pick : Stmt := top 26
abbrev N__law_pick : List Str := ["_law_box_here", "_law_things"]
abbrev P__law_pick : List Str := ["_law_box_here", "_law_things"]
theorem sc__law_pick : FnScope N__law_pick P__law_pick (defScope s__law_pick) := ⟨rfl, rfl, rfl, by decide +kernel, rfl, by decide +kernel, by decide +kernel⟩
def spPick (K : PySem.W.Frag) : Sp := fun vs H Q _ => ∃ (b a : Addr) (xs : List V) (n : Int), vs = [.ref b, .ref a] ∧ BoxAt H b n ∧ SqL K H a xs ∧ a ≠ b ∧ 0 < (xs.length : Int) ∧ (xs.length : Int) < 1048576 ∧ n < 1048576 ∧ ∀ v H', v ∈ xs → Keep b H H' → BoxAt H' b (n + 1) → Q v H'
section
variable {P : Program} {w : World} {K : PySem.W.Frag} {mg : Str → Option Value} {base : Heap}
theorem ok_pick {f fT : Addr} {fd fdT : FuncData} {k : Nat} (F : Fun K "_law_pick" "_law_pick" s__law_pick f fd) (T : Blt mg) (D__law_take : Df K mg "_law_take" s__law_take P__law_take fT fdT) : FnOk P w K mg base CX0 (k + 2) f fd P__law_pick (spPick K) := by
  have G__law_take : FnOk P w K mg base CX0 (k + 1) fT fdT P__law_take spTake := ok_take D__law_take.F
  have nd := sc__law_pick.nd
  refine F.ok sc__law_pick (fun vs H Q E h => ?_) (fun cdv A outer s H vs Q E hr h => ?_)
  · obtain ⟨b, a, xs, n, rfl, _⟩ := h
    rfl
  · obtain ⟨b, a, xs, n, rfl, hb, hL, hne, h0, h1, hn, q⟩ := h
    refine ⟨_, (pss_one (ps_ret (pe_ix (r := rIxL K) ix_list (pv 1) (pe_call G__law_take (hr.mono (by omega)) (by rfl) D__law_take.g D__law_take.F.kp D__law_take.b .nil pass0 (pa_cons (pv 0) (pa_cons (pe_callB (r := rLenQ K) call_len_seq (by rfl) T.b_len (by decide +kernel) (pa_cons (pv 1) pa_nil)) pa_nil))) (fun _ _ => rfl)))), ?_⟩
    walk_at "ev"
    intro r H' hr0 hr1 hk hb'
    obtain ⟨v, hv, hat⟩ := at_some hr0 hr1
    have hL' := hk.seq hne hL
    walk_at "ev"
    exact q _ _ hv hk hb'
end
theorem BoxAt.upd {H : Hp} {b D : Addr} {n : Int} {o : HO} (h : BoxAt H b n) (e : D ≠ b) : BoxAt (L2.upd H D o) b n := by
  obtain ⟨x, y, z, a1, a2⟩ := h
  exact ⟨x, y, z, by rw [upd_ne e.symm]; exact a1, a2⟩
theorem dpl {K : PySem.W.Frag} {H : Hp} {a : Addr} (ns : List Int) (h : SqL K H a (ns.map V.int)) : Dp K H (.ref a) (.list (ns.map PyData.int)) := .lst h (dp_ints ns)
/-! ### a loop over enumerate -/
/-! ### enumerate of a tuple -/
section
open PySem.Spec PyProof.Rows
abbrev tIt (t : Addr) : Obj := { cls := .type "tuple_iterator", data := .fields #[.ref t, .int 0 0] }
abbrev tEn (i : Addr) : Obj := { cls := .type "enumerate", data := .fields #[.none, .bool false, .ref i, rawInt 0, .none, .none] }
theorem meets_enumT (l : Addr) (items : Array Value) (n : Nat) (dct : Option Addr) (sl : Array (Option Value)) :
    Meets (Builtin.«enumerate.__new__» ⟨[.type "enumerate", .ref l], []⟩) (fun _ R s => s.heap.get? l = some { cls := .type "tuple", dict := dct, data := .seq items n, slots := sl } ∧
      R (.ok (.ret (.ref (s.heap.push (tIt l)).objs.size))) { s with heap := (s.heap.push (tIt l)).push (tEn s.heap.objs.size) }) :=
  .of_wp fun prog w A R s h => by
    obtain ⟨hp, g, d, tk, os⟩ := s
    obtain ⟨hl, h⟩ := h
    have hsub := sub_enumerate
    have hT : Heap.IsTuple (Shared.heap ⟨hp, g, d, tk, os⟩) l items := ⟨_, hl, rfl, n, rfl⟩
    have q1 : ∀ {A' : Around} {E : Value → Shared → Prop} {Q : Value → Shared → Prop}, Q (.ref hp.objs.size) ⟨hp.push (tIt l), g, d, tk, os⟩ → wpAny (model prog w) A' (pyIter (.ref l)) Q E ⟨hp, g, d, tk, os⟩ := fun q => wpAny_pyIter_tuple hT q
    wp_walk using AutoSeq1.wpAny_loadPart' hl
    refine wpAny_stack_any fun st => wpAny_pure ?_
    split
    · rename_i c _ _ _ _ _
      cases (c == Value.type "enumerate")
      · wp_walk using AutoSeq1.wpAny_loadPart' hl, q1
        exact ⟨_, rfl, h⟩
      · wp_walk using AutoSeq1.wpAny_loadPart' hl, q1
        exact ⟨_, rfl, h⟩
    · wp_walk using AutoSeq1.wpAny_loadPart' hl, q1
      exact ⟨_, rfl, h⟩
theorem call_enumT {prog : Program} {w : World} {A : Around} {E : Value → Shared → Prop} {s : Shared} {l : Addr} {items : Array Value} {Q : Value → Shared → Prop} (hL : s.heap.IsTuple l items)
    (h : ∀ h', IsEnum h' (s.heap.objs.size + 1) s.heap.objs.size 0 .none → h'.IsTupleIter s.heap.objs.size l 0 → (∀ b o, s.heap.get? b = some o → h'.get? b = some o) → Q (.ref (s.heap.objs.size + 1)) { s with heap := h' }) :
    wpAny (model prog w) A (call (.type "enumerate") [.ref l]) Q E s := by
  obtain ⟨⟨c, dct, dt, sl⟩, hl, hc, n, hd⟩ := hL
  replace hc : c = .type "tuple" := hc
  replace hd : dt = .seq items n := hd
  subst hc hd
  refine callType_new F.called_enumerate (by decide) (F.typeCall_enumerate_1 _) (F.newCall_enumerate_1 _) (fun obj => F.args_object_init_2 obj _) F.entry_enumerate_new (meets_enumT l items n dct sl) ⟨hl, ?_⟩
  have hz : (s.heap.push (tIt l)).objs.size = s.heap.objs.size + 1 := Heap.size_push ..
  show _ ∧ _
  rw [hz]
  have he : IsEnum ((s.heap.push (tIt l)).push (tEn s.heap.objs.size)) (s.heap.objs.size + 1) s.heap.objs.size 0 .none := by
    have k := Heap.get?_push_size (s.heap.push (tIt l)) (o := tEn s.heap.objs.size) rfl
    rw [hz] at k
    exact k
  exact ⟨⟨_, he, rfl⟩, h _ he ⟨_, Heap.get?_push_of_some _ (Heap.get?_push_size _ rfl), rfl, rfl⟩ fun b o x => Heap.get?_push_of_some _ (Heap.get?_push_of_some _ x)⟩
/-- the tuple at a, each item in a new pair -/
def IteT (K : PySem.W.Frag) (a : Addr) : It :=
  ⟨fun i H => ∃ (xs : List V) (x : V), SqT K H a xs ∧ xs[i]? = some x, fun i H v H' => ∃ T x, v = .ref T ∧ H T = none ∧ H' = upd H T (.tup [.int (i : Nat), x]) ∧ ∀ xs, SqT K H a xs → xs[i]? = some x, fun i H => ∃ xs : List V, SqT K H a xs ∧ xs.length = i⟩
theorem turn_enumT {P : Program} {w : World} {K : PySem.W.Frag} {elts : List Expr} {kk : Nat} {tpos : Pos} (a e it : Addr) :
    Turn P w K (.Tuple elts kk tpos) (IteT K a) [e, it] e (fun i h => (∃ old, IsEnum h e it ((i : Nat) : Int) old) ∧ h.IsTupleIter it a i ∧ e ≠ it ∧ a ≠ it ∧ a ≠ e) where
  mem := by simp
  obj := fun i h st b hb => by
    obtain ⟨⟨old, he⟩, ⟨o, ho, hc, hd⟩, _⟩ := st
    have z : b = e ∨ b = it := by simpa using hb
    rcases z with z | z
    · rw [z]
      exact ⟨_, he, fun v q => nomatch q⟩
    · rw [z]
      exact ⟨o, ho, fun v q => by rw [hd] at q; cases q⟩
  keep := fun i h h' st k => by
    obtain ⟨⟨old, he⟩, hi, hne⟩ := st
    exact ⟨⟨old, k e (by simp) _ he⟩, hi.at fun o q => k it (by simp) o q, hne⟩
  item := by
    intro X hP hw hK hc i pins s σ H E I hf st hg
    subst hP hw hK
    obtain ⟨⟨old, he⟩, hit, hne, hna, hnb⟩ := st
    obtain ⟨xs, x, hq, hx⟩ := hg
    obtain ⟨its, rv, p, hz⟩ := I.tuple hq
    obtain ⟨u, hu, ru⟩ := rv.get hx
    have hel : e < s.heap.objs.size := Heap.lt_size he
    have hil : it < s.heap.objs.size := by
      obtain ⟨_, q, _⟩ := hit
      exact Heap.lt_size q
    have hlt : i < its.toArray.size := by
      rw [List.size_toArray]
      exact (List.getElem?_eq_some_iff.mp hu).1
    have dr : Draws X.prog X.w X.A.in1 it [it, a] its.toArray.size (fun i v => its.toArray[i]? = some v) (fun i h => h.IsTupleIter it a i ∧ h.IsTuple a its.toArray) := Draws.tuple (A := X.A.in1) (I.ok.hd hc) it a hna its.toArray
    refine wpAny_pyNext_enum_itemD dr he ⟨hit, p⟩ hlt hne (by simp [hne, hnb.symm]) fun y h' tk hy ho hst hT hsz hk => ?_
    have ey : y = u := by
      have h1 : its.toArray[i]? = some u := by simpa using hu
      rw [h1] at hy
      exact (Option.some.inj hy).symm
    subst ey
    refine ⟨_, rfl, wpAny_letOwnedTupleGo_enum (s := { s with heap := h', toks := tk + 1 }) ho fun h'' he' sb => ?_⟩
    have hT2 := (sb.2 _ (Nat.ne_of_gt hel)).trans hT
    have new : ObjOk X.prog X.w (upd H s.heap.objs.size (.tup [.int (i : Nat), x])) h'' s.heap.objs.size (.tup [.int (i : Nat), x]) := ⟨by show 2 ≤ sizeLine; decide, [.int i tk, y], .cons ⟨_, rfl⟩ (.cons ru .nil), ⟨_, hT2, rfl, _, rfl⟩⟩
    have I1 : Inv X pins σ (upd H s.heap.objs.size (.tup [.int (i : Nat), x])) { s with heap := h'', toks := tk + 1 } :=
      I.turnedNew (ch := [e, it]) (fun b ob hb q => (sb.2 b (fun z => hb (by simp [z]))).trans (hk b ob (fun z => hb (by simp [z])) (fun z => hb (by simp [z])) q)) hf (Nat.le_refl _) new
    refine ⟨.ref s.heap.objs.size, _, I1, rfl, ⟨_, x, rfl, I.hok.fresh (Nat.le_refl _), rfl, fun ys hy => by rw [I.tuple_inj hy hq]; exact hx⟩, ⟨⟨y, ?_⟩, hst.1.at fun o q => (sb.2 it hne.symm).trans q, hne, hna, hnb⟩, fun b hb => ?_⟩
    · rw [show ((i + 1 : Nat) : Int) = (i : Int) + 1 by omega]
      exact he'
    · have hb' : b < s.heap.objs.size := by
        have z : b = e ∨ b = it := by simpa using hb
        rcases z with z | z <;> rw [z]
        · exact hel
        · exact hil
      rw [upd_ne (Nat.ne_of_lt hb')]
      exact (hf b hb).1
  done := by
    intro X hP hw hK hc i pins s σ H E I hf st hg
    subst hP hw hK
    obtain ⟨⟨old, he⟩, hit, hne, hna, hnb⟩ := st
    obtain ⟨xs, hq, hx⟩ := hg
    obtain ⟨its, rv, p, hz⟩ := I.tuple hq
    obtain ⟨f0, f1, f2, f3, f4, f5⟩ := hf it (by simp)
    have hl : its.toArray.size = i := by
      rw [List.size_toArray, ← rv.length]
      exact hx
    have dr : Draws X.prog X.w X.A.in1 it [it, a] its.toArray.size (fun i v => its.toArray[i]? = some v) (fun i h => h.IsTupleIter it a i ∧ h.IsTuple a its.toArray) := Draws.tuple (A := X.A.in1) (I.ok.hd hc) it a hna its.toArray
    exact wpAny_pyNext_enum_endD dr he (by rw [hl]; exact ⟨hit, p⟩) fun h' eb => ⟨rfl, I.turned (t' := s.toks) (fun b o hb q => eb b o hb q) f0 f1 f3 f4 f5⟩
  self := fun A i s Q E st h => by
    obtain ⟨⟨_, he⟩, _⟩ := st
    exact wpAny_pyIter_enum he h
def iEnumT (K : PySem.W.Frag) (ta : TA) : TI := fun σ H R => ta σ H fun vs H1 => ∃ a xs, vs = [.ref a] ∧ SqT K H1 a xs ∧ R (IteT K a) H1
theorem pi_enumT {X : Cx} {e : Expr} {ta : TA} {p pos tpos : Pos} {elts : List Expr} {kk : Nat} (hg : Gl X "enumerate") (hm : X.mg "enumerate" = none) (ha : PA X [e] ta) (hs : starEach [e] X.env = [(false, eval e X.env)] := by rfl) :
    PI X (.Tuple elts kk tpos) (.Call (.Name "enumerate" p) [e] [] pos) (iEnumT X.K ta) := by
  refine ⟨fun pins s σ H R I h => ?_⟩
  refine Call_ (ld_blt I hg hm boot_enumerate (PyProof.Rows.callWith_type1 (thn (ha.run pos pins s σ H _ I h) fun us s1 ⟨vs, H1, I1, r1, q1⟩ => ?_) hs rfl))
  obtain ⟨a, xs, ex, hq, q⟩ := q1
  subst ex
  obtain ⟨u, rfl, ru⟩ := r1.one
  cases ru
  obtain ⟨its, rv, p', hz⟩ := I1.tuple hq
  have hal : a < s1.heap.objs.size := by
    obtain ⟨o, ho, _⟩ := p'
    exact Heap.lt_size ho
  refine call_enumT p' fun h' he hit hk => wpAny_pyIter_enum he ?_
  have I2 : Inv X pins σ H1 { s1 with heap := h' } := I1.kept (t' := s1.toks) hk
  refine ⟨s1.heap.objs.size + 1, [s1.heap.objs.size + 1, s1.heap.objs.size], _, _, H1, rfl, I2, turn_enumT a (s1.heap.objs.size + 1) s1.heap.objs.size, ⟨⟨.none, he⟩, hit, Nat.succ_ne_self _, Nat.ne_of_lt hal, Nat.ne_of_lt (Nat.lt_succ_of_lt hal)⟩, fun b hb => ?_, q⟩
  have hle : s1.heap.objs.size ≤ b := by
    have z : b = s1.heap.objs.size + 1 ∨ b = s1.heap.objs.size := by simpa using hb
    rcases z with z | z <;> rw [z]
    · exact Nat.le_add_right _ _
    · exact Nat.le_refl _
  exact I1.fpOk hle (I1.hok.fresh hle)
end
theorem for_enumT {K : PySem.W.Frag} {a : Addr} {xs : List V} {g : TG} {tb : TS} {D : Ends} {σ : L2.St} {H : Hp} (Pv : Nat → L2.St → Hp → Prop) (h0 : Pv 0 σ H) (hq : ∀ i σ H, Pv i σ H → SqT K H a xs)
    (hs : ∀ (i : Nat) (x : V) (T : Addr) (σ : L2.St) (H : Hp), xs[i]? = some x → Pv i σ H → H T = none → g (.ref T) σ (upd H T (.tup [.int (i : Nat), x])) fun σ2 H2 => tb { D with nx := Pv (i + 1), ct := Pv (i + 1), bk := D.nx } σ2 H2) (hd : ∀ σ H, Pv xs.length σ H → D.nx σ H) :
    ∃ W : Nat → Nat → L2.St → Hp → Prop, (∃ m, W 0 m σ H) ∧ ∀ i m σ H, W i m σ H →
      ((IteT K a).stop i H ∧ D.nx σ H) ∨ ((IteT K a).go i H ∧ ∃ N : L2.St → Hp → Prop, (∀ σ' H', N σ' H' → ∃ m', m' < m ∧ W (i + 1) m' σ' H') ∧ ∀ v H', (IteT K a).yld i H v H' → g v σ H' fun σ2 H2 => tb { D with nx := N, ct := N, bk := D.nx } σ2 H2) := by
  refine ⟨fun i m σ H => m = xs.length - i ∧ i ≤ xs.length ∧ Pv i σ H, ⟨xs.length, rfl, Nat.zero_le _, h0⟩, ?_⟩
  rintro i m σ H ⟨rfl, hi, p⟩
  have q := hq i σ H p
  by_cases hlt : i < xs.length
  · refine .inr ⟨⟨xs, xs[i], q, List.getElem?_eq_getElem hlt⟩, Pv (i + 1), fun σ' H' p' => ⟨xs.length - (i + 1), by omega, rfl, hlt, p'⟩, fun v H' y => ?_⟩
    obtain ⟨T, x', rfl, hT, rfl, f1⟩ := y
    exact hs i x' T σ H (f1 xs q) p hT
  · have e : i = xs.length := by omega
    subst e
    exact .inl ⟨⟨xs, q, rfl⟩, hd σ H p⟩
/-! ### repr of lists and tuples in one another, whatever repr is under way around them -/
section
open PySem.Spec PyProof.Rows
/-- things with their addresses -/
inductive AT where
  | leaf (d : PyData)
  | lst (a : Addr) (l : List AT)
  | tup (a : Addr) (l : List AT)
mutual
inductive Ap (K : PySem.W.Frag) (H : Hp) : V → AT → Prop
  | non : Ap K H .non (.leaf .none)
  | bl (b : Bool) : Ap K H (.bl b) (.leaf (.bool b))
  | int (i : Int) : Ap K H (.int i) (.leaf (.int i))
  | str (x : Str) : Ap K H (.str x) (.leaf (.str x))
  | lst {a : Addr} {xs : List V} {l : List AT} : SqL K H a xs → ApAll K H xs l → Ap K H (.ref a) (.lst a l)
  | tup {a : Addr} {xs : List V} {l : List AT} : SqT K H a xs → ApAll K H xs l → Ap K H (.ref a) (.tup a l)
inductive ApAll (K : PySem.W.Frag) (H : Hp) : List V → List AT → Prop
  | nil : ApAll K H [] []
  | cons {v : V} {vs : List V} {t : AT} {l : List AT} : Ap K H v t → ApAll K H vs l → ApAll K H (v :: vs) (t :: l)
end
/-- list.__repr__'s loop over this very list is under way -/
def loopF (self : Value) : Code × Pos → Bool := fun
  | (.builtin "list.__repr__.loop" ⟨v :: _, _⟩, _) => Builtin.List.listSameRef v self
  | _ => false
theorem loopF_pos (self : Value) (c : Code) (p : Pos) : loopF self (c, p) = loopF self (c, default) := by
  unfold loopF
  split
  · next v r k q heq =>
    cases heq
    rfl
  · next h =>
    split
    · next v r k q heq =>
      cases heq
      exact absurd rfl (h v r k p)
    · rfl
theorem loopF_off (self : Value) (c : Code) (p : Pos) (h : c.isGuard = false) : loopF self (c, p) = false := by
  unfold loopF
  split
  · next v r k q heq =>
    cases heq
    simp [Code.isGuard, guardIds] at h
  · rfl
def blkL (g : List Code) (b : Addr) : Bool := g.any fun c => loopF (.ref b) (c, default)
def blkT (g : List Code) (b : Addr) : Bool := g.any fun c => tupGuardF (.ref b) (c, default)
mutual
def AT.data : AT → PyData
  | .leaf d => d
  | .lst _ l => .list (AT.dataAll l)
  | .tup _ l => .tuple (AT.dataAll l)
def AT.dataAll : List AT → List PyData
  | [] => []
  | t :: l => AT.data t :: AT.dataAll l
end
mutual
def AT.txt (g : List Code) : AT → Str
  | .leaf d => d.shown
  | .lst _ [] => "[]"
  | .lst a (t :: l) => if blkL g a then "[...]" else listText (AT.txt g t :: AT.txtAll g l)
  | .tup a l => if blkT g a then "(...)" else tupleText (AT.txtAll g l)
def AT.txtAll (g : List Code) : List AT → List Str
  | [] => []
  | t :: l => AT.txt g t :: AT.txtAll g l
end
/-! how long it may come to be -/
mutual
def AT.wid : AT → Nat
  | .leaf d => d.shown.length
  | .lst _ l => 6 + AT.widAll l
  | .tup _ l => 6 + AT.widAll l
def AT.widAll : List AT → Nat
  | [] => 0
  | t :: l => AT.wid t + 2 + AT.widAll l
end
theorem txtAll_sum (g : List Code) : ∀ (l : List AT), (∀ t ∈ l, (AT.txt g t).length ≤ AT.wid t) → ((AT.txtAll g l).map (·.length)).sum + 2 * (AT.txtAll g l).length ≤ AT.widAll l
  | [], _ => by simp [AT.txtAll, AT.widAll]
  | t :: l, h => by
    have h1 := h t List.mem_cons_self
    have h2 := txtAll_sum g l fun u hu => h u (List.mem_cons_of_mem _ hu)
    simp only [AT.txtAll, AT.widAll, List.map_cons, List.sum_cons, List.length_cons]
    omega
mutual
theorem txt_wid (g : List Code) : ∀ t : AT, (AT.txt g t).length ≤ AT.wid t
  | .leaf d => by rw [AT.txt, AT.wid]; exact Nat.le_refl _
  | .lst a [] => by
    rw [AT.txt, AT.wid]
    have : (("[]" : String) : Str).length = 2 := rfl
    omega
  | .lst a (t :: l) => by
    rw [AT.txt, AT.wid]
    split
    · have : (("[...]" : String) : Str).length = 5 := rfl
      omega
    · have h := listText_len_le (AT.txt g t :: AT.txtAll g l)
      have h2 := txtAll_sum g (t :: l) (txt_widAll g (t :: l))
      rw [AT.txtAll] at h2
      omega
  | .tup a l => by
    rw [AT.txt, AT.wid]
    split
    · have : (("(...)" : String) : Str).length = 5 := rfl
      omega
    · have h := tupleText_len_le (AT.txtAll g l)
      have h2 := txtAll_sum g l (txt_widAll g l)
      omega
theorem txt_widAll (g : List Code) : ∀ l : List AT, ∀ t ∈ l, (AT.txt g t).length ≤ AT.wid t
  | [], _, h => nomatch h
  | u :: l, t, h => by
    rcases List.mem_cons.mp h with e | h
    · rw [e]
      exact txt_wid g u
    · exact txt_widAll g l t h
end
def Agr (g0 g : List Code) (as : List Addr) : Prop := ∀ b ∈ as, blkL g b = blkL g0 b ∧ blkT g b = blkT g0 b
theorem Agr.refl (g : List Code) (as : List Addr) : Agr g g as := fun _ _ => ⟨rfl, rfl⟩
theorem ref_beq {a b : Addr} (n : a ≠ b) : (Value.ref a == Value.ref b) = false := beq_eq_false_iff_ne.mpr fun e => n (Value.ref.inj e)
theorem Agr.cons {g0 g : List Code} {as : List Addr} {a : Addr} {id : String} {rest : List Value} {kw : List (Str × Value)} (h : Agr g0 g as) (n : a ∉ as) : Agr g0 (.builtin id ⟨.ref a :: rest, kw⟩ :: g) as := by
  intro b hb
  have ne : a ≠ b := fun e => n (e ▸ hb)
  obtain ⟨h1, h2⟩ := h b hb
  constructor
  · rw [← h1]
    unfold blkL
    rw [List.any_cons]
    have : loopF (.ref b) (Code.builtin id ⟨.ref a :: rest, kw⟩, default) = false := by
      unfold loopF
      split
      · next v r k q heq =>
        cases heq
        exact listSameRef_of_ne fun e => ne (Value.ref.inj e)
      · rfl
    rw [this, Bool.false_or]
  · rw [← h2]
    unfold blkT
    rw [List.any_cons]
    have : tupGuardF (.ref b) (Code.builtin id ⟨.ref a :: rest, kw⟩, default) = false := by
      simp only [tupGuardF, ref_beq ne, Bool.false_and]
    rw [this, Bool.false_or]
end
section
open PySem.Spec PyProof.Rows
open Sem (wp)
open Builtin Builtin.List
variable {prog : Program} {w : World} {g0 : List Code}
def ReprD (prog : Program) (w : World) (g0 : List Code) (as : List Addr) (h0 : Heap) (d : Nat) (x : Value) (t : Str) : Prop :=
  ∀ (n : Nat), n + t.length ≤ sizeLine → ∀ (A : Around) (g : List Code) (E : Value → Shared → Prop) (s : Shared) (Q : Str → Shared → Prop), A.guards = some g → Agr g0 g as → A.units + d < cLine →
    (∀ b o, h0.get? b = some o → s.heap.get? b = some o) → (∀ h' tk, (∀ b o, s.heap.get? b = some o → h'.get? b = some o) → Q t { s with heap := h', toks := tk }) → wpAny (model prog w) A (pyReprUnder n x) Q E s
theorem ReprD.leaf {x : Value} {t : Str} (h : ReprIs prog w x t) (as : List Addr) (h0 : Heap) (d : Nat) : ReprD prog w g0 as h0 d x t :=
  fun n hn A _ E s Q _ _ _ _ q => h n hn A E s Q fun tk => q s.heap tk fun _ _ e => e
theorem ReprD.wide {as bs : List Addr} {h0 : Heap} {d e : Nat} {x : Value} {t : Str} (h : ReprD prog w g0 as h0 d x t) (i : ∀ b ∈ as, b ∈ bs) (l : d ≤ e) : ReprD prog w g0 bs h0 e x t :=
  fun n hn A g E s Q hg ha hu hk q => h n hn A g E s Q hg (fun b hb => ha b (i b hb)) (by omega) hk q
/-- the loop of list.__repr__ -/
theorem loopD {A : Around} {R : Result → Shared → Prop} {a P : Addr} (hne : a ≠ P) {items : Array Value} {ts : List Str} {as : List Addr} {h0 : Heap} {d n : Nat} {g : List Code} (hg : A.guards = some g) (hag : Agr g0 g as)
    (hu : A.units + (d + 1) < cLine) (hna : a ∉ as) (hPf : h0.get? P = none) (hlen : ts.length = items.size)
    (hT : ∀ (i : Nat) (x : Value), items[i]? = some x → ∃ t, ts[i]? = some t ∧ ReprD prog w g0 as h0 d x t) (hsz : n + (listText ts).length ≤ sizeLine) :
    ∀ (k i : Nat) (s : Shared) (oa : Obj) (na : Nat) (acc : Array Value) (c : Nat) (done : List (Str × Tok)), items.size - i = k → i ≤ items.size → (∀ b o, h0.get? b = some o → s.heap.get? b = some o) →
      s.heap.get? a = some oa → oa.data = .seq items na → s.heap.get? P = some { cls := .type "list", dict := none, data := .seq acc c, slots := #[] } → acc.toList = strValues done → done.map (·.1) = ts.take i →
      (∀ h' u tk, (∀ b o, b ≠ P → s.heap.get? b = some o → h'.get? b = some o) → R (.ok (.ret (.str (listText ts) u))) { s with heap := h', toks := tk }) →
      codeAny (model prog w) A (.builtin "list.__repr__.loop" ⟨[.ref a, rawInt i, .ref P, rawInt ((n + piled (ts.take i) : Nat) : Int)], []⟩) R s := by
  have hX : (listText ts).length = (textFrom 0 "[" ts).length + 1 := by
    show ((textFrom 0 "[" ts) ++ ("]" : Str)).length = _
    rw [strLen_append]
    rfl
  obtain ⟨hL1, hL2, _⟩ := textFrom_len ts 0 "["
  rw [if_neg (Nat.lt_irrefl 0)] at hL1
  have hsz1 : items.size ≤ sizeLine := by omega
  have hp3 := piled_le_listText ts
  intro k
  induction k with
  | zero =>
    intro i s oa na acc c done hk hi hk0 ha hda hP hacc hdone hR
    have hin : i = items.size := by omega
    refine codeAny_builtin F.entry_list_repr_loop ?_
    show wpAny _ _ («list.__repr__.loop» ⟨[.ref a, .int i 0, .ref P, .int ((n + piled (ts.take i) : Nat) : Int) 0], []⟩) _ _ s
    rw [repr_loop_tree]
    refine wpAny_bind (wpAny_listItems ha hda ?_)
    have e0 : items[(i : Int).toNat]? = none := by simp [hin]
    simp only [e0]
    unfold reprEnd
    refine wpAny_bind (wpAny_listItems hP rfl ?_)
    rw [hacc, repr_fold]
    refine wpAny_bind (wpAny_pure ?_)
    have e1 : done.map (·.1) = ts := by rw [hdone, hin, ← hlen, List.take_length]
    rw [e1]
    exact wpAny_bind (wpAny_mkStr (wpAny_pure (hR s.heap _ _ fun _ _ _ e => e)) (show (listText ts).length ≤ sizeLine by omega))
  | succ k ih =>
    intro i s oa na acc c done hk hi hk0 ha hda hP hacc hdone hR
    have hlt : i < items.size := by omega
    obtain ⟨t, ht, hrep⟩ := hT i items[i] (by simp [hlt])
    have hp1 := piled_take_succ ht
    have hp2 := piled_take_le ts (i + 1)
    have ht2 := hL2 t (List.mem_of_getElem? ht)
    refine codeAny_builtin F.entry_list_repr_loop ?_
    show wpAny _ _ («list.__repr__.loop» ⟨[.ref a, .int i 0, .ref P, .int ((n + piled (ts.take i) : Nat) : Int) 0], []⟩) _ _ s
    rw [repr_loop_tree]
    refine wpAny_bind (wpAny_listItems ha hda ?_)
    have e0 : items[(i : Int).toNat]? = some items[i] := by simp [hlt]
    simp only [e0]
    rw [Int.toNat_natCast]
    refine wpAny_bind (wpAny_holding (hrep (n + piled (ts.take i) + 1) (by omega) _ _ _ _ _ (guards_under_guard (isGuard_list_loop _) hg) (hag.cons (a := a) hna) (by rw [units_under_list_loop]; omega) hk0 fun h' tk hkp => ?_))
    refine wpAny_bind (wpAny_mkStr ?_ (by omega))
    refine wpAny_bind ?_
    show wpAny _ _ (updateSeq P _) _ _ _
    have hasz : acc.size ≤ sizeLine := by
      have e1 : acc.toList.length = acc.size := by simp
      have e2 : (strValues done).length = (done.map (·.1)).length := by simp [strValues]
      rw [hdone, List.length_take] at e2
      rw [hacc] at e1
      omega
    refine wpAny_updateSeq (hkp _ _ hP) rfl (wpAny_pure ⟨F.quiet_list_repr_loop _, ?_⟩) hasz
    have f1 : ((i : Int) + 1) = ((i + 1 : Nat) : Int) := by omega
    have f2 : n + piled (ts.take i) + (t.length + 2) = n + piled (ts.take (i + 1)) := by omega
    rw [f1, f2]
    have out : ∀ {b : Addr}, b ≠ P → P ≠ b := fun z e => z e.symm
    refine ih (i + 1) _ oa na (acc.push (.str t tk)) _ (done ++ [(t, tk)]) (by omega) hlt (fun b o e => (Heap.get?_update_other _ _ (out fun z => by rw [z, hPf] at e; cases e)).trans (hkp _ _ (hk0 _ _ e)))
      ((Heap.get?_update_other _ _ (out hne)).trans (hkp _ _ ha)) hda (Heap.get?_update_self _ (hkp _ _ hP) rfl) (by simp [hacc, strValues]) (by simp [List.take_add_one, ht, hdone]) fun h'' u tk' hh => ?_
    exact hR h'' u tk' fun b o hb e => hh b o hb ((Heap.get?_update_other _ _ (out hb)).trans (hkp _ _ e))
end
section
open PySem.Spec PyProof.Rows
open Sem (wp)
open Builtin Builtin.List
variable {prog : Program} {w : World} {g0 : List Code}
abbrev finE (prog : Program) (w : World) (A : Around) (R : Result → Shared → Prop) : Fin → Shared → Prop := fun f s => match f with
  | .done v => R (.ok v) s
  | .again c => c.quiet = true ∧ codeAny (model prog w) A c R s
/-- the list is being shown already -/
theorem list_way {A : Around} {g : List Code} {c : Code} {a : Addr} {o : Obj} {x : Value} {l : List Value} {m n : Nat} {s : Shared} {Q : Fin → Shared → Prop} {E : Value → Shared → Prop} (hg : A.guards = some g) (hb : blkL g a = true)
    (ha : s.heap.get? a = some o) (hd : o.data = .seq (x :: l).toArray m) (h : ∀ u tk, Q (.done (.ret (.str "[...]" u))) { s with toks := tk }) : wpOwn (model prog w) A c (listReprAt n ⟨[.ref a], []⟩) Q E s := by
  intro Γ p hc hΓ
  have k : wpAny (model prog w) (A.under c) (do rule "list.__repr__.in-itself"; retStr "[...]") Q E s :=
    wpAny_bind (wpAny_rule (wpAny_bind (wpAny_mkStr (wpAny_pure (h _ _)) (by decide +kernel))))
  have k1 := k Γ p (hc ▸ hΓ.in)
  unfold listReprAt
  simp [slotArgs, listItems, seqItems?, Sem.wp_load_of (h := ha), hd, stack]
  show wp _ Γ (if (Γ.below.any (loopF (.ref a))) = true then _ else _) _ _ p s
  rw [if_pos]
  · exact k1
  · rw [any_eq_guards (loopF_off _) (loopF_pos _), hΓ.2.2.2.1 g hg]
    exact hb
theorem list_no {g : List Code} {a : Addr} (h : blkL g a = false) (v : Value) (rest : List Value) (kw : List (Str × Value)) (hm : Code.builtin "list.__repr__.loop" ⟨v :: rest, kw⟩ ∈ g) : listSameRef v (.ref a) = false := by
  have := List.any_eq_false.mp h _ hm
  simpa [loopF] using this
theorem list_at {as : List Addr} {h0 : Heap} {d : Nat} {a : Addr} {oa : Obj} {x : Value} {l : List Value} {na : Nat} {ts : List Str} (ha : h0.get? a = some oa) (hda : oa.data = .seq (x :: l).toArray na) (hna : a ∉ as)
    (hlen : ts.length = (x :: l).toArray.size) (hT : ∀ (i : Nat) (y : Value), (x :: l).toArray[i]? = some y → ∃ t, ts[i]? = some t ∧ ReprD prog w g0 as h0 d y t) {A : Around} {g : List Code} {s : Shared} {R : Result → Shared → Prop} {n : Nat} {id : String} {rest : List Value}
    (hpl : plainId id = true) (hg : A.guards = some g) (hag : Agr g0 g (a :: as)) (hu : A.units + (d + 1) < cLine) (hk0 : ∀ b o, h0.get? b = some o → s.heap.get? b = some o)
    (hR : ∀ h' u tk, (∀ b o, s.heap.get? b = some o → h'.get? b = some o) → R (.ok (.ret (.str (if blkL g0 a then "[...]" else listText ts) u))) { s with heap := h', toks := tk })
    (hsz : blkL g0 a = false → n + (listText ts).length ≤ sizeLine) : wpOwn (model prog w) A (.builtin id ⟨.ref a :: rest, []⟩) (listReprAt n ⟨[.ref a], []⟩) (finE prog w A R) (fun e s' => R (.error e) s') s := by
  have e := (hag a List.mem_cons_self).1
  cases hB : blkL g0 a with
  | true =>
    rw [hB] at e
    simp only [hB] at hR
    exact list_way hg e (hk0 _ _ ha) hda fun u tk => hR s.heap u tk fun _ _ z => z
  | false =>
    rw [hB] at e
    simp only [hB] at hR
    have hPf : h0.get? s.heap.objs.size = none := by
      cases q : h0.get? s.heap.objs.size with
      | none => rfl
      | some o => exact absurd (Heap.lt_size (hk0 _ _ q)) (Nat.lt_irrefl _)
    refine wpOwn_of_wpAny ?_
    rw [Around.under_plainId hpl]
    refine wpAny_list_repr_head (A := A.in1) hg (list_no e) (hk0 _ _ ha) hda ?_
    refine wpAny_bind (m := newList []) (wpAny_newObj_type (wpAny_pure ⟨F.quiet_list_repr_loop _, ?_⟩))
    refine loopD (P := s.heap.objs.size) (g0 := g0) (Nat.ne_of_lt (Heap.lt_size (hk0 _ _ ha))) hg (fun b hb => hag b (List.mem_cons_of_mem _ hb)) hu hna hPf hlen hT (hsz hB) _ 0 _ oa na #[] _ [] rfl (Nat.zero_le _)
      (fun b o z => Heap.get?_push_of_some _ (hk0 _ _ z)) (Heap.get?_push_of_some _ (hk0 _ _ ha)) hda (Heap.get?_push_size _ rfl) rfl (by simp) fun h' u tk hk => ?_
    exact hR h' u tk fun b o z => hk b o (Nat.ne_of_lt (Heap.lt_size z)) (Heap.get?_push_of_some _ z)
inductive ReprDs (prog : Program) (w : World) (g0 : List Code) (as : List Addr) (h0 : Heap) (d : Nat) : List Value → List Str → Prop
  | nil : ReprDs prog w g0 as h0 d [] []
  | cons {x : Value} {t : Str} {l : List Value} {ts : List Str} : ReprD prog w g0 as h0 d x t → ReprDs prog w g0 as h0 d l ts → ReprDs prog w g0 as h0 d (x :: l) (t :: ts)
theorem ReprDs.len {as : List Addr} {h0 : Heap} {d : Nat} : ∀ {l : List Value} {ts : List Str}, ReprDs prog w g0 as h0 d l ts → ts.length = l.length
  | _, _, .nil => rfl
  | _, _, .cons _ h => by rw [List.length_cons, List.length_cons, h.len]
theorem ReprDs.item {as : List Addr} {h0 : Heap} {d : Nat} : ∀ {l : List Value} {ts : List Str}, ReprDs prog w g0 as h0 d l ts → ∀ (i : Nat) (y : Value), l[i]? = some y → ∃ t, ts[i]? = some t ∧ ReprD prog w g0 as h0 d y t
  | _, _, .nil, i, y, e => by simp at e
  | _, _, .cons hx _, 0, y, e => by
    cases Option.some.inj e
    exact ⟨_, rfl, hx⟩
  | _, _, .cons _ hl, i + 1, y, e => hl.item i y e
theorem ReprDs.wide {as bs : List Addr} {h0 : Heap} {d e : Nat} (i : ∀ b ∈ as, b ∈ bs) (l : d ≤ e) : ∀ {vs : List Value} {ts : List Str}, ReprDs prog w g0 as h0 d vs ts → ReprDs prog w g0 bs h0 e vs ts
  | _, _, .nil => .nil
  | _, _, .cons hx hl => .cons (hx.wide i l) (hl.wide i l)
theorem tup_fold {A : Around} {E : Value → Shared → Prop} {as : List Addr} {h0 : Heap} {d : Nat} {g : List Code} (hg : A.guards = some g) (hag : Agr g0 g as) (hu : A.units + d < cLine) :
    ∀ (l : List Value) (ts : List Str) (acc : Array Str) (n : Nat) (s : Shared) (Q : (Array Str × Nat) → Shared → Prop), ReprDs prog w g0 as h0 d l ts → n + piled ts ≤ sizeLine → (∀ b o, h0.get? b = some o → s.heap.get? b = some o) →
      (∀ h' tk, (∀ b o, s.heap.get? b = some o → h'.get? b = some o) → Q ⟨acc ++ ts.toArray, n + piled ts⟩ { s with heap := h', toks := tk }) → wpAny (model prog w) A (forIn l (⟨acc, n⟩ : (Array Str × Nat)) tupBody) Q E s := by
  intro l
  induction l with
  | nil =>
    intro ts acc n s Q hT _ _ q
    cases hT
    have q0 := q s.heap s.toks fun _ _ e => e
    simp only [List.forIn_nil]
    exact wpAny_pure (by simpa [piled] using q0)
  | cons x l ih =>
    intro ts acc n s Q hT hn hk0 q
    cases hT with
    | cons hx hl =>
      rename_i t ts'
      rw [piled_cons] at hn
      rw [List.forIn_cons]
      refine wpAny_bind (wpAny_bind (hx (n + 1) (by omega) _ _ _ _ _ hg hag hu hk0 fun h' tk hk1 => wpAny_pure ?_))
      refine ih ts' (acc.push t) (n + (t.length + 2)) _ Q hl (by omega) (fun b o z => hk1 _ _ (hk0 _ _ z)) fun h'' tk' hk2 => ?_
      have q1 := q h'' tk' fun b o z => hk2 _ _ (hk1 _ _ z)
      rw [show n + piled (t :: ts') = n + (t.length + 2) + piled ts' by rw [piled_cons]; omega] at q1
      simpa using q1
theorem tup_at {as : List Addr} {h0 : Heap} {d : Nat} {a : Addr} {o : Obj} {items : Array Value} {na : Nat} {ts : List Str} (ha : h0.get? a = some o) (hd : o.data = .seq items na) (hna : a ∉ as) (hT : ReprDs prog w g0 as h0 d items.toList ts)
    {A : Around} {g : List Code} {s : Shared} {R : Result → Shared → Prop} {n : Nat} {id : String} {rest : List Value} (hcg : (Code.builtin id ⟨.ref a :: rest, []⟩).isGuard = true) (hcu : (A.under (.builtin id ⟨.ref a :: rest, []⟩)).units = A.units + 1)
    (hg : A.guards = some g) (hag : Agr g0 g (a :: as)) (hu : A.units + (d + 1) < cLine) (hk0 : ∀ b o, h0.get? b = some o → s.heap.get? b = some o)
    (hR : ∀ h' u tk, (∀ b o, s.heap.get? b = some o → h'.get? b = some o) → R (.ok (.ret (.str (if blkT g0 a then "(...)" else tupleText ts) u))) { s with heap := h', toks := tk })
    (hsz : blkT g0 a = false → n + (tupleText ts).length ≤ sizeLine) : wpOwn (model prog w) A (.builtin id ⟨.ref a :: rest, []⟩) (tupleReprAt n ⟨[.ref a], []⟩) (finE prog w A R) (fun e s' => R (.error e) s') s := by
  have e := (hag a List.mem_cons_self).2
  unfold blkT at e
  have hlen : ts.length = items.size := by simpa using hT.len
  have hp := piled_le_tupleText ts
  rw [tuple_repr_tree, tupleReprUnderWay_eq]
  refine wpOwn_bind (wpOwn_stackTailAny hg (tupGuardF_off _) (tupGuardF_pos _) ?_)
  rw [e]
  show wpOwn _ _ _ (if blkT g0 a = true then _ else _) _ _ _
  refine wpOwn_of_wpAny ?_
  cases hB : blkT g0 a with
  | true =>
    simp only [hB] at hR
    refine PySem.W.KFB.if_so rfl ?_
    exact wpAny_bind (wpAny_rule (wpAny_bind (wpAny_mkStr (wpAny_pure (hR s.heap _ _ fun _ _ z => z)) (by decide +kernel))))
  | false =>
    simp only [hB] at hR
    have hz := hsz hB
    refine PySem.W.KFB.if_not rfl ?_
    unfold tupleReprRest Builtin.Tuple.tupleItemsOf
    refine wpAny_bind (wpAny_bind (wpAny_seqItems (hk0 _ _ ha) hd (wpAny_pure ?_)))
    rw [← Array.forIn_toList]
    refine wpAny_bind (tup_fold (g0 := g0) (guards_under_guard hcg hg) (Agr.cons (a := a) (fun b hb => hag b (List.mem_cons_of_mem _ hb)) hna) (by rw [hcu]; omega) _ ts _ _ _ _ hT (by omega) hk0 fun h' tk hk1 => ?_)
    refine wpAny_bind (wpAny_mkStr (wpAny_pure ?_) (by simpa [tupleText, hlen] using (show (tupleText ts).length ≤ sizeLine by omega)))
    have q := hR h' tk (tk + 1) hk1
    simpa [tupleText, hlen] using q
end
section
open PySem.Spec PyProof.Rows
open Sem (wp)
open Builtin Builtin.List
variable {prog : Program} {w : World} {g0 : List Code}
theorem ReprD.lst {as : List Addr} {h0 : Heap} {d : Nat} {a : Addr} {oa : Obj} {x : Value} {l : List Value} {na : Nat} {ts : List Str} (ha : h0.get? a = some oa) (hc : oa.cls = .type "list") (hda : oa.data = .seq (x :: l).toArray na) (hna : a ∉ as)
    (hT : ReprDs prog w g0 as h0 d (x :: l) ts) : ReprD prog w g0 (a :: as) h0 (d + 1) (.ref a) (if blkL g0 a then "[...]" else listText ts) := by
  intro n hn A g E s Q hg hag hu hk q
  have hl : ts.length = (x :: l).toArray.size := by simpa using hT.len
  refine wpAny_pyReprUnder_ref (by omega) (wpAny_pyReprObjUnder_twin (twin := "list.__repr__.under") ⟨oa, hk _ _ ha, hc⟩ F.slot_list_repr.toG rfl (by omega) ?_)
  refine call_twin_own (Code.quiet_builtin _ (by decide +kernel)) F.entry_list_repr_under F.check_list_repr_under ⟨oa, hk _ _ ha, hc⟩ F.slot_list_repr.toG (F.args_list_repr_1 _) ?_
  refine list_at (R := callEnd _ E) ha hda hna hl (fun i y e => hT.item i y (by simpa using e)) F.plain_list_repr_under hg hag hu hk (fun h' u tk hk1 => ⟨⟨_, _, rfl⟩, _, _, rfl, q h' tk hk1⟩) fun hB => ?_
  rw [hB] at hn
  exact hn
theorem ReprD.bare {as : List Addr} {h0 : Heap} {d : Nat} {a : Addr} {oa : Obj} {na : Nat} (ha : h0.get? a = some oa) (hc : oa.cls = .type "list") (hda : oa.data = .seq #[] na) : ReprD prog w g0 as h0 d (.ref a) "[]" := by
  intro n hn A g E s Q _ _ hu hk q
  exact wpAny_pyReprUnder_ref (by omega) (wpAny_pyReprObjUnder_list_empty ⟨oa, hk _ _ ha, hc⟩ (by omega) (hk _ _ ha) hda ⟨_, _, rfl, q s.heap _ fun _ _ e => e⟩)
theorem ReprD.tup {as : List Addr} {h0 : Heap} {d : Nat} {a : Addr} {oa : Obj} {items : Array Value} {na : Nat} {ts : List Str} (ha : h0.get? a = some oa) (hc : oa.cls = .type "tuple") (hda : oa.data = .seq items na) (hna : a ∉ as)
    (hT : ReprDs prog w g0 as h0 d items.toList ts) : ReprD prog w g0 (a :: as) h0 (d + 1) (.ref a) (if blkT g0 a then "(...)" else tupleText ts) := by
  intro n hn A g E s Q hg hag hu hk q
  refine wpAny_pyReprUnder_ref (by omega) (wpAny_pyReprObjUnder_twin (twin := "tuple.__repr__.under") ⟨oa, hk _ _ ha, hc⟩ F.slot_tuple_repr rfl (by omega) ?_)
  refine call_twin_own (F.quiet_tuple_repr_under _) F.entry_tuple_repr_under F.check_tuple_repr_under ⟨oa, hk _ _ ha, hc⟩ F.slot_tuple_repr (F.args_tuple_repr_1 _) ?_
  refine tup_at (R := callEnd _ E) ha hda hna hT (isGuard_tuple_repr_under _) (units_under_tuple_repr_under _ _) hg hag hu hk (fun h' u tk hk1 => ⟨⟨_, _, rfl⟩, _, _, rfl, q h' tk hk1⟩) fun hB => ?_
  rw [hB] at hn
  exact hn
mutual
theorem Ap.dp {K : PySem.W.Frag} {H : Hp} : ∀ {v : V} {t : AT}, Ap K H v t → Dp K H v t.data
  | _, _, .non => .non
  | _, _, .bl b => .bl b
  | _, _, .int i => .int i
  | _, _, .str x => .str x
  | _, _, .lst h a => by rw [AT.data]; exact .lst h a.dp
  | _, _, .tup h a => by rw [AT.data]; exact .tup h a.dp
theorem ApAll.dp {K : PySem.W.Frag} {H : Hp} : ∀ {vs : List V} {l : List AT}, ApAll K H vs l → DpAll K H vs (AT.dataAll l)
  | _, _, .nil => by rw [AT.dataAll]; exact .nil
  | _, _, .cons h a => by rw [AT.dataAll]; exact .cons h.dp a.dp
end
mutual
theorem Ap.same {K : PySem.W.Frag} {H H' : Hp} (e : Same H H') : ∀ {v : V} {t : AT}, Ap K H v t → Ap K H' v t
  | _, _, .non => .non
  | _, _, .bl b => .bl b
  | _, _, .int i => .int i
  | _, _, .str x => .str x
  | _, _, .lst h a => .lst (e.seq h) (ApAll.same e a)
  | _, _, .tup h a => .tup (same_t e h) (ApAll.same e a)
theorem ApAll.same {K : PySem.W.Frag} {H H' : Hp} (e : Same H H') : ∀ {vs : List V} {l : List AT}, ApAll K H vs l → ApAll K H' vs l
  | _, _, .nil => .nil
  | _, _, .cons h a => .cons (Ap.same e h) (ApAll.same e a)
end
section
variable {X : Cx} {pins : List (Addr × Obj)} {σ : L2.St} {H : Hp} {s : Shared}
mutual
theorem repr_of (I : Inv X pins σ H s) : ∀ (t : AT) (v : V) (u : Value), Ap X.K H v t → RelV v u → t.data.showable = true → t.wid ≤ sizeLine → ∃ bs, ReadAtMost s.heap t.data.depth bs ∧ ReprD X.prog X.w g0 bs s.heap t.data.depth u (t.txt g0)
  | .leaf d, v, u, h, r, hs, hw => by
    refine ⟨[], (fun _ z => nomatch z), ?_⟩
    rw [AT.txt]
    rw [AT.wid] at hw
    cases h with
    | non =>
      cases r
      exact .leaf ReprIs.none _ _ _
    | bl b =>
      cases r
      exact .leaf (ReprIs.bool b) _ _ _
    | int i =>
      obtain ⟨k, rfl⟩ := r
      exact .leaf (ReprIs.int k (by simpa [AT.data, PyData.showable] using hs)) _ _ _
    | str x =>
      obtain ⟨k, rfl⟩ := r
      exact .leaf (ReprIs.str x k (by simpa only [PyData.shown] using hw)) _ _ _
  | .lst a [], v, u, h, r, hs, hw => by
    cases h with
    | lst hq ha =>
      cases ha
      cases r
      obtain ⟨its, rv, ⟨o, n, ho, hc, _, hd⟩, _⟩ := I.list hq
      cases rv
      rw [AT.txt]
      exact ⟨[], (fun _ z => nomatch z), ReprD.bare ho hc hd⟩
  | .lst a (t :: l), v, u, h, r, hs, hw => by
    obtain ⟨as, hR⟩ := Dp.reads I _ v u h.dp r
    cases h with
    | lst hq ha =>
      cases r
      obtain ⟨its, rv, ⟨o, n, ho, hc, _, hd⟩, _⟩ := I.list hq
      rw [AT.data, PyData.showable] at hs
      rw [AT.wid] at hw
      obtain ⟨bs, hb, hk⟩ := repr_ofAll I (t :: l) _ its ha rv hs (by omega)
      rw [AT.data] at hR
      have hna : a ∉ bs := not_mem_of_deeper hR (by simp only [PyData.depth]; omega) hb
      refine ⟨a :: bs, ?_, ?_⟩
      · rw [AT.data]
        exact ReadAtMost.cons hR (by simp only [PyData.depth]; omega) hb
      · rw [AT.txt, AT.data, PyData.depth]
        cases ha with
        | cons h1 h2 =>
          cases rv with
          | cons r1 r2 =>
            rw [AT.txtAll] at hk
            exact .lst ho hc hd hna hk
  | .tup a l, v, u, h, r, hs, hw => by
    obtain ⟨as, hR⟩ := Dp.reads I _ v u h.dp r
    cases h with
    | tup hq ha =>
      cases r
      obtain ⟨its, rv, ⟨o, ho, hc, n, hd⟩, _⟩ := I.tuple hq
      rw [AT.data, PyData.showable] at hs
      rw [AT.wid] at hw
      obtain ⟨bs, hb, hk⟩ := repr_ofAll I l _ its ha rv hs (by omega)
      rw [AT.data] at hR
      have hna : a ∉ bs := not_mem_of_deeper hR (by simp only [PyData.depth]; omega) hb
      refine ⟨a :: bs, ?_, ?_⟩
      · rw [AT.data]
        exact ReadAtMost.cons hR (by simp only [PyData.depth]; omega) hb
      · rw [AT.txt, AT.data, PyData.depth]
        exact .tup ho hc hd hna (by simpa using hk)
theorem repr_ofAll (I : Inv X pins σ H s) : ∀ (l : List AT) (vs : List V) (us : List Value), ApAll X.K H vs l → Vals vs us → PyData.showableAll (AT.dataAll l) = true → AT.widAll l ≤ sizeLine → ∃ bs, ReadAtMost s.heap (PyData.depthAll (AT.dataAll l)) bs ∧ ReprDs X.prog X.w g0 bs s.heap (PyData.depthAll (AT.dataAll l)) us (AT.txtAll g0 l)
  | [], _, _, h, r, _, _ => by
    cases h
    cases r
    exact ⟨[], (fun _ z => nomatch z), by rw [AT.txtAll]; exact .nil⟩
  | t :: l, _, _, h, r, hs, hw => by
    cases h with
    | cons h1 h2 =>
      cases r with
      | cons r1 r2 =>
        have hs' : t.data.showable = true ∧ PyData.showableAll (AT.dataAll l) = true := by simpa [AT.dataAll, PyData.showableAll] using hs
        rw [AT.widAll] at hw
        obtain ⟨b1, k1, m1⟩ := repr_of I t _ _ h1 r1 hs'.1 (by omega)
        obtain ⟨b2, k2, m2⟩ := repr_ofAll I l _ _ h2 r2 hs'.2 (by omega)
        rw [AT.dataAll, AT.txtAll, PyData.depthAll]
        exact ⟨b1 ++ b2, (k1.mono (Nat.le_max_left _ _)).append (k2.mono (Nat.le_max_right _ _)), .cons (m1.wide (fun b hb => List.mem_append_left _ hb) (Nat.le_max_left _ _)) (m2.wide (fun b hb => List.mem_append_right _ hb) (Nat.le_max_right _ _))⟩
end
end
end
section
open PySem.Spec PyProof.Rows
variable {X : Cx}
def rRepr (K : PySem.W.Frag) (g : List Code) : List V → Hp → VK → Prop := fun xs H Q => ∃ (v : V) (t : AT), xs = [v] ∧ Ap K H v t ∧ t.data.showable = true ∧ t.wid ≤ sizeLine ∧ t.data.depth ≤ 40 ∧ Q (.str (t.txt g)) H
theorem call_reprA {g : List Code} (hg : X.A.guards = some g) (hu : X.A.units + 64 < cLine) : CallR X (.builtin "repr") (rRepr X.K g) := by
  intro pins s σ H xs us Q I r h
  obtain ⟨v, t, rfl, ha, hs, hw, hd, q⟩ := h
  obtain ⟨u, rfl, ru⟩ := r.one
  have fin : ∀ (h' : Heap) (k tk : Tok), (∀ b o, s.heap.get? b = some o → h'.get? b = some o) → EP X pins σ Q (.str (t.txt g) k) { s with heap := h', toks := tk } := fun h' k tk hk => ⟨.str _, H, I.kept hk, ⟨_, rfl⟩, q⟩
  have fin0 : EP X pins σ Q (.str (t.txt g) s.toks) { s with toks := s.toks + 1 } := fin s.heap _ _ fun _ _ e => e
  cases t with
  | leaf d =>
    rw [AT.txt] at fin0
    rw [AT.wid] at hw
    cases ha with
    | non =>
      cases ru
      exact PySem.P.repr_of_none fin0
    | bl b =>
      cases ru
      exact PySem.P.repr_of_bool fin0
    | int i =>
      obtain ⟨k, rfl⟩ := ru
      exact PySem.P.repr_of_int (by simpa [AT.data, PyData.showable] using hs) fin0
    | str x =>
      obtain ⟨k, rfl⟩ := ru
      exact PySem.P.repr_of_str fin0 (by simpa only [PyData.shown] using hw)
  | lst a l =>
    have ha0 := ha
    obtain ⟨as, hR⟩ := Dp.reads I _ v u ha.dp ru
    cases ha with
    | lst hq hl =>
      cases ru
      obtain ⟨its, rv, ⟨o, n, ho, hc, _, hdt⟩, _⟩ := I.list hq
      refine call_repr_slot (by omega) ⟨o, ho, hc⟩ F.slot_list_repr.toG ?_
      cases l with
      | nil =>
        cases hl
        cases rv
        rw [AT.txt] at fin
        exact call_list_repr_empty ⟨o, ho, hc⟩ ho hdt ⟨_, _, rfl, fin s.heap _ _ fun _ _ e => e⟩
      | cons t l =>
        rw [AT.data, PyData.showable] at hs
        rw [AT.wid] at hw
        rw [AT.data, PyData.depth] at hd
        obtain ⟨bs, hb, hk⟩ := repr_ofAll (g0 := g) I (t :: l) _ its hl rv hs (by omega)
        rw [AT.data] at hR
        have hna : a ∉ bs := not_mem_of_deeper hR (by simp only [PyData.depth]; omega) hb
        cases hl with
        | cons h1 h2 =>
          cases rv with
          | cons r1 r2 =>
            rw [AT.txtAll] at hk
            rw [AT.txt] at fin
            have hz := txt_wid g (AT.lst a (t :: l))
            rw [AT.txt, AT.wid] at hz
            refine wpAny_call (codeAny_call_builtin_own (Code.quiet_builtin _ (by decide +kernel)) F.entry_list_repr (F.slot_list_repr.toG.check _ _ _ _ _ _ _ _ ⟨o, ho, hc⟩ (F.args_list_repr_1 _) ?_))
            refine list_at (R := callEnd _ _) (n := 0) ho hdt hna (by simpa using hk.len) (fun i y e => hk.item i y (by simpa using e)) F.slot_list_repr.plain hg (Agr.refl _ _) (by show X.A.units + 1 + _ < _; omega) (fun _ _ e => e) (fun h' u tk hk1 => ⟨_, _, rfl, fin h' u tk hk1⟩) fun hB => ?_
            rw [hB] at hz
            have hz2 : (listText (AT.txt g t :: AT.txtAll g l)).length ≤ 6 + AT.widAll (t :: l) := hz
            omega
  | tup a l =>
    obtain ⟨as, hR⟩ := Dp.reads I _ v u ha.dp ru
    cases ha with
    | tup hq hl =>
      cases ru
      obtain ⟨its, rv, ⟨o, ho, hc, n, hdt⟩, _⟩ := I.tuple hq
      refine call_repr_slot (by omega) ⟨o, ho, hc⟩ F.slot_tuple_repr ?_
      rw [AT.data, PyData.showable] at hs
      rw [AT.wid] at hw
      rw [AT.data, PyData.depth] at hd
      obtain ⟨bs, hb, hk⟩ := repr_ofAll (g0 := g) I l _ its hl rv hs (by omega)
      rw [AT.data] at hR
      have hna : a ∉ bs := not_mem_of_deeper hR (by simp only [PyData.depth]; omega) hb
      rw [AT.txt] at fin
      have hz := txt_wid g (AT.tup a l)
      rw [AT.txt, AT.wid] at hz
      refine wpAny_call (codeAny_call_builtin_own (Code.quiet_builtin _ (by decide +kernel)) F.entry_tuple_repr (F.slot_tuple_repr.check _ _ _ _ _ _ _ _ ⟨o, ho, hc⟩ (F.args_tuple_repr_1 _) ?_))
      refine tup_at (R := callEnd _ _) (n := 0) ho hdt hna (by simpa using hk) (isGuard_tuple_repr _) (units_under_tuple_repr _ _) hg (Agr.refl _ _) (by show X.A.units + 1 + _ < _; omega) (fun _ _ e => e) (fun h' u tk hk1 => ⟨_, _, rfl, fin h' u tk hk1⟩) fun hB => ?_
      rw [hB] at hz
      have hz2 : (tupleText (AT.txtAll g l)).length ≤ 6 + AT.widAll l := hz
      omega
end
/-! ### repr, where none is under way: by what the thing is -/
mutual
def dw : PyData → Nat
  | .list xs => 6 + dwAll xs
  | .tuple xs => 6 + dwAll xs
  | d => d.shown.length
def dwAll : List PyData → Nat
  | [] => 0
  | x :: xs => dw x + 2 + dwAll xs
end
section
open PySem.Spec PyProof.Rows
mutual
theorem dp_ap {K : PySem.W.Frag} {H : Hp} : ∀ {v : V} {d : PyData}, Dp K H v d → ∃ t : AT, Ap K H v t ∧ t.data = d ∧ t.wid = dw d ∧ t.txt [] = d.shown
  | _, _, .non => ⟨.leaf .none, .non, by rw [AT.data], by rw [AT.wid, dw] <;> nofun, by rw [AT.txt]⟩
  | _, _, .bl b => ⟨.leaf (.bool b), .bl b, by rw [AT.data], by rw [AT.wid, dw] <;> nofun, by rw [AT.txt]⟩
  | _, _, .int i => ⟨.leaf (.int i), .int i, by rw [AT.data], by rw [AT.wid, dw] <;> nofun, by rw [AT.txt]⟩
  | _, _, .str x => ⟨.leaf (.str x), .str x, by rw [AT.data], by rw [AT.wid, dw] <;> nofun, by rw [AT.txt]⟩
  | _, _, .lst (a := a) h q => by
    obtain ⟨l, h1, h2, h3, h4⟩ := dp_apAll q
    refine ⟨.lst a l, .lst h h1, by rw [AT.data, h2], by rw [AT.wid, dw, h3], ?_⟩
    rw [PyData.shown, ← h4]
    cases l with
    | nil =>
      rw [AT.txt, AT.txtAll]
      exact listText_nil.symm
    | cons t l =>
      rw [AT.txt, AT.txtAll]
      rfl
  | _, _, .tup (a := a) h q => by
    obtain ⟨l, h1, h2, h3, h4⟩ := dp_apAll q
    refine ⟨.tup a l, .tup h h1, by rw [AT.data, h2], by rw [AT.wid, dw, h3], ?_⟩
    rw [PyData.shown, ← h4, AT.txt]
    rfl
theorem dp_apAll {K : PySem.W.Frag} {H : Hp} : ∀ {vs : List V} {ds : List PyData}, DpAll K H vs ds → ∃ l : List AT, ApAll K H vs l ∧ AT.dataAll l = ds ∧ AT.widAll l = dwAll ds ∧ AT.txtAll [] l = PyData.shownAll ds
  | _, _, .nil => ⟨[], .nil, by rw [AT.dataAll], by rw [AT.widAll, dwAll], by rw [AT.txtAll, PyData.shownAll]⟩
  | _, _, .cons h q => by
    obtain ⟨t, a1, a2, a3, a4⟩ := dp_ap h
    obtain ⟨l, b1, b2, b3, b4⟩ := dp_apAll q
    exact ⟨t :: l, .cons a1 b1, by rw [AT.dataAll, a2, b2], by rw [AT.widAll, dwAll, a3, b3], by rw [AT.txtAll, PyData.shownAll, a4, b4]⟩
end
structure Shn (d : PyData) : Prop where
  s : d.showable = true
  w : dw d ≤ sizeLine
  d : d.depth ≤ 40
def rRepG (K : PySem.W.Frag) : List V → Hp → VK → Prop := fun xs H Q => ∃ (v : V) (d : PyData), xs = [v] ∧ Dp K H v d ∧ Shn d ∧ Q (.str d.shown) H
theorem call_reprG {X : Cx} (hg : X.A.guards = some []) (hu : X.A.units + 64 < cLine) : CallR X (.builtin "repr") (rRepG X.K) := by
  intro pins s σ H xs us Q I r h
  obtain ⟨v, d, rfl, hd, hs, q⟩ := h
  obtain ⟨t, h1, h2, h3, h4⟩ := dp_ap hd
  refine call_reprA hg hu pins s σ H _ us Q I r ⟨v, t, rfl, h1, by rw [h2]; exact hs.s, by rw [h3]; exact hs.w, by rw [h2]; exact hs.d, ?_⟩
  rw [h4]
  exact q
end
/-! ### defs that are called while nothing is being shown -/
section
open PySem.Spec PyProof.Rows
/-- a def's promise where no repr is under way -/
structure FnG (P : Program) (w : World) (K : PySem.W.Frag) (mg : Str → Option Value) (base : Heap) (CX : CXT) (k : Nat) (f : Addr) (fd : FuncData) (ps : List Str) (sp : Sp) : Prop where
  len : ∀ vs H Q E, sp vs H Q E → vs.length = ps.length
  run : ∀ (A : Around) (outer : List Env) (s : Shared) (H : Hp) (args : Args) (us : List Value) (vs : List V) (Q : VK) (E : XK), A.guards = some [] → Room k A → Env0 P w K mg base A outer s H → BindsTo s fd args (ps.zip us) → Vals vs us → sp vs H Q E →
    codeAny (model P w) A (.call (.ref f) args) (CR CX outer P w H s Q E) s
variable {P : Program} {w : World} {K : PySem.W.Frag} {mg : Str → Option Value} {base : Heap} {CX : CXT} {k : Nat} {f : Addr} {fd : FuncData} {N ps : List Str} {sp : Sp}
theorem FnG.of (F : FnOk P w K mg base CX k f fd ps sp) : FnG P w K mg base CX k f fd ps sp := ⟨F.len, fun A outer s H args us vs Q E _ => F.run A outer s H args us vs Q E⟩
theorem okG {x qual : Str} {st : Stmt} (F : Fun K x qual st f fd) (S : FnScope N ps (defScope st)) (len : ∀ vs H Q E, sp vs H Q E → vs.length = ps.length)
    (body : ∀ (cdv : Value) (A : Around) (outer : List Env) (s : Shared) (H : Hp) (vs : List V) (Q : VK) (E : XK), A.guards = some [] → Room k (A.deeper (envOfC qual (defScope st) s.heap.objs.size f cdv)) → sp vs H Q E →
      ∃ t, PSs (cxOf CX0 P w K mg base N qual (defScope st) f cdv A outer s H E).nox (defBody st) t ∧ t { nx := fun _ H' => Q .non H', rt := Q } (L2.start N vs) H) : FnG P w K mg base CX0 (k + 1) f fd ps sp := by
  obtain ⟨oc, od, kV, doc, pm, an, cdv, ct, osl, rfl, lk, hcd⟩ := F.ex
  refine ⟨len, fun A outer s H args us vs Q E hgd hr e0 hb r hsp => ?_⟩
  have keeps : ∀ b o, base.get? b = some o → s.heap.get? b = some o := fun b o e => (e0.bs b o e).1
  have KX : K.In s.heap := e0.mod.kin.keeps keeps
  have kinds : ∀ y ∈ ps.zip us, (defScope st).names.lookup y.1 = some .local ∨ ((defScope st).names.lookup y.1 = some .cell ∧ ((cellsFrom (s.heap.objs.size + 1) (defScope st).names []).lookup y.1).isSome = true) := by
    rintro ⟨n, v⟩ hy
    rcases S.par n (List.of_mem_zip hy).1 with q | q
    · exact .inl q
    · exact .inr ⟨q, PySem.W.cellsFrom_some _ _ _ (.inl q)⟩
  refine codeAny_call_function hr.depth (KX _ _ lk) rfl S.co S.gen rfl (PySem.W.codeRec_of KX hcd) (hb _ _ _ _ (wpAny_newFunctionEnv_cells S.kind kinds fun env he s1 x => ?_))
  subst he
  refine ⟨(e0.mod.nolimit.keeps keeps).keeps x.toInCall.keep, codeAny_func ?_⟩
  obtain ⟨t, ht, hq⟩ := body cdv A outer s H vs Q E hgd (hr.deeper _) hsp
  have I := inv_start (CX := CX0) (E := E) S hr.hd e0 (len _ _ _ _ hsp) r x
  refine wpAny_mono (ht.nox.run [] s1 (L2.start N vs) H _ I hq) (fun fl s' z => ?_) fun e s' z => z
  cases fl with
  | ret u =>
    obtain ⟨v, σ', H', J, rv, z⟩ := z
    exact ⟨v, H', J.os, J.bare, J.base, J.hok, rv, z⟩
  | next =>
    obtain ⟨σ', H', J, z⟩ := z
    exact ⟨V.non, H', J.os, J.bare, J.base, J.hok, rfl, z⟩
  | brk =>
    obtain ⟨_, _, _, z⟩ := z
    exact z.elim
  | cont =>
    obtain ⟨_, _, _, z⟩ := z
    exact z.elim
variable {X : Cx} {dvs : List V} {ds : List Value} {E : XK} {x : Str} {p pos : Pos} {e : Expr} {es : List Expr} {t : TA}
theorem pe_callG (F : FnG X.prog X.w X.K X.mg X.base CX k f fd ps sp) (gd : X.A.guards = some []) (hr : Room k X.A) (hg : Gl X x) (hm : X.mg x = some (.ref f)) (hk : PySem.W.keepIn X.K (.ref f) = true) (hb : Binds X.K fd ps ds) (hd : Vals dvs ds) (hx : Passes CX X E) (ha : PA X (e :: es) t)
    (hdb : (x == ("__debug__" : Str)) = false := by decide) (he : starEach (e :: es) X.env = (false, eval e X.env) :: starEach es X.env := by rfl) (hpl : (backTo pos (starEach es X.env)).any (·.1) = false := by rfl) : PE X (.Call (.Name x p) (e :: es) [] pos) (tCall sp dvs E t) := by
  refine ⟨fun pins s σ H Q I h => wpAny_Call_Name_kw (ld_glob I hg hm ?_ hdb)⟩
  refine PySem.W.callWith_K (h₀ := X.base) I.ok.mod.kin hk (thn (ha.run pos pins s σ H _ I h) fun us s1 ⟨vs, H1, J, r, q⟩ => ⟨J.kIn, ?_⟩) he hpl
  have r2 : Vals (vs ++ dvs) (us ++ ds) := r.append hd
  refine wpAny_call (codeAny_mono (F.run X.A X.stack s1 H1 ⟨us, []⟩ (us ++ ds) (vs ++ dvs) Q E gd hr J.env0 (hb s1 us J.kIn (by rw [← r2.length]; exact F.len _ _ _ _ q)) r2 q) fun z s' hz => ?_)
  cases z with
  | error u => exact hx pins σ H1 s1 u s' J hz
  | ok fl =>
    cases fl with
    | ret u => exact J.after hz
    | next => exact hz.elim
    | brk => exact hz.elim
    | cont => exact hz.elim
end
section
open PySem.Spec PyProof.Rows
/-- the law's own call: nothing is being shown around it -/
theorem law_callG {P : Program} {w : World} {K : PySem.W.Frag} {mg mb : Str → Option Value} {k : Nat} {fa a : Addr} {fd : FuncData} {x : Str} {sp : Sp} {s1 : Shared} {vs : List Value} {ns : List Int} (KX : K.In s1.heap) (hns : s1.heap.Ns mainGlobals mg) (hb : s1.heap.Ns builtinsNs mb)
    (hbb : ∀ x : Str, x ≠ "__name__" → mb x = bootBuiltins x) (hlim : s1.heap.NoLimit) (hg : s1.gens = #[]) (ha : s1.heap.get? a = some { cls := .type "list", data := .seq vs.toArray }) (hi : IntsAre vs ns) (hl : ns.length ≤ sizeLine) (hr : Room k callerA)
    (F : ∀ base : Heap, K.In base → base.Ns mainGlobals mg → FnG P w K mg base CX0 k fa fd [x] sp) (hbind : ∀ (s : Shared) (u : Value), BindsTo s fd ⟨[u], []⟩ [(x, u)]) (hsp : ∀ H : Hp, Only H → SqL K H a (ns.map V.int) → sp [.ref a] H (fun v _ => v = .bl true) fun _ _ _ => False)
    : codeAny (model P w) callerA (.call (.ref fa) ⟨[.ref a], []⟩) (fun r s' => r = .ok (.ret (.bool true)) ∧ OldK s1.heap s'.heap ∧ s'.os = s1.os ∧ AllBare s'.gens) s1 := by
  have rv := vals_ints hi
  have lv := hi.length
  have main : ∀ H : Hp, Only H → SqL K H a (ns.map V.int) → HOk P w H s1.heap → (∀ b u, H b = some u → b = a) → (∀ u, H a = some u → K.lookup a = none) →
      codeAny (model P w) callerA (.call (.ref fa) ⟨[.ref a], []⟩) (fun r s' => r = .ok (.ret (.bool true)) ∧ OldK s1.heap s'.heap ∧ s'.os = s1.os ∧ AllBare s'.gens) s1 := by
    intro H hO hS hok hA hK
    have isn : ∀ {b : Addr}, b ≠ a → H b = none := fun {b} n => by
      cases q : H b with
      | none => rfl
      | some u => exact absurd (hA b u q) n
    have bn : ∀ {b : Addr} {m : Str → Option Value}, s1.heap.Ns b m → (hidT s1.heap H).Ns b m := by
      rintro b m ⟨o, es, ep, e, d, r⟩
      refine ⟨o, es, ep, hidT_get e (isn fun z => ?_), d, r⟩
      rw [z, ha] at e
      cases e
      cases d
    have bK : K.In (hidT s1.heap H) := fun b o e => hidT_get (KX b o e) (by
      cases q : H b with
      | none => rfl
      | some u =>
        have z := hA b u q
        subst z
        rw [hK u q] at e
        cases e)
    have lm : (hidT s1.heap H).NoLimit := by
      obtain ⟨mc, h1, h2⟩ := hlim
      exact ⟨mc, bn h1, h2⟩
    have e0 : Env0 P w K mg (hidT s1.heap H) callerA [] s1 H := ⟨rfl, ⟨bK, bn hns, ⟨mb, bn hb, hbb⟩, lm⟩, fun b o e => of_hidT e, Nat.le_of_eq (hidT_size _ _), trivial, (fun b z => nomatch z), hok, .of_eq hg⟩
    refine codeAny_mono ((F _ bK (bn hns)).run callerA [] s1 H ⟨[.ref a], []⟩ [.ref a] [.ref a] _ _ rfl hr e0 (hbind s1 (.ref a)) (.cons rfl .nil) (hsp H hO hS)) fun r s' h => ?_
    cases r with
    | error e => exact False.elim h
    | ok fl =>
      cases fl with
      | next => exact False.elim h
      | brk => exact False.elim h
      | cont => exact False.elim h
      | ret u =>
        obtain ⟨v, H', os, bare, un, hok', r', q⟩ := h
        have qv : v = .bl true := q
        subst qv
        obtain rfl : u = Value.bool true := r'
        refine ⟨rfl, OldK.of_keep fun b o e => ?_, os, bare⟩
        cases q : H b with
        | none => exact un.keep b o e q (fun z => nomatch z) (fun z => nomatch z)
        | some u =>
          rcases hO b with z | ⟨ob, xs, z⟩
          · rw [z] at q
            cases q
          · obtain ⟨e1, _⟩ := hok b _ z
            obtain ⟨e2, _⟩ := hok' b _ (un.frzs b ob _ z)
            rw [e1] at e
            cases e
            exact e2
  cases hk : K.lookup a with
  | some o =>
    have e := (KX a o hk).symm.trans ha
    cases e
    exact main (fun _ => none) (fun _ => .inl rfl) (.inr ⟨_, vs.toArray, _, hk, rfl, rfl, rfl, by rw [List.size_toArray, lv]; exact hl, by simpa using rv⟩) (fun b u z => nomatch z) (fun b u z => nomatch z) fun u z => nomatch z
  | none =>
    have gA : ∀ b u, (if b = a then some (HO.frz { cls := .type "list", data := .seq vs.toArray } (.lst (ns.map V.int))) else none) = some u → b = a ∧ u = HO.frz { cls := .type "list", data := .seq vs.toArray } (.lst (ns.map V.int)) := by
      intro b u z
      by_cases c : b = a
      · rw [if_pos c] at z
        exact ⟨c, (Option.some.inj z).symm⟩
      · rw [if_neg c] at z
        cases z
    refine main (fun b => if b = a then some (.frz { cls := .type "list", data := .seq vs.toArray } (.lst (ns.map V.int))) else none) (fun b => ?_) (.inl (.inr ⟨{ cls := .type "list", data := .seq vs.toArray }, if_pos rfl⟩)) (fun b u z => ?_) (fun b u z => (gA b u z).1) fun _ _ => hk
    · by_cases c : b = a
      · exact .inr ⟨_, _, if_pos c⟩
      · exact .inl (if_neg c)
    · obtain ⟨rfl, rfl⟩ := gA b u z
      exact ⟨ha, by rw [List.length_map]; exact hl, vs, _, rv, ha⟩
theorem walk_ofG {l : PySem.W.OpenLaw} {n k : Nat} {q : Program} {loose : List Str} {XP : (Str → Option Value) → Heap → Prop} {YP : World → Heap → Prop} {d : DefRec} {K : Params → PySem.W.Frag} {sp : World → Sp} {x : Str} (hn : l.most = some n) (hn2 : n ≤ sizeLine) (hdf : d.params.defaults = []) (hr : Room k callerA)
    (hY : ∀ (w : World) (h : Heap), YP w h → (K w.params).In h)
    (F : ∀ (w : World) (mg : Str → Option Value) (fa : Addr) (h : Heap), (K w.params).In h → h.Ns mainGlobals mg → mg d.name = some (.ref fa) → ∃ fd : FuncData, (∀ (s : Shared) (u : Value), BindsTo s fd ⟨[u], []⟩ [(x, u)]) ∧ ∀ base : Heap, (K w.params).In base → base.Ns mainGlobals mg → FnG l.prog w (K w.params) mg base CX0 k fa fd [x] (sp w))
    (hsp : ∀ (w : World) (H : Hp) (a : Addr) (ns : List Int), ns.length ≤ n → Only H → SqL (K w.params) H a (ns.map V.int) → sp w [.ref a] H (fun v _ => v = .bl true) fun _ _ _ => False) : PySem.W.WalkO q loose XP YP l.row.toRowW d [] (fun f vs => PySem.call f vs) := by
  refine Att.attach_call hn hdf fun w s₀ s1 mg mb fa o pm cd doc a vs ns G Y ho hd hcd hmg hobj hints hlen hg => ?_
  obtain ⟨fd, hb, hF⟩ := F w mg fa _ (hY w _ Y) G.T.g hmg
  exact law_callG (hY w _ Y) G.T.g G.T.b G.T.builtins G.T.nolimit hg hobj hints (Nat.le_trans hlen hn2) hr hF hb fun H hO hS => hsp w H a ns hlen hO hS
end
/-! ### things, by what they are -/
def intD : PyData → Bool
  | .int _ => true
  | _ => false
def tyD : PyData → String
  | .none => "NoneType"
  | .bool _ => "bool"
  | .int _ => "int"
  | .str _ => "str"
  | .list _ => "list"
  | .tuple _ => "tuple"
  | .dict _ => "dict"
theorem kdD {K : PySem.W.Frag} {H : Hp} {v : V} {d : PyData} (h : Dp K H v d) : Kd K H v (tyD d) := by
  cases h with
  | non => exact .non
  | bl b => exact .bl b
  | int i => exact .int i
  | str x => exact .str x
  | lst h _ => exact .lst h
  | tup h _ => exact .tup h
theorem tyD_int (d : PyData) : (tyD d == "int") = intD d := by
  cases d <;> rfl
/-! ### small things -/
structure Sm (B k : Nat) (d : PyData) : Prop where
  l : d.canLay0 = true
  s : d.showable = true
  w : dw d ≤ B
  p : d.depth ≤ k
theorem Sm.up {B k B' k' : Nat} {d : PyData} (h : Sm B k d) (e : B ≤ B') (f : k ≤ k') : Sm B' k' d := ⟨h.l, h.s, Nat.le_trans h.w e, Nat.le_trans h.p f⟩
theorem sm_all {B k : Nat} : ∀ {ds : List PyData}, (∀ d ∈ ds, Sm B k d) → PyData.canLayAll0 ds = true ∧ PyData.showableAll ds = true ∧ dwAll ds ≤ (B + 2) * ds.length ∧ PyData.depthAll ds ≤ k
  | [], _ => ⟨by rw [PyData.canLayAll0], by rw [PyData.showableAll], by rw [dwAll]; exact Nat.zero_le _, by rw [PyData.depthAll]; exact Nat.zero_le _⟩
  | d :: r, h => by
    obtain ⟨a, b, c, e⟩ := sm_all fun x hx => h x (List.mem_cons_of_mem _ hx)
    have hd := h d List.mem_cons_self
    refine ⟨by rw [PyData.canLayAll0, hd.l, a]; rfl, by rw [PyData.showableAll, hd.s, b]; rfl, ?_, by rw [PyData.depthAll]; exact Nat.max_le.mpr ⟨hd.p, e⟩⟩
    have := hd.w
    rw [dwAll, List.length_cons, Nat.mul_succ]
    omega
theorem Sm.lst {B k n : Nat} {ds : List PyData} (hn : ds.length ≤ n) (h : ∀ d ∈ ds, Sm B k d) : Sm (6 + (B + 2) * n) (k + 1) (.list ds) := by
  obtain ⟨a, b, c, e⟩ := sm_all h
  have := Nat.mul_le_mul_left (B + 2) hn
  exact ⟨by rw [PyData.canLay0]; exact a, by rw [PyData.showable]; exact b, by rw [dw]; omega, by rw [PyData.depth]; omega⟩
theorem Sm.tup {B k n : Nat} {ds : List PyData} (hn : ds.length ≤ n) (h : ∀ d ∈ ds, Sm B k d) : Sm (6 + (B + 2) * n) (k + 1) (.tuple ds) := by
  obtain ⟨a, b, c, e⟩ := sm_all h
  have := Nat.mul_le_mul_left (B + 2) hn
  exact ⟨by rw [PyData.canLay0]; exact a, by rw [PyData.showable]; exact b, by rw [dw]; omega, by rw [PyData.depth]; omega⟩
theorem Sm.shn {B k : Nat} {d : PyData} (h : Sm B k d) (e : B ≤ 16777216) (f : k ≤ 40) : Shn d := by
  have hz : sizeLine = 16777216 := by decide
  exact ⟨h.s, by have := h.w; omega, Nat.le_trans h.p f⟩
theorem Sm.shaped {B k : Nat} {d : PyData} (h : Sm B k d) (f : k ≤ 64) : SeqAt.shaped d = true := by
  unfold SeqAt.shaped
  rw [h.l, decide_eq_true (Nat.le_trans h.p f)]
  rfl
theorem sm_int {i : Int} (h : i.natAbs ≤ 100000000000) : Sm 13 0 (.int i) := by
  have h1 : PyData.showable (.int i) = true := by
    rw [PyData.showable]
    refine decide_eq_true ?_
    have h1 : i.natAbs < 2 ^ 40 := by
      have : (2 : Nat) ^ 40 = 1099511627776 := by decide
      omega
    by_cases c : i.natAbs = 0
    · rw [c]
      decide
    · exact Nat.lt_trans ((Nat.log2_lt c).mpr h1) (by decide)
  have h2 : (PyData.shown (.int i)).length ≤ 13 := PyData.shown_int_le2 (by omega) (by omega)
  have h3 : dw (.int i) = (PyData.shown (.int i)).length := by rw [dw] <;> nofun
  exact ⟨by rw [PyData.canLay0], h1, by omega, by rw [PyData.depth]; exact Nat.le_refl _⟩
theorem sm_bl (b : Bool) : Sm 13 0 (.bool b) := ⟨by rw [PyData.canLay0], by rw [PyData.showable], by cases b <;> decide +kernel, by rw [PyData.depth]; exact Nat.le_refl _⟩
section
open PySem.Spec PyProof.Rows
variable {P : Program} {w : World} {K : PySem.W.Frag} {mg : Str → Option Value} {base : Heap}
end
/-! ### each prime has a generator: looked up by the kernel -/
def pm (m : Nat) : Nat → Nat → Nat → Nat
  | 0, _, _ => 1 % m
  | k + 1, b, e => if e % 2 = 1 then b * pm m k (b * b % m) (e / 2) % m else pm m k (b * b % m) (e / 2)
theorem npow_mod (a m : Nat) (k : Nat) : (a % m) ^ k % m = a ^ k % m := (Nat.pow_mod a k m).symm
theorem npow_sq (b k : Nat) : (b * b) ^ k = b ^ (2 * k) := by
  rw [Nat.pow_mul, Nat.pow_two]
theorem pm_eq (m : Nat) : ∀ k b e : Nat, e < 2 ^ k → pm m k b e = b ^ e % m
  | 0, b, e, h => by
    have : e = 0 := by
      have : (2 : Nat) ^ 0 = 1 := rfl
      omega
    subst this
    show 1 % m = b ^ 0 % m
    rw [Nat.pow_zero]
  | k + 1, b, e, h => by
    have he : e / 2 < 2 ^ k := by
      rw [Nat.pow_succ] at h
      omega
    have ih := pm_eq m k (b * b % m) (e / 2) he
    show (if e % 2 = 1 then b * pm m k (b * b % m) (e / 2) % m else pm m k (b * b % m) (e / 2)) = _
    rw [ih, npow_mod, npow_sq]
    split
    · rename_i o
      have e2 : e = 2 * (e / 2) + 1 := by omega
      conv => rhs; rw [e2, Nat.pow_succ, Nat.mul_comm (b ^ _) b, Nat.mul_mod]
      rw [Nat.mul_mod, Nat.mod_mod]
    · have e2 : e = 2 * (e / 2) := by omega
      conv => rhs; rw [e2]
def okGn (p g d : Nat) : Bool := if (p - 1) % d = 0 then (pm p 20 g ((p - 1) / d) != 1) && (decide (d = p - 1) || (pm p 20 g d != 1)) else true
def okAll (p g s : Nat) : Bool := decide (2 ≤ g) && (decide (g < p) && (List.range' 2 (s - 1)).all (okGn p g))
def fnd (p s : Nat) : Nat → Nat → Nat
  | 0, g => g
  | k + 1, g => if okAll p g s = true then g else fnd p s k (g + 1)
def isPr (p : Nat) : Bool := (List.range' 2 99).all fun d => decide (p < d * d) || decide (p % d ≠ 0)
def chk (p : Nat) : Bool := !isPr p || okAll p (fnd p 100 60 2) 100
theorem chk1 : (List.range' 3 2498).all chk = true := by decide +kernel
theorem chk2 : (List.range' 2501 2500).all chk = true := by decide +kernel
theorem chk3 : (List.range' 5001 2500).all chk = true := by decide +kernel
theorem chk4 : (List.range' 7501 2500).all chk = true := by decide +kernel
theorem okG_at {p g s : Nat} (h : okAll p g s = true) {d : Nat} (d2 : 2 ≤ d) (ds : d ≤ s) (hd : d ∣ p - 1) (hp : p ≤ 1048576) (hp3 : 3 ≤ p) : ¬ g ^ ((p - 1) / d) % p = 1 ∧ (d ≠ p - 1 → ¬ g ^ d % p = 1) := by
  unfold okAll at h
  simp only [Bool.and_eq_true, decide_eq_true_eq, List.all_eq_true] at h
  have h1 := h.2.2 d (List.mem_range'_1.mpr ⟨d2, by omega⟩)
  unfold okGn at h1
  rw [if_pos (Nat.mod_eq_zero_of_dvd hd)] at h1
  have e20 : (2 : Nat) ^ 20 = 1048576 := by decide
  have dle : d ≤ p - 1 := Nat.le_of_dvd (by omega) hd
  have qle : (p - 1) / d ≤ p - 1 := Nat.div_le_self _ _
  rw [pm_eq p 20 g _ (by omega), pm_eq p 20 g _ (by omega)] at h1
  simp only [Bool.and_eq_true, Bool.or_eq_true, decide_eq_true_eq, bne_iff_ne, ne_eq] at h1
  exact ⟨h1.1, fun z => h1.2.resolve_left z⟩
/-- what was looked up is enough -/
theorem gen_of {p g s : Nat} (h : okAll p g s = true) (hp : p ≤ 1048576) (hp3 : 3 ≤ p) (hs : p ≤ (s + 1) * (s + 1)) {out : List Int} (ho : ∀ k ∈ out, 2 ≤ k ∧ k ∣ (p : Int) - 1) : 1 ≤ (g : Int) ∧ (g : Int) < p ∧ GenOk p g (erl p out) := by
  have h0 := h
  unfold okAll at h0
  simp only [Bool.and_eq_true, decide_eq_true_eq] at h0
  refine ⟨by omega, by omega, ?_⟩
  intro e he z
  obtain ⟨f, hf, ef⟩ := List.mem_map.mp he
  obtain ⟨f2, fd⟩ := ho f hf
  -- all in naturals
  have ep : ((p - 1 : Nat) : Int) = (p : Int) - 1 := by omega
  have fN : ((f.toNat : Nat) : Int) = f := Int.toNat_of_nonneg (by omega)
  have fdN : f.toNat ∣ p - 1 := by
    rw [← Int.natCast_dvd_natCast, fN, ep]
    exact fd
  have eN : e.toNat = (p - 1) / f.toNat := by
    rw [← ef]
    have : ((p : Int) - 1) / f = (((p - 1) / f.toNat : Nat) : Int) := by
      rw [Int.natCast_ediv, ep, fN]
    rw [this]
    rfl
  have zN : g ^ e.toNat % p = 1 := by
    have : ((g ^ e.toNat % p : Nat) : Int) = 1 := by
      rw [Int.natCast_emod, Int.natCast_pow]
      exact z
    omega
  rw [eN] at zN
  by_cases fs : f.toNat ≤ s
  · exact (okG_at h (by omega) fs fdN hp hp3).1 zN
  · -- the partner is small
    have hq : (p - 1) / f.toNat * f.toNat = p - 1 := Nat.div_mul_cancel fdN
    have hqs : (p - 1) / f.toNat ≤ s := by
      apply Nat.le_of_not_gt
      intro v
      have : (s + 1) * (s + 1) ≤ (p - 1) / f.toNat * f.toNat := Nat.mul_le_mul v (by omega)
      omega
    have hq0 : (p - 1) / f.toNat ≠ 0 := fun v => by
      rw [v] at hq
      omega
    by_cases q1 : (p - 1) / f.toNat = 1
    · rw [q1, Nat.pow_one, Nat.mod_eq_of_lt h0.2.1] at zN
      omega
    · refine (okG_at h (d := (p - 1) / f.toNat) (by omega) hqs ⟨f.toNat, hq.symm⟩ hp hp3).2 ?_ zN
      intro v
      have : (p - 1) / f.toNat * 2 ≤ (p - 1) / f.toNat * f.toNat := Nat.mul_le_mul_left _ (by omega)
      omega
theorem isPr_of {p : Nat} (hp : p ≤ 10000) (h : ∀ d, 2 ≤ d → d * d ≤ p → ¬ d ∣ p) : isPr p = true := by
  unfold isPr
  rw [List.all_eq_true]
  intro d hd
  have h1 := List.mem_range'_1.mp hd
  rw [Bool.or_eq_true, decide_eq_true_iff, decide_eq_true_iff]
  by_cases z : p < d * d
  · exact .inl z
  · exact .inr fun e => h d h1.1 (by omega) (Nat.dvd_of_mod_eq_zero e)
theorem gen_small {p : Nat} (h3 : 3 ≤ p) (hp : p ≤ 10000) (h : ∀ d, 2 ≤ d → d * d ≤ p → ¬ d ∣ p) {out : List Int} (ho : ∀ k ∈ out, 2 ≤ k ∧ k ∣ (p : Int) - 1) : ∃ g0 : Int, 1 ≤ g0 ∧ g0 < p ∧ GenOk p g0 (erl p out) := by
  have hc : chk p = true := by
    by_cases a : p ≤ 2500
    · exact (List.all_eq_true.mp chk1) p (List.mem_range'_1.mpr ⟨h3, by omega⟩)
    · by_cases b : p ≤ 5000
      · exact (List.all_eq_true.mp chk2) p (List.mem_range'_1.mpr ⟨by omega, by omega⟩)
      · by_cases c : p ≤ 7500
        · exact (List.all_eq_true.mp chk3) p (List.mem_range'_1.mpr ⟨by omega, by omega⟩)
        · exact (List.all_eq_true.mp chk4) p (List.mem_range'_1.mpr ⟨by omega, by omega⟩)
  unfold chk at hc
  rw [isPr_of hp h] at hc
  have hk : okAll p (fnd p 100 60 2) 100 = true := by simpa using hc
  obtain ⟨a, b, c⟩ := gen_of hk (by omega) h3 (by omega) ho
  exact ⟨_, a, b, c⟩
/-! ### a list comprehension whose element may let a callee's exception out -/
section
variable {X : Cx}
end
section
variable {X : Cx}
end
/-! ### long division of rows, as the program walks it -/
def subAt (start : Nat) (top : Int) (bs : List Int) (r : List Int) : Nat → List Int
  | 0 => r
  | i + 1 => (subAt start top bs r i).set (start + i) ((subAt start top bs r i).getD (start + i) 0 - top * bs.getD i 0)
theorem subAt_len {start : Nat} {top : Int} {bs r : List Int} {i : Nat} : (subAt start top bs r i).length = r.length := by
  induction i with
  | zero => rfl
  | succ i ih => rw [subAt, List.length_set, ih]
def dvS (bs : List Int) (x : List Int × List Int) : List Int × List Int :=
  (subAt (x.1.length - 1 - (bs.length - 1)) (x.1.getD (x.1.length - 1) 0) bs x.1.dropLast (bs.length - 1), x.2 ++ [x.1.getD (x.1.length - 1) 0])
def dvN (bs : List Int) (row : List Int) : Nat → List Int × List Int
  | 0 => (row, [])
  | n + 1 => dvS bs (dvN bs row n)
theorem dvN_len {bs row : List Int} {n : Nat} : (dvN bs row n).1.length = row.length - n ∧ (dvN bs row n).2.length = n := by
  induction n with
  | zero => exact ⟨rfl, rfl⟩
  | succ n ih =>
    rw [dvN, dvS]
    refine ⟨?_, ?_⟩
    · show (subAt _ _ _ _ _).length = _
      rw [subAt_len, List.length_dropLast, ih.1]
      omega
    · show List.length (_ ++ _) = _
      rw [List.length_append, ih.2]
      rfl
theorem at_nat {xs : List V} {v : V} {i : Int} {j : Nat} (h : xs[j]? = some v) (e : i = (j : Int)) : atI xs i = some v := at_of (j := j) (by omega) (by rw [← h])
theorem at_map {ns : List Int} {i : Int} {j : Nat} (h : j < ns.length) (e : i = (j : Int)) : atI (ns.map V.int) i = some (.int (ns.getD j 0)) := by
  refine at_nat ?_ e
  rw [List.getElem?_map, List.getD_eq_getElem?_getD, List.getElem?_eq_getElem h]
  rfl
theorem ixn_of {n j : Nat} {i : Int} (h : j < n) (e : i = (j : Int)) : ixN n i = some j := by
  subst e
  unfold ixN
  simp [h]
theorem rep_len {n : Nat} {v : V} : (List.replicate n [v]).flatten.length = n := by
  induction n with
  | zero => rfl
  | succ n ih =>
    rw [List.replicate_succ, List.flatten_cons, List.length_append, ih]
    show 1 + n = n + 1
    omega
/-- the share of row by bs -/
def dvQ (bs row : List Int) : List Int := (dvN bs row (row.length - (bs.length - 1))).2.reverse
/-- the rest of row by bs -/
def dvR (bs row : List Int) : List Int := (dvN bs row (row.length - (bs.length - 1))).1 ++ List.replicate (bs.length - 1 - (dvN bs row (row.length - (bs.length - 1))).1.length) 0
theorem rep_flat2 {n : Nat} {v : V} : (List.replicate n [v]).flatten = List.replicate n v := by
  induction n with
  | zero => rfl
  | succ n ih =>
    rw [List.replicate_succ, List.flatten_cons, ih]
    rfl
section
open PySem.Spec PyProof.Rows
variable {P : Program} {w : World} {K : PySem.W.Frag} {mg : Str → Option Value} {base : Heap}
theorem fnsub {CX : CXT} {k : Nat} {f : Addr} {fd : FuncData} {ps : List Str} {sp sp1 : Sp} (G1 : FnOk P w K mg base CX k f fd ps sp1) (h : ∀ vs H Q E, sp vs H Q E → sp1 vs H Q E) : FnOk P w K mg base CX k f fd ps sp :=
  ⟨fun vs H Q E x => G1.len vs H Q E (h vs H Q E x), fun A outer s H args us vs Q E hr e0 hb r x => G1.run A outer s H args us vs Q E hr e0 hb r (h vs H Q E x)⟩
end
abbrev s_divided : Stmt := top 16
abbrev N_divided : List Str := ["row", "by", "degree", "rest", "falling", "top", "start", "at"]
abbrev P_divided : List Str := ["row", "by"]
theorem sc_divided : FnScope N_divided P_divided (defScope s_divided) := ⟨rfl, rfl, rfl, by decide +kernel, rfl, by decide +kernel, by decide +kernel⟩
def spDvd (K : PySem.W.Frag) : Sp := fun vs H Q _ => ∃ (a b : Addr) (row bs : List Int), vs = [.ref a, .ref b] ∧ SqL K H a (row.map V.int) ∧ SqL K H b (bs.map V.int) ∧ 1 ≤ bs.length ∧ bs.length ≤ 1000 ∧ row.length ≤ 1000 ∧ (∀ x ∈ bs, -1000000 ≤ x ∧ x ≤ 1000000) ∧
  ∀ t q z H', H q = none → Same H H' → SqT K H' t [.ref q, .ref z] → H' q = some (.lst ((dvQ bs row).map V.int)) → Q (.ref t) H'
def spDvd2 (K : PySem.W.Frag) : Sp := fun vs H Q _ => ∃ (a b : Addr) (row bs : List Int), vs = [.ref a, .ref b] ∧ SqL K H a (row.map V.int) ∧ (SqL K H b (bs.map V.int) ∨ SqT K H b (bs.map V.int)) ∧ 1 ≤ bs.length ∧ bs.length ≤ 1000 ∧ row.length ≤ 1000 ∧ (∀ x ∈ bs, -1000000 ≤ x ∧ x ≤ 1000000) ∧
  ∀ t q z H', H q = none → Same H H' → SqT K H' t [.ref q, .ref z] → H' q = some (.lst ((dvQ bs row).map V.int)) → H z = none → H' z = some (.lst ((dvR bs row).map V.int)) → Q (.ref t) H'
section
variable {P : Program} {w : World} {K : PySem.W.Frag} {mg : Str → Option Value} {base : Heap}
theorem ok_divided2 {f : Addr} {fd : FuncData} {k : Nat} (F : Fun K "divided" "divided" s_divided f fd) (T : Blt mg) : FnOk P w K mg base CX0 (k + 1) f fd P_divided (spDvd2 K) := by
  have nd := sc_divided.nd
  refine F.ok sc_divided (fun vs H Q E h => ?_) (fun cdv A outer s H vs Q E hr h => ?_)
  · obtain ⟨a, b, row, bs, rfl, _⟩ := h
    rfl
  · obtain ⟨a, b, row, bs, rfl, ha, hb, b1, b2, r1, hbb, q⟩ := h
    refine ⟨_, (pss_cons (ps_set (i := 2) nd rfl (Or.inl rfl) (pe_op op_sub (pe_callB (r := rLenQ K) call_len_seq (by rfl) T.b_len (by decide +kernel) (pa_cons (pv 1) pa_nil)) (pe_int)))
      (pss_cons (ps_set (i := 3) nd rfl (Or.inl rfl) (pe_callTy call_list_of (by rfl) T.b_list (by decide +kernel) (pa_cons (pv 0) pa_nil)))
      (pss_cons (ps_set (i := 4) nd rfl (Or.inl rfl) (pe_lst pa_nil))
      (pss_cons (ps_while PassesOwn.never (pt_cmpR op_gt (pe_callB (r := rLenQ K) call_len_seq (by rfl) T.b_len (by decide +kernel) (pa_cons (pv 3) pa_nil)) (pv 2) (nomark _))
      (pss_cons (ps_set (i := 5) nd rfl (Or.inl rfl) (pe_bm0 PySem.F.plainAttrs_list PySem.F.slot_list_pop PySem.F.type_list_pop mt_pop (pv 3)))
      (pss_cons (ps_expr (pe_bm PySem.F.plainAttrs_list PySem.F.slot_list_append PySem.F.type_list_append mt_append (pv 4) (pa_cons (pv 5) pa_nil)))
      (pss_cons (ps_set (i := 6) nd rfl (Or.inl rfl) (pe_op op_sub (pe_callB (r := rLenQ K) call_len_seq (by rfl) T.b_len (by decide +kernel) (pa_cons (pv 3) pa_nil)) (pv 2)))
      (pss_one (ps_for PassesOwn.never rfl (pi_range1 (by rfl) T.b_range (pa_cons (pv 2) pa_nil)) (pg_name (i := 7) nd rfl (Or.inl rfl))
      (pss_one (ps_augS (pv 3) (pe_op op_add (pv 6) (pv 7)) (get_list (X := _)) (pe_op op_mul (pv 5) (pe_ix (r := rIxQ K) ix_seq (pv 1) (pv 7) (fun _ _ => rfl))) ip_sub set_list))))))))
      (pss_one (ps_ret (pe_tup (pa_cons (pe_revL (pv 4)) (pa_cons (pe_op op_cat (pv 3) (pe_op op_rep (pe_lst (pa_cons (pe_int) pa_nil)) (pe_op op_sub (pv 2) (pe_callB (r := rLenQ K) call_len_seq (by rfl) T.b_len (by decide +kernel) (pa_cons (pv 3) pa_nil))))) pa_nil))))))))), ?_⟩
    walk_at "ev"
    intro l1 hl1
    generalize hG : upd _ l1 _ = H1
    obtain ⟨sm1, hq1⟩ := newO hG hl1
    clear hG
    walk_at "ev"
    intro l2 hl2
    generalize hG : upd _ l2 _ = H2
    obtain ⟨sm2, hq2⟩ := newO hG hl2
    clear hG
    have n12 : l1 ≠ l2 := ne_of_none hq1 hl2
    have f2 : H l2 = none := sm1.free hl2
    walk_at "ev"
    refine ⟨fun m σ H' => ∃ (n : Nat) (s5 s6 s7 : Option V), σ = [some (.ref a), some (.ref b), some (.int (((bs.map V.int).length : Int) - 1)), some (.ref l1), some (.ref l2), s5, s6, s7] ∧ m = row.length - n ∧ n ≤ row.length - (bs.length - 1) ∧ Same H H' ∧ H' l1 = some (.lst ((dvN bs row n).1.map V.int)) ∧ H' l2 = some (.lst ((dvN bs row n).2.map V.int)), ⟨_, 0, none, none, none, rfl, rfl, Nat.zero_le _, sm1.trans sm2, sm2 _ _ hq1, hq2⟩, ?_⟩
    rintro m σ H3 ⟨n, s5, s6, s7, rfl, rfl, hn, sm3, h1, h2⟩
    obtain ⟨e1, e2⟩ := dvN_len (bs := bs) (row := row) (n := n)
    have hL1 := SqL.of (K := K) h1
    walk_at "ev"
    refine ite2 (fun c => ?_) (fun c => ?_)
    · have c1 := of_decide_eq_true c
      simp only [List.length_map, e1] at c1
      refine ⟨_, holdN, ?_⟩
      have hy : ((dvN bs row n).1.map V.int)[((dvN bs row n).1.map V.int).length - 1]? = some (.int ((dvN bs row n).1.getD ((dvN bs row n).1.length - 1) 0)) := by
        rw [List.getElem?_map, List.length_map, List.getD_eq_getElem?_getD, List.getElem?_eq_getElem (by omega)]
        rfl
      have etop : ∃ top, (dvN bs row n).1.getD ((dvN bs row n).1.length - 1) 0 = top := ⟨_, rfl⟩
      obtain ⟨top, htop⟩ := etop
      rw [htop] at hy
      walk_at "ev"
      generalize hG : upd _ l1 _ = H4
      obtain ⟨k4, hq4⟩ := mutO hG
      have sm4 : Same H H4 := by rw [← hG]; exact same_mut sm3 hl1
      clear hG
      have h24 := k4 _ _ n12.symm h2
      have h14 : upd H4 l2 (.lst ((dvN bs row n).2.map V.int ++ [.int top])) l1 = some (.lst ((dvN bs row n).1.map V.int).dropLast) := by
        rw [upd_ne n12]
        exact hq4
      have hL5 := SqL.of (K := K) h14
      walk_at "ev"
      generalize hG : upd H4 l2 _ = H5
      have sm5 : Same H H5 := by rw [← hG]; exact same_mut sm4 f2
      have h25 := (mutO hG).2
      rw [hG] at h14
      clear hG hL5
      have edl : ((dvN bs row n).1.map V.int).dropLast = (dvN bs row n).1.dropLast.map V.int := by
        rw [List.map_dropLast]
      rw [edl] at h14
      refine for_range (lo := 0) (n := (((bs.map V.int).length : Int) - 1).toNat) (fun i σ H' => Hold (∃ s7, σ = [some (.ref a), some (.ref b), some (.int (((bs.map V.int).length : Int) - 1)), some (.ref l1), some (.ref l2), some (.int top), some (.int (((((dvN bs row n).1.map V.int).dropLast).length : Int) - (((bs.map V.int).length : Int) - 1))), s7] ∧ Same H H' ∧ H' l1 = some (.lst ((subAt ((dvN bs row n).1.length - 1 - (bs.length - 1)) top bs (dvN bs row n).1.dropLast i).map V.int)) ∧ H' l2 = some (.lst ((dvN bs row n).2.map V.int ++ [.int top])))) (.mk ⟨_, rfl, sm5, h14, h25⟩) ?_ ?_
      · intro i σ H6 hi hP
        obtain ⟨s7, rfl, sm6, h16, h26⟩ := hP.un
        have hi1 : i < bs.length - 1 := by
          rw [List.length_map] at hi
          omega
        have hb6 := sq_same sm6 hb
        have hL6 := SqL.of (K := K) h16
        have hsl := subAt_len (start := (dvN bs row n).1.length - 1 - (bs.length - 1)) (top := top) (bs := bs) (r := (dvN bs row n).1.dropLast) (i := i)
        rw [List.length_dropLast] at hsl
        have eix : ((((dvN bs row n).1.map V.int).dropLast).length : Int) - (((bs.map V.int).length : Int) - 1) + (0 + (i : Int)) = (((dvN bs row n).1.length - 1 - (bs.length - 1) + i : Nat) : Int) := by
          rw [List.length_dropLast, List.length_map, List.length_map]
          omega
        have hlt : (dvN bs row n).1.length - 1 - (bs.length - 1) + i < (dvN bs row n).1.length - 1 := by omega
        have at1 : atI ((subAt ((dvN bs row n).1.length - 1 - (bs.length - 1)) top bs (dvN bs row n).1.dropLast i).map V.int) (((((dvN bs row n).1.map V.int).dropLast).length : Int) - (((bs.map V.int).length : Int) - 1) + (0 + (i : Int))) = some (.int ((subAt ((dvN bs row n).1.length - 1 - (bs.length - 1)) top bs (dvN bs row n).1.dropLast i).getD ((dvN bs row n).1.length - 1 - (bs.length - 1) + i) 0)) := by
          refine at_nat ?_ eix
          rw [List.getElem?_map, List.getD_eq_getElem?_getD, List.getElem?_eq_getElem (by omega)]
          rfl
        have hix : ixN ((subAt ((dvN bs row n).1.length - 1 - (bs.length - 1)) top bs (dvN bs row n).1.dropLast i).map V.int).length (((((dvN bs row n).1.map V.int).dropLast).length : Int) - (((bs.map V.int).length : Int) - 1) + (0 + (i : Int))) = some ((dvN bs row n).1.length - 1 - (bs.length - 1) + i) := by
          exact ixn_of (by rw [List.length_map]; omega) eix
        have at2 : atI (bs.map V.int) (0 + (i : Int)) = some (.int (bs.getD i 0)) := by
          refine at_nat (j := i) ?_ (by omega)
          rw [List.getElem?_map, List.getD_eq_getElem?_getD, List.getElem?_eq_getElem (by omega)]
          rfl
        have hbi : -1000000 ≤ bs.getD i 0 ∧ bs.getD i 0 ≤ 1000000 := by
          rw [List.getD_eq_getElem?_getD, List.getElem?_eq_getElem (by omega)]
          exact hbb _ (List.getElem_mem _)
        have cm : CMul top (bs.getD i 0) := .inr ⟨by omega, by omega⟩
        walk_at "ev"
        refine .mk ⟨_, rfl, same_mut sm6 hl1, ?_, ?_⟩
        · rw [upd_same, subAt, List.map_set]
        · rw [upd_ne n12.symm]
          exact h26
      · intro σ H6 hP
        obtain ⟨s7, rfl, sm6, h16, h26⟩ := hP.un
        have edg : (((bs.map V.int).length : Int) - 1).toNat = bs.length - 1 := by
          rw [List.length_map]
          omega
        rw [edg] at h16
        refine .mk ⟨row.length - (n + 1), by omega, n + 1, _, _, _, rfl, rfl, by omega, sm6, ?_, ?_⟩
        · rw [h16, dvN, dvS, htop]
        · rw [h26, dvN, dvS, htop]
          show _ = some (HO.lst (List.map _ (_ ++ _)))
          rw [List.map_append]
          rfl
    · have c1 : ¬ _ := fun z => c (decide_eq_true z)
      simp only [List.length_map, e1] at c1
      have hL2 := SqL.of (K := K) h2
      have en : n = row.length - (bs.length - 1) := by omega
      walk_at "ev"
      intro q1 hq
      generalize hG : upd _ q1 _ = H4
      obtain ⟨sm4, hq4⟩ := newO hG hq
      clear hG
      have hL4 := sm4.seq hL1
      walk_at "ev"
      intro l5 hl5
      generalize hG : upd _ l5 _ = H5
      obtain ⟨sm5, hq5⟩ := newO hG hl5
      clear hG
      have hL5 := sm5.seq hL4
      have z1 : ([V.int 0] : List V).length * ((((bs.map V.int).length : Int) - 1) - (((dvN bs row n).1.map V.int).length : Int)).toNat ≤ sizeLine := szl (by rw [List.length_map, List.length_map]; show 1 * _ ≤ 60000; omega)
      have z2 : -(2 ^ 63) ≤ (((bs.map V.int).length : Int) - 1) - (((dvN bs row n).1.map V.int).length : Int) := by rw [List.length_map, List.length_map]; omega
      have z3 : (((bs.map V.int).length : Int) - 1) - (((dvN bs row n).1.map V.int).length : Int) < 2 ^ 63 := by rw [List.length_map, List.length_map]; omega
      walk_at "ev"
      intro l6 hl6
      generalize hG : upd _ l6 _ = H6
      obtain ⟨sm6, hq6⟩ := newO hG hl6
      clear hG
      have h16 := (sm4.trans (sm5.trans sm6)) _ _ h1
      have z4 : ((dvN bs row n).1.map V.int).length + (List.replicate ((((bs.map V.int).length : Int) - 1) - (((dvN bs row n).1.map V.int).length : Int)).toNat [V.int 0]).flatten.length ≤ sizeLine := szl (by
        rw [rep_len, List.length_map, List.length_map]
        show _ ≤ 60000
        omega)
      walk_at "ev"
      intro l7 hl7
      generalize hG : upd _ l7 _ = H7
      obtain ⟨sm7, hq7⟩ := newO hG hl7
      clear hG
      walk_at "ev"
      intro t8 ht8
      generalize hG : upd _ t8 _ = H8
      obtain ⟨sm8, hq8⟩ := newO hG ht8
      clear hG
      have s48 := sm5.trans (sm6.trans (sm7.trans sm8))
      refine q t8 q1 l7 H8 (sm3.free hq) (sm3.trans (sm4.trans s48)) (SqT.of hq8) ?_ ((sm3.trans (sm4.trans (sm5.trans sm6))).free hl7) ?_
      · rw [s48 _ _ hq4, dvQ, ← en, List.map_reverse]
      · rw [sm8 _ _ hq7, dvR, ← en, List.map_append, rep_flat2, List.map_replicate, List.length_map, List.length_map]
        congr 4
        omega
theorem ok_divided {f : Addr} {fd : FuncData} {k : Nat} (F : Fun K "divided" "divided" s_divided f fd) (T : Blt mg) : FnOk P w K mg base CX0 (k + 1) f fd P_divided (spDvd K) :=
  fnsub (ok_divided2 F T) fun vs H Q E ⟨a, b, row, bs, h1, h2, h3, h4, h5, h6, h7, q⟩ => ⟨a, b, row, bs, h1, h2, .inl h3, h4, h5, h6, h7, fun t y z H' e1 e2 e3 e4 _ _ => q t y z H' e1 e2 e3 e4⟩
end
/-! ### wheels to thirty, by a table -/
def WT : List (List Int) := [[], [-1, 1], [1, 1], [1, 1, 1], [1, 0, 1], [1, 1, 1, 1, 1], [1, -1, 1], [1, 1, 1, 1, 1, 1, 1], [1, 0, 0, 0, 1], [1, 0, 0, 1, 0, 0, 1], [1, -1, 1, -1, 1], [1, 1, 1, 1, 1, 1, 1, 1, 1, 1, 1], [1, 0, -1, 0, 1], [1, 1, 1, 1, 1, 1, 1, 1, 1, 1, 1, 1, 1], [1, -1, 1, -1, 1, -1, 1], [1, -1, 0, 1, -1, 1, 0, -1, 1], [1, 0, 0, 0, 0, 0, 0, 0, 1], [1, 1, 1, 1, 1, 1, 1, 1, 1, 1, 1, 1, 1, 1, 1, 1, 1], [1, 0, 0, -1, 0, 0, 1], [1, 1, 1, 1, 1, 1, 1, 1, 1, 1, 1, 1, 1, 1, 1, 1, 1, 1, 1], [1, 0, -1, 0, 1, 0, -1, 0, 1], [1, -1, 0, 1, -1, 0, 1, 0, -1, 1, 0, -1, 1], [1, -1, 1, -1, 1, -1, 1, -1, 1, -1, 1], [1, 1, 1, 1, 1, 1, 1, 1, 1, 1, 1, 1, 1, 1, 1, 1, 1, 1, 1, 1, 1, 1, 1], [1, 0, 0, 0, -1, 0, 0, 0, 1], [1, 0, 0, 0, 0, 1, 0, 0, 0, 0, 1, 0, 0, 0, 0, 1, 0, 0, 0, 0, 1], [1, -1, 1, -1, 1, -1, 1, -1, 1, -1, 1, -1, 1], [1, 0, 0, 0, 0, 0, 0, 0, 0, 1, 0, 0, 0, 0, 0, 0, 0, 0, 1], [1, 0, -1, 0, 1, 0, -1, 0, 1, 0, -1, 0, 1], [1, 1, 1, 1, 1, 1, 1, 1, 1, 1, 1, 1, 1, 1, 1, 1, 1, 1, 1, 1, 1, 1, 1, 1, 1, 1, 1, 1, 1], [1, 1, 0, -1, -1, -1, 0, 1, 1]]
def whl (n : Nat) : List Int := WT.getD n []
def pdv (n : Nat) : List Nat := (List.range' 1 (n - 1)).filter fun d => decide (n % d = 0)
def whS (n : Nat) : List Int := [-1] ++ List.replicate (n - 1) 0 ++ [1]
theorem whl_ok : ∀ n < 31, 1 ≤ n → (pdv n).foldl (fun t d => dvQ (whl d) t) (whS n) = whl n := by decide +kernel
theorem whl_len : ∀ n < 31, 1 ≤ n → 1 ≤ (whl n).length ∧ (whl n).length ≤ 31 := by decide +kernel
theorem whl_bnd : ∀ n < 31, ∀ x ∈ whl n, -1000000 ≤ x ∧ x ≤ 1000000 := by decide +kernel
theorem dvQ_len {bs row : List Int} : (dvQ bs row).length ≤ row.length := by
  unfold dvQ
  rw [List.length_reverse, dvN_len.2]
  omega
theorem pdv_dv {n : Nat} (h : 1 ≤ n) : IsDv (n : Int) ((pdv n ++ [n]).map Int.ofNat) := by
  refine ⟨?_, fun k => ?_⟩
  · rw [List.pairwise_map, List.pairwise_append]
    refine ⟨?_, List.pairwise_singleton _ _, fun x hx y hy => ?_⟩
    · refine (List.Pairwise.filter _ (List.pairwise_lt_range' (s := 1) (n := n - 1))).imp fun {x y} z => ?_
      exact Int.ofNat_lt.mpr z
    · have h1 := (List.mem_filter.mp hx).1
      rw [List.mem_range'_1] at h1
      rw [List.mem_singleton.mp hy]
      exact Int.ofNat_lt.mpr (by omega)
  · rw [List.mem_map]
    constructor
    · rintro ⟨x, hx, rfl⟩
      rcases List.mem_append.mp hx with z | z
      · obtain ⟨h1, h2⟩ := List.mem_filter.mp z
        rw [List.mem_range'_1] at h1
        exact ⟨Int.ofNat_le.mpr h1.1, Int.ofNat_dvd.mpr (Nat.dvd_of_mod_eq_zero (of_decide_eq_true h2))⟩
      · rw [List.mem_singleton.mp z]
        exact ⟨Int.ofNat_le.mpr h, Int.dvd_refl _⟩
    · rintro ⟨h1, h2⟩
      obtain ⟨m, rfl⟩ := Int.eq_ofNat_of_zero_le (show 0 ≤ k by omega)
      have h3 : m ∣ n := Int.ofNat_dvd.mp h2
      have h4 := Nat.le_of_dvd (by omega) h3
      refine ⟨m, List.mem_append.mpr ?_, rfl⟩
      by_cases c : m = n
      · exact .inr (by rw [c]; exact List.mem_singleton.mpr rfl)
      · refine .inl (List.mem_filter.mpr ⟨?_, decide_eq_true (Nat.mod_eq_zero_of_dvd h3)⟩)
        rw [List.mem_range'_1]
        omega
theorem rep_flat {n : Nat} {v : V} : (List.replicate n [v]).flatten = List.replicate n v := by
  induction n with
  | zero => rfl
  | succ n ih =>
    rw [List.replicate_succ, List.flatten_cons, ih]
    rfl
theorem cut_last {xs : List V} {v : V} : cutV (xs ++ [v]) none (some (-1)) = xs := by
  unfold cutV
  have e : HT.sIx (xs ++ [v]).length (xs ++ [v]).length (some (-1)) = xs.length := by
    simp [HT.sIx]
    try omega
  have e0 : HT.sIx (xs ++ [v]).length 0 none = 0 := by simp [HT.sIx]
  rw [e, e0, List.drop_zero, Nat.sub_zero, List.take_left]
abbrev s_wheel : Stmt := top 18
abbrev N_wheel : List Str := ["order", "told", "divisor"]
abbrev P_wheel : List Str := ["order"]
theorem sc_wheel : FnScope N_wheel P_wheel (defScope s_wheel) := ⟨rfl, rfl, rfl, by decide +kernel, rfl, by decide +kernel, by decide +kernel⟩
def spWheel (j : Nat) : Sp := fun vs H Q _ => ∃ (n : Nat), vs = [.int (n : Int)] ∧ 1 ≤ n ∧ n < 31 ∧ n < 2 ^ j ∧ ∀ l H', H l = none → Same H H' → H' l = some (.lst ((whl n).map V.int)) → Q (.ref l) H'
section
variable {P : Program} {w : World} {K : PySem.W.Frag} {mg : Str → Option Value} {base : Heap}
theorem wheel_step {f f1 f2 : Addr} {fd d1 d2 : FuncData} {j : Nat} (D_wheel : Df K mg "wheel" s_wheel P_wheel f fd) (T : Blt mg) (D_divisors : Df K mg "divisors" s_divisors P_divisors f1 d1) (D_divided : Df K mg "divided" s_divided P_divided f2 d2)
    (G_wheel : FnOk P w K mg base CX0 (j + 1) f fd P_wheel (spWheel j)) : FnOk P w K mg base CX0 (j + 2) f fd P_wheel (spWheel (j + 1)) := by
  have F := D_wheel.F
  have G_divisors : FnOk P w K mg base CX0 1 f1 d1 P_divisors spDiv := ok_divisors D_divisors.F T
  have G_divided : FnOk P w K mg base CX0 1 f2 d2 P_divided (spDvd K) := ok_divided D_divided.F T
  have nd := sc_wheel.nd
  refine F.ok sc_wheel (fun vs H Q E h => ?_) (fun cdv A outer s H vs Q E hr h => ?_)
  · obtain ⟨n, rfl, _⟩ := h
    rfl
  · obtain ⟨n, rfl, n1, n31, nj, q⟩ := h
    refine ⟨_, (pss_cons (ps_set (i := 1) nd rfl (Or.inl rfl) (pe_op op_cat (pe_op op_cat (pe_lst (pa_cons (pe_un un_neg (pe_int)) pa_nil)) (pe_op op_rep (pe_lst (pa_cons (pe_int) pa_nil)) (pe_op op_sub (pv 0) (pe_int)))) (pe_lst (pa_cons (pe_int) pa_nil))))
      (pss_cons (ps_for PassesOwn.never rfl (pi_list (pe_slice (r := rSlL K) sl_list (pe_call G_divisors (hr.mono (by omega)) (by rfl) D_divisors.g D_divisors.F.kp D_divisors.b .nil pass0 (pa_cons (pv 0) pa_nil)) po_none (po_some (pe_un un_neg (pe_int))))) (pg_name (i := 2) nd rfl (Or.inl rfl))
      (pss_one (ps_set (i := 1) nd rfl (Or.inl rfl) (pe_ix (r := rIxT K) ix_tup (pe_call G_divided (hr.mono (by omega)) (by rfl) D_divided.g D_divided.F.kp D_divided.b .nil pass0 (pa_cons (pv 1) (pa_cons (pe_call G_wheel (hr.mono (by omega)) (by rfl) D_wheel.g D_wheel.F.kp D_wheel.b .nil pass0 (pa_cons (pv 2) pa_nil)) pa_nil))) (pe_int) (fun _ _ => rfl)))))
      (pss_one (ps_ret (pv 1))))), ?_⟩
    walk_at "ev"
    intro l1 hl1
    generalize hG : upd _ l1 _ = H1
    obtain ⟨sm1, hq1⟩ := newO hG hl1
    clear hG
    walk_at "ev"
    intro l2 hl2
    generalize hG : upd _ l2 _ = H2
    obtain ⟨sm2, hq2⟩ := newO hG hl2
    clear hG
    have z1 : ([V.int 0] : List V).length * ((n : Int) - 1).toNat ≤ sizeLine := szl (by show 1 * _ ≤ 60000; omega)
    walk_at "ev"
    intro l3 hl3
    generalize hG : upd _ l3 _ = H3
    obtain ⟨sm3, hq3⟩ := newO hG hl3
    clear hG
    have h13 := (sm2.trans sm3) _ _ hq1
    have z2 : ([(fun i => V.int (-i)) 1] : List V).length + (List.replicate ((n : Int) - 1).toNat [V.int 0]).flatten.length ≤ sizeLine := szl (by rw [rep_len]; show 1 + _ ≤ 60000; omega)
    walk_at "ev"
    intro l4 hl4
    generalize hG : upd _ l4 _ = H4
    obtain ⟨sm4, hq4⟩ := newO hG hl4
    clear hG
    walk_at "ev"
    intro l5 hl5
    generalize hG : upd _ l5 _ = H5
    obtain ⟨sm5, hq5⟩ := newO hG hl5
    clear hG
    have h45 := sm5 _ _ hq4
    have z3 : ([(fun i => V.int (-i)) 1] ++ (List.replicate ((n : Int) - 1).toNat [V.int 0]).flatten).length + ([V.int 1] : List V).length ≤ sizeLine := szl (by rw [List.length_append, rep_len]; show 1 + _ + 1 ≤ 60000; omega)
    walk_at "ev"
    intro l6 hl6
    generalize hG : upd _ l6 _ = H6
    obtain ⟨sm6, hq6⟩ := newO hG hl6
    clear hG
    have ew : [(fun i => V.int (-i)) 1] ++ (List.replicate ((n : Int) - 1).toNat [V.int 0]).flatten ++ [V.int 1] = (whS n).map V.int := by
      unfold whS
      rw [List.map_append, List.map_append, show ((n : Int) - 1).toNat = n - 1 by omega, List.map_replicate, rep_flat]
      rfl
    rw [ew] at hq6
    have s06 := sm1.trans (sm2.trans (sm3.trans (sm4.trans (sm5.trans sm6))))
    have f6 : H l6 = none := (sm1.trans (sm2.trans (sm3.trans (sm4.trans sm5)))).free hl6
    walk_at "ev"
    intro ds l7 H7 hdv hl7 sm7 hq7
    have eds := hdv.uniq (pdv_dv n1)
    subst eds
    have hL7 := SqL.of (K := K) hq7
    walk_at "ev"
    intro l8 hl8
    generalize hG : upd _ l8 _ = H8
    obtain ⟨sm8, hq8⟩ := newO hG hl8
    clear hG
    have ec : cutV (((pdv n ++ [n]).map Int.ofNat).map V.int) none (some (-1)) = (pdv n).map fun (d : Nat) => V.int (d : Int) := by
      rw [List.map_map, List.map_append]
      exact cut_last
    have hq8' : H8 l8 = some (.lst ((pdv n).map fun (d : Nat) => V.int (d : Int))) := by
      rw [hq8, ← ec]
    clear hq8
    have s08 := s06.trans (sm7.trans sm8)
    have f8 : H l8 = none := (s06.trans sm7).free hl8
    refine ⟨l8, rfl, ⟨_, SqL.of hq8'⟩, ?_⟩
    refine for_list (K := K) (a := l8) (xs := (pdv n).map fun (d : Nat) => V.int (d : Int)) (fun i σ H' => Hold (∃ (lt : Addr) (s2 : Option V), σ = [some (.int (n : Int)), some (.ref lt), s2] ∧ H lt = none ∧ Same H H' ∧ H' l8 = some (.lst ((pdv n).map fun (d : Nat) => V.int (d : Int))) ∧ (((pdv n).take i).foldl (fun t d => dvQ (whl d) t) (whS n)).length ≤ 1000 ∧ H' lt = some (.lst ((((pdv n).take i).foldl (fun t d => dvQ (whl d) t) (whS n)).map V.int)))) (.mk ⟨l6, _, rfl, f6, s08, hq8', ?_, (sm7.trans sm8) _ _ hq6⟩) ?_ ?_ ?_
    · show (whS n).length ≤ 1000
      unfold whS
      rw [List.length_append, List.length_append, List.length_replicate]
      show 1 + (n - 1) + 1 ≤ 1000
      omega
    · intro i σ Hx hi hP
      obtain ⟨lt, s2, rfl, ft, smx, hx8, hlen, hxt⟩ := hP.un
      exact SqL.of hx8
    · intro i v σ Hx hv hP
      obtain ⟨lt, s2, rfl, ft, smx, hx8, hlen, hxt⟩ := hP.un
      rw [List.getElem?_map] at hv
      obtain ⟨d, hd, ev⟩ := Option.map_eq_some_iff.mp hv
      subst ev
      obtain ⟨hd1, hd2⟩ := List.mem_filter.mp (List.mem_of_getElem? hd)
      rw [List.mem_range'_1] at hd1
      have hd3 := of_decide_eq_true hd2
      have hdn : 2 * d ≤ n := by
        obtain ⟨c, hc⟩ := Nat.dvd_of_mod_eq_zero hd3
        have c2 : 2 ≤ c := by
          apply Nat.le_of_not_lt
          intro z
          have : c = 0 ∨ c = 1 := by omega
          rcases this with z | z <;> subst z <;> omega
        have := Nat.mul_le_mul_left d c2
        omega
      have hdj : d < 2 ^ j := by
        rw [Nat.pow_succ] at nj
        omega
      have hd31 : d < 31 := by omega
      have hd0 : 1 ≤ d := hd1.1
      have hLt := SqL.of (K := K) hxt
      obtain ⟨wl1, wl2⟩ := whl_len d hd31 hd0
      have wl3 : (whl d).length ≤ 1000 := by omega
      have wb := whl_bnd d hd31
      walk_at "ev"
      intro lw H9 hlw sm9 hq9
      have hLw := SqL.of (K := K) hq9
      have hLt9 := sm9.seq hLt
      have et : ((pdv n).take (i + 1)).foldl (fun t d => dvQ (whl d) t) (whS n) = dvQ (whl d) (((pdv n).take i).foldl (fun t d => dvQ (whl d) t) (whS n)) := by
        rw [List.take_succ, hd, List.foldl_append]
        rfl
      have el := dvQ_len (bs := whl d) (row := ((pdv n).take i).foldl (fun t d => dvQ (whl d) t) (whS n))
      walk_at "ev"
      intro t10 q10 z10 H10 hq sm10 hT hq10
      have at0 : atI [V.ref q10, V.ref z10] 0 = some (.ref q10) := rfl
      walk_at "ev"
      refine .mk ⟨q10, _, rfl, (smx.trans sm9).free hq, smx.trans (sm9.trans sm10), (sm9.trans sm10) _ _ hx8, ?_, ?_⟩
      · rw [et]
        omega
      · rw [et]
        exact hq10
    · intro σ Hx hP
      obtain ⟨lt, s2, rfl, ft, smx, hx8, hlen, hxt⟩ := hP.un
      rw [List.length_map, List.take_length, whl_ok n n31 n1] at hxt
      walk_at "ev"
      exact q lt Hx ft smx hxt
theorem ok_wheel {f f1 f2 : Addr} {fd d1 d2 : FuncData} (D_wheel : Df K mg "wheel" s_wheel P_wheel f fd) (T : Blt mg) (D_divisors : Df K mg "divisors" s_divisors P_divisors f1 d1) (D_divided : Df K mg "divided" s_divided P_divided f2 d2) : ∀ j : Nat, FnOk P w K mg base CX0 (j + 1) f fd P_wheel (spWheel j)
  | 0 => ⟨fun _ _ _ _ ⟨n, _, h1, _, h2, _⟩ => absurd h2 (by rw [Nat.pow_zero]; omega), fun _ _ _ _ _ _ _ _ _ _ _ _ _ ⟨n, _, h1, _, h2, _⟩ => absurd h2 (by rw [Nat.pow_zero]; omega)⟩
  | j + 1 => wheel_step D_wheel T D_divisors D_divided (ok_wheel D_wheel T D_divisors D_divided j)
end
/-! ### the law's own multiplying -/
def addAt (start : Nat) (top : Int) (bs : List Int) (r : List Int) : Nat → List Int
  | 0 => r
  | i + 1 => (addAt start top bs r i).set (start + i) ((addAt start top bs r i).getD (start + i) 0 + top * bs.getD i 0)
theorem addAt_len {start : Nat} {top : Int} {bs r : List Int} {i : Nat} : (addAt start top bs r i).length = r.length := by
  induction i with
  | zero => rfl
  | succ i ih => rw [addAt, List.length_set, ih]
def pmN (one two : List Int) : Nat → List Int
  | 0 => List.replicate (one.length + two.length - 1) 0
  | n + 1 => addAt n (one.getD n 0) two (pmN one two n) two.length
theorem pmN_len {one two : List Int} {n : Nat} : (pmN one two n).length = one.length + two.length - 1 := by
  induction n with
  | zero => rw [pmN, List.length_replicate]
  | succ n ih => rw [pmN, addAt_len, ih]
def pmul (one two : List Int) : List Int := pmN one two one.length
theorem set_same {l : List Int} {k : Nat} (h : k < l.length) : l.set k (l.getD k 0) = l := by
  rw [List.getD_eq_getElem?_getD, List.getElem?_eq_getElem h]
  exact List.set_getElem_self h
theorem addAt_zero {start : Nat} {bs r : List Int} : ∀ {i : Nat}, start + i ≤ r.length → addAt start 0 bs r i = r
  | 0, _ => rfl
  | i + 1, h => by
    rw [addAt, addAt_zero (by omega), Int.zero_mul, Int.add_zero]
    exact set_same (by omega)
abbrev s_multiplied : Stmt := top 17
abbrev N_multiplied : List Str := ["one", "other", "told", "at", "part", "place", "worth"]
abbrev P_multiplied : List Str := ["one", "other"]
theorem sc_multiplied : FnScope N_multiplied P_multiplied (defScope s_multiplied) := ⟨rfl, rfl, rfl, by decide +kernel, rfl, by decide +kernel, by decide +kernel⟩
def spMulT (K : PySem.W.Frag) : Sp := fun vs H Q _ => ∃ (a b : Addr) (one two : List Int), vs = [.ref a, .ref b] ∧ SqT K H a (one.map V.int) ∧ SqT K H b (two.map V.int) ∧ 1 ≤ two.length ∧ two.length ≤ 1000 ∧ one.length ≤ 1000 ∧ (∀ x ∈ one, x.natAbs < 2 ^ 9000) ∧ (∀ x ∈ two, x.natAbs < 2 ^ 9000) ∧
  ∀ q H', H q = none → Same H H' → H' q = some (.lst ((pmul one two).map V.int)) → Q (.ref q) H'
section
variable {P : Program} {w : World} {K : PySem.W.Frag} {mg : Str → Option Value} {base : Heap}
theorem ok_mulT {f : Addr} {fd : FuncData} {k : Nat} (F : Fun K "multiplied" "multiplied" s_multiplied f fd) (T : Blt mg) : FnOk P w K mg base CX0 (k + 1) f fd P_multiplied (spMulT K) := by
  have nd := sc_multiplied.nd
  refine F.ok sc_multiplied (fun vs H Q E h => ?_) (fun cdv A outer s H vs Q E hr h => ?_)
  · obtain ⟨a, b, one, two, rfl, _⟩ := h
    rfl
  · obtain ⟨a, b, one, two, rfl, ha, hb, b1, b2, r1, hbo, hbb, q⟩ := h
    refine ⟨_, (pss_cons (ps_set (i := 2) nd rfl (Or.inl rfl) (pe_op op_rep (pe_lst (pa_cons (pe_int) pa_nil)) (pe_op op_sub (pe_op op_add (pe_callB (r := rLenQ K) call_len_seq (by rfl) T.b_len (by decide +kernel) (pa_cons (pv 0) pa_nil)) (pe_callB (r := rLenQ K) call_len_seq (by rfl) T.b_len (by decide +kernel) (pa_cons (pv 1) pa_nil))) (pe_int))))
      (pss_cons (ps_for PassesOwn.never rfl (pi_enumT (by rfl) T.b_enumerate (pa_cons (pv 0) pa_nil)) (pg_tup (by rfl) (pgs_cons (pg_name (i := 3) nd rfl (Or.inl rfl)) (pgs_cons (pg_name (i := 4) nd rfl (Or.inl rfl)) pgs_nil)))
      (pss_one (ps_if (pt_cmpR op_ne (pv 4) (pe_int) (nomark _)) (pss_one (ps_for PassesOwn.never rfl (pi_enumT (by rfl) T.b_enumerate (pa_cons (pv 1) pa_nil)) (pg_tup (by rfl) (pgs_cons (pg_name (i := 5) nd rfl (Or.inl rfl)) (pgs_cons (pg_name (i := 6) nd rfl (Or.inl rfl)) pgs_nil)))
      (pss_one (ps_augS (pv 2) (pe_op op_add (pv 3) (pv 5)) (get_list (X := _)) (pe_op op_mulW (pv 4) (pv 6)) ip_add set_list)))) pss_nil)))
      (pss_one (ps_ret (pv 2))))), ?_⟩
    have z2 : -(2 ^ 63) ≤ ((one.map V.int).length : Int) + ((two.map V.int).length : Int) - 1 := by rw [List.length_map, List.length_map]; omega
    have z3 : ((one.map V.int).length : Int) + ((two.map V.int).length : Int) - 1 < 2 ^ 63 := by rw [List.length_map, List.length_map]; omega
    have z1 : ([V.int 0] : List V).length * (((one.map V.int).length : Int) + ((two.map V.int).length : Int) - 1).toNat ≤ sizeLine := szl (by rw [List.length_map, List.length_map]; show 1 * _ ≤ 60000; omega)
    walk_at "ev"
    intro l0 hl0
    generalize hG : upd _ l0 _ = H0
    obtain ⟨sm0, hq0⟩ := newO hG hl0
    clear hG
    have ha0 := same_t sm0 ha
    have hb0 := same_t sm0 hb
    walk_at "ev"
    intro l1 hl1
    generalize hG : upd _ l1 _ = H1
    obtain ⟨sm1, hq1⟩ := newO hG hl1
    clear hG
    have en : (((one.map V.int).length : Int) + ((two.map V.int).length : Int) - 1).toNat = one.length + two.length - 1 := by
      rw [List.length_map, List.length_map]
      omega
    have hq1' : H1 l1 = some (.lst ((pmN one two 0).map V.int)) := by
      rw [hq1, pmN, en, rep_flat, List.map_replicate]
    clear hq1
    have sm01 := sm0.trans sm1
    have ha1 := same_t sm01 ha
    have f1 : H l1 = none := sm0.free hl1
    walk_at "ev"
    refine for_enumT (K := K) (a := a) (xs := one.map V.int) (fun n σ H' => Hold (∃ (s3 s4 s5 s6 : Option V), σ = [some (.ref a), some (.ref b), some (.ref l1), s3, s4, s5, s6] ∧ Same H H' ∧ H' l1 = some (.lst ((pmN one two n).map V.int)))) (.mk ⟨none, none, none, none, rfl, sm01, hq1'⟩) ?_ ?_ ?_
    · intro i σ H5 hP
      obtain ⟨s3, s4, s5, s6, rfl, sm5, h15⟩ := hP.un
      exact same_t sm5 ha
    · intro n v T' σ H5 hv hP hT
      obtain ⟨s3, s4, s5, s6, rfl, sm5, h15⟩ := hP.un
      rw [List.getElem?_map] at hv
      obtain ⟨top, hx, ev⟩ := Option.map_eq_some_iff.mp hv
      subst ev
      have hnl : n < one.length := (List.getElem?_eq_some_iff.mp hx).1
      have exn : one.getD n 0 = top := by rw [List.getD_eq_getElem?_getD, hx]; rfl
      generalize hG : upd _ T' _ = H6
      obtain ⟨sm6, hq6⟩ := newO hG hT
      clear hG
      have hT6 : SqT K H6 T' [.int (n : Nat), .int top] := SqT.of hq6
      have h16 := sm6 _ _ h15
      have sm06 := sm5.trans sm6
      have hb6 := same_t sm06 hb
      walk_at "ev"
      by_cases c0 : top = 0
      · subst c0
        refine iteFe rfl ?_
        walk_at "ev"
        refine .mk ⟨_, _, _, _, rfl, sm06, ?_⟩
        rw [h16, pmN, exn, addAt_zero (by rw [pmN_len]; omega)]
      refine iteTe (by simp [c0]) ?_
      walk_at "ev"
      refine for_enumT (K := K) (a := b) (xs := two.map V.int) (fun i σ H' => Hold (∃ (s5 s6 : Option V), σ = [some (.ref a), some (.ref b), some (.ref l1), some (.int (n : Nat)), some (.int top), s5, s6] ∧ Same H H' ∧ H' l1 = some (.lst ((addAt n top two (pmN one two n) i).map V.int)))) (.mk ⟨_, _, rfl, sm06, h16⟩) ?_ ?_ ?_
      · intro i σ H7 hP
        obtain ⟨s5, s6, rfl, sm7, h17⟩ := hP.un
        exact same_t sm7 hb
      · intro i v T2 σ H7 hv hP hT2
        obtain ⟨s5, s6, rfl, sm7, h17⟩ := hP.un
        rw [List.getElem?_map] at hv
        obtain ⟨x, hx2, ev⟩ := Option.map_eq_some_iff.mp hv
        subst ev
        have hil : i < two.length := (List.getElem?_eq_some_iff.mp hx2).1
        have exi : two.getD i 0 = x := by rw [List.getD_eq_getElem?_getD, hx2]; rfl
        have hxb := hbb x (List.mem_of_getElem? hx2)
        generalize hG : upd _ T2 _ = H8
        obtain ⟨sm8, hq8⟩ := newO hG hT2
        clear hG
        have hT8 : SqT K H8 T2 [.int (i : Nat), .int x] := SqT.of hq8
        have h18 := sm8 _ _ h17
        have hL8 := SqL.of (K := K) h18
        have hsl := addAt_len (start := n) (top := top) (bs := two) (r := pmN one two n) (i := i)
        rw [pmN_len] at hsl
        have at2 : atI ((addAt n top two (pmN one two n) i).map V.int) ((n : Nat) + (i : Nat)) = some (.int ((addAt n top two (pmN one two n) i).getD (n + i) 0)) := at_map (by omega) (by omega)
        have hix : ixN ((addAt n top two (pmN one two n) i).map V.int).length ((n : Nat) + (i : Nat)) = some (n + i) := ixn_of (by rw [List.length_map]; omega) (by omega)
        have cm : CMulW top x := wide_mul (hbo top (List.mem_of_getElem? hx)) hxb (by decide) (by decide) (by decide)
        walk_at "ev"
        refine .mk ⟨_, _, rfl, same_mut (sm7.trans sm8) f1, ?_⟩
        rw [upd_same, addAt, List.map_set, exi]
      · intro σ H7 hP
        obtain ⟨s5, s6, rfl, sm7, h17⟩ := hP.un
        rw [List.length_map] at h17
        refine .mk ⟨_, _, _, _, rfl, sm7, ?_⟩
        rw [h17, pmN, exn]
    · intro σ H5 hP
      obtain ⟨s3, s4, s5, s6, rfl, sm5, h15⟩ := hP.un
      rw [List.length_map] at h15
      walk_at "ev"
      exact q l1 H5 f1 sm5 h15
end
/-! ### the rest, as the law walks it -/
/-! ### how great they get -/
def Bd (A : Nat) (l : List Int) : Prop := ∀ x ∈ l, x.natAbs ≤ A
theorem Bd.up {A B : Nat} {l : List Int} (h : Bd A l) (e : A ≤ B) : Bd B l := fun x hx => Nat.le_trans (h x hx) e
theorem Bd.getD {A : Nat} {l : List Int} (h : Bd A l) (k : Nat) : (l.getD k 0).natAbs ≤ A := by
  rw [List.getD_eq_getElem?_getD]
  cases e : l[k]? with
  | none => exact Nat.zero_le _
  | some x => exact h x (List.mem_of_getElem? e)
theorem Bd.set {A : Nat} {l : List Int} {k : Nat} {v : Int} (h : Bd A l) (hv : v.natAbs ≤ A) : Bd A (l.set k v) := fun x hx => by
  rcases List.mem_or_eq_of_mem_set hx with z | z
  · exact h x z
  · rw [z]
    exact hv
theorem dvR_len {bs row : List Int} : (dvR bs row).length = bs.length - 1 := by
  unfold dvR
  obtain ⟨e1, _⟩ := dvN_len (bs := bs) (row := row) (n := row.length - (bs.length - 1))
  rw [List.length_append, List.length_replicate]
  omega
theorem pmul_len {one two : List Int} : (pmul one two).length = one.length + two.length - 1 := pmN_len
/-! ### either way about -/
def isum (f : Nat → Int) : Nat → Int
  | 0 => 0
  | n + 1 => isum f n + f n
theorem isum_congr {f g : Nat → Int} : ∀ {n : Nat}, (∀ i < n, f i = g i) → isum f n = isum g n
  | 0, _ => rfl
  | n + 1, h => by rw [isum, isum, isum_congr fun i hi => h i (by omega), h n (by omega)]
theorem isum_add {f g : Nat → Int} : ∀ {n : Nat}, isum (fun i => f i + g i) n = isum f n + isum g n
  | 0 => rfl
  | n + 1 => by
    rw [isum, isum, isum, isum_add]
    omega
theorem isum_zero : ∀ {n : Nat}, isum (fun _ => 0) n = 0
  | 0 => rfl
  | n + 1 => by rw [isum, isum_zero]; rfl
theorem isum_comm {f : Nat → Nat → Int} {m : Nat} : ∀ {n : Nat}, isum (fun i => isum (fun j => f i j) m) n = isum (fun j => isum (fun i => f i j) n) m
  | 0 => by rw [isum]; exact (isum_zero (n := m)).symm
  | n + 1 => by
    rw [isum, isum_comm (n := n), ← isum_add]
    exact isum_congr fun j _ => rfl
theorem addAt_get {start : Nat} {top : Int} {bs r : List Int} : ∀ {i : Nat}, start + i ≤ r.length → ∀ k, (addAt start top bs r i).getD k 0 = r.getD k 0 + isum (fun j => if start + j = k then top * bs.getD j 0 else 0) i
  | 0, _, k => by
    rw [addAt, isum]
    omega
  | i + 1, h, k => by
    have ih := addAt_get (top := top) (bs := bs) (i := i) (r := r) (start := start) (by omega)
    have hl := addAt_len (start := start) (top := top) (bs := bs) (r := r) (i := i)
    rw [addAt, isum]
    by_cases c : start + i = k
    · subst c
      rw [if_pos rfl, List.getD_eq_getElem?_getD, List.getElem?_set_self (by omega)]
      show _ + _ = _
      rw [ih]
      omega
    · rw [if_neg c, List.getD_eq_getElem?_getD, List.getElem?_set_ne c, ← List.getD_eq_getElem?_getD, ih]
      omega
theorem pmN_get {one two : List Int} (h2 : 1 ≤ two.length) : ∀ {n : Nat}, n ≤ one.length → ∀ k, (pmN one two n).getD k 0 = isum (fun i => isum (fun j => if i + j = k then one.getD i 0 * two.getD j 0 else 0) two.length) n
  | 0, _, k => by
    rw [pmN, isum, List.getD_eq_getElem?_getD]
    by_cases c : k < one.length + two.length - 1
    · rw [List.getElem?_replicate, if_pos c]
      rfl
    · rw [List.getElem?_replicate, if_neg c]
      rfl
  | n + 1, h, k => by
    rw [pmN, addAt_get (by rw [pmN_len]; omega), pmN_get h2 (by omega), isum]
theorem pmul_comm {one two : List Int} (h1 : 1 ≤ one.length) (h2 : 1 ≤ two.length) : pmul one two = pmul two one := by
  have e : ∀ k, (pmul one two).getD k 0 = (pmul two one).getD k 0 := fun k => by
    unfold pmul
    rw [pmN_get h2 (Nat.le_refl _), pmN_get h1 (Nat.le_refl _), isum_comm]
    refine isum_congr fun j _ => isum_congr fun i _ => ?_
    rw [Nat.add_comm i j, Int.mul_comm]
  have l1 : (pmul one two).length = (pmul two one).length := by rw [pmul_len, pmul_len, Nat.add_comm]
  refine List.ext_getElem l1 fun k a b => ?_
  have := e k
  rw [List.getD_eq_getElem?_getD, List.getD_eq_getElem?_getD, List.getElem?_eq_getElem a, List.getElem?_eq_getElem b] at this
  exact this
/-! ### the primes that are drawn -/
def GenAt (p : Int) : Prop := 2 ≤ p ∧ p ≤ 1000000 ∧ ∃ (fs out : List Int) (g0 : Int), Fac (p - 1) fs ∧ out.Pairwise (· < ·) ∧ (∀ k, k ∈ out ↔ k ∈ fs) ∧ IsPf (p - 1) out ∧ 1 ≤ g0 ∧ g0 < p ∧ GenOk p g0 (erl p out)
theorem gen_two : GenAt 2 := by
  refine ⟨by decide, by decide, [], [], 1, .one, .nil, fun k => Iff.rfl, ⟨.nil, fun k => ⟨fun h => by simp at h, fun ⟨a, b, _⟩ => ?_⟩⟩, by decide, by decide, fun e he => by simp [erl] at he⟩
  have := Int.le_of_dvd (by decide) b
  omega
theorem gen_odd {p : Nat} (h3 : 3 ≤ p) (hp : p ≤ 1000000) (h : ∀ out : List Int, (∀ k ∈ out, 2 ≤ k ∧ k ∣ (p : Int) - 1) → ∃ g0 : Int, 1 ≤ g0 ∧ g0 < p ∧ GenOk p g0 (erl p out)) : GenAt (p : Int) := by
  obtain ⟨fs, out, a, b, c, d⟩ := pf_ex (n := (p : Int) - 1) (by omega)
  obtain ⟨g0, e, f, g⟩ := h out fun k hk => by
    obtain ⟨u, v, _⟩ := (d.2 k).mp hk
    exact ⟨u, v⟩
  exact ⟨by omega, by omega, fs, out, g0, a, b, c, d, e, f, g⟩
theorem gen_prs {x : Int} (h : x ∈ prs 10000) : GenAt x := by
  obtain ⟨j, ej, j1, j2, j3⟩ := mem_prs.mp h
  rw [ej]
  by_cases j2' : j = 2
  · rw [j2']
    exact gen_two
  · refine gen_odd (by omega) (by omega) fun out ho => gen_small (by omega) (by omega) ?_ ho
    intro d d2 dd
    have : d * 2 ≤ d * d := Nat.mul_le_mul_left d d2
    exact pk_iff.mp j3 d d2 (by omega) dd
/-- a prime to ten thousand, as the law's sieve and as factors have it -/
theorem prs_iff {x : Int} : x ∈ prs 10000 ↔ x ≤ 10000 ∧ Fac x [x] := by
  constructor
  · intro h
    obtain ⟨j, ej, j1, j2, j3⟩ := mem_prs.mp h
    refine ⟨by omega, Fac.self (by omega) fun e e2 e3 k => ?_⟩
    obtain ⟨q, hq⟩ := k
    have q0 : 0 < q := by
      apply Int.lt_of_not_ge
      intro z
      have : e * q ≤ 0 := Int.mul_nonpos_of_nonneg_of_nonpos (by omega) z
      omega
    have q1 : q ≠ 1 := fun z => by
      rw [z, Int.mul_one] at hq
      omega
    have nat : ∀ u v : Int, 2 ≤ u → 2 ≤ v → u ≤ v → x = u * v → False := fun u v u2 v2 uv e => by
      have h1 : u * u ≤ x := by rw [e]; exact Int.mul_le_mul_of_nonneg_left uv (by omega)
      have h2 : u * 2 ≤ u * u := Int.mul_le_mul_of_nonneg_left u2 (by omega)
      have hu : ((u.toNat : Nat) : Int) = u := Int.toNat_of_nonneg (by omega)
      refine pk_iff.mp j3 u.toNat (by omega) (by omega) ?_ ?_
      · have : ((u.toNat * u.toNat : Nat) : Int) ≤ (j : Int) := by rw [Int.natCast_mul, hu]; omega
        omega
      · rw [← Int.natCast_dvd_natCast, hu, ← ej, e]
        exact ⟨v, rfl⟩
    rcases Int.le_total e q with z | z
    · exact nat e q e2 (by omega) z hq
    · exact nat q e (by omega) e2 z (by rw [Int.mul_comm]; exact hq)
  · rintro ⟨h1, h2⟩
    obtain ⟨h3, h4⟩ := Rough.of_fac h2
    refine mem_prs.mpr ⟨x.toNat, by omega, by omega, by omega, pk_iff.mpr fun d d2 _ dd k => ?_⟩
    have e : ((x.toNat : Nat) : Int) = x := Int.toNat_of_nonneg (by omega)
    have k2 := Int.natCast_dvd_natCast.mpr k
    rw [e] at k2
    have : d * 2 ≤ d * d := Nat.mul_le_mul_left d d2
    exact h4 (d : Int) (by omega) (by omega) k2
abbrev wrldK (n : Nat) (l : Addr) : List (Key × V) := [(.inr "kind", .str "roots"), (.inr "by", .int (n : Int)), (.inr "wheel", .ref l), (.inr "first", .non)]

abbrev wrldR (p g : Int) : List (Key × V) := [(.inr "kind", .str "rests"), (.inr "by", .int p), (.inr "wheel", .non), (.inr "first", .int g)]
inductive Gk
  | rests (p : Int)
  | roots (n : Nat)
def numM : Gk → Int
  | .rests p => p - 1
  | .roots n => (n : Int)
def GkOk : Gk → Prop
  | .rests p => p ∈ prs 10000
  | .roots n => 1 ≤ n ∧ n < 31
def prL : List Int := [97, 13, 31, 37, 61, 73, 181, 241, 337, 421, 257, 2521, 41, 17, 7, 5, 3, 2]
theorem prL_in : ∀ x ∈ prL, x ∈ prs 10000 := by
  have h : ∀ x ∈ prL, ∃ j : Nat, x = (j : Int) ∧ 2 ≤ j ∧ j ≤ 10000 ∧ pk 10001 j = true := by
    intro x hx
    simp only [prL, List.mem_cons, List.not_mem_nil, or_false] at hx
    rcases hx with z | z | z | z | z | z | z | z | z | z | z | z | z | z | z | z | z | z <;> subst z
    · exact ⟨97, rfl, by decide, by decide, by decide +kernel⟩
    · exact ⟨13, rfl, by decide, by decide, by decide +kernel⟩
    · exact ⟨31, rfl, by decide, by decide, by decide +kernel⟩
    · exact ⟨37, rfl, by decide, by decide, by decide +kernel⟩
    · exact ⟨61, rfl, by decide, by decide, by decide +kernel⟩
    · exact ⟨73, rfl, by decide, by decide, by decide +kernel⟩
    · exact ⟨181, rfl, by decide, by decide, by decide +kernel⟩
    · exact ⟨241, rfl, by decide, by decide, by decide +kernel⟩
    · exact ⟨337, rfl, by decide, by decide, by decide +kernel⟩
    · exact ⟨421, rfl, by decide, by decide, by decide +kernel⟩
    · exact ⟨257, rfl, by decide, by decide, by decide +kernel⟩
    · exact ⟨2521, rfl, by decide, by decide, by decide +kernel⟩
    · exact ⟨41, rfl, by decide, by decide, by decide +kernel⟩
    · exact ⟨17, rfl, by decide, by decide, by decide +kernel⟩
    · exact ⟨7, rfl, by decide, by decide, by decide +kernel⟩
    · exact ⟨5, rfl, by decide, by decide, by decide +kernel⟩
    · exact ⟨3, rfl, by decide, by decide, by decide +kernel⟩
    · exact ⟨2, rfl, by decide, by decide, by decide +kernel⟩
  intro x hx
  exact mem_prs.mpr (h x hx)
theorem prs_b {p : Int} (h : p ∈ prs 10000) : 2 ≤ p ∧ p ≤ 10000 := by
  obtain ⟨j, e, h1, h2, _⟩ := mem_prs.mp h
  omega
/-- a world of one kind -/
def WdM (H : Hp) (b d : Addr) (g : Gk) : Prop := d ≠ b ∧ match g with
  | .rests p => p ∈ prs 10000 ∧ ∃ q, (∃ out, IsPf (p - 1) out ∧ LeastGen p q (erl p out)) ∧ H d = some (.dK (wrldR p q))
  | .roots n => (1 ≤ n ∧ n < 31) ∧ ∃ l, l ≠ b ∧ H d = some (.dK (wrldK n l)) ∧ H l = some (.lst ((whl n).map V.int))
theorem WdM.ok {H : Hp} {b d : Addr} {g : Gk} (h : WdM H b d g) : GkOk g := by
  cases g with
  | rests p => exact h.2.1
  | roots n => exact h.2.1
theorem WdM.keep {H H' : Hp} {b d : Addr} {g : Gk} (h : WdM H b d g) (e : Keep b H H') : WdM H' b d g := by
  cases g with
  | rests p =>
    obtain ⟨h1, h2, q, hq, h3⟩ := h
    exact ⟨h1, h2, q, hq, e _ _ h1 h3⟩
  | roots n =>
    obtain ⟨h1, h2, l, h3, h4, h5⟩ := h
    exact ⟨h1, h2, l, h3, e _ _ h1 h4, e _ _ h3 h5⟩
theorem WdM.up {H H' : Hp} {b d : Addr} {g : Gk} (h : WdM H b d g) (e : Same H H') : WdM H' b d g := h.keep (keepS e)
theorem whl_l23 : ∀ n < 31, 1 ≤ n → 2 ≤ (whl n).length ∧ (whl n).length ≤ 31 := by decide +kernel
theorem least_ex {p g0 : Int} {es : List Int} (h1 : 1 ≤ g0) (h2 : g0 < p) (h : GenOk p g0 es) : ∃ g, LeastGen p g es := by
  obtain ⟨n, rfl⟩ := Int.eq_ofNat_of_zero_le (show 0 ≤ g0 by omega)
  induction n using Nat.strongRecOn with
  | _ n ih =>
    by_cases c : ∃ m : Nat, 1 ≤ m ∧ m < n ∧ GenOk p (m : Int) es
    · obtain ⟨m, m1, m2, m3⟩ := c
      exact ih m m2 (by omega) (by omega) m3
    · refine ⟨n, h1, h2, h, fun x x1 x2 hx => ?_⟩
      obtain ⟨m, rfl⟩ := Int.eq_ofNat_of_zero_le (show 0 ≤ x by omega)
      exact c ⟨m, by omega, by omega, hx⟩
theorem least_prs {p : Int} (h : p ∈ prs 10000) : ∃ g out, IsPf (p - 1) out ∧ LeastGen p g (erl p out) := by
  obtain ⟨_, _, fs, out, g0, _, _, _, hpf, g1, gp, gok⟩ := gen_prs h
  obtain ⟨g, hg⟩ := least_ex g1 gp gok
  exact ⟨g, out, hpf, hg⟩
theorem least_un {p x y : Int} {o1 o2 : List Int} (h1 : IsPf (p - 1) o1) (h2 : IsPf (p - 1) o2) (a : LeastGen p x (erl p o1)) (b : LeastGen p y (erl p o2)) : x = y := by
  have e : o1 = o2 := srt_ext h1.1 h2.1 fun k => by rw [h1.2, h2.2]
  subst e
  obtain ⟨a1, a2, a3, a4⟩ := a
  obtain ⟨b1, b2, b3, b4⟩ := b
  rcases Int.lt_trichotomy x y with z | z | z
  · exact absurd a3 (b4 x a1 z)
  · exact z
  · exact absurd b3 (a4 y b1 z)
/-! ### worths of either ground, by their numbers -/
inductive Wt
  | i (x : Int)
  | v (xs : List Int)
theorem sqt_mut {K : PySem.W.Frag} {H : Hp} {a D : Addr} {xs ys : List V} {o : HO} (h : SqT K H a xs) (e : H D = some (.lst ys)) : SqT K (upd H D o) a xs := by
  rcases h with (h | ⟨u, h⟩) | h
  · exact .inl (.inl (by rw [upd_ne (fun z => by rw [z, e] at h; cases h)]; exact h))
  · exact .inl (.inr ⟨u, by rw [upd_ne (fun z => by rw [z, e] at h; cases h)]; exact h⟩)
  · exact .inr h
theorem sqt_keep {K : PySem.W.Frag} {H H' : Hp} {a b : Addr} {xs : List V} {c : Int} (h : SqT K H a xs) (hb : BoxAt H b c) (k : Keep b H H') : SqT K H' a xs := by
  obtain ⟨x, y, z, a1, a2⟩ := hb
  rcases h with (h | ⟨u, h⟩) | h
  · exact .inl (.inl (k _ _ (fun z => by rw [z, a1] at h; cases h) h))
  · exact .inl (.inr ⟨u, k _ _ (fun z => by rw [z, a1] at h; cases h) h⟩)
  · exact .inr h
def WtAt (K : PySem.W.Frag) (H : Hp) (u : V) : Wt → Prop
  | .i x => u = .int x
  | .v xs => ∃ t, u = .ref t ∧ SqT K H t (xs.map V.int)
theorem WtAt.same {K : PySem.W.Frag} {H H' : Hp} {u : V} {w : Wt} (h : WtAt K H u w) (e : Same H H') : WtAt K H' u w := by
  cases w with
  | i x => exact h
  | v xs =>
    obtain ⟨t, h1, h2⟩ := h
    exact ⟨t, h1, same_t e h2⟩
theorem WtAt.mut {K : PySem.W.Frag} {H : Hp} {u : V} {w : Wt} {D : Addr} {xs : List V} {o : HO} (h : WtAt K H u w) (e : H D = some (.lst xs)) : WtAt K (upd H D o) u w := by
  cases w with
  | i x => exact h
  | v ys =>
    obtain ⟨t, h1, h2⟩ := h
    exact ⟨t, h1, sqt_mut h2 e⟩
theorem WtAt.keep {K : PySem.W.Frag} {H H' : Hp} {u : V} {w : Wt} {b : Addr} {c : Int} (h : WtAt K H u w) (hb : BoxAt H b c) (k : Keep b H H') : WtAt K H' u w := by
  cases w with
  | i x => exact h
  | v ys =>
    obtain ⟨t, h1, h2⟩ := h
    exact ⟨t, h1, sqt_keep h2 hb k⟩
def wl (n : Nat) : Nat := (whl n).length - 1
def nm : Gk → Wt → Prop
  | .rests p, .i x => 0 ≤ x ∧ x < p
  | .roots n, .v xs => xs.length = wl n
  | _, _ => False
def bw : Wt → Prop
  | .i _ => True
  | .v xs => ∀ x ∈ xs, x.natAbs < 2 ^ 9000
def gz : Gk → Wt
  | .rests _ => .i 0
  | .roots n => .v (List.replicate (wl n) 0)
def gadd : Gk → Wt → Wt → Wt
  | .rests p, .i a, .i b => .i ((a + b) % p)
  | .roots _, .v a, .v b => .v (List.zipWith (· + ·) a b)
  | g, _, _ => gz g
def gmul : Gk → Wt → Wt → Wt
  | .rests p, .i a, .i b => .i (a * b % p)
  | .roots n, .v a, .v b => .v (dvR (whl n) (pmul a b))
  | g, _, _ => gz g
def co : Wt → Nat → Int
  | .i x, t => if t = 0 then x else 0
  | .v xs, t => xs.getD t 0
def nr : Gk → Int → Int
  | .rests p, x => x % p
  | .roots _, x => x
theorem wl1 {n : Nat} (h1 : 1 ≤ n) (h : n < 31) : 1 ≤ wl n ∧ wl n ≤ 30 := by
  have h2 := whl_l23 n h h1
  unfold wl
  omega
theorem nm_z {g : Gk} (h : GkOk g) : nm g (gz g) := by
  cases g with
  | rests p =>
    have := prs_b h
    exact ⟨by omega, by omega⟩
  | roots n => exact List.length_replicate
theorem nm_add {g : Gk} {a b : Wt} (h : GkOk g) (ha : nm g a) (hb : nm g b) : nm g (gadd g a b) := by
  cases g with
  | rests p =>
    have := prs_b h
    cases a with
    | v xs => exact ha.elim
    | i a =>
      cases b with
      | v xs => exact hb.elim
      | i b => exact ⟨Int.emod_nonneg _ (by omega), Int.emod_lt_of_pos _ (by omega)⟩
  | roots n =>
    cases a with
    | i a => exact ha.elim
    | v a =>
      cases b with
      | i b => exact hb.elim
      | v b =>
        have h1 : a.length = wl n := ha
        have h2 : b.length = wl n := hb
        show (List.zipWith (· + ·) a b).length = wl n
        rw [List.length_zipWith]
        omega
theorem nm_mul {g : Gk} {a b : Wt} (h : GkOk g) (ha : nm g a) (hb : nm g b) : nm g (gmul g a b) := by
  cases g with
  | rests p =>
    have := prs_b h
    cases a with
    | v xs => exact ha.elim
    | i a =>
      cases b with
      | v xs => exact hb.elim
      | i b => exact ⟨Int.emod_nonneg _ (by omega), Int.emod_lt_of_pos _ (by omega)⟩
  | roots n =>
    cases a with
    | i a => exact ha.elim
    | v a =>
      cases b with
      | i b => exact hb.elim
      | v b => exact dvR_len
theorem mul_cm {g : Gk} {a b : Wt} (h : GkOk g) (ha : nm g a) (hb : nm g b) : gmul g a b = gmul g b a := by
  cases g with
  | rests p =>
    cases a with
    | v xs => exact ha.elim
    | i a =>
      cases b with
      | v xs => exact hb.elim
      | i b =>
        show Wt.i _ = Wt.i _
        rw [Int.mul_comm]
  | roots n =>
    obtain ⟨w1, w2⟩ := wl1 h.1 h.2
    cases a with
    | i a => exact ha.elim
    | v a =>
      cases b with
      | i b => exact hb.elim
      | v b =>
        have h1 : a.length = wl n := ha
        have h2 : b.length = wl n := hb
        show Wt.v _ = Wt.v _
        rw [pmul_comm (by omega) (by omega)]
theorem co_z {g : Gk} {t : Nat} : co (gz g) t = 0 := by
  cases g with
  | rests p =>
    show (if t = 0 then (0 : Int) else 0) = 0
    split <;> rfl
  | roots n =>
    show (List.replicate (wl n) (0 : Int)).getD t 0 = 0
    rw [List.getD_eq_getElem?_getD, List.getElem?_replicate]
    split <;> rfl
/-! ### sums of rows -/
def Nms (g : Gk) (ws : List Wt) : Prop := ∀ w ∈ ws, nm g w
theorem Nms.getD {g : Gk} {ws : List Wt} (h : GkOk g) (hw : Nms g ws) (k : Nat) : nm g (ws.getD k (gz g)) := by
  rw [List.getD_eq_getElem?_getD]
  cases e : ws[k]? with
  | none => exact nm_z h
  | some w => exact hw w (List.mem_of_getElem? e)
theorem Nms.set {g : Gk} {ws : List Wt} {k : Nat} {w : Wt} (hw : Nms g ws) (h : nm g w) : Nms g (ws.set k w) := fun x hx => by
  rcases List.mem_or_eq_of_mem_set hx with z | z
  · exact hw x z
  · rw [z]
    exact h
/-! ### the ground of rests -/
abbrev restF (p g : Int) : List (Str × V) := [(("prime" : Str), .int p), (("base" : Str), .int g)]
def RestAt (C : Addr) (H : Hp) (a : Addr) (p : Int) : Prop := ∃ dx g, H a = some (.ins C dx (restF p g)) ∧ ∃ out, IsPf (p - 1) out ∧ LeastGen p g (erl p out)
theorem RestAt.same {C : Addr} {H H' : Hp} {a : Addr} {p : Int} (h : RestAt C H a p) (e : Same H H') : RestAt C H' a p := by
  obtain ⟨dx, g, h1, h2⟩ := h
  exact ⟨dx, g, e _ _ h1, h2⟩
theorem RestAt.keep {C b : Addr} {H H' : Hp} {a : Addr} {p : Int} (h : RestAt C H a p) (n : a ≠ b) (e : Keep b H H') : RestAt C H' a p := by
  obtain ⟨dx, g, h1, h2⟩ := h
  exact ⟨dx, g, e _ _ n h1, h2⟩
theorem RestAt.some {C : Addr} {H : Hp} {a : Addr} {p : Int} (h : RestAt C H a p) : ∃ o, H a = some o := by
  obtain ⟨dx, g, h1, h2⟩ := h
  exact ⟨_, h1⟩
abbrev s_Rests___init__ : Stmt := inClass (top 22) 0
abbrev N_Rests___init__ : List Str := ["self", "prime"]
abbrev P_Rests___init__ : List Str := ["self", "prime"]
theorem sc_Rests___init__ : FnScope N_Rests___init__ P_Rests___init__ (defScope s_Rests___init__) := ⟨rfl, rfl, rfl, by decide +kernel, rfl, by decide +kernel, by decide +kernel⟩
/-- Rests(v): a new one of each prime to ten thousand; BadGround of all else -/
def spRI (K : PySem.W.Frag) (C CB : Addr) : Sp := fun vs H Q E => ∃ (a dx : Addr) (v : V) (t : String), vs = [.ref a, v] ∧ H a = some (.ins C dx []) ∧ Kd K H v t ∧
  (∀ p, v = .int p → p ∈ prs 10000 → ∀ H', Keep a H H' → RestAt C H' a p → Q .non H') ∧
  ((¬ ∃ p, v = .int p ∧ p ∈ prs 10000) → ∀ d H', H d = none → Same H H' → H' d = some (.xd [(("what" : Str), v)]) → E (.ref CB) (some d) H')
structure RestC (K : PySem.W.Frag) (C : Addr) : Prop where
  cl : L2.Cls K C
  np : NoAttr K C "prime"
  nb : NoAttr K C "base"
section
variable {P : Program} {w : World} {K : PySem.W.Frag} {mg : Str → Option Value} {base : Heap}
theorem ok_ri {f f1 f2 f3 f4 f5 fI C CB CT : Addr} {fd d1 d2 d3 d4 d5 fdI : FuncData} {k : Nat} {tM : Tok} (F : Fun K "__init__" "Rests.__init__" s_Rests___init__ f fd) (T : Blt mg) (RC : RestC K C) (D_is_whole : Df K mg "is_whole" s_is_whole P_is_whole f1 d1) (D_factors : Df K mg "factors" s_factors P_factors f2 d2) (D_is_prime : Df K mg "is_prime" s_is_prime P_is_prime f3 d3)
    (D_power_rest : Df K mg "power_rest" s_power_rest P_power_rest f4 d4) (D_generator : Df K mg "generator" s_generator P_generator f5 d5) (M_MOST_PRIME : mg "MOST_PRIME" = some (.int 10000 tM)) (FI : Fun K "__init__" "TurnError.__init__" s_init fI fdI) (I_b : Binds K fdI N_init []) (I_ty : PySem.W.typeIn K (.ref fI) = some (.type "function"))
    (R : Ref K CT CB fI) (M_BadGround : mg "BadGround" = some (.ref CB)) : FnOk P w K mg base (L2.CX P w) (k + 3) f fd P_Rests___init__ (spRI K C CB) := by
  have G_is_whole : FnOk P w K mg base CX0 (k + 1) f1 d1 P_is_whole (spWhole K) := ok_whole D_is_whole.F T
  have G_is_prime : FnOk P w K mg base CX0 (k + 2) f3 d3 P_is_prime (spPrime K) := ok_prime D_is_prime.F T D_is_whole D_factors
  have G_generator : FnOk P w K mg base CX0 (k + 2) f5 d5 P_generator spGen := ok_generator D_generator.F T D_factors D_power_rest
  have G_init : FnOk P w K mg base CX0 1 fI fdI N_init (spInit K) := ok_init FI
  have EK_BadGround := R.ek
  have II_BadGround := R.ini
  have nd := sc_Rests___init__.nd
  refine F.okX sc_Rests___init__ (fun vs H Q E h => ?_) (fun cdv A outer s H vs Q E hr h => ?_)
  · obtain ⟨a, dx, v, t, rfl, _⟩ := h
    rfl
  · obtain ⟨a, dx, v, t, rfl, ha, kd, qy, qn⟩ := h
    refine ⟨_, (pss_cons (ps_if (PW.pt (pw_or (pt_not (pt_val (pe_call G_is_whole (hr.mono (by omega)) (by rfl) D_is_whole.g D_is_whole.F.kp D_is_whole.b .nil pass0 (pa_cons (pv 1) pa_nil)))) (pw_or (pt_cmpR op_gt (pv 1) (pe_glob (v := .int 10000) (by rfl) M_MOST_PRIME ⟨_, rfl⟩) (nomark _)) (pw_or1 (pt_not (pt_val (pe_call G_is_prime (hr.mono (by omega)) (by rfl) D_is_prime.g D_is_prime.F.kp D_is_prime.b .nil pass0 (pa_cons (pv 1) pa_nil)))))))) (pss_one (ps_raise rfl (takes_of rfl rfl rfl rfl) (pmk_oex EK_BadGround.oex II_BadGround I_ty G_init (hr.mono (by omega)) I_b .nil pass0 (by rfl) M_BadGround (pa_cons (pv 1) pa_nil)))) pss_nil)
      (pss_cons (ps_fld (pv 0) (pv 1) (by rfl))
      (pss_one (ps_fld (pv 0) (pe_call G_generator (hr.mono (by omega)) (by rfl) D_generator.g D_generator.F.kp D_generator.b .nil pass0 (pa_cons (pv 1) pa_nil)) (by rfl))))), ?_⟩
    obtain ⟨cl, np, nb⟩ := RC
    have bad : ∀ H1, Same H H1 → (¬ ∃ p, v = .int p ∧ p ∈ prs 10000) → ∀ z, H1 z = none → _ := fun H1 sm1 no => mk_what (v := v) (Q := E) R.ek fun d H2 hd sm2 hq => qn no d H2 (sm1.free hd) (sm1.trans sm2) hq
    walk_at "ev"
    cases kd with
    | int p =>
      walk_at "ev"
      refine ite2 (fun e => ?_) (fun e => ?_)
      · have e1 : 10000 < p := of_decide_eq_true e
        refine ⟨_, rfl, (by show 1 ≤ 1000; decide), bad _ (Same.refl _) ?_⟩
        rintro ⟨p', h1, h2⟩
        cases h1
        have := (prs_iff.mp h2).1
        omega
      · have e1 : ¬ 10000 < p := fun z => e (decide_eq_true z)
        have kdp : Kd K H (.int p) "int" := .int p
        have bnd : ∀ n, V.int p = .int n → n ≤ 1000000000 := fun n z => by
          cases z
          omega
        walk_at "ev"
        intro b H1 sm1 hb
        walk_at "ev"
        cases b with
        | false =>
          have no : ¬ ∃ q, V.int p = .int q ∧ q ∈ prs 10000 := by
            rintro ⟨p', h1, h2⟩
            cases h1
            exact Bool.noConfusion (hb.mpr ⟨p, rfl, (prs_iff.mp h2).2⟩)
          walk_at "ev"
          exact bad _ sm1 no
        | true =>
          obtain ⟨p', h1, h2⟩ := hb.mp rfl
          cases h1
          have hp : p ∈ prs 10000 := prs_iff.mpr ⟨by omega, h2⟩
          obtain ⟨p2, p6, fs, out, g0, hf, hso, hmo, hpf, g1, gp, gok⟩ := gen_prs hp
          have ha1 := sm1 _ _ ha
          walk_at "ev"
          generalize hG : upd H1 a _ = H2
          obtain ⟨k2, hq2⟩ := mutO hG
          clear hG
          walk_at "ev"
          intro g H3 sm3 hg
          have ha3 := sm3 _ _ hq2
          walk_at "ev"
          refine ⟨(by show 1 < 1000; decide), ?_⟩
          exact qy p rfl hp _ (((keepS sm1).trans (k2.trans (keepS sm3))).trans (keep_upd (Keep.refl _ _))) ⟨dx, g, upd_same, out, hpf, hg⟩
    | _ =>
      walk_at "ev"
      refine bad _ (Same.refl _) ?_
      rintro ⟨p', h1, h2⟩
      cases h1
end
abbrev s_Rests_sum_of : Stmt := inClass (top 22) 7
abbrev N_Rests_sum_of : List Str := ["self", "one", "other"]
abbrev P_Rests_sum_of : List Str := ["self", "one", "other"]
theorem sc_Rests_sum_of : FnScope N_Rests_sum_of P_Rests_sum_of (defScope s_Rests_sum_of) := ⟨rfl, rfl, rfl, by decide +kernel, rfl, by decide +kernel, by decide +kernel⟩
def sp_sum_of (C : Addr) : Sp := fun vs H Q _ => ∃ (a : Addr) (p x y : Int), vs = [.ref a, .int x, .int y] ∧ RestAt C H a p ∧ 2 ≤ p ∧ p ≤ 10000 ∧ 0 ≤ x ∧ x < p ∧ 0 ≤ y ∧ y < p ∧ Q (.int ((x + y) % p)) H
section
variable {P : Program} {w : World} {K : PySem.W.Frag} {mg : Str → Option Value} {base : Heap}
theorem ok_sum_of {f C : Addr} {fd : FuncData} {k : Nat} (F : Fun K "sum_of" "Rests.sum_of" s_Rests_sum_of f fd) (RC : RestC K C) : FnOk P w K mg base CX0 (k + 1) f fd P_Rests_sum_of (sp_sum_of C) := by
  have nd := sc_Rests_sum_of.nd
  refine F.ok sc_Rests_sum_of (fun vs H Q E h => ?_) (fun cdv A outer s H vs Q E hr h => ?_)
  · obtain ⟨a, p, x, y, rfl, _⟩ := h
    rfl
  · obtain ⟨a, p, x, y, rfl, ⟨dx, g, ha, hg⟩, p2, p6, x0, x1, y0, y1, q⟩ := h
    refine ⟨_, (pss_one (ps_ret (pe_op op_mod (pe_op op_add (pv 1) (pv 2)) (pe_fld (pv 0) (by rfl))))), ?_⟩
    obtain ⟨cl, np, nb⟩ := RC
    have cm : CMul x y := .inl ⟨by omega, by omega⟩
    walk_at "ev"
    exact q
end
abbrev s_Rests_product_of : Stmt := inClass (top 22) 9
abbrev N_Rests_product_of : List Str := ["self", "one", "other"]
abbrev P_Rests_product_of : List Str := ["self", "one", "other"]
theorem sc_Rests_product_of : FnScope N_Rests_product_of P_Rests_product_of (defScope s_Rests_product_of) := ⟨rfl, rfl, rfl, by decide +kernel, rfl, by decide +kernel, by decide +kernel⟩
def sp_product_of (C : Addr) : Sp := fun vs H Q _ => ∃ (a : Addr) (p x y : Int), vs = [.ref a, .int x, .int y] ∧ RestAt C H a p ∧ 2 ≤ p ∧ p ≤ 10000 ∧ 0 ≤ x ∧ x < p ∧ 0 ≤ y ∧ y < p ∧ Q (.int ((x * y) % p)) H
section
variable {P : Program} {w : World} {K : PySem.W.Frag} {mg : Str → Option Value} {base : Heap}
theorem ok_product_of {f C : Addr} {fd : FuncData} {k : Nat} (F : Fun K "product_of" "Rests.product_of" s_Rests_product_of f fd) (RC : RestC K C) : FnOk P w K mg base CX0 (k + 1) f fd P_Rests_product_of (sp_product_of C) := by
  have nd := sc_Rests_product_of.nd
  refine F.ok sc_Rests_product_of (fun vs H Q E h => ?_) (fun cdv A outer s H vs Q E hr h => ?_)
  · obtain ⟨a, p, x, y, rfl, _⟩ := h
    rfl
  · obtain ⟨a, p, x, y, rfl, ⟨dx, g, ha, hg⟩, p2, p6, x0, x1, y0, y1, q⟩ := h
    refine ⟨_, (pss_one (ps_ret (pe_op op_mod (pe_op op_mul (pv 1) (pv 2)) (pe_fld (pv 0) (by rfl))))), ?_⟩
    obtain ⟨cl, np, nb⟩ := RC
    have cm : CMul x y := .inl ⟨by omega, by omega⟩
    walk_at "ev"
    exact q
end
abbrev s_Rests_has_root : Stmt := inClass (top 22) 4
abbrev N_Rests_has_root : List Str := ["self", "length"]
abbrev P_Rests_has_root : List Str := ["self", "length"]
theorem sc_Rests_has_root : FnScope N_Rests_has_root P_Rests_has_root (defScope s_Rests_has_root) := ⟨rfl, rfl, rfl, by decide +kernel, rfl, by decide +kernel, by decide +kernel⟩
def sp_hasroot (C : Addr) : Sp := fun vs H Q _ => ∃ (a : Addr) (p l : Int), vs = [.ref a, .int l] ∧ RestAt C H a p ∧ 1 ≤ l ∧ l ≤ 1000000 ∧ Q (.bl (decide ((p - 1) % l = 0))) H
abbrev s_Rests_root_at : Stmt := inClass (top 22) 10
abbrev N_Rests_root_at : List Str := ["self", "length", "power"]
abbrev P_Rests_root_at : List Str := ["self", "length", "power"]
theorem sc_Rests_root_at : FnScope N_Rests_root_at P_Rests_root_at (defScope s_Rests_root_at) := ⟨rfl, rfl, rfl, by decide +kernel, rfl, by decide +kernel, by decide +kernel⟩
/-- root_at: the power of the least generator; NoRoot -/
def sp_rootat (C CR : Addr) : Sp := fun vs H Q E => ∃ (a : Addr) (p l e : Int), vs = [.ref a, .int l, .int e] ∧ RestAt C H a p ∧ p ∈ prs 10000 ∧ 1 ≤ l ∧ l ≤ 1000000 ∧
  ((p - 1) % l = 0 → ∀ g out, IsPf (p - 1) out → LeastGen p g (erl p out) → Q (.int (g ^ ((p - 1) / l * (e % l)).toNat % p)) H) ∧
  (¬ (p - 1) % l = 0 → ∀ d H', H d = none → Same H H' → H' d = some (.xd [(("what" : Str), .int l)]) → E (.ref CR) (some d) H')
section
variable {P : Program} {w : World} {K : PySem.W.Frag} {mg : Str → Option Value} {base : Heap}
theorem ok_hasroot {f C : Addr} {fd : FuncData} {k : Nat} (F : Fun K "has_root" "Rests.has_root" s_Rests_has_root f fd) (RC : RestC K C) : FnOk P w K mg base CX0 (k + 1) f fd P_Rests_has_root (sp_hasroot C) := by
  have nd := sc_Rests_has_root.nd
  refine F.ok sc_Rests_has_root (fun vs H Q E h => ?_) (fun cdv A outer s H vs Q E hr h => ?_)
  · obtain ⟨a, p, l, rfl, _⟩ := h
    rfl
  · obtain ⟨a, p, l, rfl, ⟨dx, g, ha, hg⟩, l1, l6, q⟩ := h
    refine ⟨_, (pss_one (ps_ret (pe_and (pe_cmpR op_gt (pv 1) (pe_int) (nomark _)) (pe_one (pe_cmpR op_eq (pe_op op_mod (pe_op op_sub (pe_fld (pv 0) (by rfl)) (pe_int)) (pv 1)) (pe_int) (nomark _)))))), ?_⟩
    obtain ⟨cl, np, nb⟩ := RC
    have c1 : decide ((0 : Int) < l) = true := decide_eq_true (by omega)
    walk_at "ev"
    refine iteTe c1 ?_
    walk_at "ev"
    have e : decide (V.int ((p - 1) % l) = V.int 0) = decide ((p - 1) % l = 0) := by
      exact decide_eq_decide.mpr ⟨fun h => V.int.inj h, fun h => congrArg V.int h⟩
    rw [e]
    exact q
theorem ok_rootat {f f1 f2 fI C CR CT : Addr} {fd d1 d2 fdI : FuncData} {k : Nat} (F : Fun K "root_at" "Rests.root_at" s_Rests_root_at f fd) (RC : RestC K C) (ME_Rests_has_root : Meth K C "has_root" f1) (B_Rests_has_root : Binds K d1 P_Rests_has_root []) (F1 : Fun K "has_root" "Rests.has_root" s_Rests_has_root f1 d1) (D_power_rest : Df K mg "power_rest" s_power_rest P_power_rest f2 d2)
    (FI : Fun K "__init__" "TurnError.__init__" s_init fI fdI) (I_b : Binds K fdI N_init []) (I_ty : PySem.W.typeIn K (.ref fI) = some (.type "function")) (R : Ref K CT CR fI) (M_NoRoot : mg "NoRoot" = some (.ref CR)) : FnOk P w K mg base (L2.CX P w) (k + 3) f fd P_Rests_root_at (sp_rootat C CR) := by
  have G_init : FnOk P w K mg base CX0 1 fI fdI N_init (spInit K) := ok_init FI
  have G_Rests_has_root : FnOk P w K mg base CX0 1 f1 d1 P_Rests_has_root (sp_hasroot C) := ok_hasroot F1 RC
  have G_power_rest : FnOk P w K mg base CX0 1 f2 d2 P_power_rest spPow := ok_power D_power_rest.F
  have EK_NoRoot := R.ek
  have II_NoRoot := R.ini
  have CL_Rests := RC.cl
  have nd := sc_Rests_root_at.nd
  refine F.okX sc_Rests_root_at (fun vs H Q E h => ?_) (fun cdv A outer s H vs Q E hr h => ?_)
  · obtain ⟨a, p, l, e, rfl, _⟩ := h
    rfl
  · obtain ⟨a, p, l, e, rfl, hR, hp, l1, l6, qy, qn⟩ := h
    obtain ⟨dx, g, ha, out, hpf, hlg⟩ := id hR
    refine ⟨_, (pss_cons (ps_if (pt_not (pt_val (pe_meth (pv 0) CL_Rests ME_Rests_has_root G_Rests_has_root (hr.mono (by omega)) B_Rests_has_root .nil pass0 (pa_cons (pv 1) pa_nil)))) (pss_one (ps_raise rfl (takes_of rfl rfl rfl rfl) (pmk_oex EK_NoRoot.oex II_NoRoot I_ty G_init (hr.mono (by omega)) I_b .nil pass0 (by rfl) M_NoRoot (pa_cons (pv 1) pa_nil)))) pss_nil)
      (pss_one (ps_ret (pe_call G_power_rest (hr.mono (by omega)) (by rfl) D_power_rest.g D_power_rest.F.kp D_power_rest.b .nil pass0 (pa_cons (pe_fld (pv 0) (by rfl)) (pa_cons (pe_op op_mul (pe_op op_fdiv (pe_op op_sub (pe_fld (pv 0) (by rfl)) (pe_int)) (pv 1)) (pe_op op_mod (pv 2) (pv 1))) (pa_cons (pe_fld (pv 0) (by rfl)) pa_nil))))))), ?_⟩
    obtain ⟨cl, np, nb⟩ := RC
    obtain ⟨p6, hfp⟩ := prs_iff.mp hp
    obtain ⟨p2, pr⟩ := Rough.of_fac hfp
    walk_at "ev"
    by_cases c : (p - 1) % l = 0
    · rw [decide_eq_true c]
      have m0 := Int.emod_nonneg e (show l ≠ 0 by omega)
      have m1 := Int.emod_lt_of_pos e (show 0 < l by omega)
      have q0 : 0 ≤ (p - 1) / l := Int.ediv_nonneg (by omega) (by omega)
      have cm : CMul ((p - 1) / l) (e % l) := .inr ⟨by omega, by omega⟩
      have ce : 0 ≤ (p - 1) / l * (e % l) := Int.mul_nonneg q0 m0
      walk_at "ev"
      exact qy c g out hpf hlg
    · rw [decide_eq_false c]
      walk_at "ev"
      exact mk_what R.ek fun d H' hd sm hq => qn c d H' hd sm hq
end
theorem gcd_prime {n p : Int} (hp : Fac p [p]) (h : ¬ n % p = 0) : Int.gcd n p = 1 := by
  obtain ⟨p2, r⟩ := Rough.of_fac hp
  have g1 := Int.gcd_dvd_left n p
  have g2 := Int.gcd_dvd_right n p
  generalize hg : Int.gcd n p = g at *
  have g0 : g ≠ 0 := fun z => by
    rw [z] at g2
    have := Int.zero_dvd.mp g2
    omega
  have gle : (g : Int) ≤ p := Int.le_of_dvd (by omega) g2
  by_cases e : g = 1
  · exact e
  · exfalso
    by_cases e2 : (g : Int) = p
    · rw [e2] at g1
      exact h (Int.emod_eq_zero_of_dvd g1)
    · exact r g (by omega) (by omega) g2
/-- the worth that n times is x -/
theorem share_uniq {n p x y z : Int} (hg : Int.gcd n p = 1) (y0 : 0 ≤ y) (y1 : y < p) (z0 : 0 ≤ z) (z1 : z < p) (hy : y * n % p = x) (hz : z * n % p = x) : y = z := by
  have h1 : p ∣ (y - z) * n := by
    rw [Int.sub_mul]
    exact Int.dvd_of_emod_eq_zero (Int.emod_eq_emod_iff_emod_sub_eq_zero.mp (hy.trans hz.symm))
  have h2 : p.natAbs ∣ (y - z).natAbs * n.natAbs := by
    rw [← Int.natAbs_mul]
    exact Int.natAbs_dvd_natAbs.mpr h1
  have h3 : Nat.Coprime p.natAbs n.natAbs := by
    show Nat.gcd p.natAbs n.natAbs = 1
    rw [Nat.gcd_comm]
    exact hg
  have h4 := Int.natAbs_dvd_natAbs.mp (Nat.Coprime.dvd_of_dvd_mul_right h3 h2)
  have h5 := Int.emod_eq_emod_iff_emod_sub_eq_zero.mpr (Int.emod_eq_zero_of_dvd h4)
  rw [Int.emod_eq_of_lt y0 y1, Int.emod_eq_of_lt z0 z1] at h5
  exact h5
abbrev s_Rests_shared_by : Stmt := inClass (top 22) 11
abbrev N_Rests_shared_by : List Str := ["self", "worth", "number"]
abbrev P_Rests_shared_by : List Str := ["self", "worth", "number"]
theorem sc_Rests_shared_by : FnScope N_Rests_shared_by P_Rests_shared_by (defScope s_Rests_shared_by) := ⟨rfl, rfl, rfl, by decide +kernel, rfl, by decide +kernel, by decide +kernel⟩
def sp_shared (C CS : Addr) : Sp := fun vs H Q E => ∃ (a : Addr) (p x n : Int), vs = [.ref a, .int x, .int n] ∧ RestAt C H a p ∧ p ∈ prs 10000 ∧ 0 ≤ x ∧ x < p ∧ 1 ≤ n ∧ n ≤ 1000000000 ∧
  (¬ n % p = 0 → ∀ y, 0 ≤ y → y < p → y * n % p = x → ∀ H', Same H H' → Q (.int y) H') ∧ (n % p = 0 → ∀ d H', H d = none → Same H H' → H' d = some (.xd [(("what" : Str), .int n)]) → E (.ref CS) (some d) H')
section
variable {P : Program} {w : World} {K : PySem.W.Frag} {mg : Str → Option Value} {base : Heap}
theorem ok_shared {f f1 fI C CI CS CT : Addr} {fd d1 fdI : FuncData} {k : Nat} (F : Fun K "shared_by" "Rests.shared_by" s_Rests_shared_by f fd) (RC : RestC K C) (D_inverse : Df K mg "inverse" s_inverse P_inverse f1 d1) (FI : Fun K "__init__" "TurnError.__init__" s_init fI fdI) (I_b : Binds K fdI N_init [])
    (I_ty : PySem.W.typeIn K (.ref fI) = some (.type "function")) (R1 : Ref K CT CI fI) (M_NoInverse : mg "NoInverse" = some (.ref CI)) (R2 : Ref K CT CS fI) (M_NoShare : mg "NoShare" = some (.ref CS)) : FnOk P w K mg base (L2.CX P w) (k + 4) f fd P_Rests_shared_by (sp_shared C CS) := by
  have G_init : FnOk P w K mg base CX0 1 fI fdI N_init (spInit K) := ok_init FI
  have G_inverse : FnOk P w K mg base (L2.CX P w) (k + 3) f1 d1 P_inverse (spInv CI) := ok_inverse D_inverse.F FI I_b I_ty R1 M_NoInverse
  have EK_NoShare := R2.ek
  have II_NoShare := R2.ini
  have nd := sc_Rests_shared_by.nd
  refine F.okX sc_Rests_shared_by (fun vs H Q E h => ?_) (fun cdv A outer s H vs Q E hr h => ?_)
  · obtain ⟨a, p, x, n, rfl, _⟩ := h
    rfl
  · obtain ⟨a, p, x, n, rfl, ⟨dx, g, ha, hg⟩, hp, x0, x1, n1, n9, qy, qn⟩ := h
    refine ⟨_, (pss_cons (ps_if (pt_cmpR op_eq (pe_op op_mod (pv 2) (pe_fld (pv 0) (by rfl))) (pe_int) (nomark _)) (pss_one (ps_raise rfl (takes_of rfl rfl rfl rfl) (pmk_oex EK_NoShare.oex II_NoShare I_ty G_init (hr.mono (by omega)) I_b .nil pass0 (by rfl) M_NoShare (pa_cons (pv 2) pa_nil)))) pss_nil)
      (pss_one (ps_ret (pe_op op_mod (pe_op op_mul (pv 1) (pe_call G_inverse (hr.mono (by omega)) (by rfl) D_inverse.g D_inverse.F.kp D_inverse.b .nil (passes_call (takes_of rfl rfl rfl rfl) (fun _ _ _ _ h => h)) (pa_cons (pv 2) (pa_cons (pe_fld (pv 0) (by rfl)) pa_nil)))) (pe_fld (pv 0) (by rfl)))))), ?_⟩
    obtain ⟨cl, np, nb⟩ := RC
    obtain ⟨p6, hfp⟩ := prs_iff.mp hp
    obtain ⟨p2, pr⟩ := Rough.of_fac hfp
    walk_at "ev"
    refine ite2 (fun e => ?_) (fun e => ?_)
    · have e1 : n % p = 0 := V.int.inj (of_decide_eq_true e)
      refine ⟨_, rfl, (by show 1 ≤ 1000; decide), mk_what R2.ek fun d H' hd sm hq => ?_⟩
      exact qn e1 d H' hd sm hq
    · have e1 : ¬ n % p = 0 := fun z => e (decide_eq_true (congrArg V.int z))
      have hgc := gcd_prime hfp e1
      walk_at "ev"
      refine ⟨fun _ i i0 i1 hi H2 sm2 => ?_, fun z => absurd hgc z⟩
      have ha2 := sm2 _ _ ha
      have cm : CMul x i := .inl ⟨by omega, by omega⟩
      walk_at "ev"
      refine qy e1 _ (Int.emod_nonneg _ (by omega)) (Int.emod_lt_of_pos _ (by omega)) ?_ _ sm2
      rw [Int.mul_emod, Int.emod_emod_of_dvd _ (Int.dvd_refl p), ← Int.mul_emod, Int.mul_assoc, Int.mul_comm i n, Int.mul_emod, hi, Int.mul_one, Int.emod_emod_of_dvd _ (Int.dvd_refl p)]
      exact Int.emod_eq_of_lt x0 x1
end
local macro_rules | `(tactic| walk_at "ev1") => `(tactic| ((first | with_reducible show ClsV _ _ | with_reducible show Paired ClsV _ _); first | exact ClsV.own _ | exact ClsV.ty _ | exact .cons (.own _) (.cons (.own _) .nil) | exact .cons (.own _) (.cons (.own _) (.cons (.own _) .nil))))
local macro_rules | `(tactic| walk_at "ev1m") => `(tactic| ((first | with_reducible show ClsV _ _ | with_reducible show Paired ClsV _ _); first | exact ClsV.own _ | exact ClsV.ty _ | exact .cons (.own _) (.cons (.own _) .nil) | exact .cons (.own _) (.cons (.own _) (.cons (.own _) .nil))))
/-! ### the ground of exact roots -/
theorem whl_last : ∀ n < 31, 1 ≤ n → 2 ≤ (whl n).length ∧ (whl n).length ≤ 31 ∧ (whl n).getD ((whl n).length - 1) 0 = 1 := by decide +kernel
abbrev rootF (n : Nat) (r : Addr) : List (Str × V) := [(("order" : Str), .int (n : Int)), (("rim" : Str), .ref r)]
def RootAt (C : Addr) (H : Hp) (a : Addr) (n : Nat) : Prop := ∃ dx r, H a = some (.ins C dx (rootF n r)) ∧ H r = some (.tup ((whl n).map V.int))
theorem RootAt.same {C : Addr} {H H' : Hp} {a : Addr} {n : Nat} (h : RootAt C H a n) (e : Same H H') : RootAt C H' a n := by
  obtain ⟨dx, r, h1, h2⟩ := h
  exact ⟨dx, r, e _ _ h1, e _ _ h2⟩
theorem RootAt.keep {C b : Addr} {H H' : Hp} {a : Addr} {n : Nat} {c : Int} (h : RootAt C H a n) (hb : BoxAt H b c) (e : Keep b H H') : RootAt C H' a n := by
  obtain ⟨dx, r, h1, h2⟩ := h
  obtain ⟨x, y, z, b1, _⟩ := hb
  exact ⟨dx, r, e _ _ (fun w => by rw [w, b1] at h1; cases h1) h1, e _ _ (fun w => by rw [w, b1] at h2; cases h2) h2⟩
theorem RootAt.some {C : Addr} {H : Hp} {a : Addr} {n : Nat} (h : RootAt C H a n) : ∃ o, H a = some o := by
  obtain ⟨dx, r, h1, h2⟩ := h
  exact ⟨_, h1⟩
structure RootC (K : PySem.W.Frag) (C : Addr) : Prop where
  cl : L2.Cls K C
  no : NoAttr K C "order"
  nr : NoAttr K C "rim"
abbrev s_Roots___init__ : Stmt := inClass (top 19) 0
abbrev N_Roots___init__ : List Str := ["self", "order"]
abbrev P_Roots___init__ : List Str := ["self", "order"]
theorem sc_Roots___init__ : FnScope N_Roots___init__ P_Roots___init__ (defScope s_Roots___init__) := ⟨rfl, rfl, rfl, by decide +kernel, rfl, by decide +kernel, by decide +kernel⟩
/-- Roots(v): a new one of each order to thirty; BadGround of all else -/
def spRoI (K : PySem.W.Frag) (C CB : Addr) : Sp := fun vs H Q E => ∃ (a dx : Addr) (v : V) (t : String), vs = [.ref a, v] ∧ H a = some (.ins C dx []) ∧ Kd K H v t ∧
  (∀ n : Nat, v = .int (n : Int) → 1 ≤ n → n < 31 → ∀ H', Keep a H H' → RootAt C H' a n → Q .non H') ∧
  ((¬ ∃ n : Nat, v = .int (n : Int) ∧ 1 ≤ n ∧ n < 31) → ∀ d H', H d = none → Same H H' → H' d = some (.xd [(("what" : Str), v)]) → E (.ref CB) (some d) H')
section
variable {P : Program} {w : World} {K : PySem.W.Frag} {mg : Str → Option Value} {base : Heap}
theorem ok_roi {f f1 f2 f3 f4 fI C CB CT : Addr} {fd d1 d2 d3 d4 fdI : FuncData} {tM : Tok} (F : Fun K "__init__" "Roots.__init__" s_Roots___init__ f fd) (T : Blt mg) (RC : RootC K C) (D_is_whole : Df K mg "is_whole" s_is_whole P_is_whole f1 d1) (D_wheel : Df K mg "wheel" s_wheel P_wheel f2 d2) (D_divisors : Df K mg "divisors" s_divisors P_divisors f3 d3) (D_divided : Df K mg "divided" s_divided P_divided f4 d4)
    (M_MOST_ORDER : mg "MOST_ORDER" = some (.int 30 tM)) (FI : Fun K "__init__" "TurnError.__init__" s_init fI fdI) (I_b : Binds K fdI N_init []) (I_ty : PySem.W.typeIn K (.ref fI) = some (.type "function"))
    (R : Ref K CT CB fI) (M_BadGround : mg "BadGround" = some (.ref CB)) : FnOk P w K mg base (L2.CX P w) 7 f fd P_Roots___init__ (spRoI K C CB) := by
  have G_is_whole : FnOk P w K mg base CX0 1 f1 d1 P_is_whole (spWhole K) := ok_whole D_is_whole.F T
  have G_wheel : FnOk P w K mg base CX0 6 f2 d2 P_wheel (spWheel 5) := ok_wheel D_wheel T D_divisors D_divided 5
  have G_init : FnOk P w K mg base CX0 1 fI fdI N_init (spInit K) := ok_init FI
  have EK_BadGround := R.ek
  have II_BadGround := R.ini
  have nd := sc_Roots___init__.nd
  refine F.okX sc_Roots___init__ (fun vs H Q E h => ?_) (fun cdv A outer s H vs Q E hr h => ?_)
  · obtain ⟨a, dx, v, t, rfl, _⟩ := h
    rfl
  · obtain ⟨a, dx, v, t, rfl, ha, kd, qy, qn⟩ := h
    refine ⟨_, (pss_cons (ps_if (PW.pt (pw_or (pt_not (pt_val (pe_call G_is_whole (hr.mono (by omega)) (by rfl) D_is_whole.g D_is_whole.F.kp D_is_whole.b .nil pass0 (pa_cons (pv 1) pa_nil)))) (pw_or (pt_cmpR op_lt (pv 1) (pe_int) (nomark _)) (pw_or1 (pt_cmpR op_gt (pv 1) (pe_glob (v := .int 30) (by rfl) M_MOST_ORDER ⟨_, rfl⟩) (nomark _)))))) (pss_one (ps_raise rfl (takes_of rfl rfl rfl rfl) (pmk_oex EK_BadGround.oex II_BadGround I_ty G_init (hr.mono (by omega)) I_b .nil pass0 (by rfl) M_BadGround (pa_cons (pv 1) pa_nil)))) pss_nil)
      (pss_cons (ps_fld (pv 0) (pv 1) (by rfl))
      (pss_one (ps_fld (pv 0) (pe_callTy call_tuple_of (by rfl) T.b_tuple (by decide +kernel) (pa_cons (pe_call G_wheel (hr.mono (by omega)) (by rfl) D_wheel.g D_wheel.F.kp D_wheel.b .nil pass0 (pa_cons (pv 1) pa_nil)) pa_nil)) (by rfl))))), ?_⟩
    obtain ⟨cl, no, nr⟩ := RC
    have bad : ∀ H1, Same H H1 → (¬ ∃ n : Nat, v = .int (n : Int) ∧ 1 ≤ n ∧ n < 31) → ∀ z, H1 z = none → _ := fun H1 sm1 no => mk_what (v := v) (Q := E) R.ek fun d H2 hd sm2 hq => qn no d H2 (sm1.free hd) (sm1.trans sm2) hq
    walk_at "ev"
    cases kd with
    | int p =>
      walk_at "ev"
      refine ite2 (fun e => ?_) (fun e => ?_)
      · have e1 : p < 1 := of_decide_eq_true e
        refine ⟨_, rfl, (by show 1 ≤ 1000; decide), bad _ (Same.refl _) ?_⟩
        rintro ⟨n, h1, h2, h3⟩
        cases h1
        omega
      · have e1 : ¬ p < 1 := fun z => e (decide_eq_true z)
        walk_at "ev"
        refine ite2 (fun e2 => ?_) (fun e2 => ?_)
        · have e3 : 30 < p := of_decide_eq_true e2
          refine ⟨_, rfl, (by show 1 ≤ 1000; decide), bad _ (Same.refl _) ?_⟩
          rintro ⟨n, h1, h2, h3⟩
          cases h1
          omega
        · have e3 : ¬ 30 < p := fun z => e2 (decide_eq_true z)
          obtain ⟨n, rfl⟩ := Int.eq_ofNat_of_zero_le (show 0 ≤ p by omega)
          have n1 : 1 ≤ n := by omega
          have n31 : n < 31 := by omega
          have n32 : n < 2 ^ 5 := by omega
          walk_at "ev"
          generalize hG : upd H a _ = H2
          obtain ⟨k2, hq2⟩ := mutO hG
          clear hG
          walk_at "ev"
          intro l H3 hl sm3 hq3
          walk_at "ev"
          refine .inl ⟨SqL.of hq3, ?_⟩
          w_cond _4
          have ha4 := (sm3.trans sm4) _ _ hq2
          have na4 : l4 ≠ a := (ne_of_none (sm3 _ _ hq2) hl4).symm
          walk_at "ev"
          refine ⟨(by show 1 < 1000; decide), ?_⟩
          exact qy n rfl n1 n31 _ ((k2.trans (keepS (sm3.trans sm4))).trans (keep_upd (Keep.refl _ _))) ⟨dx, l4, upd_same, by rw [upd_ne na4]; exact hq4⟩
    | _ =>
      walk_at "ev"
      refine bad _ (Same.refl _) ?_
      rintro ⟨n, h1, h2⟩
      cases h1
end
abbrev s_Roots_sum_of : Stmt := inClass (top 19) 7
abbrev N_Roots_sum_of : List Str := ["self", "one", "other", "part", "beside"]
abbrev P_Roots_sum_of : List Str := ["self", "one", "other"]
theorem sc_Roots_sum_of : FnScope N_Roots_sum_of P_Roots_sum_of (defScope s_Roots_sum_of) := ⟨rfl, rfl, rfl, by decide +kernel, rfl, by decide +kernel, by decide +kernel⟩
def spSumO (K : PySem.W.Frag) : Sp := fun vs H Q _ => ∃ (a x y : Addr) (one two : List Int), vs = [.ref a, .ref x, .ref y] ∧ SqT K H x (one.map V.int) ∧ SqT K H y (two.map V.int) ∧ one.length = two.length ∧ one.length ≤ 100 ∧ ∀ p H', H p = none → Same H H' → H' p = some (.tup ((List.zipWith (· + ·) one two).map V.int)) → Q (.ref p) H'
section
variable {P : Program} {w : World} {K : PySem.W.Frag} {mg : Str → Option Value} {base : Heap}
theorem ok_sum_ofR {f : Addr} {fd : FuncData} {k : Nat} (F : Fun K "sum_of" "Roots.sum_of" s_Roots_sum_of f fd) (T : Blt mg) : FnOk P w K mg base CX0 (k + 1) f fd P_Roots_sum_of (spSumO K) := by
  have nd := sc_Roots_sum_of.nd
  refine F.ok sc_Roots_sum_of (fun vs H Q E h => ?_) (fun cdv A outer s H vs Q E hr h => ?_)
  · obtain ⟨a, x, y, one, two, rfl, _⟩ := h
    rfl
  · obtain ⟨a, x, y, one, two, rfl, hx, hy, hle, hl, q⟩ := h
    refine ⟨_, (pss_one (ps_ret (pe_callTy call_tuple_of (by rfl) T.b_tuple (by decide +kernel) (pa_cons (pe_lc (own := [("part", 3), ("beside", 4)]) (g := gTup K 2 (gCons (gName 3) (gCons (gName 4) gNil))) (by rfl) nd (RZ.pi_zipA (by rfl) T.b_zip (pa_cons (pv 1) (pa_cons (pv 2) pa_nil))) (blkOk_by (own := [("part", 3), ("beside", 4)]) (N := N_Roots_sum_of) (sc := defScope s_Roots_sum_of) (by decide +kernel)) (fun _ _ _ _ _ => (pg_tup (by rfl) (pgs_cons (pg_name (i := 3) nd rfl (Or.inl rfl)) (pgs_cons (pg_name (i := 4) nd rfl (Or.inl rfl)) pgs_nil)))) (fun _ _ _ _ _ => pts_nil) (fun _ _ _ _ _ => (pe_op op_add (pv 3) (pv 4)))) pa_nil)))), ?_⟩
    walk_at "ev"
    refine .inr ⟨hx, hy, fun D hD => ?_⟩
    refine lc_pairs (xs := one.map V.int) (ys := two.map V.int) (fun i H' => Hold (Same H H' ∧ H' D = some (.lst (((List.zipWith (· + ·) one two).take i).map V.int)))) (.mk ⟨same_new hD, upd_same⟩) ?_ ?_ ?_ ?_ ?_
    · intro i H' hP hi
      obtain ⟨sm2, hD2⟩ := hP.un
      have hi2 : i < (two.map V.int).length := by rw [List.length_map] at *; omega
      exact ⟨_, _, _, _, same_t sm2 hx, same_t sm2 hy, List.getElem?_eq_getElem hi, List.getElem?_eq_getElem hi2⟩
    · intro i H' v H'' hP hi yl
      obtain ⟨sm2, hD2⟩ := hP.un
      obtain ⟨T, x', y', e1, e2, e3, f1, f2⟩ := yl
      exact ⟨T, x', y', e1, e2, e3, f1 _ (same_t sm2 hx), f2 _ (same_t sm2 hy)⟩
    · intro H' hP
      obtain ⟨sm2, hD2⟩ := hP.un
      exact ⟨_, _, same_t sm2 hx, same_t sm2 hy, .inl (Nat.le_refl _)⟩
    · intro i x' y' T' H' H'' hx' hy' hP hT e
      obtain ⟨sm2, hD2⟩ := hP.un
      obtain ⟨sm3, hT3⟩ := newO e.symm hT
      have hT4 : SqT K H'' T' [x', y'] := SqT.of hT3
      rw [List.getElem?_map] at hx' hy'
      obtain ⟨u, hu, eu⟩ := Option.map_eq_some_iff.mp hx'
      obtain ⟨v, hv, ev⟩ := Option.map_eq_some_iff.mp hy'
      subst eu ev
      have hil : i < one.length := (List.getElem?_eq_some_iff.mp hu).1
      have hsz : (((List.zipWith (· + ·) one two).take i).map V.int).length < sizeLine := szm (by rw [List.length_map, List.length_take]; omega)
      have hD3 := sm3 _ _ hD2
      walk_at "ev"
      refine .mk ⟨same_mut (sm2.trans sm3) hD, ?_⟩
      rw [upd_same, List.take_add_one, List.getElem?_zipWith, hu, hv, List.map_append]
      rfl
    · intro H' hP
      obtain ⟨sm2, hD2⟩ := hP.un
      have ez : (List.zipWith (· + ·) one two).length = (one.map V.int).length := by rw [List.length_zipWith, List.length_map]; omega
      rw [← ez, List.take_length] at hD2
      walk_at "ev"
      refine .inl ⟨SqL.of hD2, ?_⟩
      w_cond _3
      exact q l3 H3 (sm2.free hl3) (sm2.trans sm3) hq3
end
abbrev s_Roots_product_of : Stmt := inClass (top 19) 9
abbrev N_Roots_product_of : List Str := ["self", "one", "other"]
abbrev P_Roots_product_of : List Str := ["self", "one", "other"]
theorem sc_Roots_product_of : FnScope N_Roots_product_of P_Roots_product_of (defScope s_Roots_product_of) := ⟨rfl, rfl, rfl, by decide +kernel, rfl, by decide +kernel, by decide +kernel⟩
def spProdO (K : PySem.W.Frag) (C : Addr) : Sp := fun vs H Q _ => ∃ (a x y : Addr) (n : Nat) (one two : List Int), vs = [.ref a, .ref x, .ref y] ∧ RootAt C H a n ∧ 1 ≤ n ∧ n < 31 ∧ SqT K H x (one.map V.int) ∧ SqT K H y (two.map V.int) ∧ 1 ≤ one.length ∧ 1 ≤ two.length ∧ one.length ≤ 100 ∧ two.length ≤ 100 ∧ (∀ x ∈ one, x.natAbs < 2 ^ 9000) ∧ (∀ x ∈ two, x.natAbs < 2 ^ 9000) ∧
  ∀ p H', H p = none → Same H H' → H' p = some (.tup ((dvR (whl n) (pmul one two)).map V.int)) → Q (.ref p) H'
section
variable {P : Program} {w : World} {K : PySem.W.Frag} {mg : Str → Option Value} {base : Heap}
theorem ok_prodO {f f1 f2 C : Addr} {fd d1 d2 : FuncData} {k : Nat} (F : Fun K "product_of" "Roots.product_of" s_Roots_product_of f fd) (T : Blt mg) (RC : RootC K C) (D_divided : Df K mg "divided" s_divided P_divided f1 d1) (D_multiplied : Df K mg "multiplied" s_multiplied P_multiplied f2 d2) : FnOk P w K mg base CX0 (k + 2) f fd P_Roots_product_of (spProdO K C) := by
  have G_divided : FnOk P w K mg base CX0 1 f1 d1 P_divided (spDvd2 K) := ok_divided2 D_divided.F T
  have G_multiplied : FnOk P w K mg base CX0 1 f2 d2 P_multiplied (spMulT K) := ok_mulT D_multiplied.F T
  have nd := sc_Roots_product_of.nd
  refine F.ok sc_Roots_product_of (fun vs H Q E h => ?_) (fun cdv A outer s H vs Q E hr h => ?_)
  · obtain ⟨a, x, y, n, one, two, rfl, _⟩ := h
    rfl
  · obtain ⟨a, x, y, n, one, two, rfl, ⟨dx, r, ha, hrm⟩, n1, n31, hx, hy, o1, t1, ol, tl, bo, bt, q⟩ := h
    refine ⟨_, (pss_one (ps_ret (pe_callTy call_tuple_of (by rfl) T.b_tuple (by decide +kernel) (pa_cons (pe_ix (r := rIxT K) ix_tup (pe_call G_divided (hr.mono (by omega)) (by rfl) D_divided.g D_divided.F.kp D_divided.b .nil pass0 (pa_cons (pe_call G_multiplied (hr.mono (by omega)) (by rfl) D_multiplied.g D_multiplied.F.kp D_multiplied.b .nil pass0 (pa_cons (pv 1) (pa_cons (pv 2) pa_nil))) (pa_cons (pe_fld (pv 0) (by rfl)) pa_nil))) (pe_int) (fun _ _ => rfl)) pa_nil)))), ?_⟩
    obtain ⟨cl, no, nr⟩ := RC
    obtain ⟨w2, w31, _⟩ := whl_last n n31 n1
    have wb := whl_bnd n n31
    have o1000 : one.length ≤ 1000 := by omega
    have t1000 : two.length ≤ 1000 := by omega
    walk_at "ev"
    intro m H1 hm sm1 hq1
    have ha1 := sm1 _ _ ha
    have hM := SqL.of (K := K) hq1
    have hR1 : SqL K H1 r ((whl n).map V.int) ∨ SqT K H1 r ((whl n).map V.int) := .inr (SqT.of (sm1 _ _ hrm))
    have z1 : 1 ≤ (whl n).length := by omega
    have z2 : (whl n).length ≤ 1000 := by omega
    have z3 : (pmul one two).length ≤ 1000 := by rw [pmul_len]; omega
    walk_at "ev"
    intro t' qq z H2 hq sm2 hT hQ hz hZ
    have at1 : atI [V.ref qq, V.ref z] 1 = some (.ref z) := rfl
    walk_at "ev"
    refine .inl ⟨SqL.of hZ, ?_⟩
    w_cond _3
    exact q l3 H3 ((sm1.trans sm2).free hl3) (sm1.trans (sm2.trans sm3)) hq3
end
/-! ### t * k, t a tuple, k any -/
section
open PySem.Spec PyProof.Rows
end
section
open PySem.Spec PyProof.Rows
end
theorem rep1 {k : Nat} {v : V} : (List.replicate (k : Int).toNat [v]).flatten = List.replicate k v := by
  rw [Int.toNat_natCast]
  exact rep_flat
/-! ### the powers of the exact roots -/
def PW : List (List (List Int)) := [[], [[1]], [[1], [-1]], [[1, 0], [0, 1], [-1, -1]], [[1, 0], [0, 1], [-1, 0], [0, -1]], [[1, 0, 0, 0], [0, 1, 0, 0], [0, 0, 1, 0], [0, 0, 0, 1], [-1, -1, -1, -1]], [[1, 0], [0, 1], [-1, 1], [-1, 0], [0, -1], [1, -1]], [[1, 0, 0, 0, 0, 0], [0, 1, 0, 0, 0, 0], [0, 0, 1, 0, 0, 0], [0, 0, 0, 1, 0, 0], [0, 0, 0, 0, 1, 0], [0, 0, 0, 0, 0, 1], [-1, -1, -1, -1, -1, -1]], [[1, 0, 0, 0], [0, 1, 0, 0], [0, 0, 1, 0], [0, 0, 0, 1], [-1, 0, 0, 0], [0, -1, 0, 0], [0, 0, -1, 0], [0, 0, 0, -1]], [[1, 0, 0, 0, 0, 0], [0, 1, 0, 0, 0, 0], [0, 0, 1, 0, 0, 0], [0, 0, 0, 1, 0, 0], [0, 0, 0, 0, 1, 0], [0, 0, 0, 0, 0, 1], [-1, 0, 0, -1, 0, 0], [0, -1, 0, 0, -1, 0], [0, 0, -1, 0, 0, -1]], [[1, 0, 0, 0], [0, 1, 0, 0], [0, 0, 1, 0], [0, 0, 0, 1], [-1, 1, -1, 1], [-1, 0, 0, 0], [0, -1, 0, 0], [0, 0, -1, 0], [0, 0, 0, -1], [1, -1, 1, -1]], [[1, 0, 0, 0, 0, 0, 0, 0, 0, 0], [0, 1, 0, 0, 0, 0, 0, 0, 0, 0], [0, 0, 1, 0, 0, 0, 0, 0, 0, 0], [0, 0, 0, 1, 0, 0, 0, 0, 0, 0], [0, 0, 0, 0, 1, 0, 0, 0, 0, 0], [0, 0, 0, 0, 0, 1, 0, 0, 0, 0], [0, 0, 0, 0, 0, 0, 1, 0, 0, 0], [0, 0, 0, 0, 0, 0, 0, 1, 0, 0], [0, 0, 0, 0, 0, 0, 0, 0, 1, 0], [0, 0, 0, 0, 0, 0, 0, 0, 0, 1], [-1, -1, -1, -1, -1, -1, -1, -1, -1, -1]], [[1, 0, 0, 0], [0, 1, 0, 0], [0, 0, 1, 0], [0, 0, 0, 1], [-1, 0, 1, 0], [0, -1, 0, 1], [-1, 0, 0, 0], [0, -1, 0, 0], [0, 0, -1, 0], [0, 0, 0, -1], [1, 0, -1, 0], [0, 1, 0, -1]], [[1, 0, 0, 0, 0, 0, 0, 0, 0, 0, 0, 0], [0, 1, 0, 0, 0, 0, 0, 0, 0, 0, 0, 0], [0, 0, 1, 0, 0, 0, 0, 0, 0, 0, 0, 0], [0, 0, 0, 1, 0, 0, 0, 0, 0, 0, 0, 0], [0, 0, 0, 0, 1, 0, 0, 0, 0, 0, 0, 0], [0, 0, 0, 0, 0, 1, 0, 0, 0, 0, 0, 0], [0, 0, 0, 0, 0, 0, 1, 0, 0, 0, 0, 0], [0, 0, 0, 0, 0, 0, 0, 1, 0, 0, 0, 0], [0, 0, 0, 0, 0, 0, 0, 0, 1, 0, 0, 0], [0, 0, 0, 0, 0, 0, 0, 0, 0, 1, 0, 0], [0, 0, 0, 0, 0, 0, 0, 0, 0, 0, 1, 0], [0, 0, 0, 0, 0, 0, 0, 0, 0, 0, 0, 1], [-1, -1, -1, -1, -1, -1, -1, -1, -1, -1, -1, -1]], [[1, 0, 0, 0, 0, 0], [0, 1, 0, 0, 0, 0], [0, 0, 1, 0, 0, 0], [0, 0, 0, 1, 0, 0], [0, 0, 0, 0, 1, 0], [0, 0, 0, 0, 0, 1], [-1, 1, -1, 1, -1, 1], [-1, 0, 0, 0, 0, 0], [0, -1, 0, 0, 0, 0], [0, 0, -1, 0, 0, 0], [0, 0, 0, -1, 0, 0], [0, 0, 0, 0, -1, 0], [0, 0, 0, 0, 0, -1], [1, -1, 1, -1, 1, -1]], [[1, 0, 0, 0, 0, 0, 0, 0], [0, 1, 0, 0, 0, 0, 0, 0], [0, 0, 1, 0, 0, 0, 0, 0], [0, 0, 0, 1, 0, 0, 0, 0], [0, 0, 0, 0, 1, 0, 0, 0], [0, 0, 0, 0, 0, 1, 0, 0], [0, 0, 0, 0, 0, 0, 1, 0], [0, 0, 0, 0, 0, 0, 0, 1], [-1, 1, 0, -1, 1, -1, 0, 1], [-1, 0, 1, -1, 0, 0, -1, 1], [-1, 0, 0, 0, 0, -1, 0, 0], [0, -1, 0, 0, 0, 0, -1, 0], [0, 0, -1, 0, 0, 0, 0, -1], [1, -1, 0, 0, -1, 1, 0, -1], [1, 0, -1, 1, -1, 0, 1, -1]], [[1, 0, 0, 0, 0, 0, 0, 0], [0, 1, 0, 0, 0, 0, 0, 0], [0, 0, 1, 0, 0, 0, 0, 0], [0, 0, 0, 1, 0, 0, 0, 0], [0, 0, 0, 0, 1, 0, 0, 0], [0, 0, 0, 0, 0, 1, 0, 0], [0, 0, 0, 0, 0, 0, 1, 0], [0, 0, 0, 0, 0, 0, 0, 1], [-1, 0, 0, 0, 0, 0, 0, 0], [0, -1, 0, 0, 0, 0, 0, 0], [0, 0, -1, 0, 0, 0, 0, 0], [0, 0, 0, -1, 0, 0, 0, 0], [0, 0, 0, 0, -1, 0, 0, 0], [0, 0, 0, 0, 0, -1, 0, 0], [0, 0, 0, 0, 0, 0, -1, 0], [0, 0, 0, 0, 0, 0, 0, -1]], [[1, 0, 0, 0, 0, 0, 0, 0, 0, 0, 0, 0, 0, 0, 0, 0], [0, 1, 0, 0, 0, 0, 0, 0, 0, 0, 0, 0, 0, 0, 0, 0], [0, 0, 1, 0, 0, 0, 0, 0, 0, 0, 0, 0, 0, 0, 0, 0], [0, 0, 0, 1, 0, 0, 0, 0, 0, 0, 0, 0, 0, 0, 0, 0], [0, 0, 0, 0, 1, 0, 0, 0, 0, 0, 0, 0, 0, 0, 0, 0], [0, 0, 0, 0, 0, 1, 0, 0, 0, 0, 0, 0, 0, 0, 0, 0], [0, 0, 0, 0, 0, 0, 1, 0, 0, 0, 0, 0, 0, 0, 0, 0], [0, 0, 0, 0, 0, 0, 0, 1, 0, 0, 0, 0, 0, 0, 0, 0], [0, 0, 0, 0, 0, 0, 0, 0, 1, 0, 0, 0, 0, 0, 0, 0], [0, 0, 0, 0, 0, 0, 0, 0, 0, 1, 0, 0, 0, 0, 0, 0], [0, 0, 0, 0, 0, 0, 0, 0, 0, 0, 1, 0, 0, 0, 0, 0], [0, 0, 0, 0, 0, 0, 0, 0, 0, 0, 0, 1, 0, 0, 0, 0], [0, 0, 0, 0, 0, 0, 0, 0, 0, 0, 0, 0, 1, 0, 0, 0], [0, 0, 0, 0, 0, 0, 0, 0, 0, 0, 0, 0, 0, 1, 0, 0], [0, 0, 0, 0, 0, 0, 0, 0, 0, 0, 0, 0, 0, 0, 1, 0], [0, 0, 0, 0, 0, 0, 0, 0, 0, 0, 0, 0, 0, 0, 0, 1], [-1, -1, -1, -1, -1, -1, -1, -1, -1, -1, -1, -1, -1, -1, -1, -1]], [[1, 0, 0, 0, 0, 0], [0, 1, 0, 0, 0, 0], [0, 0, 1, 0, 0, 0], [0, 0, 0, 1, 0, 0], [0, 0, 0, 0, 1, 0], [0, 0, 0, 0, 0, 1], [-1, 0, 0, 1, 0, 0], [0, -1, 0, 0, 1, 0], [0, 0, -1, 0, 0, 1], [-1, 0, 0, 0, 0, 0], [0, -1, 0, 0, 0, 0], [0, 0, -1, 0, 0, 0], [0, 0, 0, -1, 0, 0], [0, 0, 0, 0, -1, 0], [0, 0, 0, 0, 0, -1], [1, 0, 0, -1, 0, 0], [0, 1, 0, 0, -1, 0], [0, 0, 1, 0, 0, -1]], [[1, 0, 0, 0, 0, 0, 0, 0, 0, 0, 0, 0, 0, 0, 0, 0, 0, 0], [0, 1, 0, 0, 0, 0, 0, 0, 0, 0, 0, 0, 0, 0, 0, 0, 0, 0], [0, 0, 1, 0, 0, 0, 0, 0, 0, 0, 0, 0, 0, 0, 0, 0, 0, 0], [0, 0, 0, 1, 0, 0, 0, 0, 0, 0, 0, 0, 0, 0, 0, 0, 0, 0], [0, 0, 0, 0, 1, 0, 0, 0, 0, 0, 0, 0, 0, 0, 0, 0, 0, 0], [0, 0, 0, 0, 0, 1, 0, 0, 0, 0, 0, 0, 0, 0, 0, 0, 0, 0], [0, 0, 0, 0, 0, 0, 1, 0, 0, 0, 0, 0, 0, 0, 0, 0, 0, 0], [0, 0, 0, 0, 0, 0, 0, 1, 0, 0, 0, 0, 0, 0, 0, 0, 0, 0], [0, 0, 0, 0, 0, 0, 0, 0, 1, 0, 0, 0, 0, 0, 0, 0, 0, 0], [0, 0, 0, 0, 0, 0, 0, 0, 0, 1, 0, 0, 0, 0, 0, 0, 0, 0], [0, 0, 0, 0, 0, 0, 0, 0, 0, 0, 1, 0, 0, 0, 0, 0, 0, 0], [0, 0, 0, 0, 0, 0, 0, 0, 0, 0, 0, 1, 0, 0, 0, 0, 0, 0], [0, 0, 0, 0, 0, 0, 0, 0, 0, 0, 0, 0, 1, 0, 0, 0, 0, 0], [0, 0, 0, 0, 0, 0, 0, 0, 0, 0, 0, 0, 0, 1, 0, 0, 0, 0], [0, 0, 0, 0, 0, 0, 0, 0, 0, 0, 0, 0, 0, 0, 1, 0, 0, 0], [0, 0, 0, 0, 0, 0, 0, 0, 0, 0, 0, 0, 0, 0, 0, 1, 0, 0], [0, 0, 0, 0, 0, 0, 0, 0, 0, 0, 0, 0, 0, 0, 0, 0, 1, 0], [0, 0, 0, 0, 0, 0, 0, 0, 0, 0, 0, 0, 0, 0, 0, 0, 0, 1], [-1, -1, -1, -1, -1, -1, -1, -1, -1, -1, -1, -1, -1, -1, -1, -1, -1, -1]], [[1, 0, 0, 0, 0, 0, 0, 0], [0, 1, 0, 0, 0, 0, 0, 0], [0, 0, 1, 0, 0, 0, 0, 0], [0, 0, 0, 1, 0, 0, 0, 0], [0, 0, 0, 0, 1, 0, 0, 0], [0, 0, 0, 0, 0, 1, 0, 0], [0, 0, 0, 0, 0, 0, 1, 0], [0, 0, 0, 0, 0, 0, 0, 1], [-1, 0, 1, 0, -1, 0, 1, 0], [0, -1, 0, 1, 0, -1, 0, 1], [-1, 0, 0, 0, 0, 0, 0, 0], [0, -1, 0, 0, 0, 0, 0, 0], [0, 0, -1, 0, 0, 0, 0, 0], [0, 0, 0, -1, 0, 0, 0, 0], [0, 0, 0, 0, -1, 0, 0, 0], [0, 0, 0, 0, 0, -1, 0, 0], [0, 0, 0, 0, 0, 0, -1, 0], [0, 0, 0, 0, 0, 0, 0, -1], [1, 0, -1, 0, 1, 0, -1, 0], [0, 1, 0, -1, 0, 1, 0, -1]], [[1, 0, 0, 0, 0, 0, 0, 0, 0, 0, 0, 0], [0, 1, 0, 0, 0, 0, 0, 0, 0, 0, 0, 0], [0, 0, 1, 0, 0, 0, 0, 0, 0, 0, 0, 0], [0, 0, 0, 1, 0, 0, 0, 0, 0, 0, 0, 0], [0, 0, 0, 0, 1, 0, 0, 0, 0, 0, 0, 0], [0, 0, 0, 0, 0, 1, 0, 0, 0, 0, 0, 0], [0, 0, 0, 0, 0, 0, 1, 0, 0, 0, 0, 0], [0, 0, 0, 0, 0, 0, 0, 1, 0, 0, 0, 0], [0, 0, 0, 0, 0, 0, 0, 0, 1, 0, 0, 0], [0, 0, 0, 0, 0, 0, 0, 0, 0, 1, 0, 0], [0, 0, 0, 0, 0, 0, 0, 0, 0, 0, 1, 0], [0, 0, 0, 0, 0, 0, 0, 0, 0, 0, 0, 1], [-1, 1, 0, -1, 1, 0, -1, 0, 1, -1, 0, 1], [-1, 0, 1, -1, 0, 1, -1, -1, 1, 0, -1, 1], [-1, 0, 0, 0, 0, 0, 0, -1, 0, 0, 0, 0], [0, -1, 0, 0, 0, 0, 0, 0, -1, 0, 0, 0], [0, 0, -1, 0, 0, 0, 0, 0, 0, -1, 0, 0], [0, 0, 0, -1, 0, 0, 0, 0, 0, 0, -1, 0], [0, 0, 0, 0, -1, 0, 0, 0, 0, 0, 0, -1], [1, -1, 0, 1, -1, -1, 1, 0, -1, 1, 0, -1], [1, 0, -1, 1, 0, -1, 0, 1, -1, 0, 1, -1]], [[1, 0, 0, 0, 0, 0, 0, 0, 0, 0], [0, 1, 0, 0, 0, 0, 0, 0, 0, 0], [0, 0, 1, 0, 0, 0, 0, 0, 0, 0], [0, 0, 0, 1, 0, 0, 0, 0, 0, 0], [0, 0, 0, 0, 1, 0, 0, 0, 0, 0], [0, 0, 0, 0, 0, 1, 0, 0, 0, 0], [0, 0, 0, 0, 0, 0, 1, 0, 0, 0], [0, 0, 0, 0, 0, 0, 0, 1, 0, 0], [0, 0, 0, 0, 0, 0, 0, 0, 1, 0], [0, 0, 0, 0, 0, 0, 0, 0, 0, 1], [-1, 1, -1, 1, -1, 1, -1, 1, -1, 1], [-1, 0, 0, 0, 0, 0, 0, 0, 0, 0], [0, -1, 0, 0, 0, 0, 0, 0, 0, 0], [0, 0, -1, 0, 0, 0, 0, 0, 0, 0], [0, 0, 0, -1, 0, 0, 0, 0, 0, 0], [0, 0, 0, 0, -1, 0, 0, 0, 0, 0], [0, 0, 0, 0, 0, -1, 0, 0, 0, 0], [0, 0, 0, 0, 0, 0, -1, 0, 0, 0], [0, 0, 0, 0, 0, 0, 0, -1, 0, 0], [0, 0, 0, 0, 0, 0, 0, 0, -1, 0], [0, 0, 0, 0, 0, 0, 0, 0, 0, -1], [1, -1, 1, -1, 1, -1, 1, -1, 1, -1]], [[1, 0, 0, 0, 0, 0, 0, 0, 0, 0, 0, 0, 0, 0, 0, 0, 0, 0, 0, 0, 0, 0], [0, 1, 0, 0, 0, 0, 0, 0, 0, 0, 0, 0, 0, 0, 0, 0, 0, 0, 0, 0, 0, 0], [0, 0, 1, 0, 0, 0, 0, 0, 0, 0, 0, 0, 0, 0, 0, 0, 0, 0, 0, 0, 0, 0], [0, 0, 0, 1, 0, 0, 0, 0, 0, 0, 0, 0, 0, 0, 0, 0, 0, 0, 0, 0, 0, 0], [0, 0, 0, 0, 1, 0, 0, 0, 0, 0, 0, 0, 0, 0, 0, 0, 0, 0, 0, 0, 0, 0], [0, 0, 0, 0, 0, 1, 0, 0, 0, 0, 0, 0, 0, 0, 0, 0, 0, 0, 0, 0, 0, 0], [0, 0, 0, 0, 0, 0, 1, 0, 0, 0, 0, 0, 0, 0, 0, 0, 0, 0, 0, 0, 0, 0], [0, 0, 0, 0, 0, 0, 0, 1, 0, 0, 0, 0, 0, 0, 0, 0, 0, 0, 0, 0, 0, 0], [0, 0, 0, 0, 0, 0, 0, 0, 1, 0, 0, 0, 0, 0, 0, 0, 0, 0, 0, 0, 0, 0], [0, 0, 0, 0, 0, 0, 0, 0, 0, 1, 0, 0, 0, 0, 0, 0, 0, 0, 0, 0, 0, 0], [0, 0, 0, 0, 0, 0, 0, 0, 0, 0, 1, 0, 0, 0, 0, 0, 0, 0, 0, 0, 0, 0], [0, 0, 0, 0, 0, 0, 0, 0, 0, 0, 0, 1, 0, 0, 0, 0, 0, 0, 0, 0, 0, 0], [0, 0, 0, 0, 0, 0, 0, 0, 0, 0, 0, 0, 1, 0, 0, 0, 0, 0, 0, 0, 0, 0], [0, 0, 0, 0, 0, 0, 0, 0, 0, 0, 0, 0, 0, 1, 0, 0, 0, 0, 0, 0, 0, 0], [0, 0, 0, 0, 0, 0, 0, 0, 0, 0, 0, 0, 0, 0, 1, 0, 0, 0, 0, 0, 0, 0], [0, 0, 0, 0, 0, 0, 0, 0, 0, 0, 0, 0, 0, 0, 0, 1, 0, 0, 0, 0, 0, 0], [0, 0, 0, 0, 0, 0, 0, 0, 0, 0, 0, 0, 0, 0, 0, 0, 1, 0, 0, 0, 0, 0], [0, 0, 0, 0, 0, 0, 0, 0, 0, 0, 0, 0, 0, 0, 0, 0, 0, 1, 0, 0, 0, 0], [0, 0, 0, 0, 0, 0, 0, 0, 0, 0, 0, 0, 0, 0, 0, 0, 0, 0, 1, 0, 0, 0], [0, 0, 0, 0, 0, 0, 0, 0, 0, 0, 0, 0, 0, 0, 0, 0, 0, 0, 0, 1, 0, 0], [0, 0, 0, 0, 0, 0, 0, 0, 0, 0, 0, 0, 0, 0, 0, 0, 0, 0, 0, 0, 1, 0], [0, 0, 0, 0, 0, 0, 0, 0, 0, 0, 0, 0, 0, 0, 0, 0, 0, 0, 0, 0, 0, 1], [-1, -1, -1, -1, -1, -1, -1, -1, -1, -1, -1, -1, -1, -1, -1, -1, -1, -1, -1, -1, -1, -1]], [[1, 0, 0, 0, 0, 0, 0, 0], [0, 1, 0, 0, 0, 0, 0, 0], [0, 0, 1, 0, 0, 0, 0, 0], [0, 0, 0, 1, 0, 0, 0, 0], [0, 0, 0, 0, 1, 0, 0, 0], [0, 0, 0, 0, 0, 1, 0, 0], [0, 0, 0, 0, 0, 0, 1, 0], [0, 0, 0, 0, 0, 0, 0, 1], [-1, 0, 0, 0, 1, 0, 0, 0], [0, -1, 0, 0, 0, 1, 0, 0], [0, 0, -1, 0, 0, 0, 1, 0], [0, 0, 0, -1, 0, 0, 0, 1], [-1, 0, 0, 0, 0, 0, 0, 0], [0, -1, 0, 0, 0, 0, 0, 0], [0, 0, -1, 0, 0, 0, 0, 0], [0, 0, 0, -1, 0, 0, 0, 0], [0, 0, 0, 0, -1, 0, 0, 0], [0, 0, 0, 0, 0, -1, 0, 0], [0, 0, 0, 0, 0, 0, -1, 0], [0, 0, 0, 0, 0, 0, 0, -1], [1, 0, 0, 0, -1, 0, 0, 0], [0, 1, 0, 0, 0, -1, 0, 0], [0, 0, 1, 0, 0, 0, -1, 0], [0, 0, 0, 1, 0, 0, 0, -1]], [[1, 0, 0, 0, 0, 0, 0, 0, 0, 0, 0, 0, 0, 0, 0, 0, 0, 0, 0, 0], [0, 1, 0, 0, 0, 0, 0, 0, 0, 0, 0, 0, 0, 0, 0, 0, 0, 0, 0, 0], [0, 0, 1, 0, 0, 0, 0, 0, 0, 0, 0, 0, 0, 0, 0, 0, 0, 0, 0, 0], [0, 0, 0, 1, 0, 0, 0, 0, 0, 0, 0, 0, 0, 0, 0, 0, 0, 0, 0, 0], [0, 0, 0, 0, 1, 0, 0, 0, 0, 0, 0, 0, 0, 0, 0, 0, 0, 0, 0, 0], [0, 0, 0, 0, 0, 1, 0, 0, 0, 0, 0, 0, 0, 0, 0, 0, 0, 0, 0, 0], [0, 0, 0, 0, 0, 0, 1, 0, 0, 0, 0, 0, 0, 0, 0, 0, 0, 0, 0, 0], [0, 0, 0, 0, 0, 0, 0, 1, 0, 0, 0, 0, 0, 0, 0, 0, 0, 0, 0, 0], [0, 0, 0, 0, 0, 0, 0, 0, 1, 0, 0, 0, 0, 0, 0, 0, 0, 0, 0, 0], [0, 0, 0, 0, 0, 0, 0, 0, 0, 1, 0, 0, 0, 0, 0, 0, 0, 0, 0, 0], [0, 0, 0, 0, 0, 0, 0, 0, 0, 0, 1, 0, 0, 0, 0, 0, 0, 0, 0, 0], [0, 0, 0, 0, 0, 0, 0, 0, 0, 0, 0, 1, 0, 0, 0, 0, 0, 0, 0, 0], [0, 0, 0, 0, 0, 0, 0, 0, 0, 0, 0, 0, 1, 0, 0, 0, 0, 0, 0, 0], [0, 0, 0, 0, 0, 0, 0, 0, 0, 0, 0, 0, 0, 1, 0, 0, 0, 0, 0, 0], [0, 0, 0, 0, 0, 0, 0, 0, 0, 0, 0, 0, 0, 0, 1, 0, 0, 0, 0, 0], [0, 0, 0, 0, 0, 0, 0, 0, 0, 0, 0, 0, 0, 0, 0, 1, 0, 0, 0, 0], [0, 0, 0, 0, 0, 0, 0, 0, 0, 0, 0, 0, 0, 0, 0, 0, 1, 0, 0, 0], [0, 0, 0, 0, 0, 0, 0, 0, 0, 0, 0, 0, 0, 0, 0, 0, 0, 1, 0, 0], [0, 0, 0, 0, 0, 0, 0, 0, 0, 0, 0, 0, 0, 0, 0, 0, 0, 0, 1, 0], [0, 0, 0, 0, 0, 0, 0, 0, 0, 0, 0, 0, 0, 0, 0, 0, 0, 0, 0, 1], [-1, 0, 0, 0, 0, -1, 0, 0, 0, 0, -1, 0, 0, 0, 0, -1, 0, 0, 0, 0], [0, -1, 0, 0, 0, 0, -1, 0, 0, 0, 0, -1, 0, 0, 0, 0, -1, 0, 0, 0], [0, 0, -1, 0, 0, 0, 0, -1, 0, 0, 0, 0, -1, 0, 0, 0, 0, -1, 0, 0], [0, 0, 0, -1, 0, 0, 0, 0, -1, 0, 0, 0, 0, -1, 0, 0, 0, 0, -1, 0], [0, 0, 0, 0, -1, 0, 0, 0, 0, -1, 0, 0, 0, 0, -1, 0, 0, 0, 0, -1]], [[1, 0, 0, 0, 0, 0, 0, 0, 0, 0, 0, 0], [0, 1, 0, 0, 0, 0, 0, 0, 0, 0, 0, 0], [0, 0, 1, 0, 0, 0, 0, 0, 0, 0, 0, 0], [0, 0, 0, 1, 0, 0, 0, 0, 0, 0, 0, 0], [0, 0, 0, 0, 1, 0, 0, 0, 0, 0, 0, 0], [0, 0, 0, 0, 0, 1, 0, 0, 0, 0, 0, 0], [0, 0, 0, 0, 0, 0, 1, 0, 0, 0, 0, 0], [0, 0, 0, 0, 0, 0, 0, 1, 0, 0, 0, 0], [0, 0, 0, 0, 0, 0, 0, 0, 1, 0, 0, 0], [0, 0, 0, 0, 0, 0, 0, 0, 0, 1, 0, 0], [0, 0, 0, 0, 0, 0, 0, 0, 0, 0, 1, 0], [0, 0, 0, 0, 0, 0, 0, 0, 0, 0, 0, 1], [-1, 1, -1, 1, -1, 1, -1, 1, -1, 1, -1, 1], [-1, 0, 0, 0, 0, 0, 0, 0, 0, 0, 0, 0], [0, -1, 0, 0, 0, 0, 0, 0, 0, 0, 0, 0], [0, 0, -1, 0, 0, 0, 0, 0, 0, 0, 0, 0], [0, 0, 0, -1, 0, 0, 0, 0, 0, 0, 0, 0], [0, 0, 0, 0, -1, 0, 0, 0, 0, 0, 0, 0], [0, 0, 0, 0, 0, -1, 0, 0, 0, 0, 0, 0], [0, 0, 0, 0, 0, 0, -1, 0, 0, 0, 0, 0], [0, 0, 0, 0, 0, 0, 0, -1, 0, 0, 0, 0], [0, 0, 0, 0, 0, 0, 0, 0, -1, 0, 0, 0], [0, 0, 0, 0, 0, 0, 0, 0, 0, -1, 0, 0], [0, 0, 0, 0, 0, 0, 0, 0, 0, 0, -1, 0], [0, 0, 0, 0, 0, 0, 0, 0, 0, 0, 0, -1], [1, -1, 1, -1, 1, -1, 1, -1, 1, -1, 1, -1]], [[1, 0, 0, 0, 0, 0, 0, 0, 0, 0, 0, 0, 0, 0, 0, 0, 0, 0], [0, 1, 0, 0, 0, 0, 0, 0, 0, 0, 0, 0, 0, 0, 0, 0, 0, 0], [0, 0, 1, 0, 0, 0, 0, 0, 0, 0, 0, 0, 0, 0, 0, 0, 0, 0], [0, 0, 0, 1, 0, 0, 0, 0, 0, 0, 0, 0, 0, 0, 0, 0, 0, 0], [0, 0, 0, 0, 1, 0, 0, 0, 0, 0, 0, 0, 0, 0, 0, 0, 0, 0], [0, 0, 0, 0, 0, 1, 0, 0, 0, 0, 0, 0, 0, 0, 0, 0, 0, 0], [0, 0, 0, 0, 0, 0, 1, 0, 0, 0, 0, 0, 0, 0, 0, 0, 0, 0], [0, 0, 0, 0, 0, 0, 0, 1, 0, 0, 0, 0, 0, 0, 0, 0, 0, 0], [0, 0, 0, 0, 0, 0, 0, 0, 1, 0, 0, 0, 0, 0, 0, 0, 0, 0], [0, 0, 0, 0, 0, 0, 0, 0, 0, 1, 0, 0, 0, 0, 0, 0, 0, 0], [0, 0, 0, 0, 0, 0, 0, 0, 0, 0, 1, 0, 0, 0, 0, 0, 0, 0], [0, 0, 0, 0, 0, 0, 0, 0, 0, 0, 0, 1, 0, 0, 0, 0, 0, 0], [0, 0, 0, 0, 0, 0, 0, 0, 0, 0, 0, 0, 1, 0, 0, 0, 0, 0], [0, 0, 0, 0, 0, 0, 0, 0, 0, 0, 0, 0, 0, 1, 0, 0, 0, 0], [0, 0, 0, 0, 0, 0, 0, 0, 0, 0, 0, 0, 0, 0, 1, 0, 0, 0], [0, 0, 0, 0, 0, 0, 0, 0, 0, 0, 0, 0, 0, 0, 0, 1, 0, 0], [0, 0, 0, 0, 0, 0, 0, 0, 0, 0, 0, 0, 0, 0, 0, 0, 1, 0], [0, 0, 0, 0, 0, 0, 0, 0, 0, 0, 0, 0, 0, 0, 0, 0, 0, 1], [-1, 0, 0, 0, 0, 0, 0, 0, 0, -1, 0, 0, 0, 0, 0, 0, 0, 0], [0, -1, 0, 0, 0, 0, 0, 0, 0, 0, -1, 0, 0, 0, 0, 0, 0, 0], [0, 0, -1, 0, 0, 0, 0, 0, 0, 0, 0, -1, 0, 0, 0, 0, 0, 0], [0, 0, 0, -1, 0, 0, 0, 0, 0, 0, 0, 0, -1, 0, 0, 0, 0, 0], [0, 0, 0, 0, -1, 0, 0, 0, 0, 0, 0, 0, 0, -1, 0, 0, 0, 0], [0, 0, 0, 0, 0, -1, 0, 0, 0, 0, 0, 0, 0, 0, -1, 0, 0, 0], [0, 0, 0, 0, 0, 0, -1, 0, 0, 0, 0, 0, 0, 0, 0, -1, 0, 0], [0, 0, 0, 0, 0, 0, 0, -1, 0, 0, 0, 0, 0, 0, 0, 0, -1, 0], [0, 0, 0, 0, 0, 0, 0, 0, -1, 0, 0, 0, 0, 0, 0, 0, 0, -1]], [[1, 0, 0, 0, 0, 0, 0, 0, 0, 0, 0, 0], [0, 1, 0, 0, 0, 0, 0, 0, 0, 0, 0, 0], [0, 0, 1, 0, 0, 0, 0, 0, 0, 0, 0, 0], [0, 0, 0, 1, 0, 0, 0, 0, 0, 0, 0, 0], [0, 0, 0, 0, 1, 0, 0, 0, 0, 0, 0, 0], [0, 0, 0, 0, 0, 1, 0, 0, 0, 0, 0, 0], [0, 0, 0, 0, 0, 0, 1, 0, 0, 0, 0, 0], [0, 0, 0, 0, 0, 0, 0, 1, 0, 0, 0, 0], [0, 0, 0, 0, 0, 0, 0, 0, 1, 0, 0, 0], [0, 0, 0, 0, 0, 0, 0, 0, 0, 1, 0, 0], [0, 0, 0, 0, 0, 0, 0, 0, 0, 0, 1, 0], [0, 0, 0, 0, 0, 0, 0, 0, 0, 0, 0, 1], [-1, 0, 1, 0, -1, 0, 1, 0, -1, 0, 1, 0], [0, -1, 0, 1, 0, -1, 0, 1, 0, -1, 0, 1], [-1, 0, 0, 0, 0, 0, 0, 0, 0, 0, 0, 0], [0, -1, 0, 0, 0, 0, 0, 0, 0, 0, 0, 0], [0, 0, -1, 0, 0, 0, 0, 0, 0, 0, 0, 0], [0, 0, 0, -1, 0, 0, 0, 0, 0, 0, 0, 0], [0, 0, 0, 0, -1, 0, 0, 0, 0, 0, 0, 0], [0, 0, 0, 0, 0, -1, 0, 0, 0, 0, 0, 0], [0, 0, 0, 0, 0, 0, -1, 0, 0, 0, 0, 0], [0, 0, 0, 0, 0, 0, 0, -1, 0, 0, 0, 0], [0, 0, 0, 0, 0, 0, 0, 0, -1, 0, 0, 0], [0, 0, 0, 0, 0, 0, 0, 0, 0, -1, 0, 0], [0, 0, 0, 0, 0, 0, 0, 0, 0, 0, -1, 0], [0, 0, 0, 0, 0, 0, 0, 0, 0, 0, 0, -1], [1, 0, -1, 0, 1, 0, -1, 0, 1, 0, -1, 0], [0, 1, 0, -1, 0, 1, 0, -1, 0, 1, 0, -1]], [[1, 0, 0, 0, 0, 0, 0, 0, 0, 0, 0, 0, 0, 0, 0, 0, 0, 0, 0, 0, 0, 0, 0, 0, 0, 0, 0, 0], [0, 1, 0, 0, 0, 0, 0, 0, 0, 0, 0, 0, 0, 0, 0, 0, 0, 0, 0, 0, 0, 0, 0, 0, 0, 0, 0, 0], [0, 0, 1, 0, 0, 0, 0, 0, 0, 0, 0, 0, 0, 0, 0, 0, 0, 0, 0, 0, 0, 0, 0, 0, 0, 0, 0, 0], [0, 0, 0, 1, 0, 0, 0, 0, 0, 0, 0, 0, 0, 0, 0, 0, 0, 0, 0, 0, 0, 0, 0, 0, 0, 0, 0, 0], [0, 0, 0, 0, 1, 0, 0, 0, 0, 0, 0, 0, 0, 0, 0, 0, 0, 0, 0, 0, 0, 0, 0, 0, 0, 0, 0, 0], [0, 0, 0, 0, 0, 1, 0, 0, 0, 0, 0, 0, 0, 0, 0, 0, 0, 0, 0, 0, 0, 0, 0, 0, 0, 0, 0, 0], [0, 0, 0, 0, 0, 0, 1, 0, 0, 0, 0, 0, 0, 0, 0, 0, 0, 0, 0, 0, 0, 0, 0, 0, 0, 0, 0, 0], [0, 0, 0, 0, 0, 0, 0, 1, 0, 0, 0, 0, 0, 0, 0, 0, 0, 0, 0, 0, 0, 0, 0, 0, 0, 0, 0, 0], [0, 0, 0, 0, 0, 0, 0, 0, 1, 0, 0, 0, 0, 0, 0, 0, 0, 0, 0, 0, 0, 0, 0, 0, 0, 0, 0, 0], [0, 0, 0, 0, 0, 0, 0, 0, 0, 1, 0, 0, 0, 0, 0, 0, 0, 0, 0, 0, 0, 0, 0, 0, 0, 0, 0, 0], [0, 0, 0, 0, 0, 0, 0, 0, 0, 0, 1, 0, 0, 0, 0, 0, 0, 0, 0, 0, 0, 0, 0, 0, 0, 0, 0, 0], [0, 0, 0, 0, 0, 0, 0, 0, 0, 0, 0, 1, 0, 0, 0, 0, 0, 0, 0, 0, 0, 0, 0, 0, 0, 0, 0, 0], [0, 0, 0, 0, 0, 0, 0, 0, 0, 0, 0, 0, 1, 0, 0, 0, 0, 0, 0, 0, 0, 0, 0, 0, 0, 0, 0, 0], [0, 0, 0, 0, 0, 0, 0, 0, 0, 0, 0, 0, 0, 1, 0, 0, 0, 0, 0, 0, 0, 0, 0, 0, 0, 0, 0, 0], [0, 0, 0, 0, 0, 0, 0, 0, 0, 0, 0, 0, 0, 0, 1, 0, 0, 0, 0, 0, 0, 0, 0, 0, 0, 0, 0, 0], [0, 0, 0, 0, 0, 0, 0, 0, 0, 0, 0, 0, 0, 0, 0, 1, 0, 0, 0, 0, 0, 0, 0, 0, 0, 0, 0, 0], [0, 0, 0, 0, 0, 0, 0, 0, 0, 0, 0, 0, 0, 0, 0, 0, 1, 0, 0, 0, 0, 0, 0, 0, 0, 0, 0, 0], [0, 0, 0, 0, 0, 0, 0, 0, 0, 0, 0, 0, 0, 0, 0, 0, 0, 1, 0, 0, 0, 0, 0, 0, 0, 0, 0, 0], [0, 0, 0, 0, 0, 0, 0, 0, 0, 0, 0, 0, 0, 0, 0, 0, 0, 0, 1, 0, 0, 0, 0, 0, 0, 0, 0, 0], [0, 0, 0, 0, 0, 0, 0, 0, 0, 0, 0, 0, 0, 0, 0, 0, 0, 0, 0, 1, 0, 0, 0, 0, 0, 0, 0, 0], [0, 0, 0, 0, 0, 0, 0, 0, 0, 0, 0, 0, 0, 0, 0, 0, 0, 0, 0, 0, 1, 0, 0, 0, 0, 0, 0, 0], [0, 0, 0, 0, 0, 0, 0, 0, 0, 0, 0, 0, 0, 0, 0, 0, 0, 0, 0, 0, 0, 1, 0, 0, 0, 0, 0, 0], [0, 0, 0, 0, 0, 0, 0, 0, 0, 0, 0, 0, 0, 0, 0, 0, 0, 0, 0, 0, 0, 0, 1, 0, 0, 0, 0, 0], [0, 0, 0, 0, 0, 0, 0, 0, 0, 0, 0, 0, 0, 0, 0, 0, 0, 0, 0, 0, 0, 0, 0, 1, 0, 0, 0, 0], [0, 0, 0, 0, 0, 0, 0, 0, 0, 0, 0, 0, 0, 0, 0, 0, 0, 0, 0, 0, 0, 0, 0, 0, 1, 0, 0, 0], [0, 0, 0, 0, 0, 0, 0, 0, 0, 0, 0, 0, 0, 0, 0, 0, 0, 0, 0, 0, 0, 0, 0, 0, 0, 1, 0, 0], [0, 0, 0, 0, 0, 0, 0, 0, 0, 0, 0, 0, 0, 0, 0, 0, 0, 0, 0, 0, 0, 0, 0, 0, 0, 0, 1, 0], [0, 0, 0, 0, 0, 0, 0, 0, 0, 0, 0, 0, 0, 0, 0, 0, 0, 0, 0, 0, 0, 0, 0, 0, 0, 0, 0, 1], [-1, -1, -1, -1, -1, -1, -1, -1, -1, -1, -1, -1, -1, -1, -1, -1, -1, -1, -1, -1, -1, -1, -1, -1, -1, -1, -1, -1]], [[1, 0, 0, 0, 0, 0, 0, 0], [0, 1, 0, 0, 0, 0, 0, 0], [0, 0, 1, 0, 0, 0, 0, 0], [0, 0, 0, 1, 0, 0, 0, 0], [0, 0, 0, 0, 1, 0, 0, 0], [0, 0, 0, 0, 0, 1, 0, 0], [0, 0, 0, 0, 0, 0, 1, 0], [0, 0, 0, 0, 0, 0, 0, 1], [-1, -1, 0, 1, 1, 1, 0, -1], [1, 0, -1, -1, 0, 0, 1, 1], [-1, 0, 0, 0, 0, 1, 0, 0], [0, -1, 0, 0, 0, 0, 1, 0], [0, 0, -1, 0, 0, 0, 0, 1], [-1, -1, 0, 0, 1, 1, 0, -1], [1, 0, -1, -1, -1, 0, 1, 1], [-1, 0, 0, 0, 0, 0, 0, 0], [0, -1, 0, 0, 0, 0, 0, 0], [0, 0, -1, 0, 0, 0, 0, 0], [0, 0, 0, -1, 0, 0, 0, 0], [0, 0, 0, 0, -1, 0, 0, 0], [0, 0, 0, 0, 0, -1, 0, 0], [0, 0, 0, 0, 0, 0, -1, 0], [0, 0, 0, 0, 0, 0, 0, -1], [1, 1, 0, -1, -1, -1, 0, 1], [-1, 0, 1, 1, 0, 0, -1, -1], [1, 0, 0, 0, 0, -1, 0, 0], [0, 1, 0, 0, 0, 0, -1, 0], [0, 0, 1, 0, 0, 0, 0, -1], [1, 1, 0, 0, -1, -1, 0, 1], [-1, 0, 1, 1, 1, 0, -1, -1]]]
def pwr (n e : Nat) : List Int := (PW.getD n []).getD e []
def rtP (n e : Nat) : List Int := dvR (whl n) (List.replicate e 0 ++ [1])
theorem pwr_ok : ∀ n < 31, ∀ e < n, rtP n e = pwr n e := by decide +kernel
def addL (x y : List Int) : List Int := List.zipWith (· + ·) x y
theorem isum_none {f : Nat → Int} : ∀ {n : Nat}, (∀ j < n, f j = 0) → isum f n = 0
  | 0, _ => rfl
  | n + 1, h => by
    rw [isum, isum_none fun j hj => h j (by omega), h n (by omega)]
    rfl
theorem isum_one {f : Nat → Int} {j0 : Nat} : ∀ {n : Nat}, j0 < n → (∀ j < n, j ≠ j0 → f j = 0) → isum f n = f j0
  | 0, h, _ => by omega
  | n + 1, h, k => by
    rw [isum]
    by_cases c : j0 = n
    · subst c
      rw [isum_none fun j hj => k j (by omega) (by omega)]
      omega
    · rw [isum_one (by omega) fun j hj => k j (by omega), k n (by omega) (fun z => c z.symm)]
      omega
theorem subAt_zero {start : Nat} {bs r : List Int} : ∀ {i : Nat}, start + i ≤ r.length → subAt start 0 bs r i = r
  | 0, _ => rfl
  | i + 1, h => by
    rw [subAt, subAt_zero (by omega), Int.zero_mul, Int.sub_zero]
    exact set_same (by omega)
theorem dvN_zeros {bs x : List Int} {t : Nat} (hx : x.length = bs.length - 1) : ∀ n : Nat, n ≤ t → (dvN bs (x ++ List.replicate t 0) n).1 = x ++ List.replicate (t - n) 0
  | 0, _ => rfl
  | n + 1, h => by
    have ih := dvN_zeros (t := t) hx n (by omega)
    rw [dvN, dvS, ih]
    have et : t - n = t - (n + 1) + 1 := by omega
    have e1 : x ++ List.replicate (t - n) 0 = (x ++ List.replicate (t - (n + 1)) (0 : Int)) ++ [0] := by
      rw [et, List.replicate_succ', List.append_assoc]
    rw [e1]
    have e2 : ((x ++ List.replicate (t - (n + 1)) (0 : Int)) ++ [0]).length = x.length + (t - (n + 1)) + 1 := by
      rw [List.length_append, List.length_append, List.length_replicate]
      rfl
    have e3 : ((x ++ List.replicate (t - (n + 1)) (0 : Int)) ++ [0]).getD (((x ++ List.replicate (t - (n + 1)) (0 : Int)) ++ [0]).length - 1) 0 = 0 := by
      rw [e2, List.getD_eq_getElem?_getD, List.getElem?_append_right (by rw [List.length_append, List.length_replicate]; omega), List.length_append, List.length_replicate, show x.length + (t - (n + 1)) + 1 - 1 - (x.length + (t - (n + 1))) = 0 by omega]
      rfl
    show subAt _ _ bs (List.dropLast _) _ = _
    rw [e3, List.dropLast_concat]
    refine subAt_zero ?_
    rw [e2, List.length_append, List.length_replicate]
    omega
theorem dvR_zeros {bs x : List Int} {t : Nat} (hx : x.length = bs.length - 1) : dvR bs (x ++ List.replicate t 0) = x := by
  unfold dvR
  have e : (x ++ List.replicate t (0 : Int)).length - (bs.length - 1) = t := by
    rw [List.length_append, List.length_replicate]
    omega
  rw [e, dvN_zeros hx t (Nat.le_refl _), Nat.sub_self]
  show (x ++ []) ++ List.replicate (bs.length - 1 - (x ++ []).length) 0 = x
  rw [List.append_nil, hx, Nat.sub_self]
  exact List.append_nil x
theorem pmul_c {ys : List Int} {c : Int} {t : Nat} (h1 : 1 ≤ ys.length) : pmul ys (c :: List.replicate t 0) = ys.map (· * c) ++ List.replicate t 0 := by
  have hl : (pmul ys (c :: List.replicate t 0)).length = (ys.map (· * c) ++ List.replicate t (0 : Int)).length := by
    rw [pmul_len, List.length_cons, List.length_append, List.length_map, List.length_replicate]
    omega
  have e : ∀ k, (pmul ys (c :: List.replicate t 0)).getD k 0 = (ys.map (· * c) ++ List.replicate t (0 : Int)).getD k 0 := fun k => by
    have h2 : 1 ≤ (c :: List.replicate t (0 : Int)).length := by rw [List.length_cons]; omega
    have hin : ∀ i, isum (fun j => if i + j = k then ys.getD i 0 * (c :: List.replicate t (0 : Int)).getD j 0 else 0) (c :: List.replicate t (0 : Int)).length = if i = k then ys.getD i 0 * c else 0 := fun i => by
      rw [isum_one (j0 := 0) (by omega) fun j hj hne => ?_]
      · rfl
      · by_cases cc : i + j = k
        · rw [if_pos cc]
          cases j with
          | zero => exact absurd rfl hne
          | succ j =>
            have : (c :: List.replicate t (0 : Int)).getD (j + 1) 0 = 0 := by
              rw [List.getD_eq_getElem?_getD, List.getElem?_cons_succ, List.getElem?_replicate]
              split <;> rfl
            rw [this, Int.mul_zero]
        · rw [if_neg cc]
    unfold pmul
    rw [pmN_get h2 (Nat.le_refl _), isum_congr fun i _ => hin i]
    by_cases ck : k < ys.length
    · rw [isum_one ck fun j hj hne => if_neg hne, if_pos rfl, List.getD_eq_getElem?_getD, List.getD_eq_getElem?_getD, List.getElem?_append_left (by rw [List.length_map]; exact ck), List.getElem?_map, List.getElem?_eq_getElem ck]
      rfl
    · rw [isum_none fun j hj => if_neg (by omega), List.getD_eq_getElem?_getD, List.getElem?_append_right (by rw [List.length_map]; omega), List.getElem?_replicate]
      split <;> rfl
  refine List.ext_getElem hl fun k a b => ?_
  have := e k
  rw [List.getD_eq_getElem?_getD, List.getD_eq_getElem?_getD, List.getElem?_eq_getElem a, List.getElem?_eq_getElem b] at this
  exact this
theorem prod_c {n : Nat} {ys : List Int} {c : Int} (hy : ys.length = (whl n).length - 1) (h1 : 1 ≤ ys.length) : dvR (whl n) (pmul ys (c :: List.replicate ((whl n).length - 2) 0)) = ys.map (· * c) := by
  rw [pmul_c h1]
  exact dvR_zeros (by rw [List.length_map]; exact hy)
abbrev s_Roots_has_root : Stmt := inClass (top 19) 4
abbrev N_Roots_has_root : List Str := ["self", "length"]
abbrev P_Roots_has_root : List Str := ["self", "length"]
theorem sc_Roots_has_root : FnScope N_Roots_has_root P_Roots_has_root (defScope s_Roots_has_root) := ⟨rfl, rfl, rfl, by decide +kernel, rfl, by decide +kernel, by decide +kernel⟩
def spHasR (C : Addr) : Sp := fun vs H Q _ => ∃ (a : Addr) (n L : Nat), vs = [.ref a, .int (L : Int)] ∧ RootAt C H a n ∧ 1 ≤ L ∧ L ≤ 1000 ∧ Q (.bl (decide (n % L = 0))) H
abbrev s_Roots_root_at : Stmt := inClass (top 19) 10
abbrev N_Roots_root_at : List Str := ["self", "length", "power", "raised"]
abbrev P_Roots_root_at : List Str := ["self", "length", "power"]
theorem sc_Roots_root_at : FnScope N_Roots_root_at P_Roots_root_at (defScope s_Roots_root_at) := ⟨rfl, rfl, rfl, by decide +kernel, rfl, by decide +kernel, by decide +kernel⟩
def spRootA (C CR : Addr) : Sp := fun vs H Q E => ∃ (a : Addr) (n L : Nat) (p : Int), vs = [.ref a, .int (L : Int), .int p] ∧ RootAt C H a n ∧ 1 ≤ n ∧ n < 31 ∧ 1 ≤ L ∧ L ≤ 1000 ∧
  (n % L = 0 → ∀ z H', H z = none → Same H H' → H' z = some (.tup ((pwr n (n / L * (p % L).toNat)).map V.int)) → Q (.ref z) H') ∧ (¬ n % L = 0 → ∀ d H', H d = none → Same H H' → H' d = some (.xd [(("what" : Str), .int (L : Int))]) → E (.ref CR) (some d) H')
theorem pwr_lt {n L : Nat} {p : Int} (h1 : 1 ≤ n) (hL : 1 ≤ L) (h : n % L = 0) : n / L * (p % (L : Int)).toNat < n := by
  have h2 : (p % (L : Int)).toNat < L := by
    have := Int.emod_lt_of_pos p (show (0 : Int) < L by omega)
    have := Int.emod_nonneg p (show (L : Int) ≠ 0 by omega)
    omega
  have h3 : n / L * L = n := Nat.div_mul_cancel (Nat.dvd_of_mod_eq_zero h)
  have h4 : 0 < n / L := by
    apply Nat.pos_of_ne_zero
    intro z
    rw [z, Nat.zero_mul] at h3
    omega
  calc n / L * (p % (L : Int)).toNat < n / L * L := Nat.mul_lt_mul_of_pos_left h2 h4
    _ = n := h3
section
variable {P : Program} {w : World} {K : PySem.W.Frag} {mg : Str → Option Value} {base : Heap}
theorem ok_hasR {f C : Addr} {fd : FuncData} {k : Nat} (F : Fun K "has_root" "Roots.has_root" s_Roots_has_root f fd) (RC : RootC K C) : FnOk P w K mg base CX0 (k + 1) f fd P_Roots_has_root (spHasR C) := by
  have nd := sc_Roots_has_root.nd
  refine F.ok sc_Roots_has_root (fun vs H Q E h => ?_) (fun cdv A outer s H vs Q E hr h => ?_)
  · obtain ⟨a, n, L, rfl, _⟩ := h
    rfl
  · obtain ⟨a, n, L, rfl, ⟨dx, r, ha, hrm⟩, L1, L2', q⟩ := h
    refine ⟨_, (pss_one (ps_ret (pe_and (pe_cmpR op_gt (pv 1) (pe_int) (nomark _)) (pe_one (pe_cmpR op_eq (pe_op op_mod (pe_fld (pv 0) (by rfl)) (pv 1)) (pe_int) (nomark _)))))), ?_⟩
    obtain ⟨cl, no, nr⟩ := RC
    have c1 : decide ((0 : Int) < (L : Int)) = true := decide_eq_true (by omega)
    walk_at "ev"
    refine iteTe c1 ?_
    walk_at "ev"
    have e : decide (V.int ((n : Int) % (L : Int)) = V.int 0) = decide (n % L = 0) := by
      exact decide_eq_decide.mpr ⟨fun h => by have := V.int.inj h; omega, fun h => congrArg V.int (by omega)⟩
    rw [e]
    exact q
theorem ok_rootA {f f1 f2 fI C CR CT : Addr} {fd d1 d2 fdI : FuncData} {k : Nat} (F : Fun K "root_at" "Roots.root_at" s_Roots_root_at f fd) (T : Blt mg) (RC : RootC K C) (F1 : Fun K "has_root" "Roots.has_root" s_Roots_has_root f1 d1) (B_Roots_has_root : Binds K d1 P_Roots_has_root []) (ME_Roots_has_root : Meth K C "has_root" f1) (D_divided : Df K mg "divided" s_divided P_divided f2 d2)
    (FI : Fun K "__init__" "TurnError.__init__" s_init fI fdI) (I_b : Binds K fdI N_init []) (I_ty : PySem.W.typeIn K (.ref fI) = some (.type "function")) (R : Ref K CT CR fI) (M_NoRoot : mg "NoRoot" = some (.ref CR)) : FnOk P w K mg base (L2.CX P w) (k + 3) f fd P_Roots_root_at (spRootA C CR) := by
  have G_init : FnOk P w K mg base CX0 1 fI fdI N_init (spInit K) := ok_init FI
  have G_Roots_has_root : FnOk P w K mg base CX0 1 f1 d1 P_Roots_has_root (spHasR C) := ok_hasR F1 RC
  have G_divided : FnOk P w K mg base CX0 1 f2 d2 P_divided (spDvd2 K) := ok_divided2 D_divided.F T
  have EK_NoRoot := R.ek
  have II_NoRoot := R.ini
  have CL_Roots := RC.cl
  have nd := sc_Roots_root_at.nd
  refine F.okX sc_Roots_root_at (fun vs H Q E h => ?_) (fun cdv A outer s H vs Q E hr h => ?_)
  · obtain ⟨a, n, L, p, rfl, _⟩ := h
    rfl
  · obtain ⟨a, n, L, p, rfl, hR, n1, n31, L1, L2', qy, qn⟩ := h
    refine ⟨_, (pss_cons (ps_if (pt_not (pt_val (pe_meth (pv 0) CL_Roots ME_Roots_has_root G_Roots_has_root (hr.mono (by omega)) B_Roots_has_root .nil pass0 (pa_cons (pv 1) pa_nil)))) (pss_one (ps_raise rfl (takes_of rfl rfl rfl rfl) (pmk_oex EK_NoRoot.oex II_NoRoot I_ty G_init (hr.mono (by omega)) I_b .nil pass0 (by rfl) M_NoRoot (pa_cons (pv 1) pa_nil)))) pss_nil)
      (pss_cons (ps_set (i := 3) nd rfl (Or.inl rfl) (pe_op op_mul (pe_op op_fdiv (pe_fld (pv 0) (by rfl)) (pv 1)) (pe_op op_mod (pv 2) (pv 1))))
      (pss_one (ps_ret (pe_callTy call_tuple_of (by rfl) T.b_tuple (by decide +kernel) (pa_cons (pe_ix (r := rIxT K) ix_tup (pe_call G_divided (hr.mono (by omega)) (by rfl) D_divided.g D_divided.F.kp D_divided.b .nil pass0 (pa_cons (pe_op op_cat (pe_op op_rep (pe_lst (pa_cons (pe_int) pa_nil)) (pv 3)) (pe_lst (pa_cons (pe_int) pa_nil))) (pa_cons (pe_fld (pv 0) (by rfl)) pa_nil))) (pe_int) (fun _ _ => rfl)) pa_nil)))))), ?_⟩
    obtain ⟨no, nr⟩ := (⟨RC.no, RC.nr⟩ : NoAttr K C "order" ∧ NoAttr K C "rim")
    obtain ⟨w2, w31, wl⟩ := whl_last n n31 n1
    have wb := whl_bnd n n31
    obtain ⟨dx, r, ha, hrm⟩ := hR
    have hR' : RootAt C H a n := ⟨dx, r, ha, hrm⟩
    walk_at "ev"
    by_cases c : n % L = 0
    · rw [decide_eq_true c]
      have hlt := pwr_lt (p := p) n1 L1 c
      have m0 := Int.emod_nonneg p (show (L : Int) ≠ 0 by omega)
      have m1 := Int.emod_lt_of_pos p (show (0 : Int) < (L : Int) by omega)
      have ee : (n : Int) / (L : Int) * (p % (L : Int)) = ((n / L * (p % (L : Int)).toNat : Nat) : Int) := by
        rw [Int.natCast_mul, Int.toNat_of_nonneg m0]
        rfl
      have cm : CMul ((n : Int) / (L : Int)) (p % (L : Int)) := .inr ⟨by omega, by omega⟩
      obtain ⟨e, he⟩ : ∃ e, n / L * (p % (L : Int)).toNat = e := ⟨_, rfl⟩
      rw [he] at ee hlt
      walk_at "ev"
      w_cond _1
      have z1 : ([V.int 0] : List V).length * ((n : Int) / (L : Int) * (p % (L : Int))).toNat ≤ sizeLine := szl (by rw [ee, Int.toNat_natCast]; show 1 * e ≤ 60000; omega)
      have z2 : -(2 ^ 63) ≤ (n : Int) / (L : Int) * (p % (L : Int)) := by rw [ee]; omega
      have z3 : (n : Int) / (L : Int) * (p % (L : Int)) < 2 ^ 63 := by rw [ee]; omega
      walk_at "ev"
      w_cond _2
      rw [ee, rep1] at hq2
      walk_at "ev"
      w_cond _3
      have hq23 := sm3 _ _ hq2
      have z4 : (List.replicate e (V.int 0)).length + ([V.int 1] : List V).length ≤ sizeLine := szl (by rw [List.length_replicate]; show e + 1 ≤ 60000; omega)
      walk_at "ev"
      w_cond _4
      have s04 := sm1.trans (sm2.trans (sm3.trans sm4))
      have ha4 := s04 _ _ ha
      have hRow : SqL K H4 l4 ((List.replicate e (0 : Int) ++ [1]).map V.int) := by
        have := SqL.of (K := K) hq4
        rw [List.map_append, List.map_replicate]
        exact this
      have hR4 : SqL K H4 r ((whl n).map V.int) ∨ SqT K H4 r ((whl n).map V.int) := .inr (SqT.of (s04 _ _ hrm))
      have y1 : 1 ≤ (whl n).length := by omega
      have y2 : (whl n).length ≤ 1000 := by omega
      have y3 : (List.replicate e (0 : Int) ++ [1]).length ≤ 1000 := by rw [List.length_append, List.length_replicate]; show e + 1 ≤ 1000; omega
      walk_at "ev"
      intro t' qq z H5 hq sm5 hT hQ hz hZ
      have e2 : dvR (whl n) (List.replicate e (0 : Int) ++ [1]) = pwr n e := pwr_ok n n31 e hlt
      rw [e2] at hZ
      have at1 : atI [V.ref qq, V.ref z] 1 = some (.ref z) := rfl
      walk_at "ev"
      refine .inl ⟨SqL.of hZ, ?_⟩
      w_cond _6
      have q1 := qy c l6 H6 ((s04.trans sm5).free hl6) (s04.trans (sm5.trans sm6))
      rw [he] at q1
      exact q1 hq6
    · rw [decide_eq_false c]
      walk_at "ev"
      exact mk_what R.ek fun d H' hd sm hq => qn c d H' hd sm hq
end
abbrev s_Roots_shared_by : Stmt := inClass (top 19) 11
abbrev N_Roots_shared_by : List Str := ["self", "worth", "number", "part"]
abbrev P_Roots_shared_by : List Str := ["self", "worth", "number"]
theorem sc_Roots_shared_by : FnScope N_Roots_shared_by P_Roots_shared_by (defScope s_Roots_shared_by) := ⟨rfl, rfl, rfl, by decide +kernel, rfl, by decide +kernel, by decide +kernel⟩
def spShareO (K : PySem.W.Frag) (CS : Addr) : Sp := fun vs H Q E => ∃ (a x : Addr) (xs : List Int) (m : Int), vs = [.ref a, .ref x, .int m] ∧ SqT K H x (xs.map V.int) ∧ xs.length ≤ 100 ∧ 1 ≤ m ∧ m ≤ 1000000 ∧
  ((∀ i ∈ xs, i % m = 0) → ∀ z H', H z = none → Same H H' → H' z = some (.tup ((xs.map (· / m)).map V.int)) → Q (.ref z) H') ∧ ((¬ ∀ i ∈ xs, i % m = 0) → ∀ d H', H d = none → Same H H' → H' d = some (.xd [(("what" : Str), .int m)]) → E (.ref CS) (some d) H')
section
variable {P : Program} {w : World} {K : PySem.W.Frag} {mg : Str → Option Value} {base : Heap}
theorem ok_shareO {f fI CS CT : Addr} {fd fdI : FuncData} {k : Nat} (F : Fun K "shared_by" "Roots.shared_by" s_Roots_shared_by f fd) (T : Blt mg) (FI : Fun K "__init__" "TurnError.__init__" s_init fI fdI) (I_b : Binds K fdI N_init []) (I_ty : PySem.W.typeIn K (.ref fI) = some (.type "function")) (R : Ref K CT CS fI) (M_NoShare : mg "NoShare" = some (.ref CS)) : FnOk P w K mg base (L2.CX P w) (k + 3) f fd P_Roots_shared_by (spShareO K CS) := by
  have G_init : FnOk P w K mg base CX0 1 fI fdI N_init (spInit K) := ok_init FI
  have EK_NoShare := R.ek
  have II_NoShare := R.ini
  have nd := sc_Roots_shared_by.nd
  refine F.okX sc_Roots_shared_by (fun vs H Q E h => ?_) (fun cdv A outer s H vs Q E hr h => ?_)
  · obtain ⟨a, x, xs, m, rfl, _⟩ := h
    rfl
  · obtain ⟨a, x, xs, m, rfl, hx, hxl, m1, m2, qy, qn⟩ := h
    refine ⟨_, (pss_cons (ps_if (pt_val (pe_callB (r := rAny K) (cr_any rfl) (by rfl) T.b_any (by decide +kernel) (pa_cons (pe_lc (own := [("part", 3)]) (g := gName 3) (by rfl) nd (pi_tup (pv 1)) (blkOk_by (own := [("part", 3)]) (N := N_Roots_shared_by) (sc := defScope s_Roots_shared_by) (by decide +kernel)) (fun _ _ _ _ _ => (pg_name (i := 3) nd rfl (Or.inl rfl))) (fun _ _ _ _ _ => pts_nil) (fun _ _ _ _ _ => (pe_cmpR op_ne (pe_op op_mod (pv 3) (pv 2)) (pe_int) (nomark _)))) pa_nil))) (pss_one (ps_raise rfl (takes_of rfl rfl rfl rfl) (pmk_oex EK_NoShare.oex II_NoShare I_ty G_init (hr.mono (by omega)) I_b .nil pass0 (by rfl) M_NoShare (pa_cons (pv 2) pa_nil)))) pss_nil)
      (pss_one (ps_ret (pe_callTy call_tuple_of (by rfl) T.b_tuple (by decide +kernel) (pa_cons (pe_lc (own := [("part", 3)]) (g := gName 3) (by rfl) nd (pi_tup (pv 1)) (blkOk_by (own := [("part", 3)]) (N := N_Roots_shared_by) (sc := defScope s_Roots_shared_by) (by decide +kernel)) (fun _ _ _ _ _ => (pg_name (i := 3) nd rfl (Or.inl rfl))) (fun _ _ _ _ _ => pts_nil) (fun _ _ _ _ _ => (pe_op op_fdiv (pv 3) (pv 2)))) pa_nil))))), ?_⟩
    have hL' : ∃ xs, SqT K H x xs := ⟨_, hx⟩
    have cdm : CDiv 0 m := ⟨by omega, by omega⟩
    walk_at "ev"
    intro D hD
    refine lc_tup (K := K) (a := x) (xs := xs.map V.int) (fun i H' => Hold (Same H H' ∧ H' D = some (.lst (((xs.take i).map fun z => !decide (z % m = 0)).map V.bl)))) (.mk ⟨same_new hD, upd_same⟩) ?_ ?_ ?_
    · intro i H1 hi hP
      obtain ⟨sm1, hD1⟩ := hP.un
      exact same_t sm1 hx
    · intro i v H1 hv hP
      obtain ⟨sm1, hD1⟩ := hP.un
      rw [List.getElem?_map] at hv
      obtain ⟨y, hy, ev⟩ := Option.map_eq_some_iff.mp hv
      subst ev
      have hil : i < xs.length := (List.getElem?_eq_some_iff.mp hy).1
      have hsz : (((xs.take i).map fun z => !decide (z % m = 0)).map V.bl).length < sizeLine := szm (by rw [List.length_map, List.length_map, List.length_take]; omega)
      walk_at "ev"
      refine .mk ⟨same_mut sm1 hD, ?_⟩
      rw [upd_same, List.take_add_one, hy, List.map_append, List.map_append]
      have e : decide (V.int (y % m) = V.int 0) = decide (y % m = 0) := decide_eq_decide.mpr ⟨fun h => V.int.inj h, fun h => congrArg V.int h⟩
      rw [e]
      rfl
    · intro H1 hP
      obtain ⟨sm1, hD1⟩ := hP.un
      rw [List.length_map, List.take_length] at hD1
      refine ⟨D, _, rfl, SqL.of hD1, ?_⟩
      have hany : ((xs.map fun z => !decide (z % m = 0)).any id = true) ↔ ¬ ∀ i ∈ xs, i % m = 0 := by
        rw [List.any_map, List.any_eq_true]
        constructor
        · rintro ⟨z, hz, e⟩ h
          have : (!decide (z % m = 0)) = true := e
          rw [decide_eq_true (h z hz)] at this
          cases this
        · intro h
          apply Classical.byContradiction
          intro c
          apply h
          intro i hi
          apply Classical.byContradiction
          intro c2
          refine c ⟨i, hi, ?_⟩
          show (!decide (i % m = 0)) = true
          rw [decide_eq_false c2]
          rfl
      by_cases c : ∀ i ∈ xs, i % m = 0
      · have hf : (xs.map fun z => !decide (z % m = 0)).any id = false := by
          cases e : (xs.map fun z => !decide (z % m = 0)).any id with
          | false => rfl
          | true => exact absurd c (hany.mp e)
        rw [hf]
        have hx1 := same_t sm1 hx
        have hL1 : ∃ xs, SqT K H1 x xs := ⟨_, hx1⟩
        walk_at "ev"
        intro D2 hD2
        refine lc_tup (K := K) (a := x) (xs := xs.map V.int) (fun i H' => Hold (Same H1 H' ∧ H' D2 = some (.lst (((xs.take i).map (· / m)).map V.int)))) (.mk ⟨same_new hD2, upd_same⟩) ?_ ?_ ?_
        · intro i H2 hi hP2
          obtain ⟨sm2, hD2'⟩ := hP2.un
          exact same_t sm2 hx1
        · intro i v H2 hv hP2
          obtain ⟨sm2, hD2'⟩ := hP2.un
          rw [List.getElem?_map] at hv
          obtain ⟨y, hy, ev⟩ := Option.map_eq_some_iff.mp hv
          subst ev
          have hil : i < xs.length := (List.getElem?_eq_some_iff.mp hy).1
          have hsz : (((xs.take i).map (· / m)).map V.int).length < sizeLine := szm (by rw [List.length_map, List.length_map, List.length_take]; omega)
          walk_at "ev"
          refine .mk ⟨same_mut sm2 hD2, ?_⟩
          rw [upd_same, List.take_add_one, hy, List.map_append, List.map_append]
          rfl
        · intro H2 hP2
          obtain ⟨sm2, hD2'⟩ := hP2.un
          rw [List.length_map, List.take_length] at hD2'
          walk_at "ev"
          refine .inl ⟨SqL.of hD2', ?_⟩
          w_cond _3
          exact qy c l3 H3 ((sm1.trans sm2).free hl3) (sm1.trans (sm2.trans sm3)) hq3
      · rw [hany.mpr c]
        walk_at "ev"
        exact mk_what R.ek fun d H' hd sm hq => qn c d H' (sm1.free hd) (sm1.trans sm) hq
end
def gw : Gk → Int → Wt
  | .rests p, x => .i (x % p)
  | .roots n, x => .v (x :: List.replicate (wl n - 1) 0)
/-- a ground of either kind -/
def GrAt (C1 C2 : Addr) (H : Hp) (a : Addr) : Gk → Prop
  | .rests p => RestAt C1 H a p
  | .roots n => RootAt C2 H a n
theorem GrAt.same {C1 C2 : Addr} {H H' : Hp} {a : Addr} {g : Gk} (h : GrAt C1 C2 H a g) (e : Same H H') : GrAt C1 C2 H' a g := by
  cases g with
  | rests p => exact RestAt.same h e
  | roots n => exact RootAt.same h e
theorem GrAt.keep {C1 C2 : Addr} {H H' : Hp} {a b : Addr} {c : Int} {g : Gk} (h : GrAt C1 C2 H a g) (hb : BoxAt H b c) (e : Keep b H H') : GrAt C1 C2 H' a g := by
  cases g with
  | rests p =>
    obtain ⟨x, y, z, b1, _⟩ := hb
    refine RestAt.keep h (fun w => ?_) e
    obtain ⟨dx, gg, h1, h2⟩ := h
    rw [w, b1] at h1
    cases h1
  | roots n => exact RootAt.keep h hb e
theorem GrAt.mut {C1 C2 : Addr} {H : Hp} {a D : Addr} {g : Gk} {xs : List V} {o : HO} (h : GrAt C1 C2 H a g) (e : H D = some (.lst xs)) : GrAt C1 C2 (upd H D o) a g := by
  cases g with
  | rests p =>
    obtain ⟨dx, gg, h1, h2⟩ := h
    exact ⟨dx, gg, by rw [upd_ne (fun z => by rw [z, e] at h1; cases h1)]; exact h1, h2⟩
  | roots n =>
    obtain ⟨dx, r, h1, h2⟩ := h
    exact ⟨dx, r, by rw [upd_ne (fun z => by rw [z, e] at h1; cases h1)]; exact h1, by rw [upd_ne (fun z => by rw [z, e] at h2; cases h2)]; exact h2⟩
def kdG : Gk → Bool
  | .rests _ => true
  | .roots _ => false
def clG (C1 C2 : Addr) (r : Bool) : Addr := if r then C1 else C2
theorem GrAt.ins {C1 C2 : Addr} {H : Hp} {a : Addr} {g : Gk} (h : GrAt C1 C2 H a g) : ∃ dx fs, H a = some (.ins (clG C1 C2 (kdG g)) dx fs) ∧ List.lookup ("root_at" : Str) fs = none ∧ List.lookup ("shared_by" : Str) fs = none ∧ List.lookup ("sum_of" : Str) fs = none ∧ List.lookup ("product_of" : Str) fs = none := by
  cases g with
  | rests p =>
    obtain ⟨dx, gg, h1, h2⟩ := h
    exact ⟨dx, _, h1, rfl, rfl, rfl, rfl⟩
  | roots n =>
    obtain ⟨dx, r, h1, h2⟩ := h
    exact ⟨dx, _, h1, rfl, rfl, rfl, rfl⟩
def spUa (K : PySem.W.Frag) (C1 C2 : Addr) (r : Bool) : Sp := fun vs H Q _ => ∃ (a : Addr) (g : Gk) (x y : V) (u w : Wt), vs = [.ref a, x, y] ∧ GrAt C1 C2 H a g ∧ kdG g = r ∧ GkOk g ∧ WtAt K H x u ∧ WtAt K H y w ∧ nm g u ∧ nm g w ∧ ∀ v H', Same H H' → WtAt K H' v (gadd g u w) → Q v H'
def spUm (K : PySem.W.Frag) (C1 C2 : Addr) (r : Bool) : Sp := fun vs H Q _ => ∃ (a : Addr) (g : Gk) (x y : V) (u w : Wt), vs = [.ref a, x, y] ∧ GrAt C1 C2 H a g ∧ kdG g = r ∧ GkOk g ∧ WtAt K H x u ∧ WtAt K H y w ∧ nm g u ∧ nm g w ∧ bw u ∧ bw w ∧ ∀ v H', Same H H' → WtAt K H' v (gmul g u w) → Q v H'
section
variable {P : Program} {w : World} {K : PySem.W.Frag} {mg : Str → Option Value} {base : Heap}
theorem ok_u1a {f C1 C2 : Addr} {fd : FuncData} {k : Nat} (F : Fun K "sum_of" "Rests.sum_of" s_Rests_sum_of f fd) (RC : RestC K C1) : FnOk P w K mg base CX0 (k + 1) f fd P_Rests_sum_of (spUa K C1 C2 true) :=
  fnsub (ok_sum_of F RC) fun vs H Q E ⟨a, g, x, y, u, w, h1, h2, h3, h4, hx, hy, nx, ny, q⟩ => by
    cases g with
    | roots n => cases h3
    | rests p =>
      have := prs_b h4
      cases u with
      | v xs => exact nx.elim
      | i u =>
        cases w with
        | v xs => exact ny.elim
        | i w =>
          have ex : x = .int u := hx
          have ey : y = .int w := hy
          subst ex ey
          exact ⟨a, p, u, w, h1, h2, this.1, this.2, nx.1, nx.2, ny.1, ny.2, q _ _ (Same.refl _) rfl⟩
theorem ok_u1m {f C1 C2 : Addr} {fd : FuncData} {k : Nat} (F : Fun K "product_of" "Rests.product_of" s_Rests_product_of f fd) (RC : RestC K C1) : FnOk P w K mg base CX0 (k + 1) f fd P_Rests_product_of (spUm K C1 C2 true) :=
  fnsub (ok_product_of F RC) fun vs H Q E ⟨a, g, x, y, u, w, h1, h2, h3, h4, hx, hy, nx, ny, _, _, q⟩ => by
    cases g with
    | roots n => cases h3
    | rests p =>
      have := prs_b h4
      cases u with
      | v xs => exact nx.elim
      | i u =>
        cases w with
        | v xs => exact ny.elim
        | i w =>
          have ex : x = .int u := hx
          have ey : y = .int w := hy
          subst ex ey
          exact ⟨a, p, u, w, h1, h2, this.1, this.2, nx.1, nx.2, ny.1, ny.2, q _ _ (Same.refl _) rfl⟩
theorem ok_u2a {f C1 C2 : Addr} {fd : FuncData} {k : Nat} (F : Fun K "sum_of" "Roots.sum_of" s_Roots_sum_of f fd) (T : Blt mg) : FnOk P w K mg base CX0 (k + 1) f fd P_Roots_sum_of (spUa K C1 C2 false) :=
  fnsub (ok_sum_ofR F T) fun vs H Q E ⟨a, g, x, y, u, w, h1, h2, h3, h4, hx, hy, nx, ny, q⟩ => by
    cases g with
    | rests p => cases h3
    | roots n =>
      obtain ⟨w1, w2⟩ := wl1 h4.1 h4.2
      cases u with
      | i u => exact nx.elim
      | v u =>
        cases w with
        | i w => exact ny.elim
        | v w =>
          obtain ⟨tx, ex, hx⟩ := hx
          obtain ⟨t2, ey, hy⟩ := hy
          subst ex ey
          have l1 : u.length = wl n := nx
          have l2 : w.length = wl n := ny
          exact ⟨a, tx, t2, u, w, h1, hx, hy, by omega, by omega, fun p H' hp sm hq => q _ _ sm ⟨p, rfl, SqT.of hq⟩⟩
theorem ok_u2m {f f1 f2 C1 C2 : Addr} {fd d1 d2 : FuncData} {k : Nat} (F : Fun K "product_of" "Roots.product_of" s_Roots_product_of f fd) (T : Blt mg) (RC : RootC K C2) (D_divided : Df K mg "divided" s_divided P_divided f1 d1) (D_multiplied : Df K mg "multiplied" s_multiplied P_multiplied f2 d2) : FnOk P w K mg base CX0 (k + 2) f fd P_Roots_product_of (spUm K C1 C2 false) :=
  fnsub (ok_prodO F T RC D_divided D_multiplied) fun vs H Q E ⟨a, g, x, y, u, w, h1, h2, h3, h4, hx, hy, nx, ny, bx, by', q⟩ => by
    cases g with
    | rests p => cases h3
    | roots n =>
      obtain ⟨w1, w2⟩ := wl1 h4.1 h4.2
      cases u with
      | i u => exact nx.elim
      | v u =>
        cases w with
        | i w => exact ny.elim
        | v w =>
          obtain ⟨tx, ex, hx⟩ := hx
          obtain ⟨t2, ey, hy⟩ := hy
          subst ex ey
          have l1 : u.length = wl n := nx
          have l2 : w.length = wl n := ny
          exact ⟨a, tx, t2, n, u, w, h1, h2, h4.1, h4.2, hx, hy, by omega, by omega, by omega, by omega, bx, by', fun p H' hp sm hq => q _ _ sm ⟨p, rfl, SqT.of hq⟩⟩
end
/-! ### roots of either ground -/
def LgOk : Gk → Int → Prop
  | .rests p, q => ∃ out, IsPf (p - 1) out ∧ LeastGen p q (erl p out)
  | .roots _, _ => True
def rtW (g : Gk) (q : Int) (L m : Nat) : Wt := match g with
  | .rests p => .i (q ^ (((p - 1) / (L : Int)).toNat * m) % p)
  | .roots n => .v (rtP n (n / L * m))
theorem LgOk.un {g : Gk} {q q' : Int} (h : LgOk g q) (h' : LgOk g q') : rtW g q = rtW g q' := by
  cases g with
  | rests p =>
    obtain ⟨o1, a1, a2⟩ := h
    obtain ⟨o2, b1, b2⟩ := h'
    rw [least_un a1 b1 a2 b2]
  | roots n => rfl
theorem rt_lt {n L m : Nat} (h1 : 1 ≤ n) (hL : 1 ≤ L) (h : n % L = 0) (hm : m < L) : n / L * m < n := by
  have h3 : n / L * L = n := Nat.div_mul_cancel (Nat.dvd_of_mod_eq_zero h)
  have h4 : 0 < n / L := by
    apply Nat.pos_of_ne_zero
    intro z
    rw [z, Nat.zero_mul] at h3
    omega
  calc n / L * m < n / L * L := Nat.mul_lt_mul_of_pos_left hm h4
    _ = n := h3
theorem rtP_len {n e : Nat} : (rtP n e).length = wl n := dvR_len
theorem nm_rt {g : Gk} {q : Int} {L m : Nat} (h : GkOk g) : nm g (rtW g q L m) := by
  cases g with
  | rests p =>
    have := prs_b h
    exact ⟨Int.emod_nonneg _ (by omega), Int.emod_lt_of_pos _ (by omega)⟩
  | roots n => exact rtP_len
theorem rtP_b : ∀ n < 31, ∀ e < n, ∀ x ∈ rtP n e, x.natAbs ≤ 100 := by
  intro n hn e he x hx
  rw [pwr_ok n hn e he] at hx
  exact (by decide +kernel : ∀ n < 31, ∀ e < n, ∀ x ∈ pwr n e, x.natAbs ≤ 100) n hn e he x hx
/-- root_at -/
def spUr (K : PySem.W.Frag) (C1 C2 CR : Addr) (r : Bool) : Sp := fun vs H Q E => ∃ (a : Addr) (g : Gk) (L : Nat) (e : Int), vs = [.ref a, .int (L : Int), .int e] ∧ GrAt C1 C2 H a g ∧ kdG g = r ∧ GkOk g ∧ 1 ≤ L ∧ L ≤ 1000 ∧
  (numM g % (L : Int) = 0 → ∀ v q H', LgOk g q → Same H H' → WtAt K H' v (rtW g q L (e % (L : Int)).toNat) → Q v H') ∧
  (¬ numM g % (L : Int) = 0 → ∀ d H', H d = none → Same H H' → H' d = some (.xd [(("what" : Str), .int (L : Int))]) → E (.ref CR) (some d) H')
section
variable {P : Program} {w : World} {K : PySem.W.Frag} {mg : Str → Option Value} {base : Heap}
theorem ok_u1r {f f1 f2 fI C1 C2 CR CT : Addr} {fd d1 d2 fdI : FuncData} {k : Nat} (F : Fun K "root_at" "Rests.root_at" s_Rests_root_at f fd) (RC : RestC K C1) (ME_Rests_has_root : Meth K C1 "has_root" f1) (B_Rests_has_root : Binds K d1 P_Rests_has_root []) (F1 : Fun K "has_root" "Rests.has_root" s_Rests_has_root f1 d1) (D_power_rest : Df K mg "power_rest" s_power_rest P_power_rest f2 d2)
    (FI : Fun K "__init__" "TurnError.__init__" s_init fI fdI) (I_b : Binds K fdI N_init []) (I_ty : PySem.W.typeIn K (.ref fI) = some (.type "function")) (R : Ref K CT CR fI) (M_NoRoot : mg "NoRoot" = some (.ref CR)) : FnOk P w K mg base (L2.CX P w) (k + 3) f fd P_Rests_root_at (spUr K C1 C2 CR true) :=
  fnsub (ok_rootat F RC ME_Rests_has_root B_Rests_has_root F1 D_power_rest FI I_b I_ty R M_NoRoot) fun vs H Q E ⟨a, g, L, e, h1, h2, h3, h4, L1, L2', qy, qn⟩ => by
    cases g with
    | roots n => cases h3
    | rests p =>
      have pb := prs_b h4
      refine ⟨a, p, L, e, h1, h2, h4, by omega, by omega, fun hd gg out hp hl => ?_, qn⟩
      refine qy hd _ gg _ ⟨out, hp, hl⟩ (Same.refl _) ?_
      show V.int _ = V.int _
      have m0 := Int.emod_nonneg e (show (L : Int) ≠ 0 by omega)
      have q0 : 0 ≤ (p - 1) / (L : Int) := Int.ediv_nonneg (by omega) (by omega)
      have e1 : ((p - 1) / (L : Int) * (e % (L : Int))).toNat = ((p - 1) / (L : Int)).toNat * (e % (L : Int)).toNat := by
        obtain ⟨x, hx⟩ := Int.eq_ofNat_of_zero_le m0
        obtain ⟨y, hy⟩ := Int.eq_ofNat_of_zero_le q0
        rw [hx, hy]
        rfl
      rw [e1]
theorem ok_u2r {f f1 f2 fI C1 C2 CR CT : Addr} {fd d1 d2 fdI : FuncData} {k : Nat} (F : Fun K "root_at" "Roots.root_at" s_Roots_root_at f fd) (T : Blt mg) (RC : RootC K C2) (F1 : Fun K "has_root" "Roots.has_root" s_Roots_has_root f1 d1) (B_Roots_has_root : Binds K d1 P_Roots_has_root []) (ME_Roots_has_root : Meth K C2 "has_root" f1) (D_divided : Df K mg "divided" s_divided P_divided f2 d2)
    (FI : Fun K "__init__" "TurnError.__init__" s_init fI fdI) (I_b : Binds K fdI N_init []) (I_ty : PySem.W.typeIn K (.ref fI) = some (.type "function")) (R : Ref K CT CR fI) (M_NoRoot : mg "NoRoot" = some (.ref CR)) : FnOk P w K mg base (L2.CX P w) (k + 3) f fd P_Roots_root_at (spUr K C1 C2 CR false) :=
  fnsub (ok_rootA F T RC F1 B_Roots_has_root ME_Roots_has_root D_divided FI I_b I_ty R M_NoRoot) fun vs H Q E ⟨a, g, L, e, h1, h2, h3, h4, L1, L2', qy, qn⟩ => by
    cases g with
    | rests p => cases h3
    | roots n =>
      have eq1 : numM (.roots n) % (L : Int) = 0 ↔ n % L = 0 := by
        show (n : Int) % (L : Int) = 0 ↔ n % L = 0
        omega
      refine ⟨a, n, L, e, h1, h2, h4.1, h4.2, L1, L2', fun hd z H' hz sm hq => ?_, fun hd => qn fun z => hd (eq1.mp z)⟩
      refine qy (eq1.mpr hd) _ 0 H' True.intro sm ⟨z, rfl, SqT.of ?_⟩
      rw [hq]
      have hm : (e % (L : Int)).toNat < L := by
        have := Int.emod_lt_of_pos e (show (0 : Int) < L by omega)
        have := Int.emod_nonneg e (show (L : Int) ≠ 0 by omega)
        omega
      rw [← pwr_ok n h4.2 _ (rt_lt h4.1 L1 hd hm)]
end
abbrev Es := List (V × Wt)
def WsAt (K : PySem.W.Frag) (H : Hp) (es : Es) : Prop := ∀ e ∈ es, WtAt K H e.1 e.2
theorem WsAt.same {K : PySem.W.Frag} {H H' : Hp} {es : Es} (h : WsAt K H es) (s : Same H H') : WsAt K H' es := fun e he => (h e he).same s
theorem WsAt.keep {K : PySem.W.Frag} {H H' : Hp} {es : Es} {b : Addr} {c : Int} (h : WsAt K H es) (hb : BoxAt H b c) (k : Keep b H H') : WsAt K H' es := fun e he => (h e he).keep hb k
theorem WsAt.mut {K : PySem.W.Frag} {H : Hp} {es : Es} {D : Addr} {xs : List V} {o : HO} (h : WsAt K H es) (e : H D = some (.lst xs)) : WsAt K (upd H D o) es := fun x hx => (h x hx).mut e
theorem WsAt.set {K : PySem.W.Frag} {H : Hp} {es : Es} {k : Nat} {e : V × Wt} (h : WsAt K H es) (he : WtAt K H e.1 e.2) : WsAt K H (es.set k e) := fun x hx => by
  rcases List.mem_or_eq_of_mem_set hx with z | z
  · exact h x z
  · rw [z]
    exact he
theorem pow_mod {q p : Int} {a m : Nat} : (q ^ a % p) ^ m % p = q ^ (a * m) % p := by
  induction m with
  | zero => rw [Nat.mul_zero, Int.pow_zero, Int.pow_zero]
  | succ m ih =>
    rw [Int.pow_succ, Int.mul_emod, ih, Nat.mul_succ, Int.pow_add, Int.emod_emod, ← Int.mul_emod]
/-! ### turnings, by their sums -/
def B9 : Wt → Prop
  | .i x => x.natAbs ≤ 1000000000
  | .v xs => ∀ x ∈ xs, x.natAbs ≤ 1000000000
theorem B9.bw {w : Wt} (h : B9 w) : bw w := by
  cases w with
  | i x => exact True.intro
  | v xs =>
    intro x hx
    have := h x hx
    have p : (1000000000 : Nat) < 2 ^ 9000 := by decide +kernel
    omega
def RwOk (K : PySem.W.Frag) (g : Gk) (H : Hp) (es : Es) : Prop := ∀ e ∈ es, WtAt K H e.1 e.2 ∧ nm g e.2 ∧ B9 e.2
theorem RwOk.same {K : PySem.W.Frag} {g : Gk} {H H' : Hp} {es : Es} (h : RwOk K g H es) (s : Same H H') : RwOk K g H' es := fun e he => ⟨(h e he).1.same s, (h e he).2⟩
theorem RwOk.keep {K : PySem.W.Frag} {g : Gk} {H H' : Hp} {es : Es} {b : Addr} {c : Int} (h : RwOk K g H es) (hb : BoxAt H b c) (k : Keep b H H') : RwOk K g H' es := fun e he => ⟨(h e he).1.keep hb k, (h e he).2⟩
def wD : Wt → PyData
  | .i x => .int x
  | .v xs => .tuple (xs.map PyData.int)
theorem dp_t {K : PySem.W.Frag} {H : Hp} : ∀ xs : List Int, DpAll K H (xs.map V.int) (xs.map PyData.int)
  | [] => .nil
  | x :: r => .cons (.int x) (dp_t r)
theorem WtAt.dp {K : PySem.W.Frag} {H : Hp} {v : V} {w : Wt} (h : WtAt K H v w) : Dp K H v (wD w) := by
  cases w with
  | i x =>
    have e : v = .int x := h
    rw [e]
    exact .int x
  | v xs =>
    obtain ⟨t, e, h⟩ := h
    rw [e]
    exact .tup h (dp_t xs)
theorem nm_len {g : Gk} {w : Wt} (h : GkOk g) (hw : nm g w) : ∀ xs, w = .v xs → xs.length ≤ 30 := by
  intro xs e
  subst e
  cases g with
  | rests p => exact hw.elim
  | roots n =>
    have := wl1 h.1 h.2
    have hw' : xs.length = wl n := hw
    omega
theorem RwOk.ws {K : PySem.W.Frag} {g : Gk} {H : Hp} {es : Es} (h : RwOk K g H es) : WsAt K H es := fun e he => (h e he).1
/-! ### a worth shared among so many, on either ground -/
def gcan : Gk → Int → Wt → Prop
  | .rests p, m, _ => ¬ m % p = 0
  | .roots _, m, .v xs => ∀ x ∈ xs, x % m = 0
  | .roots _, _, .i _ => True
def gsh : Gk → Int → Wt → Wt → Prop
  | .rests p, m, .i x, .i y => 0 ≤ y ∧ y < p ∧ y * m % p = x
  | .roots _, m, .v xs, .v ys => ys = xs.map (· / m)
  | _, _, _, _ => False
def spUs (K : PySem.W.Frag) (C1 C2 CS : Addr) (r : Bool) : Sp := fun vs H Q E => ∃ (a : Addr) (g : Gk) (x : V) (u : Wt) (m : Int), vs = [.ref a, x, .int m] ∧ GrAt C1 C2 H a g ∧ kdG g = r ∧ GkOk g ∧ WtAt K H x u ∧ nm g u ∧ 1 ≤ m ∧ m ≤ 1000 ∧
  (gcan g m u → ∀ v w H', gsh g m u w → Same H H' → WtAt K H' v w → Q v H') ∧
  (¬ gcan g m u → ∀ d H', H d = none → Same H H' → H' d = some (.xd [(("what" : Str), .int m)]) → E (.ref CS) (some d) H')
section
variable {P : Program} {w : World} {K : PySem.W.Frag} {mg : Str → Option Value} {base : Heap}
theorem ok_u1s {f f1 fI C1 C2 CI CS CT : Addr} {fd d1 fdI : FuncData} {k : Nat} (F : Fun K "shared_by" "Rests.shared_by" s_Rests_shared_by f fd) (RC : RestC K C1) (D_inverse : Df K mg "inverse" s_inverse P_inverse f1 d1) (FI : Fun K "__init__" "TurnError.__init__" s_init fI fdI) (I_b : Binds K fdI N_init [])
    (I_ty : PySem.W.typeIn K (.ref fI) = some (.type "function")) (R1 : Ref K CT CI fI) (M_NoInverse : mg "NoInverse" = some (.ref CI)) (R2 : Ref K CT CS fI) (M_NoShare : mg "NoShare" = some (.ref CS)) : FnOk P w K mg base (L2.CX P w) (k + 4) f fd P_Rests_shared_by (spUs K C1 C2 CS true) :=
  fnsub (ok_shared F RC D_inverse FI I_b I_ty R1 M_NoInverse R2 M_NoShare) fun vs H Q E ⟨a, g, x, u, m, h1, h2, h3, h4, hx, nu, m1, m2, qy, qn⟩ => by
    cases g with
    | roots n => cases h3
    | rests p =>
      cases u with
      | v xs => exact nu.elim
      | i u =>
        have ex : x = .int u := hx
        subst ex
        exact ⟨a, p, u, m, h1, h2, h4, nu.1, nu.2, m1, by omega, fun c y y0 y1 ym H' sm => qy c _ (.i y) H' ⟨y0, y1, ym⟩ sm rfl, fun c => qn fun z => z c⟩
theorem ok_u2s {f fI C1 C2 CS CT : Addr} {fd fdI : FuncData} {k : Nat} (F : Fun K "shared_by" "Roots.shared_by" s_Roots_shared_by f fd) (T : Blt mg) (FI : Fun K "__init__" "TurnError.__init__" s_init fI fdI) (I_b : Binds K fdI N_init []) (I_ty : PySem.W.typeIn K (.ref fI) = some (.type "function")) (R : Ref K CT CS fI) (M_NoShare : mg "NoShare" = some (.ref CS)) : FnOk P w K mg base (L2.CX P w) (k + 3) f fd P_Roots_shared_by (spUs K C1 C2 CS false) :=
  fnsub (ok_shareO F T FI I_b I_ty R M_NoShare) fun vs H Q E ⟨a, g, x, u, m, h1, h2, h3, h4, hx, nu, m1, m2, qy, qn⟩ => by
    cases g with
    | rests p => cases h3
    | roots n =>
      cases u with
      | i u => exact nu.elim
      | v xs =>
        obtain ⟨z, ez, hz⟩ := hx
        subst ez
        have hl : xs.length = wl n := nu
        have := wl1 h4.1 h4.2
        exact ⟨a, z, xs, m, h1, hz, by omega, m1, by omega, fun c y H' hy sm hq => qy c _ (.v (xs.map (· / m))) H' rfl sm ⟨y, rfl, SqT.of hq⟩, qn⟩
end
structure G16 (K : PySem.W.Frag) (mg : Str → Option Value) (CT CB C1 C2 CR CS CI fI : Addr) (fdI : FuncData) : Prop where
  F : Fun K "__init__" "TurnError.__init__" s_init fI fdI
  b : Binds K fdI N_init []
  ty : PySem.W.typeIn K (.ref fI) = some (.type "function")
  RB : Ref K CT CB fI
  mb : mg "BadGround" = some (.ref CB)
  R1 : RestC K C1
  R2 : RootC K C2
  m1 : mg "Rests" = some (.ref C1)
  m2 : mg "Roots" = some (.ref C2)
  p1 : ∃ t, mg "MOST_PRIME" = some (.int 10000 t)
  p2 : ∃ t, mg "MOST_ORDER" = some (.int 30 t)
  k1 : ∃ f fd, Mk K C1 f ∧ Fun K "__init__" "Rests.__init__" s_Rests___init__ f fd ∧ Binds K fd P_Rests___init__ []
  k2 : ∃ f fd, Mk K C2 f ∧ Fun K "__init__" "Roots.__init__" s_Roots___init__ f fd ∧ Binds K fd P_Roots___init__ []
  a1 : ∃ f fd, Fun K "sum_of" "Rests.sum_of" s_Rests_sum_of f fd ∧ Binds K fd P_Rests_sum_of [] ∧ Meth K C1 "sum_of" f
  q1 : ∃ f fd, Fun K "product_of" "Rests.product_of" s_Rests_product_of f fd ∧ Binds K fd P_Rests_product_of [] ∧ Meth K C1 "product_of" f
  h1 : ∃ f fd, Fun K "has_root" "Rests.has_root" s_Rests_has_root f fd ∧ Binds K fd P_Rests_has_root [] ∧ Meth K C1 "has_root" f
  r1 : ∃ f fd, Fun K "root_at" "Rests.root_at" s_Rests_root_at f fd ∧ Binds K fd P_Rests_root_at [] ∧ Meth K C1 "root_at" f
  s1 : ∃ f fd, Fun K "shared_by" "Rests.shared_by" s_Rests_shared_by f fd ∧ Binds K fd P_Rests_shared_by [] ∧ Meth K C1 "shared_by" f
  a2 : ∃ f fd, Fun K "sum_of" "Roots.sum_of" s_Roots_sum_of f fd ∧ Binds K fd P_Roots_sum_of [] ∧ Meth K C2 "sum_of" f
  q2 : ∃ f fd, Fun K "product_of" "Roots.product_of" s_Roots_product_of f fd ∧ Binds K fd P_Roots_product_of [] ∧ Meth K C2 "product_of" f
  h2 : ∃ f fd, Fun K "has_root" "Roots.has_root" s_Roots_has_root f fd ∧ Binds K fd P_Roots_has_root [] ∧ Meth K C2 "has_root" f
  r2 : ∃ f fd, Fun K "root_at" "Roots.root_at" s_Roots_root_at f fd ∧ Binds K fd P_Roots_root_at [] ∧ Meth K C2 "root_at" f
  s2 : ∃ f fd, Fun K "shared_by" "Roots.shared_by" s_Roots_shared_by f fd ∧ Binds K fd P_Roots_shared_by [] ∧ Meth K C2 "shared_by" f
  RR : Ref K CT CR fI
  mr : mg "NoRoot" = some (.ref CR)
  RS : Ref K CT CS fI
  ms : mg "NoShare" = some (.ref CS)
  RI : Ref K CT CI fI
  mi : mg "NoInverse" = some (.ref CI)
  mt : mg "TurnError" = some (.ref CT)
theorem keep_mk {x dx C : Addr} {H H' : Hp} (hx : H x = none) (hd : H dx = none) (h : Keep x (upd (upd H dx (.own x)) x (.ins C dx [])) H') : Same H H' := fun b o e => by
  have n1 := ne_of_none e hx
  refine h b o n1 ?_
  rw [upd_ne n1, upd_ne (ne_of_none e hd)]
  exact e
def Shs (g : Gk) (m : Int) (ws ws' : List Wt) : Prop := ws'.length = ws.length ∧ ∀ (i : Nat) (w w' : Wt), ws[i]? = some w → ws'[i]? = some w' → gsh g m w w'
theorem nm_gw {g : Gk} {c : Int} (h : GkOk g) : nm g (gw g c) := by
  cases g with
  | rests p =>
    have := prs_b h
    exact ⟨Int.emod_nonneg _ (by omega), Int.emod_lt_of_pos _ (by omega)⟩
  | roots n =>
    have := wl1 h.1 h.2
    show (c :: List.replicate (wl n - 1) 0).length = wl n
    rw [List.length_cons, List.length_replicate]
    omega
def scW (g : Gk) (c : Int) (w : Wt) : Wt := gmul g w (gw g c)
theorem can_r {p : Int} {L : Nat} (hp : 2 ≤ p) (hL : 1 ≤ L) (hd : (p - 1) % (L : Int) = 0) : ¬ (L : Int) % p = 0 := by
  have h1 : (L : Int) ≤ p - 1 := Int.le_of_dvd (by omega) (Int.dvd_of_emod_eq_zero hd)
  rw [Int.emod_eq_of_lt (by omega) (by omega)]
  omega
theorem Shs.app {g : Gk} {m : Int} {ws vs : List Wt} {w v : Wt} {i : Nat} (h : Shs g m (ws.take i) vs) (hw : ws[i]? = some w) (hg : gsh g m w v) : Shs g m (ws.take (i + 1)) (vs ++ [v]) := by
  obtain ⟨h1, h2⟩ := h
  have hil : i < ws.length := (List.getElem?_eq_some_iff.mp hw).1
  have hl : vs.length = i := by
    rw [h1, List.length_take]
    omega
  refine ⟨by rw [List.length_append, hl, List.length_take]; show i + 1 = _; omega, fun j a b ha hb => ?_⟩
  rw [List.getElem?_take] at ha
  by_cases c : j < i
  · rw [List.getElem?_append_left (by omega)] at hb
    refine h2 j a b ?_ hb
    rw [List.getElem?_take]
    split at ha
    · rw [if_pos c]
      exact ha
    · cases ha
  · split at ha
    · have e : j = i := by omega
      subst e
      rw [hw] at ha
      cases ha
      rw [List.getElem?_append_right (by omega), hl, Nat.sub_self] at hb
      cases hb
      exact hg
    · cases ha
/-! ### so many times a worth -/
theorem getD_sc {c : Int} {l : List Int} {k : Nat} : (l.map (· * c)).getD k 0 = l.getD k 0 * c := by
  rw [List.getD_eq_getElem?_getD, List.getElem?_map, List.getD_eq_getElem?_getD]
  cases l[k]? with
  | none => exact (Int.zero_mul c).symm
  | some v => rfl
theorem subAt_sc {start : Nat} {top c : Int} {bs r : List Int} : ∀ i : Nat, subAt start (top * c) bs (r.map (· * c)) i = (subAt start top bs r i).map (· * c)
  | 0 => rfl
  | i + 1 => by
    rw [subAt, subAt, subAt_sc i, getD_sc, List.map_set]
    congr 1
    rw [Int.sub_mul, Int.mul_assoc, Int.mul_comm c, ← Int.mul_assoc]
theorem dvN_sc {bs row : List Int} {c : Int} : ∀ n : Nat, (dvN bs (row.map (· * c)) n).1 = (dvN bs row n).1.map (· * c)
  | 0 => rfl
  | n + 1 => by
    rw [dvN, dvN, dvS, dvS]
    show subAt _ _ bs (List.dropLast _) _ = List.map _ (subAt _ _ bs (List.dropLast _) _)
    rw [dvN_sc n, getD_sc, List.length_map, ← List.map_dropLast, subAt_sc]
theorem dvR_sc {bs row : List Int} {c : Int} : dvR bs (row.map (· * c)) = (dvR bs row).map (· * c) := by
  unfold dvR
  rw [List.length_map, dvN_sc, List.map_append, List.map_replicate, List.length_map, Int.zero_mul]
theorem scW_v {n : Nat} {c : Int} {xs : List Int} (h : GkOk (.roots n)) (hx : xs.length = wl n) : scW (.roots n) c (.v xs) = .v (xs.map (· * c)) := by
  have w1 := wl1 h.1 h.2
  show Wt.v (dvR (whl n) (pmul xs (c :: List.replicate (wl n - 1) 0))) = _
  have e : wl n - 1 = (whl n).length - 2 := by
    unfold wl
    omega
  rw [e, prod_c hx (by omega)]
theorem gsh_un {g : Gk} {L : Nat} {w a b : Wt} (h : GkOk g) (L1 : 1 ≤ L) (hd : numM g % (L : Int) = 0) (ha : gsh g (L : Int) w a) (hb : gsh g (L : Int) w b) : a = b := by
  cases g with
  | rests p =>
    have pb := prs_b h
    have hc := can_r pb.1 L1 hd
    have hg := gcd_prime (prs_iff.mp h).2 hc
    cases w with
    | v xs => exact ha.elim
    | i x =>
      cases a with
      | v xs => exact ha.elim
      | i a =>
        cases b with
        | v xs => exact hb.elim
        | i b =>
          obtain ⟨a0, a1, a2⟩ := ha
          obtain ⟨b0, b1, b2⟩ := hb
          rw [share_uniq hg a0 a1 b0 b1 a2 b2]
  | roots n =>
    cases w with
    | i x => exact ha.elim
    | v xs =>
      cases a with
      | i a => exact ha.elim
      | v a =>
        cases b with
        | i b => exact hb.elim
        | v b =>
          have ea : a = _ := ha
          have eb : b = _ := hb
          rw [ea, eb]
theorem gsh_sc {g : Gk} {L : Nat} {w : Wt} (h : GkOk g) (L1 : 1 ≤ L) (hd : numM g % (L : Int) = 0) (hw : nm g w) : gsh g (L : Int) (scW g (L : Int) w) w ∧ gcan g (L : Int) (scW g (L : Int) w) := by
  cases g with
  | rests p =>
    have pb := prs_b h
    cases w with
    | v xs => exact hw.elim
    | i x =>
      obtain ⟨x0, x1⟩ := (show 0 ≤ x ∧ x < p from hw)
      refine ⟨⟨x0, x1, ?_⟩, can_r pb.1 L1 hd⟩
      show x * (L : Int) % p = x * ((L : Int) % p) % p
      rw [Int.mul_emod x ((L : Int) % p), Int.emod_emod, ← Int.mul_emod]
  | roots n =>
    cases w with
    | i x => exact hw.elim
    | v xs =>
      rw [scW_v h hw]
      constructor
      · show xs = (xs.map (· * (L : Int))).map (· / (L : Int))
        rw [List.map_map, List.map_congr_left (g := id), List.map_id]
        intro x _
        exact Int.mul_ediv_cancel x (by omega)
      · intro x hx
        obtain ⟨y, _, rfl⟩ := List.mem_map.mp hx
        exact Int.mul_emod_left y _
theorem Shs.un {g : Gk} {L : Nat} {ws as bs : List Wt} (h : GkOk g) (L1 : 1 ≤ L) (hd : numM g % (L : Int) = 0) (ha : Shs g (L : Int) ws as) (hb : Shs g (L : Int) ws bs) : as = bs := by
  refine List.ext_getElem? fun i => ?_
  by_cases c : i < ws.length
  · have e1 := List.getElem?_eq_getElem (l := ws) c
    have e2 := List.getElem?_eq_getElem (l := as) (i := i) (by have := ha.1; omega)
    have e3 := List.getElem?_eq_getElem (l := bs) (i := i) (by have := hb.1; omega)
    rw [e2, e3, gsh_un h L1 hd (ha.2 i _ _ e1 e2) (hb.2 i _ _ e1 e3)]
  · rw [List.getElem?_eq_none (by have := ha.1; omega), List.getElem?_eq_none (by have := hb.1; omega)]
theorem Shs.sc {g : Gk} {L : Nat} {ws : List Wt} (h : GkOk g) (L1 : 1 ≤ L) (hd : numM g % (L : Int) = 0) (hw : Nms g ws) : Shs g (L : Int) (ws.map (scW g (L : Int))) ws := by
  refine ⟨(List.length_map _).symm, fun i w w' e1 e2 => ?_⟩
  rw [List.getElem?_map, e2] at e1
  cases e1
  exact (gsh_sc h L1 hd (hw w' (List.mem_of_getElem? e2))).1
/-! ### turnings over a ring -/
section
open Lean.Grind
variable {R : Type} [CommRing R]
/-- sums of the first so many -/
def rs (f : Nat → R) : Nat → R
  | 0 => 0
  | n + 1 => rs f n + f n
theorem rs_congr {f g : Nat → R} : ∀ {n : Nat}, (∀ i < n, f i = g i) → rs f n = rs g n
  | 0, _ => rfl
  | n + 1, h => by
    show rs f n + f n = rs g n + g n
    rw [rs_congr fun i hi => h i (by omega), h n (by omega)]
theorem rs_add {f g : Nat → R} : ∀ {n : Nat}, rs (fun i => f i + g i) n = rs f n + rs g n
  | 0 => by show (0 : R) = 0 + 0; grind
  | n + 1 => by
    show rs (fun i => f i + g i) n + (f n + g n) = rs f n + f n + (rs g n + g n)
    rw [rs_add]; grind
theorem rs_zero : ∀ {n : Nat}, rs (fun _ => (0 : R)) n = 0
  | 0 => rfl
  | n + 1 => by
    show rs (fun _ => (0 : R)) n + 0 = 0
    rw [rs_zero]; grind
theorem rs_mul {f : Nat → R} {c : R} : ∀ {n : Nat}, rs (fun i => c * f i) n = c * rs f n
  | 0 => by show (0 : R) = c * 0; grind
  | n + 1 => by
    show rs (fun i => c * f i) n + c * f n = c * (rs f n + f n)
    rw [rs_mul]; grind
theorem rs_mulr {f : Nat → R} {c : R} {n : Nat} : rs (fun i => f i * c) n = rs f n * c := by
  rw [show rs f n * c = c * rs f n by grind, ← rs_mul]
  exact rs_congr fun i _ => by grind
theorem rs_comm {f : Nat → Nat → R} {m : Nat} : ∀ {n : Nat}, rs (fun i => rs (fun j => f i j) m) n = rs (fun j => rs (fun i => f i j) n) m
  | 0 => by
    show (0 : R) = rs (fun j => 0) m
    rw [rs_zero]
  | n + 1 => by
    show rs (fun i => rs (fun j => f i j) m) n + rs (fun j => f n j) m = rs (fun j => rs (fun i => f i j) n + f n j) m
    rw [rs_comm, ← rs_add]
theorem rs_one {f : Nat → R} {k : Nat} : ∀ {n : Nat}, k < n → (∀ i < n, i ≠ k → f i = 0) → rs f n = f k
  | n + 1, h, z => by
    show rs f n + f n = f k
    by_cases e : k = n
    · subst e
      rw [rs_congr (g := fun _ => (0 : R)) fun i hi => z i (by omega) (by omega), rs_zero]; grind
    · rw [rs_one (by omega) fun i hi hk => z i (by omega) hk, z n (by omega) (fun q => e q.symm)]; grind
theorem rs_app {f : Nat → R} {m : Nat} : ∀ {n : Nat}, rs f (m + n) = rs f m + rs (fun i => f (m + i)) n
  | 0 => by show rs f m = rs f m + 0; grind
  | n + 1 => by
    show rs f (m + n) + f (m + n) = rs f m + (rs (fun i => f (m + i)) n + f (m + n))
    rw [rs_app]; grind
/-- a sum over m rows of s each -/
theorem rs_grid {f : Nat → R} {s : Nat} : ∀ {m : Nat}, rs f (m * s) = rs (fun q => rs (fun r => f (q * s + r)) s) m
  | 0 => by rw [Nat.zero_mul]; rfl
  | m + 1 => by
    rw [Nat.succ_mul, rs_app, rs_grid]; rfl
theorem lsum_perm {l l' : List R} (h : l.Perm l') : l.foldr (· + ·) 0 = l'.foldr (· + ·) 0 := by
  induction h with
  | nil => rfl
  | cons x _ ih => show x + _ = x + _; rw [ih]
  | swap x y l => show y + (x + _) = x + (y + _); grind
  | trans _ _ a b => rw [a, b]
theorem rs_list {f : Nat → R} : ∀ {n : Nat}, rs f n = ((List.range n).map f).foldr (· + ·) 0
  | 0 => rfl
  | n + 1 => by
    have app : ∀ (l : List R) (x : R), (l ++ [x]).foldr (· + ·) 0 = l.foldr (· + ·) 0 + x := by
      intro l x
      induction l with
      | nil => show x + 0 = 0 + x; grind
      | cons y l ih => show y + (l ++ [x]).foldr (· + ·) 0 = y + l.foldr (· + ·) 0 + x; rw [ih]; grind
    rw [List.range_succ, List.map_append]
    show rs f n + f n = ((List.range n).map f ++ [f n]).foldr (· + ·) 0
    rw [app, rs_list]
/-- unlike numbers, all in a list that is as long, are that list in another order -/
theorem perm_of : ∀ {l m : List Nat}, l.Nodup → (∀ x ∈ l, x ∈ m) → m.length ≤ l.length → l.Perm m
  | [], m, _, _, hl => by
    have : m = [] := List.eq_nil_of_length_eq_zero (Nat.le_zero.mp hl)
    subst this
    exact .nil
  | x :: l, m, hn, hs, hl => by
    have hx := hs x List.mem_cons_self
    have e := List.perm_cons_erase hx
    have hl2 : (m.erase x).length ≤ l.length := by
      rw [List.length_erase_of_mem hx]
      simp only [List.length_cons] at hl
      omega
    have hn2 := List.nodup_cons.mp hn
    refine (List.Perm.cons x (perm_of hn2.2 (fun y hy => ?_) hl2)).trans e.symm
    have yx : y ≠ x := fun z => hn2.1 (z ▸ hy)
    exact (List.mem_erase_of_ne yx).mpr (hs y (List.mem_cons_of_mem _ hy))
/-- a sum in another order -/
theorem rs_perm {f : Nat → R} {σ : Nat → Nat} {n : Nat} (h : ∀ i < n, σ i < n) (inj : ∀ i < n, ∀ j < n, σ i = σ j → i = j) : rs (fun i => f (σ i)) n = rs f n := by
  have p : ((List.range n).map σ).Perm (List.range n) := by
    refine perm_of ?_ ?_ ?_
    · rw [List.nodup_iff_pairwise_ne, List.pairwise_map]
      refine (List.nodup_range (n := n)).imp_of_mem fun {a b} ha hb hab e => hab (inj a (List.mem_range.mp ha) b (List.mem_range.mp hb) e)
    · intro x hx
      obtain ⟨i, hi, rfl⟩ := List.mem_map.mp hx
      exact List.mem_range.mpr (h i (List.mem_range.mp hi))
    · rw [List.length_map]; exact Nat.le_refl _
  rw [rs_list, rs_list]
  have := lsum_perm (p.map f)
  rw [List.map_map] at this
  exact this
theorem pow_mul' (a : R) (m : Nat) : ∀ n : Nat, a ^ (m * n) = (a ^ m) ^ n
  | 0 => by rw [Nat.mul_zero, Semiring.pow_zero, Semiring.pow_zero]
  | n + 1 => by rw [Nat.mul_succ, Semiring.pow_add, pow_mul' a m n, Semiring.pow_succ]
theorem one_pow' : ∀ n : Nat, (1 : R) ^ n = 1
  | 0 => Semiring.pow_zero 1
  | n + 1 => by rw [Semiring.pow_succ, one_pow' n]; grind
theorem pow_rest {a : R} {n : Nat} (h : a ^ n = 1) (k : Nat) : a ^ k = a ^ (k % n) := by
  have e : k = n * (k / n) + k % n := (Nat.div_add_mod k n).symm
  have : a ^ k = a ^ (n * (k / n) + k % n) := by rw [← e]
  rw [this, Semiring.pow_add, pow_mul', h, one_pow']; grind
theorem pow_alike {a : R} {n j k : Nat} (h : a ^ n = 1) (e : j % n = k % n) : a ^ j = a ^ k := by
  rw [pow_rest h j, pow_rest h k, e]
/-- the turning of n worths by a root -/
def T (w : R) (n : Nat) (a : Nat → R) (k : Nat) : R := rs (fun j => a j * w ^ (j * k)) n
/-- a root of a length: its sums over all powers are nought, but for the power 0 -/
structure Rt (w : R) (n : Nat) : Prop where
  one : w ^ n = 1
  sum : ∀ d, 0 < d → d < n → rs (fun k => w ^ (d * k)) n = 0
/-- a round sum of products -/
def conv (n : Nat) (a b : Nat → R) (q : Nat) : R := rs (fun i => a i * b ((q + (n - i)) % n)) n
theorem T2 {w : R} {a : Nat → R} (h : Rt w 2) : T w 2 a 0 = a 0 + a 1 ∧ T w 2 a 1 = a 0 - a 1 := by
  have s := h.sum 1 (by decide) (by decide)
  have e : (0 : R) + w ^ (1 * 0) + w ^ (1 * 1) = 0 := s
  rw [Nat.mul_zero, Semiring.pow_zero, show 1 * 1 = 0 + 1 from rfl, Semiring.pow_succ, Semiring.pow_zero] at e
  constructor
  · show 0 + a 0 * w ^ (0 * 0) + a 1 * w ^ (1 * 0) = a 0 + a 1
    simp only [Nat.mul_zero]; rw [Semiring.pow_zero]; grind
  · show 0 + a 0 * w ^ (0 * 1) + a 1 * w ^ (1 * 1) = a 0 - a 1
    rw [Nat.zero_mul, show 1 * 1 = 0 + 1 from rfl, Semiring.pow_succ, Semiring.pow_zero]; grind
end
/-! ### rests of polynomials: linear, and known by the powers of x -/
theorem isum_rs {f : Nat → Int} : ∀ {n : Nat}, isum f n = rs f n
  | 0 => rfl
  | n + 1 => by
    show isum f n + f n = rs f n + f n
    rw [isum_rs]
theorem addL_len {x y : List Int} (h : x.length = y.length) : (addL x y).length = x.length := by
  unfold addL
  rw [List.length_zipWith]
  omega
theorem addL_getD {x y : List Int} (h : x.length = y.length) (t : Nat) : (addL x y).getD t 0 = x.getD t 0 + y.getD t 0 := by
  unfold addL
  rw [List.getD_eq_getElem?_getD, List.getD_eq_getElem?_getD, List.getD_eq_getElem?_getD, List.getElem?_zipWith]
  by_cases c : t < x.length
  · rw [List.getElem?_eq_getElem (by omega), List.getElem?_eq_getElem (by omega)]
    rfl
  · rw [List.getElem?_eq_none (by omega), List.getElem?_eq_none (by omega)]
    rfl
theorem addL_set {u v : Int} : ∀ {x y : List Int} {k : Nat}, (addL x y).set k (u + v) = addL (x.set k u) (y.set k v)
  | [], _, _ => rfl
  | _ :: _, [], _ => by
    unfold addL
    simp
  | a :: x, b :: y, 0 => rfl
  | a :: x, b :: y, k + 1 => by
    show (a + b) :: (addL x y).set k (u + v) = (a + b) :: addL (x.set k u) (y.set k v)
    rw [addL_set]
theorem addL_drop {x y : List Int} (h : x.length = y.length) : (addL x y).dropLast = addL x.dropLast y.dropLast := by
  rw [List.dropLast_eq_take, List.dropLast_eq_take, List.dropLast_eq_take, addL_len h, ← h]
  unfold addL
  rw [List.take_zipWith]
theorem subAt_add {start : Nat} {t1 t2 : Int} {bs r1 r2 : List Int} (h : r1.length = r2.length) : ∀ i : Nat, subAt start (t1 + t2) bs (addL r1 r2) i = addL (subAt start t1 bs r1 i) (subAt start t2 bs r2 i)
  | 0 => rfl
  | i + 1 => by
    rw [subAt, subAt, subAt, subAt_add h i, ← addL_set, addL_getD (by rw [subAt_len, subAt_len, h])]
    congr 1
    rw [Int.add_mul]
    omega
theorem dvN_add {bs x y : List Int} (h : x.length = y.length) : ∀ n : Nat, (dvN bs (addL x y) n).1 = addL (dvN bs x n).1 (dvN bs y n).1
  | 0 => rfl
  | n + 1 => by
    have hl : (dvN bs x n).1.length = (dvN bs y n).1.length := by rw [dvN_len.1, dvN_len.1, h]
    rw [dvN, dvN, dvN, dvS, dvS, dvS]
    show subAt _ _ bs (List.dropLast _) _ = addL (subAt _ _ bs (List.dropLast _) _) (subAt _ _ bs (List.dropLast _) _)
    rw [dvN_add h n, addL_len hl, addL_getD hl, addL_drop hl, subAt_add (by rw [List.length_dropLast, List.length_dropLast, hl]), ← hl]
theorem dvR_add {bs x y : List Int} (h : x.length = y.length) : dvR bs (addL x y) = addL (dvR bs x) (dvR bs y) := by
  have l1 : (dvN bs x (x.length - (bs.length - 1))).1.length = (dvN bs y (x.length - (bs.length - 1))).1.length := by rw [dvN_len.1, dvN_len.1, h]
  unfold dvR
  rw [addL_len h, dvN_add h, ← h, addL_len l1]
  unfold addL
  rw [List.zipWith_append l1, ← l1, List.zipWith_replicate]
  simp
theorem dvN_pad {bs g : List Int} (h : bs.length - 1 ≤ g.length) : ∀ n : Nat, (dvN bs (g ++ [0]) (n + 1)).1 = (dvN bs g n).1
  | 0 => by
    rw [dvN, dvN, dvN, dvS]
    show subAt _ _ bs (List.dropLast _) _ = g
    rw [List.dropLast_concat, show (g ++ [(0 : Int)]).length - 1 = g.length by rw [List.length_append]; rfl, show (g ++ [(0 : Int)]).getD g.length 0 = 0 by rw [List.getD_eq_getElem?_getD]; simp]
    exact subAt_zero (by omega)
  | n + 1 => by
    rw [dvN, dvS, dvN_pad h n]
    rfl
theorem dvR_pad {bs g : List Int} : dvR bs (g ++ [0]) = dvR bs g := by
  unfold dvR
  by_cases h : bs.length - 1 ≤ g.length
  · rw [show (g ++ [(0 : Int)]).length - (bs.length - 1) = (g.length - (bs.length - 1)) + 1 by rw [List.length_append]; show g.length + 1 - _ = _; omega, dvN_pad h]
  · rw [show (g ++ [(0 : Int)]).length - (bs.length - 1) = 0 by rw [List.length_append]; show g.length + 1 - _ = _; omega, show g.length - (bs.length - 1) = 0 by omega]
    show (g ++ [0]) ++ List.replicate (bs.length - 1 - (g ++ [(0 : Int)]).length) 0 = g ++ List.replicate (bs.length - 1 - g.length) 0
    rw [List.append_assoc]
    congr 1
    rw [show bs.length - 1 - g.length = (bs.length - 1 - (g ++ [(0 : Int)]).length) + 1 by rw [List.length_append]; show _ = _ - (g.length + 1) + 1; omega]
    rfl
theorem dvR_pads {bs g : List Int} : ∀ k : Nat, dvR bs (g ++ List.replicate k 0) = dvR bs g
  | 0 => by rw [List.replicate_zero, List.append_nil]
  | k + 1 => by rw [List.replicate_succ', ← List.append_assoc, dvR_pad, dvR_pads k]
def mono (e : Nat) : List Int := List.replicate e 0 ++ [1]
theorem dvR_lin {bs : List Int} (t : Nat) : ∀ (n : Nat) (g : List Int), g.length = n → (dvR bs g).getD t 0 = isum (fun e => g.getD e 0 * (dvR bs (mono e)).getD t 0) n
  | 0, g, h => by
    have : g = [] := List.eq_nil_of_length_eq_zero h
    subst this
    have e0 : dvR bs [] = List.replicate (bs.length - 1) (0 : Int) := by
      unfold dvR
      rw [show ([] : List Int).length - (bs.length - 1) = 0 from Nat.zero_sub _]
      rfl
    rw [e0]
    show (List.replicate (bs.length - 1) (0 : Int)).getD t 0 = 0
    rw [List.getD_eq_getElem?_getD, List.getElem?_replicate]
    split <;> rfl
  | n + 1, g, h => by
    obtain ⟨x, c, rfl⟩ : ∃ x c, g = x ++ [c] := ⟨g.dropLast, g.getLast (by intro z; rw [z] at h; cases h), (List.dropLast_concat_getLast _).symm⟩
    have hx : x.length = n := by
      rw [List.length_append] at h
      exact Nat.succ.inj h
    have e1 : x ++ [c] = addL (x ++ [0]) ((mono n).map (· * c)) := by
      unfold mono addL
      rw [List.map_append, List.map_replicate, Int.zero_mul, List.zipWith_append (by rw [List.length_replicate, hx])]
      have : List.zipWith (· + ·) x (List.replicate n (0 : Int)) = x := by
        rw [← hx]
        clear hx h
        induction x with
        | nil => rfl
        | cons a x ih =>
          show (a + 0) :: List.zipWith (· + ·) x (List.replicate x.length 0) = a :: x
          rw [ih, Int.add_zero]
      rw [this]
      show _ = x ++ [0 + 1 * c]
      rw [Int.one_mul, Int.zero_add]
    have hl : (x ++ [(0 : Int)]).length = ((mono n).map (· * c)).length := by
      unfold mono
      rw [List.length_map, List.length_append, List.length_append, List.length_replicate, hx]
      rfl
    have e2 : (dvR bs (x ++ [c])).getD t 0 = (dvR bs x).getD t 0 + c * (dvR bs (mono n)).getD t 0 := by
      rw [e1, dvR_add hl, dvR_pad, dvR_sc, addL_getD (by rw [List.length_map, dvR_len, dvR_len]), getD_sc, Int.mul_comm c]
    rw [e2, dvR_lin t n x hx, isum]
    congr 1
    · refine isum_congr fun e he => ?_
      congr 1
      rw [List.getD_eq_getElem?_getD, List.getD_eq_getElem?_getD, List.getElem?_append_left (by omega)]
    · congr 1
      rw [List.getD_eq_getElem?_getD, List.getElem?_append_right (by omega), hx, Nat.sub_self]
      rfl
theorem subAt_cons {start : Nat} {top : Int} {bs r : List Int} : ∀ i : Nat, subAt (start + 1) top bs (0 :: r) i = 0 :: subAt start top bs r i
  | 0 => rfl
  | i + 1 => by
    rw [subAt, subAt, subAt_cons i, show start + 1 + i = (start + i) + 1 by omega]
    rfl
theorem dvN_cons {bs row : List Int} : ∀ n : Nat, n ≤ row.length - (bs.length - 1) → (dvN bs (0 :: row) n).1 = 0 :: (dvN bs row n).1
  | 0, _ => rfl
  | n + 1, h => by
    have hl := (dvN_len (bs := bs) (row := row) (n := n)).1
    rw [dvN, dvN, dvS, dvS]
    show subAt _ _ bs (List.dropLast _) _ = 0 :: subAt _ _ bs (List.dropLast _) _
    rw [dvN_cons n (by omega)]
    generalize (dvN bs row n).1 = x at *
    cases x with
    | nil => simp only [List.length_nil] at hl; omega
    | cons a x =>
      rw [show (0 :: a :: x : List Int).length - 1 - (bs.length - 1) = ((a :: x).length - 1 - (bs.length - 1)) + 1 by simp only [List.length_cons] at hl ⊢; omega]
      exact subAt_cons _
theorem dvR_cons {bs row : List Int} : dvR bs (0 :: row) = dvR bs (0 :: dvR bs row) := by
  by_cases h : row.length < bs.length - 1
  · have e : dvR bs row = row ++ List.replicate (bs.length - 1 - row.length) 0 := by
      unfold dvR
      rw [show row.length - (bs.length - 1) = 0 by omega]
      rfl
    rw [e, ← List.cons_append, dvR_pads]
  · have l1 := (dvN_len (bs := bs) (row := row) (n := row.length - (bs.length - 1))).1
    have e1 : dvR bs row = (dvN bs row (row.length - (bs.length - 1))).1 := by
      unfold dvR
      rw [show bs.length - 1 - (dvN bs row (row.length - (bs.length - 1))).1.length = 0 by omega]
      exact List.append_nil _
    have hl := dvR_len (bs := bs) (row := row)
    unfold dvR
    unfold dvR at hl e1
    rw [show (0 :: row : List Int).length - (bs.length - 1) = (row.length - (bs.length - 1)) + 1 by simp only [List.length_cons]; omega]
    rw [e1] at hl ⊢
    rw [show (0 :: (dvN bs row (row.length - (bs.length - 1))).1 : List Int).length - (bs.length - 1) = 0 + 1 by simp only [List.length_cons]; omega]
    rw [dvN, dvS, dvN_cons _ (Nat.le_refl _)]
    rfl
/-- the numbers of the power e of x -/
def Pc (n e t : Nat) : Int := (rtP n e).getD t 0
theorem Pc_low {n u t : Nat} (h : u < wl n) : Pc n u t = if t = u then 1 else 0 := by
  unfold Pc rtP dvR
  unfold wl at h
  have e0 : (List.replicate u (0 : Int) ++ [(1 : Int)]).length - ((whl n).length - 1) = 0 := by
    rw [List.length_append, List.length_replicate, List.length_singleton]
    omega
  rw [e0]
  show ((List.replicate u (0 : Int) ++ [1]) ++ List.replicate _ 0).getD t 0 = _
  rw [List.getD_eq_getElem?_getD, List.getElem?_append]
  by_cases c : t < (List.replicate u (0 : Int) ++ [1]).length
  · rw [if_pos c, List.getElem?_append]
    rw [List.length_append, List.length_replicate] at c
    have c : t < u + 1 := c
    by_cases d : t < u
    · rw [if_pos (by rw [List.length_replicate]; exact d), if_neg (by omega), List.getElem?_replicate, if_pos d]
      rfl
    · rw [if_neg (by rw [List.length_replicate]; exact d), if_pos (by omega), List.length_replicate, show t - u = 0 by omega]
      rfl
  · rw [if_neg c, List.getElem?_replicate]
    rw [List.length_append, List.length_replicate] at c
    have c : ¬ t < u + 1 := c
    rw [if_neg (c := t = u) (by omega)]
    split <;> rfl
theorem Pc_step {n e t : Nat} : Pc n (e + 1) t = isum (fun v => Pc n e v * Pc n (v + 1) t) (wl n) := by
  have e1 : rtP n (e + 1) = dvR (whl n) (0 :: rtP n e) := by
    unfold rtP
    rw [List.replicate_succ, List.cons_append, dvR_cons]
  have l1 : (0 :: rtP n e).length = 1 + wl n := by
    rw [List.length_cons, rtP_len]
    omega
  unfold Pc
  rw [e1, dvR_lin t (1 + wl n) _ l1, isum_rs, isum_rs, rs_app]
  have z : rs (fun e' => (0 :: rtP n e).getD e' 0 * (dvR (whl n) (mono e')).getD t 0) 1 = 0 := by
    show (0 : Int) + 0 * _ = 0
    rw [Int.zero_mul]
    rfl
  rw [z, Int.zero_add]
  refine rs_congr fun v _ => ?_
  rw [Nat.add_comm 1 v]
  rfl
theorem Pc_add {n e : Nat} : ∀ k t : Nat, isum (fun u => Pc n e u * Pc n (u + k) t) (wl n) = Pc n (e + k) t
  | 0, t => by
    rw [isum_rs]
    by_cases c : t < wl n
    · rw [rs_one (k := t) c fun u hu ne => by rw [Nat.add_zero, Pc_low hu, if_neg (fun z => ne z.symm), Int.mul_zero], Nat.add_zero, Pc_low c, if_pos rfl, Int.mul_one]
      rfl
    · rw [rs_congr (g := fun _ => (0 : Int)) fun u hu => by rw [Nat.add_zero, Pc_low hu, if_neg (by omega), Int.mul_zero], rs_zero]
      unfold Pc
      rw [List.getD_eq_getElem?_getD, List.getElem?_eq_none (by rw [rtP_len]; omega)]
      rfl
  | k + 1, t => by
    have ih := fun v => Pc_add (n := n) (e := e) k v
    rw [show e + (k + 1) = (e + k) + 1 from rfl, Pc_step]
    rw [isum_congr (g := fun u => isum (fun v => Pc n e u * Pc n (u + k) v * Pc n (v + 1) t) (wl n)) fun u _ => by
      rw [show u + (k + 1) = (u + k) + 1 from rfl, Pc_step, isum_rs, isum_rs, ← rs_mul]
      exact rs_congr fun v _ => (Int.mul_assoc _ _ _).symm]
    rw [isum_comm]
    refine isum_congr fun v _ => ?_
    rw [← ih v, isum_rs, isum_rs]
    exact rs_mulr
theorem mul_co {n t : Nat} {a b : List Int} (ha : a.length = wl n) (hb : b.length = wl n) (h1 : 1 ≤ wl n) : (dvR (whl n) (pmul a b)).getD t 0 = isum (fun i => isum (fun j => a.getD i 0 * b.getD j 0 * Pc n (i + j) t) (wl n)) (wl n) := by
  rw [dvR_lin t _ _ (pmul_len (one := a) (two := b))]
  have e1 : isum (fun e => (pmul a b).getD e 0 * (dvR (whl n) (mono e)).getD t 0) (a.length + b.length - 1) = isum (fun e => isum (fun i => isum (fun j => if i + j = e then a.getD i 0 * b.getD j 0 * Pc n (i + j) t else 0) (wl n)) (wl n)) (a.length + b.length - 1) := by
    refine isum_congr fun e _ => ?_
    unfold pmul
    rw [pmN_get (by omega) (Nat.le_refl _), ha, hb, isum_rs, ← rs_mulr, isum_rs]
    refine rs_congr fun i _ => ?_
    rw [isum_rs, ← rs_mulr, isum_rs]
    refine rs_congr fun j _ => ?_
    by_cases c : i + j = e
    · rw [if_pos c, if_pos c, c]
      rfl
    · rw [if_neg c, if_neg c]
      exact Int.zero_mul _
  rw [e1, isum_comm]
  refine isum_congr fun i hi => ?_
  rw [isum_comm]
  refine isum_congr fun j hj => ?_
  rw [isum_rs, rs_one (k := i + j) (by omega) fun e _ ne => if_neg (fun z => ne z.symm), if_pos rfl]
/-! ### the worths of a ground are a ring -/
def gneg : Gk → Wt → Wt
  | .rests p, .i x => .i ((-x) % p)
  | .roots _, .v xs => .v (xs.map fun x => -x)
  | g, _ => gz g
theorem wr (g : Gk) (h : GkOk g) {a : Wt} (ha : nm g a) : (∃ p x, g = .rests p ∧ a = .i x ∧ 0 ≤ x ∧ x < p ∧ 2 ≤ p ∧ p ≤ 10000) ∨ (∃ n xs, g = .roots n ∧ a = .v xs ∧ xs.length = wl n ∧ 1 ≤ wl n) := by
  cases g with
  | rests p =>
    cases a with
    | v xs => exact ha.elim
    | i x => exact .inl ⟨p, x, rfl, rfl, ha.1, ha.2, (prs_b h).1, (prs_b h).2⟩
  | roots n =>
    cases a with
    | i x => exact ha.elim
    | v xs => exact .inr ⟨n, xs, rfl, rfl, ha, (wl1 h.1 h.2).1⟩
theorem nm_neg {g : Gk} {a : Wt} (h : GkOk g) (ha : nm g a) : nm g (gneg g a) := by
  rcases wr g h ha with ⟨p, x, rfl, rfl, _, _, p2, _⟩ | ⟨n, xs, rfl, rfl, l, _⟩
  · exact ⟨Int.emod_nonneg _ (by omega), Int.emod_lt_of_pos _ (by omega)⟩
  · show (xs.map _).length = _
    rw [List.length_map, l]
theorem em_l (a b p : Int) : (a % p * b) % p = a * b % p := by rw [Int.mul_emod, Int.emod_emod, ← Int.mul_emod]
theorem em_r (a b p : Int) : (a * (b % p)) % p = a * b % p := by rw [Int.mul_emod, Int.emod_emod, ← Int.mul_emod]
theorem ea_l (a b p : Int) : (a % p + b) % p = (a + b) % p := Int.emod_add_emod _ _ _
theorem ea_r (a b p : Int) : (a + b % p) % p = (a + b) % p := Int.add_emod_emod _ _ _
theorem getD_neg {l : List Int} {k : Nat} : (l.map fun x => -x).getD k 0 = -(l.getD k 0) := by
  rw [List.getD_eq_getElem?_getD, List.getElem?_map, List.getD_eq_getElem?_getD]
  cases l[k]? with
  | none => rfl
  | some v => rfl
theorem list_co {n : Nat} {a b : List Int} (ha : a.length = wl n) (hb : b.length = wl n) (h : ∀ t, a.getD t 0 = b.getD t 0) : a = b := by
  refine List.ext_getElem (by omega) fun i h1 h2 => ?_
  have := h i
  rw [List.getD_eq_getElem?_getD, List.getD_eq_getElem?_getD, List.getElem?_eq_getElem h1, List.getElem?_eq_getElem h2] at this
  exact this
theorem radd_cm {g : Gk} {a b : Wt} (h : GkOk g) (ha : nm g a) (hb : nm g b) : gadd g a b = gadd g b a := by
  rcases wr g h ha with ⟨p, x, rfl, rfl, _, _, p2, _⟩ | ⟨n, xs, rfl, rfl, l, _⟩ <;> cases b with
  | i y => first | exact hb.elim | (show Wt.i _ = Wt.i _; rw [Int.add_comm])
  | v ys => first | exact hb.elim | (show Wt.v (addL _ _) = Wt.v (addL _ _); exact congrArg Wt.v (list_co (n := n) (by rw [addL_len (l.trans hb.symm), l]) (by rw [addL_len (hb.trans l.symm)]; exact hb) fun t => by rw [addL_getD (l.trans hb.symm), addL_getD (hb.trans l.symm), Int.add_comm]))
theorem radd_as {g : Gk} {a b c : Wt} (h : GkOk g) (ha : nm g a) (hb : nm g b) (hc : nm g c) : gadd g (gadd g a b) c = gadd g a (gadd g b c) := by
  rcases wr g h ha with ⟨p, x, rfl, rfl, _, _, p2, _⟩ | ⟨n, xs, rfl, rfl, l, _⟩
  · cases b with
    | v ys => exact hb.elim
    | i y =>
      cases c with
      | v zs => exact hc.elim
      | i z =>
        show Wt.i _ = Wt.i _
        rw [ea_l, ea_r, Int.add_assoc]
  · cases b with
    | i y => exact hb.elim
    | v ys =>
      cases c with
      | i z => exact hc.elim
      | v zs =>
        have lb : ys.length = wl n := hb
        have lc : zs.length = wl n := hc
        show Wt.v (addL (addL _ _) _) = Wt.v (addL _ (addL _ _))
        have e1 : (addL xs ys).length = wl n := by rw [addL_len (l.trans lb.symm), l]
        have e2 : (addL ys zs).length = wl n := by rw [addL_len (lb.trans lc.symm), lb]
        refine congrArg Wt.v (list_co (n := n) (by rw [addL_len (e1.trans lc.symm), e1]) (by rw [addL_len (l.trans e2.symm), l]) fun t => ?_)
        rw [addL_getD (e1.trans lc.symm), addL_getD (l.trans e2.symm), addL_getD (l.trans lb.symm), addL_getD (lb.trans lc.symm), Int.add_assoc]
theorem radd_z {g : Gk} {a : Wt} (h : GkOk g) (ha : nm g a) : gadd g a (gz g) = a := by
  rcases wr g h ha with ⟨p, x, rfl, rfl, x0, x1, p2, _⟩ | ⟨n, xs, rfl, rfl, l, _⟩
  · show Wt.i ((x + 0) % p) = Wt.i x
    rw [Int.add_zero, Int.emod_eq_of_lt x0 x1]
  · show Wt.v (addL _ _) = Wt.v _
    have e : (List.replicate (wl n) (0 : Int)).length = wl n := List.length_replicate
    refine congrArg Wt.v (list_co (n := n) (by rw [addL_len (l.trans e.symm), l]) l fun t => ?_)
    rw [addL_getD (l.trans e.symm)]
    have z : (List.replicate (wl n) (0 : Int)).getD t 0 = 0 := co_z (g := .roots n) (t := t)
    rw [z, Int.add_zero]
theorem radd_neg {g : Gk} {a : Wt} (h : GkOk g) (ha : nm g a) : gadd g (gneg g a) a = gz g := by
  rcases wr g h ha with ⟨p, x, rfl, rfl, x0, x1, p2, _⟩ | ⟨n, xs, rfl, rfl, l, _⟩
  · show Wt.i (((-x) % p + x) % p) = Wt.i 0
    rw [ea_l, Int.add_left_neg, Int.zero_emod]
  · show Wt.v (addL _ _) = Wt.v _
    have e : (xs.map fun x => -x).length = wl n := by rw [List.length_map, l]
    refine congrArg Wt.v (list_co (n := n) (by rw [addL_len (e.trans l.symm), e]) List.length_replicate fun t => ?_)
    rw [addL_getD (e.trans l.symm), getD_neg, Int.add_left_neg]
    exact (co_z (g := .roots n) (t := t)).symm
theorem rmul_co {n t : Nat} {a b : List Int} (ha : a.length = wl n) (hb : b.length = wl n) (h1 : 1 ≤ wl n) : (dvR (whl n) (pmul a b)).getD t 0 = rs (fun i => rs (fun j => a.getD i 0 * b.getD j 0 * Pc n (i + j) t) (wl n)) (wl n) := by
  rw [mul_co ha hb h1, isum_rs]
  exact rs_congr fun i _ => isum_rs
theorem Pc_add' {n e k t : Nat} : rs (fun u => Pc n e u * Pc n (u + k) t) (wl n) = Pc n (e + k) t := by
  rw [← Pc_add, isum_rs]
theorem rmul_as {g : Gk} {a b c : Wt} (h : GkOk g) (ha : nm g a) (hb : nm g b) (hc : nm g c) : gmul g (gmul g a b) c = gmul g a (gmul g b c) := by
  rcases wr g h ha with ⟨p, x, rfl, rfl, _, _, p2, _⟩ | ⟨n, xs, rfl, rfl, l, w1⟩
  · cases b with
    | v ys => exact hb.elim
    | i y =>
      cases c with
      | v zs => exact hc.elim
      | i z =>
        show Wt.i _ = Wt.i _
        rw [em_l, em_r, Int.mul_assoc]
  · cases b with
    | i y => exact hb.elim
    | v ys =>
      cases c with
      | i z => exact hc.elim
      | v zs =>
        have lb : ys.length = wl n := hb
        have lc : zs.length = wl n := hc
        show Wt.v (dvR (whl n) (pmul (dvR (whl n) (pmul xs ys)) zs)) = Wt.v (dvR (whl n) (pmul xs (dvR (whl n) (pmul ys zs))))
        have e1 : (dvR (whl n) (pmul xs ys)).length = wl n := dvR_len
        have e2 : (dvR (whl n) (pmul ys zs)).length = wl n := dvR_len
        refine congrArg Wt.v (list_co (n := n) dvR_len dvR_len fun t => ?_)
        rw [rmul_co e1 lc w1, rmul_co l e2 w1]
        have L : rs (fun i => rs (fun j => (dvR (whl n) (pmul xs ys)).getD i 0 * zs.getD j 0 * Pc n (i + j) t) (wl n)) (wl n) = rs (fun i => rs (fun j => rs (fun k => xs.getD i 0 * ys.getD j 0 * zs.getD k 0 * Pc n (i + j + k) t) (wl n)) (wl n)) (wl n) := by
          rw [rs_comm]
          rw [show (fun k => rs (fun u => (dvR (whl n) (pmul xs ys)).getD u 0 * zs.getD k 0 * Pc n (u + k) t) (wl n)) = fun k => rs (fun i => rs (fun j => xs.getD i 0 * ys.getD j 0 * zs.getD k 0 * Pc n (i + j + k) t) (wl n)) (wl n) from funext fun k => ?_]
          · rw [rs_comm]
            exact rs_congr fun i _ => rs_comm
          · rw [show (fun u => (dvR (whl n) (pmul xs ys)).getD u 0 * zs.getD k 0 * Pc n (u + k) t) = fun u => rs (fun i => rs (fun j => xs.getD i 0 * ys.getD j 0 * zs.getD k 0 * (Pc n (i + j) u * Pc n (u + k) t)) (wl n)) (wl n) from funext fun u => ?_]
            · rw [rs_comm]
              refine rs_congr fun i _ => ?_
              rw [rs_comm]
              refine rs_congr fun j _ => ?_
              rw [rs_mul, Pc_add']
            · rw [rmul_co l lb w1, Int.mul_assoc]
              rw [← rs_mulr]
              refine rs_congr fun i _ => ?_
              rw [← rs_mulr]
              refine rs_congr fun j _ => ?_
              grind
        have R : rs (fun i => rs (fun j => xs.getD i 0 * (dvR (whl n) (pmul ys zs)).getD j 0 * Pc n (i + j) t) (wl n)) (wl n) = rs (fun i => rs (fun j => rs (fun k => xs.getD i 0 * ys.getD j 0 * zs.getD k 0 * Pc n (i + j + k) t) (wl n)) (wl n)) (wl n) := by
          refine rs_congr fun i _ => ?_
          rw [show (fun u => xs.getD i 0 * (dvR (whl n) (pmul ys zs)).getD u 0 * Pc n (i + u) t) = fun u => rs (fun j => rs (fun k => xs.getD i 0 * ys.getD j 0 * zs.getD k 0 * (Pc n (j + k) u * Pc n (u + i) t)) (wl n)) (wl n) from funext fun u => ?_]
          · rw [rs_comm]
            refine rs_congr fun j _ => ?_
            rw [rs_comm]
            refine rs_congr fun k _ => ?_
            rw [rs_mul, Pc_add', show j + k + i = i + j + k by omega]
          · rw [rmul_co lb lc w1, Nat.add_comm i u, Int.mul_assoc, Int.mul_comm (rs _ _), ← Int.mul_assoc, ← rs_mul]
            refine rs_congr fun j _ => ?_
            rw [← rs_mul]
            refine rs_congr fun k _ => ?_
            grind
        rw [L, R]
theorem rmul_add {g : Gk} {a b c : Wt} (h : GkOk g) (ha : nm g a) (hb : nm g b) (hc : nm g c) : gmul g a (gadd g b c) = gadd g (gmul g a b) (gmul g a c) := by
  rcases wr g h ha with ⟨p, x, rfl, rfl, _, _, p2, _⟩ | ⟨n, xs, rfl, rfl, l, w1⟩
  · cases b with
    | v ys => exact hb.elim
    | i y =>
      cases c with
      | v zs => exact hc.elim
      | i z =>
        show Wt.i _ = Wt.i _
        rw [em_r, ea_l, ea_r, Int.mul_add]
  · cases b with
    | i y => exact hb.elim
    | v ys =>
      cases c with
      | i z => exact hc.elim
      | v zs =>
        have lb : ys.length = wl n := hb
        have lc : zs.length = wl n := hc
        show Wt.v (dvR (whl n) (pmul xs (addL ys zs))) = Wt.v (addL (dvR (whl n) (pmul xs ys)) (dvR (whl n) (pmul xs zs)))
        have e1 : (addL ys zs).length = wl n := by rw [addL_len (lb.trans lc.symm), lb]
        have e2 : (dvR (whl n) (pmul xs ys)).length = (dvR (whl n) (pmul xs zs)).length := by rw [dvR_len, dvR_len]
        refine congrArg Wt.v (list_co (n := n) dvR_len (by rw [addL_len e2]; exact dvR_len) fun t => ?_)
        rw [addL_getD e2, rmul_co l e1 w1, rmul_co l lb w1, rmul_co l lc w1, ← rs_add]
        refine rs_congr fun i _ => ?_
        rw [← rs_add]
        refine rs_congr fun j _ => ?_
        rw [addL_getD (lb.trans lc.symm)]
        grind
theorem gw_co {n : Nat} (h1 : 1 ≤ wl n) {c : Int} {t : Nat} : (c :: List.replicate (wl n - 1) 0).getD t 0 = if t = 0 then c else 0 := by
  cases t with
  | zero => rfl
  | succ t =>
    rw [if_neg (by omega)]
    show (List.replicate (wl n - 1) (0 : Int)).getD t 0 = 0
    rw [List.getD_eq_getElem?_getD, List.getElem?_replicate]
    split <;> rfl
theorem rmul_one {g : Gk} {a : Wt} (h : GkOk g) (ha : nm g a) : gmul g a (gw g 1) = a := by
  rcases wr g h ha with ⟨p, x, rfl, rfl, x0, x1, p2, _⟩ | ⟨n, xs, rfl, rfl, l, w1⟩
  · show Wt.i (x * (1 % p) % p) = Wt.i x
    rw [em_r, Int.mul_one, Int.emod_eq_of_lt x0 x1]
  · show Wt.v (dvR (whl n) (pmul xs (1 :: List.replicate (wl n - 1) 0))) = Wt.v xs
    have e : (1 :: List.replicate (wl n - 1) (0 : Int)).length = wl n := by rw [List.length_cons, List.length_replicate]; omega
    refine congrArg Wt.v (list_co (n := n) dvR_len l fun t => ?_)
    rw [rmul_co l e w1]
    have e1 : rs (fun i => rs (fun j => xs.getD i 0 * (1 :: List.replicate (wl n - 1) (0 : Int)).getD j 0 * Pc n (i + j) t) (wl n)) (wl n) = rs (fun i => xs.getD i 0 * Pc n i t) (wl n) := by
      refine rs_congr fun i _ => ?_
      rw [rs_one (k := 0) (by omega) fun j _ ne => by rw [gw_co w1, if_neg ne, Int.mul_zero]; exact Int.zero_mul _, gw_co w1, if_pos rfl, Int.mul_one, Nat.add_zero]
    rw [e1]
    by_cases c : t < wl n
    · rw [rs_one (k := t) c fun i hi ne => by rw [Pc_low hi, if_neg (fun z => ne z.symm)]; exact Int.mul_zero _, Pc_low c, if_pos rfl, Int.mul_one]
    · rw [rs_congr (g := fun _ => (0 : Int)) fun i hi => by rw [Pc_low hi, if_neg (by omega)]; exact Int.mul_zero _, rs_zero, List.getD_eq_getElem?_getD, List.getElem?_eq_none (by omega)]
      rfl
theorem rmul_z {g : Gk} {a : Wt} (h : GkOk g) (ha : nm g a) : gmul g a (gz g) = gz g := by
  rcases wr g h ha with ⟨p, x, rfl, rfl, x0, x1, p2, _⟩ | ⟨n, xs, rfl, rfl, l, w1⟩
  · show Wt.i (x * 0 % p) = Wt.i 0
    rw [Int.mul_zero, Int.zero_emod]
  · show Wt.v (dvR (whl n) (pmul xs (List.replicate (wl n) 0))) = Wt.v (List.replicate (wl n) 0)
    refine congrArg Wt.v (list_co (n := n) dvR_len List.length_replicate fun t => ?_)
    have z : ∀ t, (List.replicate (wl n) (0 : Int)).getD t 0 = 0 := fun t => co_z (g := .roots n) (t := t)
    rw [rmul_co l List.length_replicate w1, z, rs_congr (g := fun _ => (0 : Int)) fun i _ => ?_, rs_zero]
    · rw [rs_congr (g := fun _ => (0 : Int)) fun j _ => ?_, rs_zero]
      rw [z, Int.mul_zero]
      exact Int.zero_mul _
structure GO where
  g : Gk
  ok : GkOk g
structure Rg (G : GO) where
  w : Wt
  ok : nm G.g w
theorem Rg.ex {G : GO} : ∀ {a b : Rg G}, a.1 = b.1 → a = b
  | ⟨_, _⟩, ⟨_, _⟩, rfl => rfl
section
open Lean.Grind
variable {G : GO}
def rgNat (G : GO) : Nat → Rg G
  | 0 => ⟨gz G.1, nm_z G.2⟩
  | n + 1 => ⟨gadd G.1 (rgNat G n).1 (gw G.1 1), nm_add G.2 (rgNat G n).2 (nm_gw G.2)⟩
def rgAdd (a b : Rg G) : Rg G := ⟨gadd G.1 a.1 b.1, nm_add G.2 a.2 b.2⟩
def rgMul (a b : Rg G) : Rg G := ⟨gmul G.1 a.1 b.1, nm_mul G.2 a.2 b.2⟩
def rgNeg (a : Rg G) : Rg G := ⟨gneg G.1 a.1, nm_neg G.2 a.2⟩
def rgInt (G : GO) : Int → Rg G
  | .ofNat n => rgNat G n
  | .negSucc n => rgNeg (rgNat G (n + 1))
def rgPow (a : Rg G) : Nat → Rg G
  | 0 => ⟨gw G.1 1, nm_gw G.2⟩
  | n + 1 => rgMul (rgPow a n) a
theorem rg_acm (a b : Rg G) : rgAdd a b = rgAdd b a := Rg.ex (radd_cm G.2 a.2 b.2)
theorem rg_aas (a b c : Rg G) : rgAdd (rgAdd a b) c = rgAdd a (rgAdd b c) := Rg.ex (radd_as G.2 a.2 b.2 c.2)
theorem rg_mcm (a b : Rg G) : rgMul a b = rgMul b a := Rg.ex (mul_cm G.2 a.2 b.2)
theorem rg_mas (a b c : Rg G) : rgMul (rgMul a b) c = rgMul a (rgMul b c) := Rg.ex (rmul_as G.2 a.2 b.2 c.2)
theorem rg_az (a : Rg G) : rgAdd a (rgNat G 0) = a := Rg.ex (radd_z G.2 a.2)
theorem rg_an (a : Rg G) : rgAdd (rgNeg a) a = rgNat G 0 := Rg.ex (radd_neg G.2 a.2)
theorem rg_z1 : rgNat G 1 = ⟨gw G.1 1, nm_gw G.2⟩ := by
  have e : rgNat G 1 = rgAdd (rgNat G 0) ⟨gw G.1 1, nm_gw G.2⟩ := rfl
  rw [e, rg_acm, rg_az]
theorem rg_m1 (a : Rg G) : rgMul a (rgNat G 1) = a := by
  rw [rg_z1]
  exact Rg.ex (rmul_one G.2 a.2)
theorem rg_mz (a : Rg G) : rgMul a (rgNat G 0) = rgNat G 0 := Rg.ex (rmul_z G.2 a.2)
theorem rg_ma (a b c : Rg G) : rgMul a (rgAdd b c) = rgAdd (rgMul a b) (rgMul a c) := Rg.ex (rmul_add G.2 a.2 b.2 c.2)
theorem rg_uneg {a b : Rg G} (h : rgAdd a b = rgNat G 0) : a = rgNeg b := by
  have e : rgAdd (rgAdd a b) (rgNeg b) = rgAdd (rgNat G 0) (rgNeg b) := by rw [h]
  rw [rg_aas, rg_acm b, rg_an, rg_az, rg_acm, rg_az] at e
  exact e
theorem rg_nz : rgNeg (rgNat G 0) = rgNat G 0 := (rg_uneg (rg_az _)).symm
theorem rg_nn (a : Rg G) : rgNeg (rgNeg a) = a := (rg_uneg (by rw [rg_acm, rg_an])).symm
theorem rg_nm (a b : Rg G) : rgMul (rgNeg a) b = rgNeg (rgMul a b) := rg_uneg (by
  rw [rg_mcm, rg_mcm a, ← rg_ma, rg_an, rg_mz])
theorem rg_ni (i : Int) : rgInt G (-i) = rgNeg (rgInt G i) := by
  cases i with
  | ofNat n =>
    cases n with
    | zero => exact rg_nz.symm
    | succ n => rfl
  | negSucc n => exact (rg_nn _).symm
instance instRg : CommRing (Rg G) where
  add := rgAdd
  mul := rgMul
  natCast := ⟨rgNat G⟩
  ofNat n := ⟨rgNat G n⟩
  nsmul := ⟨fun n a => rgMul (rgNat G n) a⟩
  npow := ⟨rgPow⟩
  neg := rgNeg
  sub a b := rgAdd a (rgNeg b)
  intCast := ⟨rgInt G⟩
  zsmul := ⟨fun i a => rgMul (rgInt G i) a⟩
  add_zero := rg_az
  add_comm := rg_acm
  add_assoc := rg_aas
  mul_assoc := rg_mas
  mul_one := rg_m1
  one_mul a := (rg_mcm _ _).trans (rg_m1 a)
  left_distrib := rg_ma
  right_distrib a b c := by
    show rgMul (rgAdd a b) c = rgAdd (rgMul a c) (rgMul b c)
    rw [rg_mcm, rg_ma, rg_mcm c, rg_mcm c]
  zero_mul a := (rg_mcm _ _).trans (rg_mz a)
  mul_zero := rg_mz
  pow_zero a := (rg_z1).symm
  pow_succ a n := rfl
  ofNat_succ n := by
    show rgNat G (n + 1) = rgAdd (rgNat G n) (rgNat G 1)
    rw [rg_z1]
    rfl
  ofNat_eq_natCast n := rfl
  nsmul_eq_natCast_mul n a := rfl
  neg_add_cancel := rg_an
  sub_eq_add_neg a b := rfl
  neg_zsmul i a := by
    show rgMul (rgInt G (-i)) a = rgNeg (rgMul (rgInt G i) a)
    rw [rg_ni, rg_nm]
  zsmul_natCast_eq_nsmul n a := rfl
  intCast_ofNat n := rfl
  intCast_neg := rg_ni
  mul_comm := rg_mcm
end
/-! ### powers by a prime: Fermat, and when they come round -/
def PrN (P : Nat) : Prop := 2 ≤ P ∧ ∀ d, 2 ≤ d → d < P → ¬ d ∣ P
theorem PrN.cop {P a : Nat} (h : PrN P) (ha : ¬ P ∣ a) : Nat.Coprime P a := by
  have d1 := Nat.gcd_dvd_left P a
  have d2 := Nat.gcd_dvd_right P a
  show Nat.gcd P a = 1
  generalize Nat.gcd P a = g at *
  have g0 : g ≠ 0 := fun z => by
    rw [z] at d1
    have := Nat.zero_dvd.mp d1
    have := h.1
    omega
  have gle : g ≤ P := Nat.le_of_dvd (by have := h.1; omega) d1
  by_cases e : g = 1
  · exact e
  · exfalso
    by_cases e2 : g = P
    · exact ha (e2 ▸ d2)
    · exact h.2 g (by omega) (by omega) d1
/-! ### roots of a ground in its ring -/
section
open Lean.Grind
theorem Rt.of {R : Type} [CommRing R] {w : R} {L : Nat} (h1 : w ^ L = 1) (h : ∀ d, 1 < d → d ∣ L → rs (fun k => (w ^ (L / d)) ^ k) d = 0) : Rt w L := by
  refine ⟨h1, fun d d0 dL => ?_⟩
  have g0 : 0 < Nat.gcd d L := Nat.gcd_pos_of_pos_left _ d0
  obtain ⟨d', hd'⟩ := Nat.gcd_dvd_left d L
  obtain ⟨L', hL'⟩ := Nat.gcd_dvd_right d L
  have cop : Nat.Coprime d' L' := by
    have := Nat.gcd_mul_left (Nat.gcd d L) d' L'
    rw [← hd', ← hL'] at this
    have e : Nat.gcd d L * Nat.gcd d' L' = Nat.gcd d L * 1 := by omega
    exact Nat.eq_of_mul_eq_mul_left g0 e
  generalize Nat.gcd d L = c at *
  have L1 : 1 < L' := by
    rcases Nat.lt_or_ge 1 L' with z | z
    · exact z
    · have dd : 0 < d' := by
        rcases Nat.eq_zero_or_pos d' with y | y
        · rw [y] at hd'; omega
        · exact y
      have : c * L' ≤ c * 1 := Nat.mul_le_mul_left c z
      have : c * 1 ≤ c * d' := Nat.mul_le_mul_left c dd
      omega
  have e1 : rs (fun k => w ^ (d * k)) L = rs (fun q => rs (fun r => w ^ (d * (q * L' + r))) L') c := by
    rw [hL', rs_grid]
  rw [e1, rs_congr (g := fun _ => (0 : R)) fun q _ => ?_, rs_zero]
  have e2 : L / L' = c := by rw [hL', Nat.mul_div_cancel _ (by omega)]
  have z := h L' L1 ⟨c, by rw [hL', Nat.mul_comm]⟩
  rw [e2] at z
  rw [← z]
  have one : (w ^ c) ^ L' = 1 := by rw [← pow_mul', ← hL', h1]
  refine Eq.trans ?_ (rs_perm (f := fun k => (w ^ c) ^ k) (σ := fun r => d' * r % L') (n := L') (fun r _ => Nat.mod_lt _ (by omega)) fun i hi j hj e => ?_)
  · refine rs_congr fun r _ => ?_
    rw [← pow_rest one, ← pow_mul']
    refine pow_alike h1 ?_
    have : d * (q * L' + r) = c * (d' * r) + L * (d' * q) := by
      rw [hd', hL']
      clear e1 e2 z one h h1 cop
      grind
    rw [this, Nat.add_mul_mod_self_left]
  · have e : d' * i % L' = d' * j % L' := e
    have key : ∀ {p q : Nat}, p < L' → q ≤ p → d' * p % L' = d' * q % L' → p = q := by
      intro p q hp hqp e
      have dv : L' ∣ d' * p - d' * q := Nat.dvd_of_mod_eq_zero (Nat.sub_mod_eq_zero_of_mod_eq e)
      rw [← Nat.mul_sub] at dv
      have := Nat.eq_zero_of_dvd_of_lt (cop.symm.dvd_of_dvd_mul_left dv) (by omega)
      omega
    rcases Nat.le_total i j with z | z
    · exact (key hj z e.symm).symm
    · exact key hi z e
variable {G : GO}
theorem rtP_n : ∀ n < 31, 1 ≤ n → rtP n n = rtP n 0 := by decide +kernel
theorem prN_of {p : Int} (h : p ∈ prs 10000) : ∃ P : Nat, p = (P : Int) ∧ PrN P := by
  have hp := (prs_iff.mp h).2
  obtain ⟨p2, pr⟩ := Rough.of_fac hp
  obtain ⟨P, rfl⟩ := Int.eq_ofNat_of_zero_le (show 0 ≤ p by omega)
  exact ⟨P, rfl, ⟨by omega, fun d d2 dP k => pr d (by omega) (by omega) (Int.natCast_dvd_natCast.mpr k)⟩⟩
end
/-! ### the law's turning is the ring's -/
section
open Lean.Grind
variable {G : GO}
end
/-! ### sizes of turned worths -/
def BB (B : Nat) : Wt → Prop
  | .i _ => True
  | .v xs => ∀ x ∈ xs, x.natAbs ≤ B
theorem BB.up {B C : Nat} {w : Wt} (h : BB B w) (e : B ≤ C) : BB C w := by
  cases w with
  | i x => exact True.intro
  | v xs => exact fun x hx => Nat.le_trans (h x hx) e
theorem BB.bw {B : Nat} {w : Wt} (h : BB B w) (e : B < 2 ^ 9000) : bw w := by
  cases w with
  | i x => exact True.intro
  | v xs => exact fun x hx => Nat.lt_of_le_of_lt (h x hx) e
theorem B9.bb {w : Wt} (h : B9 w) : BB 1000000000 w := by
  cases w with
  | i x => exact True.intro
  | v xs => exact h
theorem BB.co {B : Nat} {n : Nat} {xs : List Int} (h : BB B (.v xs)) (t : Nat) : (xs.getD t 0).natAbs ≤ B := by
  rw [List.getD_eq_getElem?_getD]
  cases e : xs[t]? with
  | none => exact Nat.zero_le _
  | some x => exact h x (List.mem_of_getElem? e)
theorem BB.of_co {B : Nat} {xs : List Int} (h : ∀ t, (xs.getD t 0).natAbs ≤ B) : BB B (.v xs) := fun x hx => by
  obtain ⟨i, hi⟩ := List.getElem?_of_mem hx
  have := h i
  rw [List.getD_eq_getElem?_getD, hi] at this
  exact this
theorem bb_add {g : Gk} {B C : Nat} {a b : Wt} (ha : nm g a) (hb : nm g b) (h1 : BB B a) (h2 : BB C b) : BB (B + C) (gadd g a b) := by
  cases g with
  | rests p =>
    cases a with
    | v xs => exact ha.elim
    | i a =>
      cases b with
      | v xs => exact hb.elim
      | i b => exact True.intro
  | roots n =>
    cases a with
    | i a => exact ha.elim
    | v a =>
      cases b with
      | i b => exact hb.elim
      | v b =>
        have la : a.length = wl n := ha
        have lb : b.length = wl n := hb
        refine BB.of_co fun t => ?_
        show ((addL a b).getD t 0).natAbs ≤ _
        rw [addL_getD (la.trans lb.symm)]
        have := h1.co (n := n) t
        have := h2.co (n := n) t
        omega
theorem rs_bd {f : Nat → Int} {C : Nat} : ∀ n : Nat, (∀ i < n, (f i).natAbs ≤ C) → (rs f n).natAbs ≤ n * C
  | 0, _ => by
    show (0 : Int).natAbs ≤ _
    exact Nat.zero_le _
  | n + 1, h => by
    have h1 := rs_bd n fun i hi => h i (by omega)
    have h2 := h n (by omega)
    show (rs f n + f n).natAbs ≤ _
    rw [Nat.succ_mul]
    omega
theorem wl_le : ∀ n < 31, 1 ≤ n → wl n ≤ n := by decide +kernel
theorem Pc_n {n k t : Nat} (hn : n < 31) (n1 : 1 ≤ n) : Pc n (n + k) t = Pc n k t := by
  rw [← Pc_add, isum_congr (g := fun u => Pc n 0 u * Pc n (u + k) t) fun u _ => by
    show (rtP n n).getD u 0 * _ = (rtP n 0).getD u 0 * _
    rw [rtP_n n hn n1], Pc_add, Nat.zero_add]
theorem Pc_bd {n e t : Nat} (hn : n < 31) (n1 : 1 ≤ n) (he : e < n + n) : (Pc n e t).natAbs ≤ 100 := by
  have low : ∀ e, e < n → (Pc n e t).natAbs ≤ 100 := fun e he => by
    unfold Pc
    rw [List.getD_eq_getElem?_getD]
    cases h : (rtP n e)[t]? with
    | none => exact Nat.zero_le _
    | some x => exact rtP_b n hn e he x (List.mem_of_getElem? h)
  by_cases c : e < n
  · exact low e c
  · rw [show e = n + (e - n) by omega, Pc_n hn n1]
    exact low _ (by omega)
/-! ### what turnings keep -/
section
open Lean.Grind
variable {G : GO}
end
/-! ### a method of a ground, of whichever class -/
structure MthU (P : Program) (w : World) (K : PySem.W.Frag) (mg : Str → Option Value) (base : Heap) (CX : CXT) (k : Nat) (C1 C2 : Addr) (m : Str) (ps : List Str) (spU : Bool → Sp) : Prop where
  c1 : L2.Cls K C1
  c2 : L2.Cls K C2
  x : ∃ f1 d1 f2 d2, Meth K C1 m f1 ∧ Meth K C2 m f2 ∧ Binds K d1 ps [] ∧ Binds K d2 ps [] ∧ FnOk P w K mg base CX k f1 d1 ps (spU true) ∧ FnOk P w K mg base CX k f2 d2 ps (spU false)
  l : ∀ H a g, GrAt C1 C2 H a g → ∃ dx fs, H a = some (.ins (clG C1 C2 (kdG g)) dx fs) ∧ List.lookup m fs = none
def tMethU (C1 C2 : Addr) (spU : Bool → Sp) (E : XK) (ta : TE) (t : TA) : TE := fun σ H Q => ta σ H fun x H1 => ∃ (a : Addr) (g : Gk), x = .ref a ∧ GrAt C1 C2 H1 a g ∧ t σ H1 fun vs H2 => spU (kdG g) (.ref a :: vs) H2 Q E
section
variable {X : Cx} {CX : CXT} {k : Nat} {C1 C2 : Addr} {m : Str} {ps : List Str} {spU : Bool → Sp} {E : XK} {o e : Expr} {es : List Expr} {ta : TE} {t : TA} {apos pos : Pos}
theorem pe_methU {pl : Sem Bool} (he : PE X o ta) (M : MthU X.prog X.w X.K X.mg X.base CX k C1 C2 m ps spU) (hr : Room k X.A) (hx : Passes CX X E) (ha : PA X (e :: es) t)
    (hst : starEach (e :: es) X.env = (false, eval e X.env) :: starEach es X.env := by rfl) (hpl : (backTo pos (starEach es X.env)).any (·.1) = false := by rfl)
    (ht : eval (.Call (.Attribute o m apos) (e :: es) [] pos) X.env = (do
      let ov ← eval o X.env
      standAt apos.atName
      let (f, first) ← holding [ov] (getMethod ov m pl)
      callWith pos f first (backTo pos (starEach (e :: es) X.env)) (backToKw pos (keywordEach [] X.env))) := by rfl) :
    PE X (.Call (.Attribute o m apos) (e :: es) [] pos) (tMethU C1 C2 spU E ta t) := by
  obtain ⟨f1, d1, f2, d2, m1, m2, b1, b2, F1, F2⟩ := M.x
  refine ⟨fun pins s σ H Q I h => ?_⟩
  refine PySem.W.methodCall_KW (pl := pl) (thn (he.run pins s σ H _ I h) fun u s1 ⟨x, H1, I1, rx, a, g, ex, hG, q⟩ => ?_) ht
  subst ex
  obtain rfl : u = Value.ref a := rx
  obtain ⟨dx, fs, ea, l⟩ := M.l H1 a g hG
  cases hk : kdG g with
  | true =>
    rw [hk] at ea q
    refine getmeth_ok I1 ea M.c1 m1 l ?_
    refine PySem.W.callWith_K (first := [.ref a]) (h₀ := X.base) I.ok.mod.kin m1.kp (thn (ha.run pos pins s1 σ H1 _ I1 q) fun us s2 ⟨vs, H2, I2, r, q2⟩ => ⟨I2.kIn, ?_⟩) hst hpl
    have q2' : (spU true) ((.ref a :: vs) ++ []) H2 Q E := by rw [List.append_nil]; exact q2
    exact run_fn (us := .ref a :: us) (vs := .ref a :: vs) F1 hr b1 .nil hx I2 (.cons rfl r) q2'
  | false =>
    rw [hk] at ea q
    refine getmeth_ok I1 ea M.c2 m2 l ?_
    refine PySem.W.callWith_K (first := [.ref a]) (h₀ := X.base) I.ok.mod.kin m2.kp (thn (ha.run pos pins s1 σ H1 _ I1 q) fun us s2 ⟨vs, H2, I2, r, q2⟩ => ⟨I2.kIn, ?_⟩) hst hpl
    have q2' : (spU false) ((.ref a :: vs) ++ []) H2 Q E := by rw [List.append_nil]; exact q2
    exact run_fn (us := .ref a :: us) (vs := .ref a :: vs) F2 hr b2 .nil hx I2 (.cons rfl r) q2'
end
theorem GrAt.lk {C1 C2 : Addr} {H : Hp} {a : Addr} {g : Gk} {m : Str} (h : GrAt C1 C2 H a g) (n1 : m ≠ "prime") (n2 : m ≠ "base") (n3 : m ≠ "order") (n4 : m ≠ "rim") : ∃ dx fs, H a = some (.ins (clG C1 C2 (kdG g)) dx fs) ∧ List.lookup m fs = none := by
  have e : ∀ {x y : Str}, x ≠ y → (x == y) = false := fun h => by simpa using h
  cases g with
  | rests p =>
    obtain ⟨dx, gg, h1, h2⟩ := h
    refine ⟨dx, _, h1, ?_⟩
    rw [List.lookup_cons, e n1, List.lookup_cons, e n2]
    rfl
  | roots n =>
    obtain ⟨dx, r, h1, h2⟩ := h
    refine ⟨dx, _, h1, ?_⟩
    rw [List.lookup_cons, e n3, List.lookup_cons, e n4]
    rfl
section
variable {P : Program} {w : World} {K : PySem.W.Frag} {mg : Str → Option Value} {base : Heap}
theorem fnNo {k : Nat} {f : Addr} {fd : FuncData} {ps : List Str} {sp : Sp} (F : FnOk P w K mg base (L2.CX P w) k f fd ps sp) : FnOk P w K mg base CX0 k f fd ps (fun vs H Q _ => sp vs H Q fun _ _ _ => False) := by
  refine ⟨fun vs H Q E h => F.len _ _ _ _ h, fun A outer s H args us vs Q E hr e0 hb hv hs => codeAny_mono (F.run A outer s H args us vs Q _ hr e0 hb hv hs) fun r s' h => ?_⟩
  cases r with
  | ok fl => cases fl <;> exact h
  | error u =>
    obtain ⟨_, _, _, _, _, _, _, _, _, _, _, _, z⟩ := h
    exact z.elim
theorem lg_ex {g : Gk} (h : GkOk g) : ∃ q, LgOk g q := by
  cases g with
  | rests p =>
    obtain ⟨q, out, h1, h2⟩ := least_prs h
    exact ⟨q, out, h1, h2⟩
  | roots n => exact ⟨0, True.intro⟩
end
/-! ### worths with their sizes; the methods of a ground by these -/
theorem bb_mul {g : Gk} {A B : Nat} {a b : Wt} (h : GkOk g) (ha : nm g a) (hb : nm g b) (h1 : BB A a) (h2 : BB B b) : BB (90000 * (A * B)) (gmul g a b) := by
  rcases wr g h ha with ⟨p, x, rfl, rfl, _, _, p2, _⟩ | ⟨n, xs, rfl, rfl, l, w1⟩
  · cases b with
    | v ys => exact hb.elim
    | i y => exact True.intro
  · cases b with
    | i y => exact hb.elim
    | v ys =>
      have w30 := (wl1 h.1 h.2).2
      have wn := wl_le n h.2 h.1
      refine BB.of_co fun t => ?_
      show ((dvR (whl n) (pmul xs ys)).getD t 0).natAbs ≤ _
      rw [rmul_co l hb w1]
      refine Nat.le_trans (rs_bd (C := 30 * (A * B * 100)) _ fun i hi => Nat.le_trans (rs_bd (C := A * B * 100) _ fun j hj => ?_) (Nat.mul_le_mul_right _ w30)) ?_
      · rw [Int.natAbs_mul, Int.natAbs_mul]
        exact Nat.mul_le_mul (Nat.mul_le_mul (h1.co (n := n) i) (h2.co (n := n) j)) (Pc_bd h.2 h.1 (by omega))
      · calc wl n * (30 * (A * B * 100)) ≤ 30 * (30 * (A * B * 100)) := Nat.mul_le_mul_right _ w30
          _ = 90000 * (A * B) := by omega
def Wk (K : PySem.W.Frag) (H : Hp) (g : Gk) (v : V) (w : Wt) (k : Nat) : Prop := WtAt K H v w ∧ nm g w ∧ BB (2 ^ k) w
theorem Wk.same {K : PySem.W.Frag} {H H' : Hp} {g : Gk} {v : V} {w : Wt} {k : Nat} (h : Wk K H g v w k) (s : Same H H') : Wk K H' g v w k := ⟨h.1.same s, h.2⟩
theorem Wk.keep {K : PySem.W.Frag} {H H' : Hp} {g : Gk} {v : V} {w : Wt} {k : Nat} {b : Addr} {c : Int} (h : Wk K H g v w k) (hb : BoxAt H b c) (s : Keep b H H') : Wk K H' g v w k := ⟨h.1.keep hb s, h.2⟩
theorem Wk.bw {K : PySem.W.Frag} {H : Hp} {g : Gk} {v : V} {w : Wt} {k : Nat} (h : Wk K H g v w k) (e : k < 9000) : bw w := h.2.2.bw (Nat.pow_lt_pow_right (by decide) e)
theorem p2_add (k l : Nat) : 2 ^ k + 2 ^ l ≤ 2 ^ (k + l + 1) := by
  have h1 : 2 ^ k ≤ 2 ^ (k + l) := Nat.pow_le_pow_right (by decide) (by omega)
  have h2 : 2 ^ l ≤ 2 ^ (k + l) := Nat.pow_le_pow_right (by decide) (by omega)
  rw [Nat.pow_succ]
  omega
theorem p2_mul (k l : Nat) : 90000 * (2 ^ k * 2 ^ l) ≤ 2 ^ (k + l + 17) := by
  rw [← Nat.pow_add, Nat.pow_add 2 (k + l) 17, Nat.mul_comm]
  exact Nat.mul_le_mul_left _ (by decide)
def spKa (K : PySem.W.Frag) (C1 C2 : Addr) (r : Bool) : Sp := fun vs H Q _ => ∃ (a : Addr) (g : Gk) (x y : V) (u w : Wt) (k l : Nat), vs = [.ref a, x, y] ∧ GrAt C1 C2 H a g ∧ kdG g = r ∧ GkOk g ∧ Wk K H g x u k ∧ Wk K H g y w l ∧ ∀ v H', Same H H' → Wk K H' g v (gadd g u w) (k + l + 1) → Q v H'
def spKg (K : PySem.W.Frag) (C1 C2 : Addr) (r : Bool) : Sp := fun vs H Q _ => ∃ (a : Addr) (g : Gk) (x y : V) (u w : Wt) (k l : Nat), vs = [.ref a, x, y] ∧ GrAt C1 C2 H a g ∧ kdG g = r ∧ GkOk g ∧ Wk K H g x u k ∧ Wk K H g y w l ∧ ∀ v H', Same H H' → Wk K H' g v (gadd g u (gneg g w)) (k + l + 1) → Q v H'
def spKm (K : PySem.W.Frag) (C1 C2 : Addr) (r : Bool) : Sp := fun vs H Q _ => ∃ (a : Addr) (g : Gk) (x y : V) (u w : Wt) (k l : Nat), vs = [.ref a, x, y] ∧ GrAt C1 C2 H a g ∧ kdG g = r ∧ GkOk g ∧ Wk K H g x u k ∧ Wk K H g y w l ∧ k < 9000 ∧ l < 9000 ∧ ∀ v H', Same H H' → Wk K H' g v (gmul g u w) (k + l + 17) → Q v H'
section
variable {P : Program} {w : World} {K : PySem.W.Frag} {mg : Str → Option Value} {base : Heap}
theorem mu_sum {CT CB C1 C2 CR CS CI fI : Addr} {fdI : FuncData} (T : Blt mg) (S : G16 K mg CT CB C1 C2 CR CS CI fI fdI) : MthU P w K mg base CX0 1 C1 C2 "sum_of" P_Rests_sum_of (spKa K C1 C2) := by
  obtain ⟨_, _, a1, a2, a3⟩ := S.a1
  obtain ⟨_, _, b1, b2, b3⟩ := S.a2
  have A1 := ok_u1a (P := P) (w := w) (mg := mg) (base := base) (C2 := C2) (k := 0) a1 S.R1
  have A2 := ok_u2a (P := P) (w := w) (mg := mg) (base := base) (C1 := C1) (C2 := C2) (k := 0) b1 T
  refine ⟨S.R1.cl, S.R2.cl, ⟨_, _, _, _, a3, b3, a2, b2, fnsub A1 ?_, fnsub A2 ?_⟩, fun H a g h => h.lk (by decide) (by decide) (by decide) (by decide)⟩
  all_goals
    rintro vs H Q E ⟨a, g, x, y, u, w, k, l, e1, hG, hk, ok, hx, hy, q⟩
    exact ⟨a, g, x, y, u, w, e1, hG, hk, ok, hx.1, hy.1, hx.2.1, hy.2.1, fun v H' sm hv => q v H' sm ⟨hv, nm_add ok hx.2.1 hy.2.1, (bb_add hx.2.1 hy.2.1 hx.2.2 hy.2.2).up (p2_add k l)⟩⟩
theorem mu_prod {CT CB C1 C2 CR CS CI fI : Addr} {fdI : FuncData} {f1 f2 : Addr} {d1 d2 : FuncData} (T : Blt mg) (S : G16 K mg CT CB C1 C2 CR CS CI fI fdI) (D_divided : Df K mg "divided" s_divided P_divided f1 d1) (D_multiplied : Df K mg "multiplied" s_multiplied P_multiplied f2 d2) : MthU P w K mg base CX0 2 C1 C2 "product_of" P_Rests_product_of (spKm K C1 C2) := by
  obtain ⟨_, _, a1, a2, a3⟩ := S.q1
  obtain ⟨_, _, b1, b2, b3⟩ := S.q2
  have A1 := ok_u1m (P := P) (w := w) (mg := mg) (base := base) (C2 := C2) (k := 1) a1 S.R1
  have A2 := ok_u2m (P := P) (w := w) (base := base) (C1 := C1) (k := 0) b1 T S.R2 D_divided D_multiplied
  refine ⟨S.R1.cl, S.R2.cl, ⟨_, _, _, _, a3, b3, a2, b2, fnsub A1 ?_, fnsub A2 ?_⟩, fun H a g h => h.lk (by decide) (by decide) (by decide) (by decide)⟩
  all_goals
    rintro vs H Q E ⟨a, g, x, y, u, w, k, l, e1, hG, hk, ok, hx, hy, k4, l4, q⟩
    exact ⟨a, g, x, y, u, w, e1, hG, hk, ok, hx.1, hy.1, hx.2.1, hy.2.1, hx.bw k4, hy.bw l4, fun v H' sm hv => q v H' sm ⟨hv, nm_mul ok hx.2.1 hy.2.1, (bb_mul ok hx.2.1 hy.2.1 hx.2.2 hy.2.2).up (p2_mul k l)⟩⟩
theorem bb_neg {g : Gk} {B : Nat} {a : Wt} (h : GkOk g) (ha : nm g a) (h1 : BB B a) : BB B (gneg g a) := by
  rcases wr g h ha with ⟨p, x, rfl, rfl, _, _, p2, _⟩ | ⟨n, xs, rfl, rfl, l, w1⟩
  · exact True.intro
  · intro x hx
    obtain ⟨y, hy, rfl⟩ := List.mem_map.mp hx
    rw [Int.natAbs_neg]
    exact h1 y hy
end
/-! root_at, where the ground has the root -/
def spKr (K : PySem.W.Frag) (C1 C2 : Addr) (r : Bool) : Sp := fun vs H Q _ => ∃ (a : Addr) (g : Gk) (L : Nat) (e q : Int), vs = [.ref a, .int (L : Int), .int e] ∧ GrAt C1 C2 H a g ∧ kdG g = r ∧ GkOk g ∧ LgOk g q ∧ 1 ≤ L ∧ L ≤ 1000 ∧ numM g % (L : Int) = 0 ∧ ∀ v H', Same H H' → Wk K H' g v (rtW g q L (e % (L : Int)).toNat) 7 → Q v H'
theorem bb_rtw {g : Gk} {q : Int} {L m : Nat} (h : GkOk g) (hL : 1 ≤ L) (hd : numM g % (L : Int) = 0) (hm : m < L) : BB (2 ^ 7) (rtW g q L m) := by
  cases g with
  | rests p => exact True.intro
  | roots n =>
    intro x hx
    have hd' : n % L = 0 := by
      have : ((n : Int)) % (L : Int) = 0 := hd
      omega
    exact Nat.le_trans (rtP_b n h.2 _ (rt_lt h.1 hL hd' hm) x hx) (by decide)
section
variable {P : Program} {w : World} {K : PySem.W.Frag} {mg : Str → Option Value} {base : Heap}
theorem mu_root {CT CB C1 C2 CR CS CI fI : Addr} {fdI : FuncData} {f1 f2 : Addr} {d1 d2 : FuncData} (T : Blt mg) (S : G16 K mg CT CB C1 C2 CR CS CI fI fdI) (D_divided : Df K mg "divided" s_divided P_divided f1 d1) (D_power_rest : Df K mg "power_rest" s_power_rest P_power_rest f2 d2) : MthU P w K mg base CX0 3 C1 C2 "root_at" P_Rests_root_at (spKr K C1 C2) := by
  obtain ⟨_, _, h1, h2, h3⟩ := S.h1
  obtain ⟨_, _, r1, r2, r3⟩ := S.r1
  obtain ⟨_, _, i1, i2, i3⟩ := S.h2
  obtain ⟨_, _, t1, t2, t3⟩ := S.r2
  have Rt1 := ok_u1r (P := P) (w := w) (base := base) (C2 := C2) (k := 0) r1 S.R1 h3 h2 h1 D_power_rest S.F S.b S.ty S.RR S.mr
  have Rt2 := ok_u2r (P := P) (w := w) (base := base) (C1 := C1) (k := 0) t1 T S.R2 i1 i2 i3 D_divided S.F S.b S.ty S.RR S.mr
  refine ⟨S.R1.cl, S.R2.cl, ⟨_, _, _, _, r3, t3, r2, t2, fnsub (fnNo Rt1) ?_, fnsub (fnNo Rt2) ?_⟩, fun H a g h => h.lk (by decide) (by decide) (by decide) (by decide)⟩
  all_goals
    rintro vs H Q E ⟨a, g, L, e, q, e1, hG, hk, ok, hq, L1, L2', hd, nx⟩
    have i0 := Int.emod_nonneg e (show (L : Int) ≠ 0 by omega)
    have i1 := Int.emod_lt_of_pos e (show (0 : Int) < L by omega)
    exact ⟨a, g, L, e, e1, hG, hk, ok, L1, L2', fun _ v q' H' hq' sm hv => nx v H' sm ⟨by rw [← hq'.un hq]; exact hv, nm_rt ok, bb_rtw ok L1 hd (by omega)⟩, fun z => absurd hd z⟩
/-! shared_by, where the worth is so many times another -/
theorem gsh_any {g : Gk} {m : Int} {w v : Wt} (h : GkOk g) (hw : nm g w) (m1 : 1 ≤ m) (hn : gw g m ≠ gw g 0) (hs : gsh g m (scW g m w) v) : v = w := by
  rcases wr g h hw with ⟨p, x, rfl, rfl, x0, x1, p2, _⟩ | ⟨n, xs, rfl, rfl, l, w1⟩
  · cases v with
    | v ys => exact hs.elim
    | i y =>
      obtain ⟨y0, y1, y2⟩ := (show 0 ≤ y ∧ y < p ∧ y * m % p = x * (m % p) % p from hs)
      rw [em_r] at y2
      obtain ⟨P, rfl, pN⟩ := prN_of h
      have mn : ¬ m % (P : Int) = 0 := fun z => hn (by
        show Wt.i (m % (P : Int)) = .i (0 % (P : Int))
        rw [z, Int.zero_emod])
      obtain ⟨X, rfl⟩ := Int.eq_ofNat_of_zero_le x0
      obtain ⟨Y, rfl⟩ := Int.eq_ofNat_of_zero_le y0
      obtain ⟨M, rfl⟩ := Int.eq_ofNat_of_zero_le (show 0 ≤ m by omega)
      have e1 : Y * M % P = X * M % P := by
        have : ((Y * M % P : Nat) : Int) = ((X * M % P : Nat) : Int) := by rw [Int.natCast_emod, Int.natCast_emod, Int.natCast_mul, Int.natCast_mul]; exact y2
        exact Int.ofNat.inj this
      have nM : ¬ P ∣ M := fun z => mn (by
        have := Nat.mod_eq_zero_of_dvd z
        omega)
      have key : ∀ {a b : Nat}, a < P → b ≤ a → a * M % P = b * M % P → a = b := by
        intro a b ha hba e
        have d : P ∣ a * M - b * M := Nat.dvd_of_mod_eq_zero (Nat.sub_mod_eq_zero_of_mod_eq e)
        rw [← Nat.sub_mul] at d
        have := Nat.eq_zero_of_dvd_of_lt ((pN.cop nM).dvd_of_dvd_mul_right d) (by omega)
        omega
      have : Y = X := by
        rcases Nat.le_total Y X with z | z
        · exact (key (by omega) z e1.symm).symm
        · exact key (by omega) z e1
      rw [this]
  · cases v with
    | i y =>
      rw [scW_v h l] at hs
      exact hs.elim
    | v ys =>
      rw [scW_v h l] at hs
      have e : ys = (xs.map (· * m)).map (· / m) := hs
      rw [List.map_map] at e
      have e2 : xs.map ((· / m) ∘ (· * m)) = xs := by
        conv => rhs; rw [← List.map_id xs]
        exact List.map_congr_left fun x _ => Int.mul_ediv_cancel x (by omega)
      rw [e, e2]
def spKs (K : PySem.W.Frag) (C1 C2 : Addr) (r : Bool) : Sp := fun vs H Q _ => ∃ (a : Addr) (g : Gk) (x : V) (u w : Wt) (m : Int) (k l : Nat), vs = [.ref a, x, .int m] ∧ GrAt C1 C2 H a g ∧ kdG g = r ∧ GkOk g ∧ Wk K H g x u k ∧ nm g w ∧ BB (2 ^ l) w ∧ 1 ≤ m ∧ m ≤ 1000 ∧ u = scW g m w ∧ gw g m ≠ gw g 0 ∧ ∀ v H', Same H H' → Wk K H' g v w l → Q v H'
theorem mu_share {CT CB C1 C2 CR CS CI fI : Addr} {fdI : FuncData} {f1 : Addr} {d1 : FuncData} (T : Blt mg) (S : G16 K mg CT CB C1 C2 CR CS CI fI fdI) (D_inverse : Df K mg "inverse" s_inverse P_inverse f1 d1) : MthU P w K mg base CX0 4 C1 C2 "shared_by" P_Rests_shared_by (spKs K C1 C2) := by
  obtain ⟨_, _, s1, s2, s3⟩ := S.s1
  obtain ⟨_, _, u1, u2, u3⟩ := S.s2
  have Sh1 := ok_u1s (P := P) (w := w) (base := base) (C2 := C2) (k := 0) s1 S.R1 D_inverse S.F S.b S.ty S.RI S.mi S.RS S.ms
  have Sh2 := ok_u2s (P := P) (w := w) (base := base) (C1 := C1) (C2 := C2) (k := 1) u1 T S.F S.b S.ty S.RS S.ms
  refine ⟨S.R1.cl, S.R2.cl, ⟨_, _, _, _, s3, u3, s2, u2, fnsub (fnNo Sh1) ?_, fnsub (fnNo Sh2) ?_⟩, fun H a g h => h.lk (by decide) (by decide) (by decide) (by decide)⟩
  all_goals
    rintro vs H Q E ⟨a, g, x, u, w, m, k, l, e1, hG, hk, ok, hx, nw, bw', m1, m2, eu, hn, nx⟩
    refine ⟨a, g, x, u, m, e1, hG, hk, ok, hx.1, hx.2.1, m1, m2, fun _ v w' H' hs sm hv => ?_, fun z => absurd ?_ z⟩
    · rw [eu] at hs
      have := gsh_any ok nw m1 hn hs
      subst this
      exact nx v H' sm ⟨hv, nw, bw'⟩
    · rw [eu]
      rcases wr g ok nw with ⟨p, x, rfl, rfl, x0, x1, p2, _⟩ | ⟨n, xs, rfl, rfl, l, w1⟩
      · intro z
        exact hn (by
          show Wt.i (m % p) = .i (0 % p)
          rw [z, Int.zero_emod])
      · rw [scW_v ok l]
        intro x hx
        obtain ⟨y, _, rfl⟩ := List.mem_map.mp hx
        exact Int.mul_emod_left y m
end
abbrev s_Rests_is_worth : Stmt := inClass (top 22) 5
abbrev N_Rests_is_worth : List Str := ["self", "thing"]
abbrev P_Rests_is_worth : List Str := ["self", "thing"]
theorem sc_Rests_is_worth : FnScope N_Rests_is_worth P_Rests_is_worth (defScope s_Rests_is_worth) := ⟨rfl, rfl, rfl, by decide +kernel, rfl, by decide +kernel, by decide +kernel⟩
def sp_isw (K : PySem.W.Frag) (C : Addr) : Sp := fun vs H Q _ => ∃ (a : Addr) (p : Int) (v : V) (t : String), vs = [.ref a, v] ∧ RestAt C H a p ∧ Kd K H v t ∧ (∀ i, v = .int i → Q (.bl (decide (0 ≤ i) && decide (i < p))) H) ∧ ((∀ i, v ≠ .int i) → Q (.bl false) H)
section
variable {P : Program} {w : World} {K : PySem.W.Frag} {mg : Str → Option Value} {base : Heap}
theorem ok_isw {f f1 C : Addr} {fd d1 : FuncData} {k : Nat} (F : Fun K "is_worth" "Rests.is_worth" s_Rests_is_worth f fd) (T : Blt mg) (RC : RestC K C) (D_is_whole : Df K mg "is_whole" s_is_whole P_is_whole f1 d1) : FnOk P w K mg base CX0 (k + 2) f fd P_Rests_is_worth (sp_isw K C) := by
  have G_is_whole : FnOk P w K mg base CX0 (k + 1) f1 d1 P_is_whole (spWhole K) := ok_whole D_is_whole.F T
  have nd := sc_Rests_is_worth.nd
  refine F.ok sc_Rests_is_worth (fun vs H Q E h => ?_) (fun cdv A outer s H vs Q E hr h => ?_)
  · obtain ⟨a, p, v, t, rfl, _⟩ := h
    rfl
  · obtain ⟨a, p, v, t, rfl, ⟨dx, g, ha, hg⟩, kd, qi, qo⟩ := h
    refine ⟨_, (pss_one (ps_ret (pe_and (pe_call G_is_whole (hr.mono (by omega)) (by rfl) D_is_whole.g D_is_whole.F.kp D_is_whole.b .nil pass0 (pa_cons (pv 1) pa_nil)) (pe_one (pe_chain op_le op_lt (pe_int) (pv 1) (pe_fld (pv 0) (by rfl))))))), ?_⟩
    obtain ⟨cl, np, nb⟩ := RC
    walk_at "ev"
    cases kd with
    | int i =>
      have qi := qi i rfl
      walk_at "ev"
      by_cases c : 0 ≤ i
      · rw [decide_eq_true c] at *
        walk_at "ev"
        exact qi
      · rw [decide_eq_false c] at *
        walk_at "ev"
        exact qi
    | _ =>
      walk_at "ev"
      exact qo fun i z => by cases z
end
abbrev s_Rests_gap_of : Stmt := inClass (top 22) 8
abbrev N_Rests_gap_of : List Str := ["self", "one", "other"]
abbrev P_Rests_gap_of : List Str := ["self", "one", "other"]
theorem sc_Rests_gap_of : FnScope N_Rests_gap_of P_Rests_gap_of (defScope s_Rests_gap_of) := ⟨rfl, rfl, rfl, by decide +kernel, rfl, by decide +kernel, by decide +kernel⟩
def sp_gap_of (C : Addr) : Sp := fun vs H Q _ => ∃ (a : Addr) (p x y : Int), vs = [.ref a, .int x, .int y] ∧ RestAt C H a p ∧ 2 ≤ p ∧ p ≤ 10000 ∧ 0 ≤ x ∧ x < p ∧ 0 ≤ y ∧ y < p ∧ Q (.int ((x - y) % p)) H
section
variable {P : Program} {w : World} {K : PySem.W.Frag} {mg : Str → Option Value} {base : Heap}
theorem ok_gap_of {f C : Addr} {fd : FuncData} {k : Nat} (F : Fun K "gap_of" "Rests.gap_of" s_Rests_gap_of f fd) (RC : RestC K C) : FnOk P w K mg base CX0 (k + 1) f fd P_Rests_gap_of (sp_gap_of C) := by
  have nd := sc_Rests_gap_of.nd
  refine F.ok sc_Rests_gap_of (fun vs H Q E h => ?_) (fun cdv A outer s H vs Q E hr h => ?_)
  · obtain ⟨a, p, x, y, rfl, _⟩ := h
    rfl
  · obtain ⟨a, p, x, y, rfl, ⟨dx, g, ha, hg⟩, p2, p6, x0, x1, y0, y1, q⟩ := h
    refine ⟨_, (pss_one (ps_ret (pe_op op_mod (pe_op op_sub (pv 1) (pv 2)) (pe_fld (pv 0) (by rfl))))), ?_⟩
    obtain ⟨cl, np, nb⟩ := RC
    have cm : CMul x y := .inl ⟨by omega, by omega⟩
    walk_at "ev"
    exact q
end
abbrev s_Rests_worth_of : Stmt := inClass (top 22) 6
abbrev N_Rests_worth_of : List Str := ["self", "number"]
abbrev P_Rests_worth_of : List Str := ["self", "number"]
theorem sc_Rests_worth_of : FnScope N_Rests_worth_of P_Rests_worth_of (defScope s_Rests_worth_of) := ⟨rfl, rfl, rfl, by decide +kernel, rfl, by decide +kernel, by decide +kernel⟩
def sp_wof (C : Addr) : Sp := fun vs H Q _ => ∃ (a : Addr) (p x : Int), vs = [.ref a, .int x] ∧ RestAt C H a p ∧ 0 < p ∧ Q (.int (x % p)) H
section
variable {P : Program} {w : World} {K : PySem.W.Frag} {mg : Str → Option Value} {base : Heap}
theorem ok_wof {f C : Addr} {fd : FuncData} {k : Nat} (F : Fun K "worth_of" "Rests.worth_of" s_Rests_worth_of f fd) (RC : RestC K C) : FnOk P w K mg base CX0 (k + 1) f fd P_Rests_worth_of (sp_wof C) := by
  have nd := sc_Rests_worth_of.nd
  refine F.ok sc_Rests_worth_of (fun vs H Q E h => ?_) (fun cdv A outer s H vs Q E hr h => ?_)
  · obtain ⟨a, p, x, rfl, _⟩ := h
    rfl
  · obtain ⟨a, p, x, rfl, ⟨dx, g, ha, hg⟩, p0, q⟩ := h
    refine ⟨_, (pss_one (ps_ret (pe_op op_mod (pv 1) (pe_fld (pv 0) (by rfl))))), ?_⟩
    obtain ⟨cl, np, nb⟩ := RC
    walk_at "ev"
    exact q
end
abbrev s_Roots_gap_of : Stmt := inClass (top 19) 8
abbrev N_Roots_gap_of : List Str := ["self", "one", "other", "part", "beside"]
abbrev P_Roots_gap_of : List Str := ["self", "one", "other"]
theorem sc_Roots_gap_of : FnScope N_Roots_gap_of P_Roots_gap_of (defScope s_Roots_gap_of) := ⟨rfl, rfl, rfl, by decide +kernel, rfl, by decide +kernel, by decide +kernel⟩
def spGapO (K : PySem.W.Frag) : Sp := fun vs H Q _ => ∃ (a x y : Addr) (one two : List Int), vs = [.ref a, .ref x, .ref y] ∧ SqT K H x (one.map V.int) ∧ SqT K H y (two.map V.int) ∧ one.length = two.length ∧ one.length ≤ 100 ∧ ∀ p H', H p = none → Same H H' → H' p = some (.tup ((List.zipWith (· - ·) one two).map V.int)) → Q (.ref p) H'
section
variable {P : Program} {w : World} {K : PySem.W.Frag} {mg : Str → Option Value} {base : Heap}
theorem ok_gap_ofR {f : Addr} {fd : FuncData} {k : Nat} (F : Fun K "gap_of" "Roots.gap_of" s_Roots_gap_of f fd) (T : Blt mg) : FnOk P w K mg base CX0 (k + 1) f fd P_Roots_gap_of (spGapO K) := by
  have nd := sc_Roots_gap_of.nd
  refine F.ok sc_Roots_gap_of (fun vs H Q E h => ?_) (fun cdv A outer s H vs Q E hr h => ?_)
  · obtain ⟨a, x, y, one, two, rfl, _⟩ := h
    rfl
  · obtain ⟨a, x, y, one, two, rfl, hx, hy, hle, hl, q⟩ := h
    refine ⟨_, (pss_one (ps_ret (pe_callTy call_tuple_of (by rfl) T.b_tuple (by decide +kernel) (pa_cons (pe_lc (own := [("part", 3), ("beside", 4)]) (g := gTup K 2 (gCons (gName 3) (gCons (gName 4) gNil))) (by rfl) nd (RZ.pi_zipA (by rfl) T.b_zip (pa_cons (pv 1) (pa_cons (pv 2) pa_nil))) (blkOk_by (own := [("part", 3), ("beside", 4)]) (N := N_Roots_gap_of) (sc := defScope s_Roots_gap_of) (by decide +kernel)) (fun _ _ _ _ _ => (pg_tup (by rfl) (pgs_cons (pg_name (i := 3) nd rfl (Or.inl rfl)) (pgs_cons (pg_name (i := 4) nd rfl (Or.inl rfl)) pgs_nil)))) (fun _ _ _ _ _ => pts_nil) (fun _ _ _ _ _ => (pe_op op_sub (pv 3) (pv 4)))) pa_nil)))), ?_⟩
    walk_at "ev"
    refine .inr ⟨hx, hy, fun D hD => ?_⟩
    refine lc_pairs (xs := one.map V.int) (ys := two.map V.int) (fun i H' => Hold (Same H H' ∧ H' D = some (.lst (((List.zipWith (· - ·) one two).take i).map V.int)))) (.mk ⟨same_new hD, upd_same⟩) ?_ ?_ ?_ ?_ ?_
    · intro i H' hP hi
      obtain ⟨sm2, hD2⟩ := hP.un
      have hi2 : i < (two.map V.int).length := by rw [List.length_map] at *; omega
      exact ⟨_, _, _, _, same_t sm2 hx, same_t sm2 hy, List.getElem?_eq_getElem hi, List.getElem?_eq_getElem hi2⟩
    · intro i H' v H'' hP hi yl
      obtain ⟨sm2, hD2⟩ := hP.un
      obtain ⟨T, x', y', e1, e2, e3, f1, f2⟩ := yl
      exact ⟨T, x', y', e1, e2, e3, f1 _ (same_t sm2 hx), f2 _ (same_t sm2 hy)⟩
    · intro H' hP
      obtain ⟨sm2, hD2⟩ := hP.un
      exact ⟨_, _, same_t sm2 hx, same_t sm2 hy, .inl (Nat.le_refl _)⟩
    · intro i x' y' T' H' H'' hx' hy' hP hT e
      obtain ⟨sm2, hD2⟩ := hP.un
      obtain ⟨sm3, hT3⟩ := newO e.symm hT
      have hT4 : SqT K H'' T' [x', y'] := SqT.of hT3
      rw [List.getElem?_map] at hx' hy'
      obtain ⟨u, hu, eu⟩ := Option.map_eq_some_iff.mp hx'
      obtain ⟨v, hv, ev⟩ := Option.map_eq_some_iff.mp hy'
      subst eu ev
      have hil : i < one.length := (List.getElem?_eq_some_iff.mp hu).1
      have hsz : (((List.zipWith (· - ·) one two).take i).map V.int).length < sizeLine := szm (by rw [List.length_map, List.length_take]; omega)
      have hD3 := sm3 _ _ hD2
      walk_at "ev"
      refine .mk ⟨same_mut (sm2.trans sm3) hD, ?_⟩
      rw [upd_same, List.take_add_one, List.getElem?_zipWith, hu, hv, List.map_append]
      rfl
    · intro H' hP
      obtain ⟨sm2, hD2⟩ := hP.un
      have ez : (List.zipWith (· - ·) one two).length = (one.map V.int).length := by rw [List.length_zipWith, List.length_map]; omega
      rw [← ez, List.take_length] at hD2
      walk_at "ev"
      refine .inl ⟨SqL.of hD2, ?_⟩
      w_cond _3
      exact q l3 H3 (sm2.free hl3) (sm2.trans sm3) hq3
end
abbrev s_Roots_worth_of : Stmt := inClass (top 19) 6
abbrev N_Roots_worth_of : List Str := ["self", "number"]
abbrev P_Roots_worth_of : List Str := ["self", "number"]
theorem sc_Roots_worth_of : FnScope N_Roots_worth_of P_Roots_worth_of (defScope s_Roots_worth_of) := ⟨rfl, rfl, rfl, by decide +kernel, rfl, by decide +kernel, by decide +kernel⟩
def spWorO (K : PySem.W.Frag) (C : Addr) : Sp := fun vs H Q _ => ∃ (a : Addr) (n : Nat) (i : Int), vs = [.ref a, .int i] ∧ RootAt C H a n ∧ 1 ≤ n ∧ n < 31 ∧ ∀ p H', H p = none → Same H H' → H' p = some (.tup ((i :: List.replicate ((whl n).length - 2) 0).map V.int)) → Q (.ref p) H'
theorem dvR_one {bs : List Int} {i : Int} (h : 2 ≤ bs.length) : dvR bs [i] = i :: List.replicate (bs.length - 2) 0 := by
  unfold dvR
  rw [show ([i] : List Int).length - (bs.length - 1) = 0 by rw [List.length_singleton]; omega, dvN]
  show [i] ++ List.replicate (bs.length - 1 - 1) 0 = _
  rw [show bs.length - 1 - 1 = bs.length - 2 by omega]
  rfl
section
variable {P : Program} {w : World} {K : PySem.W.Frag} {mg : Str → Option Value} {base : Heap}
theorem ok_worO {f f1 C : Addr} {fd d1 : FuncData} {k : Nat} (F : Fun K "worth_of" "Roots.worth_of" s_Roots_worth_of f fd) (T : Blt mg) (RC : RootC K C) (D_divided : Df K mg "divided" s_divided P_divided f1 d1) : FnOk P w K mg base CX0 (k + 2) f fd P_Roots_worth_of (spWorO K C) := by
  have G_divided : FnOk P w K mg base CX0 1 f1 d1 P_divided (spDvd2 K) := ok_divided2 D_divided.F T
  have nd := sc_Roots_worth_of.nd
  refine F.ok sc_Roots_worth_of (fun vs H Q E h => ?_) (fun cdv A outer s H vs Q E hr h => ?_)
  · obtain ⟨a, n, i, rfl, _⟩ := h
    rfl
  · obtain ⟨a, n, i, rfl, ⟨dx, r, ha, hrm⟩, n1, n31, q⟩ := h
    refine ⟨_, (pss_one (ps_ret (pe_callTy call_tuple_of (by rfl) T.b_tuple (by decide +kernel) (pa_cons (pe_ix (r := rIxT K) ix_tup (pe_call G_divided (hr.mono (by omega)) (by rfl) D_divided.g D_divided.F.kp D_divided.b .nil pass0 (pa_cons (pe_lst (pa_cons (pv 1) pa_nil)) (pa_cons (pe_fld (pv 0) (by rfl)) pa_nil))) (pe_int) (fun _ _ => rfl)) pa_nil)))), ?_⟩
    obtain ⟨cl, no, nr⟩ := RC
    obtain ⟨w2, w31, _⟩ := whl_last n n31 n1
    have wb := whl_bnd n n31
    walk_at "ev"
    w_cond _1
    have ha1 := sm1 _ _ ha
    have hM : SqL K H1 l1 (([i] : List Int).map V.int) := SqL.of hq1
    have hR1 : SqL K H1 r ((whl n).map V.int) ∨ SqT K H1 r ((whl n).map V.int) := .inr (SqT.of (sm1 _ _ hrm))
    have z1 : 1 ≤ (whl n).length := by omega
    have z2 : (whl n).length ≤ 1000 := by omega
    have z3 : ([i] : List Int).length ≤ 1000 := by show 1 ≤ 1000; decide
    walk_at "ev"
    intro t' qq z H2 hq sm2 hT hQ hz hZ
    rw [dvR_one w2] at hZ
    have at1 : atI [V.ref qq, V.ref z] 1 = some (.ref z) := rfl
    walk_at "ev"
    refine .inl ⟨SqL.of hZ, ?_⟩
    w_cond _3
    exact q l3 H3 ((sm1.trans sm2).free hl3) (sm1.trans (sm2.trans sm3)) hq3
end
abbrev s_Roots_is_worth : Stmt := inClass (top 19) 5
abbrev N_Roots_is_worth : List Str := ["self", "thing", "part"]
abbrev P_Roots_is_worth : List Str := ["self", "thing"]
theorem sc_Roots_is_worth : FnScope N_Roots_is_worth P_Roots_is_worth (defScope s_Roots_is_worth) := ⟨rfl, rfl, rfl, by decide +kernel, rfl, by decide +kernel, by decide +kernel⟩
def isW (m : Nat) : PyData → Bool
  | .tuple ds => decide (ds.length = m) && ds.all intD
  | _ => false
def spIsW (K : PySem.W.Frag) (C : Addr) : Sp := fun vs H Q _ => ∃ (a : Addr) (n : Nat) (v : V) (d : PyData), vs = [.ref a, v] ∧ RootAt C H a n ∧ 1 ≤ n ∧ n < 31 ∧ Dp K H v d ∧ (∀ ds, d = .tuple ds → ds.length ≤ 100) ∧ ∀ H', Same H H' → Q (.bl (isW ((whl n).length - 1) d)) H'
section
variable {P : Program} {w : World} {K : PySem.W.Frag} {mg : Str → Option Value} {base : Heap}
theorem ok_isW {f f1 C : Addr} {fd d1 : FuncData} {k : Nat} (F : Fun K "is_worth" "Roots.is_worth" s_Roots_is_worth f fd) (T : Blt mg) (RC : RootC K C) (D_is_whole : Df K mg "is_whole" s_is_whole P_is_whole f1 d1) : FnOk P w K mg base CX0 (k + 2) f fd P_Roots_is_worth (spIsW K C) := by
  have G_is_whole : FnOk P w K mg base CX0 (k + 1) f1 d1 P_is_whole (spWhole K) := ok_whole D_is_whole.F T
  have nd := sc_Roots_is_worth.nd
  refine F.ok sc_Roots_is_worth (fun vs H Q E h => ?_) (fun cdv A outer s H vs Q E hr h => ?_)
  · obtain ⟨a, n, v, d, rfl, _⟩ := h
    rfl
  · obtain ⟨a, n, v, d, rfl, ⟨dx, r, ha, hrm⟩, n1, n31, hd, hl, q⟩ := h
    refine ⟨_, (pss_cons (ps_if (PW.pt (pw_or (pt_not (pt_val (pe_callB (r := rIsi K) call_isi (by rfl) T.b_isinstance (by decide +kernel) (pa_cons (pv 1) (pa_cons (pe_bltn (v := .ty "tuple") (by rfl) T.b_tuple (by decide +kernel) rfl) pa_nil))))) (pw_or1 (pt_cmpR op_ne (pe_callB (r := rLenQ K) call_len_seq (by rfl) T.b_len (by decide +kernel) (pa_cons (pv 1) pa_nil)) (pe_op op_sub (pe_callB (r := rLenQ K) call_len_seq (by rfl) T.b_len (by decide +kernel) (pa_cons (pe_fld (pv 0) (by rfl)) pa_nil)) (pe_int)) (nomark _))))) (pss_one (ps_ret (pe_bl))) pss_nil)
      (pss_one (ps_ret (pe_callB (r := rAll K) (cr_all rfl) (by rfl) T.b_all (by decide +kernel) (pa_cons (pe_lc (own := [("part", 2)]) (g := gName 2) (by rfl) nd (pi_tup (pv 1)) (blkOk_by (own := [("part", 2)]) (N := N_Roots_is_worth) (sc := defScope s_Roots_is_worth) (by decide +kernel)) (fun _ _ _ _ _ => (pg_name (i := 2) nd rfl (Or.inl rfl))) (fun _ _ _ _ _ => pts_nil) (fun _ _ _ _ _ => (pe_call G_is_whole (hr.mono (by omega)) (by rfl) D_is_whole.g D_is_whole.F.kp D_is_whole.b .nil pass0 (pa_cons (pv 2) pa_nil)))) pa_nil))))), ?_⟩
    obtain ⟨cl, no, nr⟩ := RC
    have kd := kdD hd
    have ty := kd.ty
    obtain ⟨k1, k2, k3, k4, k5⟩ := kd.kit
    have q0 := q H (Same.refl _)
    have hRm := SqT.of (K := K) hrm
    obtain ⟨w2, w31, _⟩ := whl_last n n31 n1
    cases hd with
    | non =>
      walk_at "ev"
      exact q0
    | bl b =>
      walk_at "ev"
      exact q0
    | int i =>
      walk_at "ev"
      exact q0
    | str z =>
      walk_at "ev"
      exact q0
    | lst hs ha =>
      walk_at "ev"
      exact q0
    | tup hs hda =>
      rename_i a' xs ds
      have hlen := hl ds rfl
      have hdl := dpall_len hda
      have hxl : ((xs.length : Nat) : Int) = (ds.length : Int) := by rw [hdl]
      have hwl : ((((whl n).map V.int).length : Nat) : Int) - 1 = (((whl n).length - 1 : Nat) : Int) := by rw [List.length_map]; omega
      walk_at "ev"
      by_cases c : ds.length = (whl n).length - 1
      · refine iteFe (show (!decide (V.int (xs.length : Int) = V.int ((((whl n).map V.int).length : Int) - 1))) = false by rw [hwl, hxl, c]; simp) ?_
        have hL' : ∃ xs, SqT K H a' xs := ⟨_, hs⟩
        walk_at "ev"
        intro D hD
        refine lc_tup (K := K) (a := a') (xs := xs) (fun i H' => Hold (Same H H' ∧ H' D = some (.lst (((ds.take i).map intD).map V.bl)))) (.mk ⟨same_new hD, upd_same⟩) ?_ ?_ ?_
        · intro i H1 hi hP
          obtain ⟨sm1, hD1⟩ := hP.un
          exact same_t sm1 hs
        · intro i v H1 hv hP
          obtain ⟨sm1, hD1⟩ := hP.un
          obtain ⟨d, hdi, hdv⟩ := dpall_get hda hv
          have hil : i < ds.length := (List.getElem?_eq_some_iff.mp hdi).1
          have kdx := kdD (dp_same sm1 hdv)
          have hsz : (((ds.take i).map intD).map V.bl).length < sizeLine := szm (by rw [List.length_map, List.length_map, List.length_take]; omega)
          walk_at "ev"
          refine .mk ⟨same_mut sm1 hD, ?_⟩
          rw [upd_same, List.take_add_one, hdi, List.map_append, List.map_append, tyD_int]
          rfl
        · intro H1 hP
          obtain ⟨sm1, hD1⟩ := hP.un
          rw [hdl, List.take_length] at hD1
          refine ⟨D, _, rfl, SqL.of hD1, ?_⟩
          have q1 := q H1 sm1
          have e : isW ((whl n).length - 1) (.tuple ds) = (ds.map intD).all id := by
            show (decide (ds.length = _) && ds.all intD) = _
            rw [decide_eq_true c, List.all_map]
            rfl
          rw [e] at q1
          exact q1
      · refine iteTe (show (!decide (V.int (xs.length : Int) = V.int ((((whl n).map V.int).length : Int) - 1))) = true by rw [hwl, hxl, decide_eq_false (fun z => c (by have := V.int.inj z; omega))]; rfl) ?_
        have e : isW ((whl n).length - 1) (.tuple ds) = false := by
          show (decide (ds.length = _) && ds.all intD) = _
          rw [decide_eq_false c]
          rfl
        rw [e] at q0
        walk_at "ev"
        exact q0
end
/-! ### ==, !=, str and repr of own objects -/
section
open PySem.Spec PyProof.Rows PySem.W
variable {prog : Program} {w : World} {A : Around} {E : Value → Shared → Prop} {s : Shared} {K : Frag} {x C L f : Addr} {h₀ : Heap} {m : Str → Option Value} {ox : Obj} {od : Option Obj} {b tb : Value}
theorem ifBoundB {M : Model} {name : Str} {id : String} {args : List Value} {Q : Option Value → Shared → Prop} (X : K.In s.heap) (I : InstAt s.heap x ox C od) (hs : findIn K (.ref C) name = some (some (.builtin id)))
    (hb : ∀ self, bindSpecial (.builtin id) self = pure (.builtin id, [self])) (h : wpAny M A (call (.builtin id) (.ref x :: args)) (fun v => Q (some v)) E s) : wpAny M A (callSpecialIfBound? (.ref x) name args) Q E s := by
  simp only [callSpecialIfBound?, bindSpecialIfBound?]
  refine wpAny_holding (wpAny_bind (wpAny_bind (wpAny_bind (I.type.here ((looks_findIn X hs).here ?_)))))
  simp only [hb]
  refine wpAny_bind (wpAny_askSetting (wpAny_ite ?_))
  have fin : wpAny M A (call (.builtin id) ([.ref x] ++ args) >>= fun v => pure (some v)) Q E s := wpAny_bind (wpAny_mono h (fun v s' h' => wpAny_pure h') fun _ _ h' => h')
  split
  · exact wpAny_bind (wpAny_pure (wpAny_pure fin))
  · exact wpAny_tryCatch (wpAny_bind (wpAny_pure (wpAny_pure fin)))
open Builtin in
theorem neEntry (X : K.In s.heap) (I : InstAt s.heap x ox C od) (hs : findIn K (.ref C) "__eq__" = some (some (.ref f))) (hf : isFn K (.ref f) = true) (hu : A.units < cLine) {Q : Fin → Shared → Prop}
    (h : wpAny (model prog w) A (call (.ref f) [.ref x, b]) (fun v s' => ∃ r, v = .bool r ∧ Q (.done (.ret (.bool (!r)))) s') E s) : wpAny (model prog w) A (Builtin.«object.__ne__» ⟨[.ref x, b], []⟩) Q E s := by
  unfold Builtin.«object.__ne__»
  refine wpAny_bind (m := slotArgs "__ne__" 1 _) (wpAny_pure ?_)
  refine wpAny_bind (m := cRoomFor _ _) (wpAny_cRoomFor hu ?_)
  refine wpAny_bind (m := callSpecialIfBound? (.ref x) (Str.ofString "__eq__") _) (ifBound_K X I hs hf (wpAny_mono h (fun r s' hr => ?_) fun _ _ y => y))
  obtain ⟨r, rfl, hq⟩ := hr
  exact wpAny_bind (wpAny_truthy_bool (wpAny_pure hq))
theorem ne_K {Q : Value → Shared → Prop} (hu : A.units + 1 < cLine) (F : Fr h₀ L s.heap m) (X₀ : K.In h₀) (I : InstAt s.heap x ox C od) (hb : Looks (model prog w) s.heap (typeOf b) tb) (hn : notFirst K C tb = true)
    (hno : findIn K (.ref C) "__ne__" = some (some (.builtin "object.__ne__"))) (hm : mroIn K C (.type "object") = some true) (hs : findIn K (.ref C) "__eq__" = some (some (.ref f))) (hf : isFn K (.ref f) = true)
    (h : wpAny (model prog w) A.in1 (call (.ref f) [.ref x, b]) (fun v s' => ∃ r, v = .bool r ∧ Q (.bool (!r)) s') E s) : wpAny (model prog w) A (richCompare .NotEq (.ref x) b) Q E s := by
  have X := X₀.keeps F.keep
  have one : wpAny (model prog w) A (tryCompare (.ref x) (cmpInfo .NotEq).2.1 b) (fun r s' => ∃ v, r = some v ∧ Q v s') E s := by
    unfold tryCompare
    refine wpAny_bind (ifBoundB X I hno PySem.F.cmp_object.ne.bind (wpAny_call (codeAny_call_builtin PySem.F.cmp_object.ne.plain PySem.F.cmpEntry_ne
      (check_slot PySem.F.cmpKind_ne PySem.F.cmpSplit_ne (I.type.andThen (looks_mroIn X hm)) (PySem.F.cmpArgs_ne _ _) (neEntry (A := A.in1) X I hs hf hu (wpAny_mono h (fun v s' hv => ?_) fun _ _ e => e))))))
    obtain ⟨r, rfl, hq⟩ := hv
    exact ⟨r, rfl, wpAny_pure ⟨_, rfl, hq⟩⟩
  unfold richCompare
  simp only [oneThing_ref]
  refine wpAny_holding (wpAny_bind (wpAny_cRoomFor (Nat.lt_of_succ_lt hu) ?_))
  refine wpAny_bind (I.type.here (wpAny_bind (hb.here ?_)))
  split
  · rename_i q
    have e : subIn K tb (.ref C) = some false := by
      rcases Bool.or_eq_true_iff.mp hn with e | e
      · rw [beq_iff_eq.mp e] at q; simp at q
      · exact beq_iff_eq.mp e
    refine wpAny_bind ((looks_subIn X e).here ?_)
    simp only [Bool.false_eq_true, if_false]
    refine wpAny_bind (wpAny_mono one (fun r s' z => ?_) fun _ _ e => e)
    obtain ⟨v, rfl, hq⟩ := z
    exact wpAny_pure hq
  · refine wpAny_bind (wpAny_pure ?_)
    simp only [Bool.false_eq_true, if_false]
    refine wpAny_bind (wpAny_mono one (fun r s' z => ?_) fun _ _ e => e)
    obtain ⟨v, rfl, hq⟩ := z
    exact wpAny_pure hq
end
section
open PySem.Spec PyProof.Rows
/-- what of the text a class with its own ==, str and repr must have -/
structure OwnS (K : PySem.W.Frag) (C fe fs fr : Addr) : Prop where
  eq : PySem.W.findIn K (.ref C) "__eq__" = some (some (.ref fe))
  eqf : PySem.W.isFn K (.ref fe) = true
  ne : PySem.W.findIn K (.ref C) "__ne__" = some (some (.builtin "object.__ne__"))
  mr : PySem.W.mroIn K C (.type "object") = some true
  st : PySem.W.findIn K (.ref C) "__str__" = some (some (.ref fs))
  stf : PySem.W.isFn K (.ref fs) = true
  re : PySem.W.findIn K (.ref C) "__repr__" = some (some (.ref fr))
  ref : PySem.W.isFn K (.ref fr) = true
variable {X : Cx} {CX : CXT} {C fe fs fr : Addr} {de ds dr : FuncData} {ps : List Str} {k : Nat} {sp : Sp} {E : XK}
theorem ins_at {pins : List (Addr × Obj)} {σ : L2.St} {H : Hp} {s : Shared} {a dx : Addr} {fl : List (Str × V)} (I : Inv X pins σ H s) (e : H a = some (.ins C dx fl)) : ∃ ox od, PySem.W.InstAt s.heap a ox C od := by
  obtain ⟨mA, J, _⟩ := ins_get I.hok e
  obtain ⟨od, J, _⟩ := J.look
  exact ⟨_, _, J⟩
theorem run_in {A : Around} {pins : List (Addr × Obj)} {σ : L2.St} {H : Hp} {s : Shared} {Q : VK} {us : List Value} {vs : List V} {f : Addr} {fd : FuncData} (F : FnOk X.prog X.w X.K X.mg X.base CX k f fd ps sp) (hr : Room k A) (e0 : Env0 X.prog X.w X.K X.mg X.base A X.stack s H) (hb : Binds X.K fd ps []) (hx : Passes CX X E)
    (I : Inv X pins σ H s) (r : Vals vs us) (h : sp vs H Q E) : wpAny (model X.prog X.w) A (call (.ref f) us) (EP X pins σ Q) X.xe s := by
  have hl : us.length = ps.length := by rw [← r.length]; exact F.len _ _ _ _ h
  refine wpAny_call (codeAny_mono (F.run A X.stack s H ⟨us, []⟩ us vs Q E hr e0 (by simpa using hb s us I.kIn (by simpa using hl)) r h) fun r s' hq => ?_)
  cases r with
  | error e => exact hx pins σ H s e s' I hq
  | ok fl =>
    cases fl with
    | ret u => exact I.after hq
    | next => exact False.elim hq
    | brk => exact False.elim hq
    | cont => exact False.elim hq
/-- x == y, x an own object -/
def rEqO (K : PySem.W.Frag) (C : Addr) (sp : Sp) (E : XK) : R2 := fun x y H Q => ∃ (a dx : Addr) (fl : List (Str × V)) (t : Value), x = .ref a ∧ H a = some (.ins C dx fl) ∧ TyX K H y t ∧ PySem.W.notFirst K C t = true ∧ sp [x, y] H (fun v H' => ∃ r : Bool, v = .bl r ∧ Q (.bl r) H') E
def rNeO (K : PySem.W.Frag) (C : Addr) (sp : Sp) (E : XK) : R2 := fun x y H Q => ∃ (a dx : Addr) (fl : List (Str × V)) (t : Value), x = .ref a ∧ H a = some (.ins C dx fl) ∧ TyX K H y t ∧ PySem.W.notFirst K C t = true ∧ sp [x, y] H (fun v H' => ∃ r : Bool, v = .bl r ∧ Q (.bl (!r)) H') E
def rReO (C : Addr) (sp : Sp) (E : XK) : List V → Hp → VK → Prop := fun xs H Q => ∃ (a dx : Addr) (fl : List (Str × V)), xs = [.ref a] ∧ H a = some (.ins C dx fl) ∧ sp [.ref a] H (fun v H' => ∃ t : Str, v = .str t ∧ Q (.str t) H') E
theorem op_eqO (O : OwnS X.K C fe fs fr) (F : FnOk X.prog X.w X.K X.mg X.base CX k fe de ps sp) (hr : Room k X.A) (hb : Binds X.K de ps []) (hx : Passes CX X E) : OpR X (compareOp .Eq) (rEqO X.K C sp E) := by
  intro pins s σ H x y v u Q I rx ry h
  obtain ⟨a, dx, fl, t, rfl, ea, ty, hn, q⟩ := h
  cases (show v = Value.ref a from rx)
  obtain ⟨ox, od, J⟩ := ins_at I ea
  obtain ⟨P, Z, p, _⟩ := kit_of I ry ty
  obtain ⟨m, hF⟩ := I.fr
  show wpAny (model X.prog X.w) X.A (richCompare .Eq (.ref a) u) (EP X pins σ Q) X.xe s
  refine PySem.W.cmp_K (op := .Eq) hr.units0 hF I.ok.mod.kin J (Z.ty _ _ I.kIn p) hn O.eq O.eqf ?_
  refine wpAny_mono (run_in (us := [.ref a, u]) (vs := [.ref a, y]) F hr I.env0 hb hx I (.cons rfl (.cons ry .nil)) q) (fun z s' hz => ?_) fun _ _ e => e
  obtain ⟨z', H', I', rz, r, er, qz⟩ := hz
  subst er
  cases (show z = Value.bool r from rz)
  exact ⟨.bl r, H', I', rfl, qz⟩
theorem op_neO (O : OwnS X.K C fe fs fr) (F : FnOk X.prog X.w X.K X.mg X.base CX k fe de ps sp) (hr : Room (k + 1) X.A) (hb : Binds X.K de ps []) (hx : Passes CX X E) : OpR X (compareOp .NotEq) (rNeO X.K C sp E) := by
  intro pins s σ H x y v u Q I rx ry h
  obtain ⟨a, dx, fl, t, rfl, ea, ty, hn, q⟩ := h
  cases (show v = Value.ref a from rx)
  obtain ⟨ox, od, J⟩ := ins_at I ea
  obtain ⟨P, Z, p, _⟩ := kit_of I ry ty
  obtain ⟨m, hF⟩ := I.fr
  show wpAny (model X.prog X.w) X.A (richCompare .NotEq (.ref a) u) (EP X pins σ Q) X.xe s
  refine ne_K (by have := hr.units; omega) hF I.ok.mod.kin J (Z.ty _ _ I.kIn p) hn O.ne O.mr O.eq O.eqf ?_
  refine wpAny_mono (run_in (us := [.ref a, u]) (vs := [.ref a, y]) F hr.in1 I.env0.in1 hb hx I (.cons rfl (.cons ry .nil)) q) (fun z s' hz => ?_) fun _ _ e => e
  obtain ⟨z', H', I', rz, r, er, qz⟩ := hz
  subst er
  cases (show z = Value.bool r from rz)
  exact ⟨r, rfl, .bl (!r), H', I', rfl, qz⟩
theorem call_reO (O : OwnS X.K C fe fs fr) (F : FnOk X.prog X.w X.K X.mg X.base CX k fr dr ps sp) (hr : Room (k + 1) X.A) (hb : Binds X.K dr ps []) (hx : Passes CX X E) : CallR X (.builtin "repr") (rReO C sp E) := by
  intro pins s σ H xs us Q I r h
  obtain ⟨a, dx, fl, rfl, ea, q⟩ := h
  obtain ⟨u, rfl, ru⟩ := r.one
  cases (show u = Value.ref a from ru)
  obtain ⟨ox, od, J⟩ := ins_at I ea
  obtain ⟨m, hF⟩ := I.fr
  refine PySem.W.repr_K (hr.in1.units0) hF I.ok.mod.kin J O.re O.ref ?_
  refine wpAny_mono (run_in (us := [.ref a]) (vs := [.ref a]) F hr.in1 I.env0.in1 hb hx I (.cons rfl .nil) q) (fun z s' hz => ?_) fun _ _ e => e
  obtain ⟨z', H', I', rz, r, er, qz⟩ := hz
  subst er
  obtain ⟨t, ez⟩ := (show ∃ t, z = Value.str r t from rz)
  cases ez
  exact ⟨.str r, H', I', ⟨t, rfl⟩, qz⟩
theorem call_stO (O : OwnS X.K C fe fs fr) (F : FnOk X.prog X.w X.K X.mg X.base CX k fs ds ps sp) (hr : Room (k + 2) X.A) (hb : Binds X.K ds ps []) (hx : Passes CX X E) : CallR X (.type "str") (rReO C sp E) := by
  intro pins s σ H xs us Q I r h
  obtain ⟨a, dx, fl, rfl, ea, q⟩ := h
  obtain ⟨u, rfl, ru⟩ := r.one
  cases (show u = Value.ref a from ru)
  obtain ⟨ox, od, J⟩ := ins_at I ea
  have hr2 : Room k X.A.in1.in1 := (show Room (k + 1) X.A.in1 from Room.in1 hr).in1
  refine PySem.W.kso_call hr2.units0 I.kIn J O.st O.stf ?_
  refine wpAny_mono (run_in (us := [.ref a]) (vs := [.ref a]) F hr2 I.env0.in1.in1 hb hx I (.cons rfl .nil) q) (fun z s' hz => ?_) fun _ _ e => e
  obtain ⟨z', H', I', rz, r, er, qz⟩ := hz
  subst er
  obtain ⟨t, ez⟩ := (show ∃ t, z = Value.str r t from rz)
  cases ez
  exact ⟨.str r, H', I', ⟨t, rfl⟩, qz⟩
end
/-! ### own ==, str and repr of a ground -/
def gEq : Gk → Gk → Bool
  | .rests p, .rests q => decide (p = q)
  | .roots n, .roots m => decide (n = m)
  | _, _ => false
def gTxt : Gk → Str
  | .rests p => Str.empty ++ Str.ofString "rests " ++ Str.ofString (toString p)
  | .roots n => Str.empty ++ Str.ofString "roots " ++ Str.ofString (toString (n : Int))
theorem num_len {n : Int} (h0 : 0 ≤ n) (h : n ≤ 10000) : (Str.ofString (toString n)).length ≤ 5 := by
  obtain ⟨m, rfl⟩ := Int.eq_ofNat_of_zero_le h0
  rw [TL.len_tl, TL.tl_num]
  exact TL.numL_len (by decide) (by omega)
theorem gtx_len {w x : Str} (hw : w.length ≤ 10) (hx : x.length ≤ 5) : (Str.empty ++ w ++ x).length ≤ 15 := by
  rw [TL.len_tl, TL.tl_append, TL.tl_append, List.length_append, List.length_append, ← TL.len_tl, ← TL.len_tl, ← TL.len_tl]
  have : Str.empty.length = 0 := rfl
  omega
def tys : List String := ["NoneType", "tuple", "int", "str", "list"]
structure TyF (K : PySem.W.Frag) (C1 C2 : Addr) (n : String) : Prop where
  k1 : PySem.W.kitOne K (.type n) (.ref C1) = some false
  k2 : PySem.W.kitOne K (.type n) (.ref C2) = some false
  n1 : PySem.W.notFirst K C1 (.type n) = true
  n2 : PySem.W.notFirst K C2 (.type n) = true
abbrev s_Rests___eq__ : Stmt := inClass (top 22) 1
abbrev N_Rests___eq__ : List Str := ["self", "other"]
abbrev P_Rests___eq__ : List Str := ["self", "other"]
theorem sc_Rests___eq__ : FnScope N_Rests___eq__ P_Rests___eq__ (defScope s_Rests___eq__) := ⟨rfl, rfl, rfl, by decide +kernel, rfl, by decide +kernel, by decide +kernel⟩
abbrev s_Rests___str__ : Stmt := inClass (top 22) 2
abbrev N_Rests___str__ : List Str := ["self"]
abbrev P_Rests___str__ : List Str := ["self"]
theorem sc_Rests___str__ : FnScope N_Rests___str__ P_Rests___str__ (defScope s_Rests___str__) := ⟨rfl, rfl, rfl, by decide +kernel, rfl, by decide +kernel, by decide +kernel⟩
abbrev s_Rests___repr__ : Stmt := inClass (top 22) 3
abbrev N_Rests___repr__ : List Str := ["self"]
abbrev P_Rests___repr__ : List Str := ["self"]
theorem sc_Rests___repr__ : FnScope N_Rests___repr__ P_Rests___repr__ (defScope s_Rests___repr__) := ⟨rfl, rfl, rfl, by decide +kernel, rfl, by decide +kernel, by decide +kernel⟩
abbrev s_Roots___eq__ : Stmt := inClass (top 19) 1
abbrev N_Roots___eq__ : List Str := ["self", "other"]
abbrev P_Roots___eq__ : List Str := ["self", "other"]
theorem sc_Roots___eq__ : FnScope N_Roots___eq__ P_Roots___eq__ (defScope s_Roots___eq__) := ⟨rfl, rfl, rfl, by decide +kernel, rfl, by decide +kernel, by decide +kernel⟩
abbrev s_Roots___str__ : Stmt := inClass (top 19) 2
abbrev N_Roots___str__ : List Str := ["self"]
abbrev P_Roots___str__ : List Str := ["self"]
theorem sc_Roots___str__ : FnScope N_Roots___str__ P_Roots___str__ (defScope s_Roots___str__) := ⟨rfl, rfl, rfl, by decide +kernel, rfl, by decide +kernel, by decide +kernel⟩
abbrev s_Roots___repr__ : Stmt := inClass (top 19) 3
abbrev N_Roots___repr__ : List Str := ["self"]
abbrev P_Roots___repr__ : List Str := ["self"]
theorem sc_Roots___repr__ : FnScope N_Roots___repr__ P_Roots___repr__ (defScope s_Roots___repr__) := ⟨rfl, rfl, rfl, by decide +kernel, rfl, by decide +kernel, by decide +kernel⟩
structure OwnX (K : PySem.W.Frag) (C1 C2 : Addr) : Prop where
  e1 : ∃ f fd, Fun K "__eq__" "Rests.__eq__" s_Rests___eq__ f fd ∧ Binds K fd P_Rests___eq__ [] ∧ Meth K C1 "__eq__" f
  s1 : ∃ f fd, Fun K "__str__" "Rests.__str__" s_Rests___str__ f fd ∧ Binds K fd P_Rests___str__ [] ∧ Meth K C1 "__str__" f
  r1 : ∃ f fd, Fun K "__repr__" "Rests.__repr__" s_Rests___repr__ f fd ∧ Binds K fd P_Rests___repr__ [] ∧ Meth K C1 "__repr__" f
  e2 : ∃ f fd, Fun K "__eq__" "Roots.__eq__" s_Roots___eq__ f fd ∧ Binds K fd P_Roots___eq__ [] ∧ Meth K C2 "__eq__" f
  s2 : ∃ f fd, Fun K "__str__" "Roots.__str__" s_Roots___str__ f fd ∧ Binds K fd P_Roots___str__ [] ∧ Meth K C2 "__str__" f
  r2 : ∃ f fd, Fun K "__repr__" "Roots.__repr__" s_Roots___repr__ f fd ∧ Binds K fd P_Roots___repr__ [] ∧ Meth K C2 "__repr__" f
  ne1 : PySem.W.findIn K (.ref C1) "__ne__" = some (some (.builtin "object.__ne__"))
  ne2 : PySem.W.findIn K (.ref C2) "__ne__" = some (some (.builtin "object.__ne__"))
  c1 : PySem.W.findIn K (.ref C1) "__class__" = some (some (.builtin "object.__class__"))
  c2 : PySem.W.findIn K (.ref C2) "__class__" = some (some (.builtin "object.__class__"))
  o1 : PySem.W.mroIn K C1 (.type "object") = some true
  o2 : PySem.W.mroIn K C2 (.type "object") = some true
  on : PySem.W.specialIn K (.builtin "object.__class__") "__get__" = some (some (.builtin "getset_descriptor.__get__"))
  ot : PySem.W.takesIn K (.builtin "object.__class__") = some true
  k11 : PySem.W.kitOne K (.ref C1) (.ref C1) = some true
  k22 : PySem.W.kitOne K (.ref C2) (.ref C2) = some true
  k12 : PySem.W.kitOne K (.ref C1) (.ref C2) = some false
  k21 : PySem.W.kitOne K (.ref C2) (.ref C1) = some false
  f12 : PySem.W.notFirst K C1 (.ref C2) = true
  f21 : PySem.W.notFirst K C2 (.ref C1) = true
  t : ∀ n ∈ tys, TyF K C1 C2 n
theorem GrAt.ty {K : PySem.W.Frag} {C1 C2 : Addr} {H : Hp} {a : Addr} {g : Gk} (h : GrAt C1 C2 H a g) (O : OwnX K C1 C2) (R1 : RestC K C1) (R2 : RootC K C2) : TyX K H (.ref a) (.ref (clG C1 C2 (kdG g))) := by
  cases g with
  | rests p =>
    obtain ⟨dx, _, e, _⟩ := h
    exact .base (.ins e R1.cl O.c1 O.on O.ot O.o1)
  | roots n =>
    obtain ⟨dx, _, e, _⟩ := h
    exact .base (.ins e R2.cl O.c2 O.on O.ot O.o2)
def spOe (K : PySem.W.Frag) (C1 C2 : Addr) (r : Bool) : Sp := fun vs H Q _ => ∃ (a : Addr) (g : Gk) (y : V), vs = [.ref a, y] ∧ GrAt C1 C2 H a g ∧ kdG g = r ∧ ((∃ (b : Addr) (g2 : Gk), y = .ref b ∧ GrAt C1 C2 H b g2 ∧ Q (.bl (gEq g g2)) H) ∨ (∃ n, n ∈ tys ∧ TyX K H y (.type n) ∧ Q (.bl false) H))
def spOs (C1 C2 : Addr) (r : Bool) : Sp := fun vs H Q _ => ∃ (a : Addr) (g : Gk), vs = [.ref a] ∧ GrAt C1 C2 H a g ∧ kdG g = r ∧ GkOk g ∧ Q (.str (gTxt g)) H
section
variable {P : Program} {w : World} {K : PySem.W.Frag} {mg : Str → Option Value} {base : Heap}
theorem ok_oe1 {f C1 C2 : Addr} {fd : FuncData} {k : Nat} (F : Fun K "__eq__" "Rests.__eq__" s_Rests___eq__ f fd) (T : Blt mg) (O : OwnX K C1 C2) (R1 : RestC K C1) (R2 : RootC K C2) (M_Rests : mg "Rests" = some (.ref C1)) : FnOk P w K mg base CX0 (k + 1) f fd P_Rests___eq__ (spOe K C1 C2 true) := by
  have nd := sc_Rests___eq__.nd
  refine F.ok sc_Rests___eq__ (fun vs H Q E h => ?_) (fun cdv A outer s H vs Q E hr h => ?_)
  · obtain ⟨a, g, y, rfl, _⟩ := h
    rfl
  · obtain ⟨a, g, y, rfl, hG, hk, q⟩ := h
    refine ⟨_, (pss_one (ps_ret (pe_and (pe_callB (r := rIsi K) call_isi (by rfl) T.b_isinstance (by decide +kernel) (pa_cons (pv 1) (pa_cons (pe_glob (v := .ref _) (by rfl) M_Rests rfl) pa_nil))) (pe_one (pe_cmpR op_eq (pe_fld (pv 0) (by rfl)) (pe_fld (pv 1) (by rfl)) (nomark _)))))), ?_⟩
    have cc : ClsV (.ref C1) (.ref C1) := .own _
    cases g with
    | roots _ => cases hk
    | rests p =>
      rcases q with ⟨b, g2, rfl, hG2, q⟩ | ⟨n, hn, ty, q⟩
      · have ty := hG2.ty O R1 R2
        cases g2 with
        | rests p2 =>
          have kk := O.k11
          obtain ⟨dx, gg, ha, hg⟩ := hG
          obtain ⟨dy, gh, hb, hh⟩ := hG2
          obtain ⟨cl, n1, n2⟩ := R1
          walk_at "ev"
          have e : decide (V.int p = V.int p2) = gEq (.rests p) (.rests p2) := decide_eq_decide.mpr ⟨fun h => V.int.inj h, fun h => by rw [h]⟩
          rw [e]
          exact q
        | roots p2 =>
          have kk := O.k21
          walk_at "ev"
          exact q
      · have kk := (O.t n hn).k1
        walk_at "ev"
        exact q
end
section
variable {P : Program} {w : World} {K : PySem.W.Frag} {mg : Str → Option Value} {base : Heap}
theorem ok_os1 {f C1 C2 : Addr} {fd : FuncData} {k : Nat} (F : Fun K "__str__" "Rests.__str__" s_Rests___str__ f fd) (R1 : RestC K C1) (R2 : RootC K C2) : FnOk P w K mg base CX0 (k + 1) f fd P_Rests___str__ (spOs C1 C2 true) := by
  have nd := sc_Rests___str__.nd
  refine F.ok sc_Rests___str__ (fun vs H Q E h => ?_) (fun cdv A outer s H vs Q E hr h => ?_)
  · obtain ⟨a, g, rfl, _⟩ := h
    rfl
  · obtain ⟨a, g, rfl, hG, hk, ok, q⟩ := h
    refine ⟨_, (pss_one (ps_ret (pe_joined (PJ.cons (pe_str) (PJ.cons (pe_fmt (pe_fld (pv 0) (by rfl))) PJ.nil))))), ?_⟩
    cases g with
    | roots _ => cases hk
    | rests p =>
      have l0 : 1 ≤ p := by have := prs_b ok; omega
      have l1 : p ≤ 10000 := by have := prs_b ok; omega
      have ln := num_len (by omega) l1
      have lw : (Str.ofString "rests ").length ≤ 10 := by decide
      have lq := gtx_len lw ln
      have lz := Nat.le_trans lq (show 15 ≤ sizeLine by rw [sizeLine_eq]; decide)
      have lg : (p).natAbs.log2 < 1920 := (Nat.log2_lt (by omega)).mpr (Nat.lt_of_lt_of_le (show _ < 2 ^ 14 by omega) (Nat.pow_le_pow_right (by decide) (by decide)))
      obtain ⟨dx, gg, ha, hg⟩ := hG
      obtain ⟨cl, n1, n2⟩ := R1
      walk_at "ev"
      exact q
end
section
variable {P : Program} {w : World} {K : PySem.W.Frag} {mg : Str → Option Value} {base : Heap}
theorem ok_or1 {f C1 C2 : Addr} {fd : FuncData} {k : Nat} (F : Fun K "__repr__" "Rests.__repr__" s_Rests___repr__ f fd) (R1 : RestC K C1) (R2 : RootC K C2) : FnOk P w K mg base CX0 (k + 1) f fd P_Rests___repr__ (spOs C1 C2 true) := by
  have nd := sc_Rests___repr__.nd
  refine F.ok sc_Rests___repr__ (fun vs H Q E h => ?_) (fun cdv A outer s H vs Q E hr h => ?_)
  · obtain ⟨a, g, rfl, _⟩ := h
    rfl
  · obtain ⟨a, g, rfl, hG, hk, ok, q⟩ := h
    refine ⟨_, (pss_one (ps_ret (pe_joined (PJ.cons (pe_str) (PJ.cons (pe_fmt (pe_fld (pv 0) (by rfl))) PJ.nil))))), ?_⟩
    cases g with
    | roots _ => cases hk
    | rests p =>
      have l0 : 1 ≤ p := by have := prs_b ok; omega
      have l1 : p ≤ 10000 := by have := prs_b ok; omega
      have ln := num_len (by omega) l1
      have lw : (Str.ofString "rests ").length ≤ 10 := by decide
      have lq := gtx_len lw ln
      have lz := Nat.le_trans lq (show 15 ≤ sizeLine by rw [sizeLine_eq]; decide)
      have lg : (p).natAbs.log2 < 1920 := (Nat.log2_lt (by omega)).mpr (Nat.lt_of_lt_of_le (show _ < 2 ^ 14 by omega) (Nat.pow_le_pow_right (by decide) (by decide)))
      obtain ⟨dx, gg, ha, hg⟩ := hG
      obtain ⟨cl, n1, n2⟩ := R1
      walk_at "ev"
      exact q
end
section
variable {P : Program} {w : World} {K : PySem.W.Frag} {mg : Str → Option Value} {base : Heap}
theorem ok_oe2 {f C1 C2 : Addr} {fd : FuncData} {k : Nat} (F : Fun K "__eq__" "Roots.__eq__" s_Roots___eq__ f fd) (T : Blt mg) (O : OwnX K C1 C2) (R1 : RestC K C1) (R2 : RootC K C2) (M_Roots : mg "Roots" = some (.ref C2)) : FnOk P w K mg base CX0 (k + 1) f fd P_Roots___eq__ (spOe K C1 C2 false) := by
  have nd := sc_Roots___eq__.nd
  refine F.ok sc_Roots___eq__ (fun vs H Q E h => ?_) (fun cdv A outer s H vs Q E hr h => ?_)
  · obtain ⟨a, g, y, rfl, _⟩ := h
    rfl
  · obtain ⟨a, g, y, rfl, hG, hk, q⟩ := h
    refine ⟨_, (pss_one (ps_ret (pe_and (pe_callB (r := rIsi K) call_isi (by rfl) T.b_isinstance (by decide +kernel) (pa_cons (pv 1) (pa_cons (pe_glob (v := .ref _) (by rfl) M_Roots rfl) pa_nil))) (pe_one (pe_cmpR op_eq (pe_fld (pv 0) (by rfl)) (pe_fld (pv 1) (by rfl)) (nomark _)))))), ?_⟩
    have cc : ClsV (.ref C2) (.ref C2) := .own _
    cases g with
    | rests _ => cases hk
    | roots p =>
      rcases q with ⟨b, g2, rfl, hG2, q⟩ | ⟨n, hn, ty, q⟩
      · have ty := hG2.ty O R1 R2
        cases g2 with
        | roots p2 =>
          have kk := O.k22
          obtain ⟨dx, gg, ha, hg⟩ := hG
          obtain ⟨dy, gh, hb, hh⟩ := hG2
          obtain ⟨cl, n1, n2⟩ := R2
          walk_at "ev"
          have e : decide (V.int (p : Int) = V.int (p2 : Int)) = gEq (.roots p) (.roots p2) := decide_eq_decide.mpr ⟨fun h => Int.ofNat.inj (V.int.inj h), fun h => by rw [h]⟩
          rw [e]
          exact q
        | rests p2 =>
          have kk := O.k12
          walk_at "ev"
          exact q
      · have kk := (O.t n hn).k2
        walk_at "ev"
        exact q
end
section
variable {P : Program} {w : World} {K : PySem.W.Frag} {mg : Str → Option Value} {base : Heap}
theorem ok_os2 {f C1 C2 : Addr} {fd : FuncData} {k : Nat} (F : Fun K "__str__" "Roots.__str__" s_Roots___str__ f fd) (R1 : RestC K C1) (R2 : RootC K C2) : FnOk P w K mg base CX0 (k + 1) f fd P_Roots___str__ (spOs C1 C2 false) := by
  have nd := sc_Roots___str__.nd
  refine F.ok sc_Roots___str__ (fun vs H Q E h => ?_) (fun cdv A outer s H vs Q E hr h => ?_)
  · obtain ⟨a, g, rfl, _⟩ := h
    rfl
  · obtain ⟨a, g, rfl, hG, hk, ok, q⟩ := h
    refine ⟨_, (pss_one (ps_ret (pe_joined (PJ.cons (pe_str) (PJ.cons (pe_fmt (pe_fld (pv 0) (by rfl))) PJ.nil))))), ?_⟩
    cases g with
    | rests _ => cases hk
    | roots p =>
      have l0 : 1 ≤ (p : Int) := by have := ok.1; omega
      have l1 : (p : Int) ≤ 10000 := by have := ok.2; omega
      have ln := num_len (by omega) l1
      have lw : (Str.ofString "roots ").length ≤ 10 := by decide
      have lq := gtx_len lw ln
      have lz := Nat.le_trans lq (show 15 ≤ sizeLine by rw [sizeLine_eq]; decide)
      have lg : ((p : Int)).natAbs.log2 < 1920 := (Nat.log2_lt (by omega)).mpr (Nat.lt_of_lt_of_le (show _ < 2 ^ 14 by omega) (Nat.pow_le_pow_right (by decide) (by decide)))
      obtain ⟨dx, gg, ha, hg⟩ := hG
      obtain ⟨cl, n1, n2⟩ := R2
      walk_at "ev"
      exact q
end
section
variable {P : Program} {w : World} {K : PySem.W.Frag} {mg : Str → Option Value} {base : Heap}
theorem ok_or2 {f C1 C2 : Addr} {fd : FuncData} {k : Nat} (F : Fun K "__repr__" "Roots.__repr__" s_Roots___repr__ f fd) (R1 : RestC K C1) (R2 : RootC K C2) : FnOk P w K mg base CX0 (k + 1) f fd P_Roots___repr__ (spOs C1 C2 false) := by
  have nd := sc_Roots___repr__.nd
  refine F.ok sc_Roots___repr__ (fun vs H Q E h => ?_) (fun cdv A outer s H vs Q E hr h => ?_)
  · obtain ⟨a, g, rfl, _⟩ := h
    rfl
  · obtain ⟨a, g, rfl, hG, hk, ok, q⟩ := h
    refine ⟨_, (pss_one (ps_ret (pe_joined (PJ.cons (pe_str) (PJ.cons (pe_fmt (pe_fld (pv 0) (by rfl))) PJ.nil))))), ?_⟩
    cases g with
    | rests _ => cases hk
    | roots p =>
      have l0 : 1 ≤ (p : Int) := by have := ok.1; omega
      have l1 : (p : Int) ≤ 10000 := by have := ok.2; omega
      have ln := num_len (by omega) l1
      have lw : (Str.ofString "roots ").length ≤ 10 := by decide
      have lq := gtx_len lw ln
      have lz := Nat.le_trans lq (show 15 ≤ sizeLine by rw [sizeLine_eq]; decide)
      have lg : ((p : Int)).natAbs.log2 < 1920 := (Nat.log2_lt (by omega)).mpr (Nat.lt_of_lt_of_le (show _ < 2 ^ 14 by omega) (Nat.pow_le_pow_right (by decide) (by decide)))
      obtain ⟨dx, gg, ha, hg⟩ := hG
      obtain ⟨cl, n1, n2⟩ := R2
      walk_at "ev"
      exact q
end
section
open PySem.Spec PyProof.Rows
/-- what the own == and str of a ground do -/
structure OwnU (P : Program) (w : World) (K : PySem.W.Frag) (mg : Str → Option Value) (base : Heap) (C1 C2 : Addr) : Prop where
  O : OwnX K C1 C2
  R1 : RestC K C1
  R2 : RootC K C2
  x1 : ∃ fe fs fr de ds dr, OwnS K C1 fe fs fr ∧ Binds K de P_Rests___eq__ [] ∧ Binds K ds P_Rests___str__ [] ∧ Binds K dr P_Rests___repr__ [] ∧ FnOk P w K mg base CX0 1 fe de P_Rests___eq__ (spOe K C1 C2 true) ∧ FnOk P w K mg base CX0 1 fs ds P_Rests___str__ (spOs C1 C2 true) ∧ FnOk P w K mg base CX0 1 fr dr P_Rests___repr__ (spOs C1 C2 true)
  x2 : ∃ fe fs fr de ds dr, OwnS K C2 fe fs fr ∧ Binds K de P_Roots___eq__ [] ∧ Binds K ds P_Roots___str__ [] ∧ Binds K dr P_Roots___repr__ [] ∧ FnOk P w K mg base CX0 1 fe de P_Roots___eq__ (spOe K C1 C2 false) ∧ FnOk P w K mg base CX0 1 fs ds P_Roots___str__ (spOs C1 C2 false) ∧ FnOk P w K mg base CX0 1 fr dr P_Roots___repr__ (spOs C1 C2 false)
theorem ownU_of {P : Program} {w : World} {K : PySem.W.Frag} {mg : Str → Option Value} {base : Heap} {C1 C2 : Addr} (T : Blt mg) (O : OwnX K C1 C2) (R1 : RestC K C1) (R2 : RootC K C2) (m1 : mg "Rests" = some (.ref C1)) (m2 : mg "Roots" = some (.ref C2)) : OwnU P w K mg base C1 C2 := by
  obtain ⟨_, _, a1, a2, a3⟩ := O.e1
  obtain ⟨_, _, b1, b2, b3⟩ := O.s1
  obtain ⟨_, _, c1, c2, c3⟩ := O.r1
  obtain ⟨_, _, d1, d2, d3⟩ := O.e2
  obtain ⟨_, _, e1, e2, e3⟩ := O.s2
  obtain ⟨_, _, f1, f2, f3⟩ := O.r2
  exact ⟨O, R1, R2, ⟨_, _, _, _, _, _, ⟨a3.at_, a3.fn, O.ne1, O.o1, b3.at_, b3.fn, c3.at_, c3.fn⟩, a2, b2, c2, ok_oe1 (k := 0) a1 T O R1 R2 m1, ok_os1 (k := 0) b1 R1 R2, ok_or1 (k := 0) c1 R1 R2⟩,
    ⟨_, _, _, _, _, _, ⟨d3.at_, d3.fn, O.ne2, O.o2, e3.at_, e3.fn, f3.at_, f3.fn⟩, d2, e2, f2, ok_oe2 (k := 0) d1 T O R1 R2 m2, ok_os2 (k := 0) e1 R1 R2, ok_or2 (k := 0) f1 R1 R2⟩⟩
def OtherOk (K : PySem.W.Frag) (C1 C2 : Addr) (H : Hp) (g : Gk) (y : V) (Q : Bool → Prop) : Prop := (∃ (b : Addr) (g2 : Gk), y = .ref b ∧ GrAt C1 C2 H b g2 ∧ Q (gEq g g2)) ∨ (∃ n, n ∈ tys ∧ TyX K H y (.type n) ∧ Q false)
def rEqU (K : PySem.W.Frag) (C1 C2 : Addr) : R2 := fun x y H Q => ∃ (a : Addr) (g : Gk), x = .ref a ∧ GrAt C1 C2 H a g ∧ OtherOk K C1 C2 H g y fun r => Q (.bl r) H
def rNeU (K : PySem.W.Frag) (C1 C2 : Addr) : R2 := fun x y H Q => ∃ (a : Addr) (g : Gk), x = .ref a ∧ GrAt C1 C2 H a g ∧ OtherOk K C1 C2 H g y fun r => Q (.bl (!r)) H
def rStU (C1 C2 : Addr) : List V → Hp → VK → Prop := fun xs H Q => ∃ (a : Addr) (g : Gk), xs = [.ref a] ∧ GrAt C1 C2 H a g ∧ GkOk g ∧ Q (.str (gTxt g)) H
theorem GrAt.insO {C1 C2 : Addr} {H : Hp} {a : Addr} {g : Gk} (h : GrAt C1 C2 H a g) : ∃ dx fl, H a = some (.ins (clG C1 C2 (kdG g)) dx fl) := by
  cases g with
  | rests p =>
    obtain ⟨dx, _, e, _⟩ := h
    exact ⟨_, _, e⟩
  | roots n =>
    obtain ⟨dx, _, e, _⟩ := h
    exact ⟨_, _, e⟩
theorem oth_ty {K : PySem.W.Frag} {C1 C2 : Addr} {H : Hp} {g : Gk} {y : V} {Q : Bool → Prop} (O : OwnX K C1 C2) (R1 : RestC K C1) (R2 : RootC K C2) (h : OtherOk K C1 C2 H g y Q) : ∃ t, TyX K H y t ∧ PySem.W.notFirst K (clG C1 C2 (kdG g)) t = true := by
  rcases h with ⟨b, g2, rfl, hG, _⟩ | ⟨n, hn, ty, _⟩
  · refine ⟨_, hG.ty O R1 R2, ?_⟩
    have same : ∀ C : Addr, PySem.W.notFirst K C (.ref C) = true := fun C => by simp [PySem.W.notFirst]
    cases g <;> cases g2
    · exact same _
    · exact O.f12
    · exact O.f21
    · exact same _
  · refine ⟨_, ty, ?_⟩
    cases g
    · exact (O.t n hn).n1
    · exact (O.t n hn).n2
theorem oth_sp {K : PySem.W.Frag} {C1 C2 a : Addr} {H : Hp} {g : Gk} {y : V} {Q : Bool → Prop} {E : XK} {Z : VK} (hG : GrAt C1 C2 H a g) (h : OtherOk K C1 C2 H g y Q) (hz : ∀ r, Q r → Z (.bl r) H) : spOe K C1 C2 (kdG g) [.ref a, y] H Z E := by
  refine ⟨a, g, y, rfl, hG, rfl, ?_⟩
  rcases h with ⟨b, g2, e, h2, q⟩ | ⟨n, hn, ty, q⟩
  · exact .inl ⟨b, g2, e, h2, hz _ q⟩
  · exact .inr ⟨n, hn, ty, hz _ q⟩
variable {X : Cx} {C1 C2 : Addr}
theorem op_eqU (U : OwnU X.prog X.w X.K X.mg X.base C1 C2) (hr : Room 2 X.A) : OpR X (compareOp .Eq) (rEqU X.K C1 C2) := by
  intro pins s σ H x y v u Q I rx ry h
  obtain ⟨a, g, rfl, hG, q⟩ := h
  obtain ⟨t, ty, nf⟩ := oth_ty U.O U.R1 U.R2 q
  obtain ⟨dx, fl, ea⟩ := hG.insO
  cases g with
  | rests p =>
    obtain ⟨_, _, _, _, _, _, S, b, _, _, F, _, _⟩ := U.x1
    exact op_eqO S F (hr.mono (by decide)) b pass0 pins s σ H _ _ v u Q I rx ry ⟨a, dx, fl, t, rfl, ea, ty, nf, oth_sp hG q fun r z => ⟨r, rfl, z⟩⟩
  | roots p =>
    obtain ⟨_, _, _, _, _, _, S, b, _, _, F, _, _⟩ := U.x2
    exact op_eqO S F (hr.mono (by decide)) b pass0 pins s σ H _ _ v u Q I rx ry ⟨a, dx, fl, t, rfl, ea, ty, nf, oth_sp hG q fun r z => ⟨r, rfl, z⟩⟩
theorem op_neU (U : OwnU X.prog X.w X.K X.mg X.base C1 C2) (hr : Room 2 X.A) : OpR X (compareOp .NotEq) (rNeU X.K C1 C2) := by
  intro pins s σ H x y v u Q I rx ry h
  obtain ⟨a, g, rfl, hG, q⟩ := h
  obtain ⟨t, ty, nf⟩ := oth_ty U.O U.R1 U.R2 q
  obtain ⟨dx, fl, ea⟩ := hG.insO
  cases g with
  | rests p =>
    obtain ⟨_, _, _, _, _, _, S, b, _, _, F, _, _⟩ := U.x1
    exact op_neO S F hr b pass0 pins s σ H _ _ v u Q I rx ry ⟨a, dx, fl, t, rfl, ea, ty, nf, oth_sp hG q fun r z => ⟨r, rfl, z⟩⟩
  | roots p =>
    obtain ⟨_, _, _, _, _, _, S, b, _, _, F, _, _⟩ := U.x2
    exact op_neO S F hr b pass0 pins s σ H _ _ v u Q I rx ry ⟨a, dx, fl, t, rfl, ea, ty, nf, oth_sp hG q fun r z => ⟨r, rfl, z⟩⟩
theorem call_reU (U : OwnU X.prog X.w X.K X.mg X.base C1 C2) (hr : Room 2 X.A) : CallR X (.builtin "repr") (rStU C1 C2) := by
  intro pins s σ H xs us Q I r h
  obtain ⟨a, g, rfl, hG, ok, q⟩ := h
  obtain ⟨dx, fl, ea⟩ := hG.insO
  cases g with
  | rests p =>
    obtain ⟨_, _, _, _, _, _, S, _, _, b, _, _, F⟩ := U.x1
    exact call_reO S F hr b pass0 pins s σ H _ us Q I r ⟨a, dx, fl, rfl, ea, ⟨a, _, rfl, hG, rfl, ok, _, rfl, q⟩⟩
  | roots p =>
    obtain ⟨_, _, _, _, _, _, S, _, _, b, _, _, F⟩ := U.x2
    exact call_reO S F hr b pass0 pins s σ H _ us Q I r ⟨a, dx, fl, rfl, ea, ⟨a, _, rfl, hG, rfl, ok, _, rfl, q⟩⟩
theorem call_stU (U : OwnU X.prog X.w X.K X.mg X.base C1 C2) (hr : Room 3 X.A) : CallR X (.type "str") (rStU C1 C2) := by
  intro pins s σ H xs us Q I r h
  obtain ⟨a, g, rfl, hG, ok, q⟩ := h
  obtain ⟨dx, fl, ea⟩ := hG.insO
  cases g with
  | rests p =>
    obtain ⟨_, _, _, _, _, _, S, _, b, _, _, F, _⟩ := U.x1
    exact call_stO S F hr b pass0 pins s σ H _ us Q I r ⟨a, dx, fl, rfl, ea, ⟨a, _, rfl, hG, rfl, ok, _, rfl, q⟩⟩
  | roots p =>
    obtain ⟨_, _, _, _, _, _, S, _, b, _, _, F, _⟩ := U.x2
    exact call_stO S F hr b pass0 pins s σ H _ us Q I r ⟨a, dx, fl, rfl, ea, ⟨a, _, rfl, hG, rfl, ok, _, rfl, q⟩⟩
end
/-! ### what is checked ahead of a turning -/
def spUh (K : PySem.W.Frag) (C1 C2 : Addr) (r : Bool) : Sp := fun vs H Q _ => ∃ (a : Addr) (g : Gk) (x : Int), vs = [.ref a, .int x] ∧ GrAt C1 C2 H a g ∧ kdG g = r ∧ GkOk g ∧ 1 ≤ x ∧ x ≤ 1000 ∧ Q (.bl (decide (numM g % x = 0))) H
section
variable {P : Program} {w : World} {K : PySem.W.Frag} {mg : Str → Option Value} {base : Heap}
theorem mu_has {CT CB C1 C2 CR CS CI fI : Addr} {fdI : FuncData} (S : G16 K mg CT CB C1 C2 CR CS CI fI fdI) : MthU P w K mg base CX0 1 C1 C2 "has_root" P_Rests_has_root (spUh K C1 C2) := by
  obtain ⟨_, _, h1, h2, h3⟩ := S.h1
  obtain ⟨_, _, i1, i2, i3⟩ := S.h2
  refine ⟨S.R1.cl, S.R2.cl, ⟨_, _, _, _, h3, i3, h2, i2, fnsub (ok_hasroot (k := 0) h1 S.R1) ?_, fnsub (ok_hasR (k := 0) i1 S.R2) ?_⟩, fun H a g h => h.lk (by decide) (by decide) (by decide) (by decide)⟩
  · rintro vs H Q E ⟨a, g, x, e1, hG, hk, ok, x1, x2, q⟩
    cases g with
    | roots n => cases hk
    | rests p => exact ⟨a, p, x, e1, hG, x1, by omega, q⟩
  · rintro vs H Q E ⟨a, g, x, e1, hG, hk, ok, x1, x2, q⟩
    cases g with
    | rests p => cases hk
    | roots n =>
      obtain ⟨L, rfl⟩ : ∃ L : Nat, x = (L : Int) := ⟨x.toNat, by omega⟩
      refine ⟨a, n, L, e1, hG, by omega, by omega, ?_⟩
      have e : decide (n % L = 0) = decide (numM (.roots n) % (L : Int) = 0) := by
        refine decide_eq_decide.mpr ?_
        show n % L = 0 ↔ (n : Int) % (L : Int) = 0
        omega
      rw [e]
      exact q
end
/-! ### the other methods of a ground -/
structure GX (K : PySem.W.Frag) (C1 C2 : Addr) : Prop where
  g1 : ∃ f fd, Fun K "gap_of" "Rests.gap_of" s_Rests_gap_of f fd ∧ Binds K fd P_Rests_gap_of [] ∧ Meth K C1 "gap_of" f
  w1 : ∃ f fd, Fun K "worth_of" "Rests.worth_of" s_Rests_worth_of f fd ∧ Binds K fd P_Rests_worth_of [] ∧ Meth K C1 "worth_of" f
  i1 : ∃ f fd, Fun K "is_worth" "Rests.is_worth" s_Rests_is_worth f fd ∧ Binds K fd P_Rests_is_worth [] ∧ Meth K C1 "is_worth" f
  g2 : ∃ f fd, Fun K "gap_of" "Roots.gap_of" s_Roots_gap_of f fd ∧ Binds K fd P_Roots_gap_of [] ∧ Meth K C2 "gap_of" f
  w2 : ∃ f fd, Fun K "worth_of" "Roots.worth_of" s_Roots_worth_of f fd ∧ Binds K fd P_Roots_worth_of [] ∧ Meth K C2 "worth_of" f
  i2 : ∃ f fd, Fun K "is_worth" "Roots.is_worth" s_Roots_is_worth f fd ∧ Binds K fd P_Roots_is_worth [] ∧ Meth K C2 "is_worth" f
def spKw (K : PySem.W.Frag) (C1 C2 : Addr) (r : Bool) : Sp := fun vs H Q _ => ∃ (a : Addr) (g : Gk) (x : Int), vs = [.ref a, .int x] ∧ GrAt C1 C2 H a g ∧ kdG g = r ∧ GkOk g ∧ x.natAbs ≤ 1125899906842624 ∧ ∀ v H', Same H H' → Wk K H' g v (gw g x) 50 → Q v H'
def spKi (K : PySem.W.Frag) (C1 C2 : Addr) (r : Bool) : Sp := fun vs H Q _ => ∃ (a : Addr) (g : Gk) (x : V) (u : Wt) (k : Nat), vs = [.ref a, x] ∧ GrAt C1 C2 H a g ∧ kdG g = r ∧ GkOk g ∧ Wk K H g x u k ∧ ∀ H', Same H H' → Q (.bl true) H'
theorem bb_gw {g : Gk} {c : Int} {B : Nat} (h : c.natAbs ≤ B) : BB B (gw g c) := by
  cases g with
  | rests p => exact True.intro
  | roots n =>
    intro x hx
    rcases List.mem_cons.mp hx with z | z
    · rw [z]; exact h
    · rw [(List.mem_replicate.mp z).2]
      exact Nat.zero_le _
section
variable {P : Program} {w : World} {K : PySem.W.Frag} {mg : Str → Option Value} {base : Heap}
theorem mu_gap {CT CB C1 C2 CR CS CI fI : Addr} {fdI : FuncData} (T : Blt mg) (S : G16 K mg CT CB C1 C2 CR CS CI fI fdI) (X : GX K C1 C2) : MthU P w K mg base CX0 1 C1 C2 "gap_of" P_Rests_gap_of (spKg K C1 C2) := by
  obtain ⟨_, _, a1, a2, a3⟩ := X.g1
  obtain ⟨_, _, b1, b2, b3⟩ := X.g2
  have A1 := ok_gap_of (P := P) (w := w) (mg := mg) (base := base) (k := 0) a1 S.R1
  have A2 := ok_gap_ofR (P := P) (w := w) (mg := mg) (base := base) (k := 0) b1 T
  refine ⟨S.R1.cl, S.R2.cl, ⟨_, _, _, _, a3, b3, a2, b2, fnsub A1 ?_, fnsub A2 ?_⟩, fun H a g h => h.lk (by decide) (by decide) (by decide) (by decide)⟩
  · rintro vs H Q E ⟨a, g, x, y, u, w, k, l, e1, hG, hk, ok, hx, hy, q⟩
    have nn := nm_add ok hx.2.1 (nm_neg ok hy.2.1)
    have bb := (bb_add hx.2.1 (nm_neg ok hy.2.1) hx.2.2 (bb_neg ok hy.2.1 hy.2.2)).up (p2_add k l)
    rcases wr g ok hx.2.1 with ⟨p, x', rfl, rfl, x0, x1, p2, p4⟩ | ⟨n, xs, rfl, rfl, l, w1⟩
    · cases w with
      | v ys => exact hy.2.1.elim
      | i y' =>
        have ex : x = .int x' := hx.1
        have ey : y = .int y' := hy.1
        have hn : 0 ≤ y' ∧ y' < p := hy.2.1
        refine ⟨a, p, x', y', by rw [e1, ex, ey], hG, p2, p4, x0, x1, hn.1, hn.2, q _ _ (Same.refl _) ⟨?_, nn, bb⟩⟩
        show V.int _ = V.int _
        rw [ea_r, Int.sub_eq_add_neg]
    · cases hk
  · rintro vs H Q E ⟨a, g, x, y, u, w, k, l, e1, hG, hk, ok, hx, hy, q⟩
    have nn := nm_add ok hx.2.1 (nm_neg ok hy.2.1)
    have bb := (bb_add hx.2.1 (nm_neg ok hy.2.1) hx.2.2 (bb_neg ok hy.2.1 hy.2.2)).up (p2_add k l)
    rcases wr g ok hx.2.1 with ⟨p, x', rfl, rfl, x0, x1, p2, p4⟩ | ⟨n, xs, rfl, rfl, lx, w1⟩
    · cases hk
    · cases w with
      | i y' => exact hy.2.1.elim
      | v ys =>
        obtain ⟨tx, ex, hx1⟩ := hx.1
        obtain ⟨ty, ey, hy1⟩ := hy.1
        have ly : ys.length = wl n := hy.2.1
        have w30 := (wl1 ok.1 ok.2).2
        refine ⟨a, tx, ty, xs, ys, by rw [e1, ex, ey], hx1, hy1, by omega, by omega, fun p H' hp sm hq => q _ _ sm ⟨⟨p, rfl, SqT.of ?_⟩, nn, bb⟩⟩
        have : List.zipWith (· + ·) xs (ys.map fun x => -x) = List.zipWith (· - ·) xs ys := by
          rw [List.zipWith_map_right]
          congr 1
        rw [this]
        exact hq
theorem mu_wof {CT CB C1 C2 CR CS CI fI : Addr} {fdI : FuncData} {f1 : Addr} {d1 : FuncData} (T : Blt mg) (S : G16 K mg CT CB C1 C2 CR CS CI fI fdI) (X : GX K C1 C2) (D_divided : Df K mg "divided" s_divided P_divided f1 d1) : MthU P w K mg base CX0 2 C1 C2 "worth_of" P_Rests_worth_of (spKw K C1 C2) := by
  obtain ⟨_, _, a1, a2, a3⟩ := X.w1
  obtain ⟨_, _, b1, b2, b3⟩ := X.w2
  have A1 := ok_wof (P := P) (w := w) (mg := mg) (base := base) (k := 1) a1 S.R1
  have A2 := ok_worO (P := P) (w := w) (base := base) (k := 0) b1 T S.R2 D_divided
  refine ⟨S.R1.cl, S.R2.cl, ⟨_, _, _, _, a3, b3, a2, b2, fnsub A1 ?_, fnsub A2 ?_⟩, fun H a g h => h.lk (by decide) (by decide) (by decide) (by decide)⟩
  · rintro vs H Q E ⟨a, g, x, e1, hG, hk, ok, hx, q⟩
    cases g with
    | roots n => cases hk
    | rests p =>
      have pb := prs_b ok
      exact ⟨a, p, x, e1, hG, by omega, q _ _ (Same.refl _) ⟨rfl, nm_gw ok, bb_gw hx⟩⟩
  · rintro vs H Q E ⟨a, g, x, e1, hG, hk, ok, hx, q⟩
    cases g with
    | rests p => cases hk
    | roots n => exact ⟨a, n, x, e1, hG, ok.1, ok.2, fun p H' hp sm hq => q _ _ sm ⟨⟨p, rfl, SqT.of hq⟩, nm_gw ok, bb_gw hx⟩⟩
theorem mu_isw {CT CB C1 C2 CR CS CI fI : Addr} {fdI : FuncData} {f1 : Addr} {d1 : FuncData} (T : Blt mg) (S : G16 K mg CT CB C1 C2 CR CS CI fI fdI) (X : GX K C1 C2) (D_is_whole : Df K mg "is_whole" s_is_whole P_is_whole f1 d1) : MthU P w K mg base CX0 2 C1 C2 "is_worth" P_Rests_is_worth (spKi K C1 C2) := by
  obtain ⟨_, _, a1, a2, a3⟩ := X.i1
  obtain ⟨_, _, b1, b2, b3⟩ := X.i2
  have A1 := ok_isw (P := P) (w := w) (base := base) (k := 0) a1 T S.R1 D_is_whole
  have A2 := ok_isW (P := P) (w := w) (base := base) (k := 0) b1 T S.R2 D_is_whole
  refine ⟨S.R1.cl, S.R2.cl, ⟨_, _, _, _, a3, b3, a2, b2, fnsub A1 ?_, fnsub A2 ?_⟩, fun H a g h => h.lk (by decide) (by decide) (by decide) (by decide)⟩
  · rintro vs H Q E ⟨a, g, x, u, k, e1, hG, hk, ok, hx, q⟩
    rcases wr g ok hx.2.1 with ⟨p, x', rfl, rfl, x0, x1, p2, p4⟩ | ⟨n, xs, rfl, rfl, lx, w1⟩
    · have ex : x = .int x' := hx.1
      refine ⟨a, p, x, _, e1, hG, ex ▸ Kd.int x', fun i ei => ?_, fun z => absurd ex (z x')⟩
      have : i = x' := V.int.inj (ei.symm.trans ex)
      subst this
      rw [decide_eq_true x0, decide_eq_true x1]
      exact q _ (Same.refl _)
    · cases hk
  · rintro vs H Q E ⟨a, g, x, u, k, e1, hG, hk, ok, hx, q⟩
    rcases wr g ok hx.2.1 with ⟨p, x', rfl, rfl, x0, x1, p2, p4⟩ | ⟨n, xs, rfl, rfl, lx, w1⟩
    · cases hk
    · have w30 := (wl1 ok.1 ok.2).2
      refine ⟨a, n, x, _, e1, hG, ok.1, ok.2, hx.1.dp, fun ds e => ?_, fun H' sm => ?_⟩
      · cases e
        rw [List.length_map]
        omega
      · have : isW ((whl n).length - 1) (wD (.v xs)) = true := by
          show (decide ((xs.map PyData.int).length = wl n) && (xs.map PyData.int).all intD) = true
          rw [List.length_map, decide_eq_true lx, Bool.true_and, List.all_eq_true]
          intro d hd
          obtain ⟨y, _, rfl⟩ := List.mem_map.mp hd
          rfl
        rw [this]
        exact q _ sm
end
/-! ### a method of a ground, called by names alone -/
def gSf {α : Type} (n : Nat) (pm : List Nat) (us ws : List α) : List α := if us.length = 1 ∧ ws.length = n then us ++ pm.filterMap (ws[·]?) else []
theorem gvals_pick {xs : List V} {us : List Value} (r : Vals xs us) : ∀ is : List Nat, Vals (is.filterMap (xs[·]?)) (is.filterMap (us[·]?))
  | [] => .nil
  | i :: is => by
    rw [List.filterMap_cons, List.filterMap_cons]
    cases h : xs[i]? with
    | none =>
      have hu : us[i]? = none := by
        rw [List.getElem?_eq_none_iff] at h ⊢
        rw [← r.length]
        exact h
      rw [hu]
      exact gvals_pick r is
    | some x =>
      obtain ⟨u, hu, rw'⟩ := r.get h
      rw [hu]
      exact .cons rw' (gvals_pick r is)
theorem gSf_rel {n : Nat} {pm : List Nat} {vs zs : List V} {us ws : List Value} (a : Vals vs us) (c : Vals zs ws) : Vals (gSf n pm vs zs) (gSf n pm us ws) := by
  unfold gSf
  rw [a.length, c.length]
  by_cases h : us.length = 1 ∧ ws.length = n
  · rw [if_pos h, if_pos h]
    exact a.append (gvals_pick c pm)
  · rw [if_neg h, if_neg h]
    exact .nil
theorem gSf_len {n : Nat} {pm : List Nat} {us ws : List Value} {ps : List Str} (hp : ps ≠ []) (h : (gSf n pm us ws).length = ps.length) : us.length = 1 ∧ ws.length = n := by
  unfold gSf at h
  by_cases c : us.length = 1 ∧ ws.length = n
  · exact c
  · rw [if_neg c] at h
    exact absurd (List.length_eq_zero_iff.mp h.symm) hp
theorem kbs {K : PySem.W.Frag} {x qual : Str} {st : Stmt} {f : Addr} {fd : FuncData} {ps ks : List Str} (F : Fun K x qual st f fd) (n : Nat) (pm : List Nat) (hp : ps ≠ [])
    (h : ∀ (kV doc p1 : Value) (an : Option Addr) (cdv ct : Value) (us ws : List Value), us.length = 1 → ws.length = n → bindArgs (PySem.W.fnOf x qual (defArgs st) (defBody st) (defScope st) .none kV doc p1 an cdv ct) ⟨us, ks.zip ws⟩ = pure (ps.zip (gSf n pm us ws))) : KBinds K fd ps ks (fun us ws => gSf n pm us ws) (fun vs zs => gSf n pm vs zs) := by
  obtain ⟨oc, od, kV, doc, p1, an, cdv, ct, osl, rfl, lk, hcd⟩ := F.ex
  refine ⟨fun s us ws _ hl => ?_, fun a b => gSf_rel a b⟩
  obtain ⟨hu, hw⟩ := gSf_len hp hl
  exact .of_eq (h kV doc p1 an cdv ct us ws hu hw)
structure MthUK (P : Program) (w : World) (K : PySem.W.Frag) (mg : Str → Option Value) (base : Heap) (CX : CXT) (k : Nat) (C1 C2 : Addr) (m : Str) (ps ks : List Str) (n : Nat) (pm : List Nat) (spU : Bool → Sp) : Prop where
  c1 : L2.Cls K C1
  c2 : L2.Cls K C2
  x : ∃ f1 d1 f2 d2, Meth K C1 m f1 ∧ Meth K C2 m f2 ∧ KBinds K d1 ps ks (fun us ws => gSf n pm us ws) (fun vs zs => gSf n pm vs zs) ∧ KBinds K d2 ps ks (fun us ws => gSf n pm us ws) (fun vs zs => gSf n pm vs zs) ∧ FnOk P w K mg base CX k f1 d1 ps (spU true) ∧ FnOk P w K mg base CX k f2 d2 ps (spU false)
  l : ∀ H a g, GrAt C1 C2 H a g → ∃ dx fs, H a = some (.ins (clG C1 C2 (kdG g)) dx fs) ∧ List.lookup m fs = none
def tMethUK (C1 C2 : Addr) (n : Nat) (pm : List Nat) (spU : Bool → Sp) (E : XK) (ta : TE) (tk : TA) : TE := fun σ H Q => ta σ H fun x H1 => ∃ (a : Addr) (g : Gk), x = .ref a ∧ GrAt C1 C2 H1 a g ∧ tk σ H1 fun zs H2 => spU (kdG g) (gSf n pm [.ref a] zs) H2 Q E
section
variable {X : Cx} {CX : CXT} {k n : Nat} {pm : List Nat} {C1 C2 : Addr} {m : Str} {ps ks : List Str} {spU : Bool → Sp} {E : XK} {o : Expr} {kws : List Keyword} {ta : TE} {tk : TA} {apos pos : Pos}
theorem pe_methUK0 {pl : Sem Bool} (he : PE X o ta) (M : MthUK X.prog X.w X.K X.mg X.base CX k C1 C2 m ps ks n pm spU) (hr : Room k X.A) (hx : Passes CX X E) (hkw : PK X kws tk)
    (hall : (backToKw pos (keywordEach kws X.env)).all (·.1.isSome) = true := by rfl) (hks : (backToKw pos (keywordEach kws X.env)).filterMap (·.1) = ks := by rfl)
    (hpl : ((backTo pos (starEach [] X.env)).any (·.1) || (backToKw pos (keywordEach kws X.env)).any (·.1.isNone)) = false := by rfl)
    (ht : eval (.Call (.Attribute o m apos) [] kws pos) X.env = (do
      let ov ← eval o X.env
      standAt apos.atName
      let (f, first) ← holding [ov] (getMethod ov m pl)
      callWith pos f first (backTo pos (starEach [] X.env)) (backToKw pos (keywordEach kws X.env))) := by rfl) :
    PE X (.Call (.Attribute o m apos) [] kws pos) (tMethUK C1 C2 n pm spU E ta tk) := by
  obtain ⟨f1, d1, f2, d2, m1, m2, b1, b2, F1, F2⟩ := M.x
  refine ⟨fun pins s σ H Q I h => ?_⟩
  refine PySem.W.methodCall_KW (pl := pl) (thn (he.run pins s σ H _ I h) fun u s1 ⟨x, H1, I1, rx, a, g, ex, hG, q⟩ => ?_) ht
  subst ex
  obtain rfl : u = Value.ref a := rx
  obtain ⟨dx, fs, ea, l⟩ := M.l H1 a g hG
  cases hk : kdG g with
  | true =>
    rw [hk] at ea q
    refine getmeth_ok I1 ea M.c1 m1 l ?_
    refine PySem.W.callWith_KW0 (first := [.ref a]) (h₀ := X.base) I.ok.mod.kin m1.kp hall (thn (hkw.run pos pins s1 σ H1 _ I1 q) fun ws s2 ⟨zs, H2, I2, rz, q2⟩ => ⟨I2.kIn, ?_⟩) hpl
    rw [hks]
    exact run_fnk (us := [.ref a]) (vs := [.ref a]) F1 hr b1 hx I2 (.cons rfl .nil) rz q2
  | false =>
    rw [hk] at ea q
    refine getmeth_ok I1 ea M.c2 m2 l ?_
    refine PySem.W.callWith_KW0 (first := [.ref a]) (h₀ := X.base) I.ok.mod.kin m2.kp hall (thn (hkw.run pos pins s1 σ H1 _ I1 q) fun ws s2 ⟨zs, H2, I2, rz, q2⟩ => ⟨I2.kIn, ?_⟩) hpl
    rw [hks]
    exact run_fnk (us := [.ref a]) (vs := [.ref a]) F2 hr b2 hx I2 (.cons rfl .nil) rz q2
end
section
variable {P : Program} {w : World} {K : PySem.W.Frag} {mg : Str → Option Value} {base : Heap}

theorem kb_Rests_has_root {f : Addr} {fd : FuncData} (F : Fun K "has_root" "Rests.has_root" s_Rests_has_root f fd) : KBinds K fd P_Rests_has_root ["length"] (fun us ws => gSf 1 [0] us ws) (fun vs zs => gSf 1 [0] vs zs) := kbs F 1 [0] (by nofun) fun _ _ _ _ _ _ us ws hu hw => match us, ws, hu, hw with
  | [u], [w0], _, _ => rfl
theorem kb_Roots_has_root {f : Addr} {fd : FuncData} (F : Fun K "has_root" "Roots.has_root" s_Roots_has_root f fd) : KBinds K fd P_Rests_has_root ["length"] (fun us ws => gSf 1 [0] us ws) (fun vs zs => gSf 1 [0] vs zs) := kbs F 1 [0] (by nofun) fun _ _ _ _ _ _ us ws hu hw => match us, ws, hu, hw with
  | [u], [w0], _, _ => rfl
theorem muk_has {CT CB C1 C2 CR CS CI fI : Addr} {fdI : FuncData} (S : G16 K mg CT CB C1 C2 CR CS CI fI fdI) : MthUK P w K mg base CX0 1 C1 C2 "has_root" P_Rests_has_root ["length"] 1 [0] (spUh K C1 C2) := by
  obtain ⟨_, _, h1, h2, h3⟩ := S.h1
  obtain ⟨_, _, i1, i2, i3⟩ := S.h2
  refine ⟨S.R1.cl, S.R2.cl, ⟨_, _, _, _, h3, i3, kb_Rests_has_root h1, kb_Roots_has_root i1, fnsub (ok_hasroot (k := 0) h1 S.R1) ?_, fnsub (ok_hasR (k := 0) i1 S.R2) ?_⟩, fun H a g h => h.lk (by decide) (by decide) (by decide) (by decide)⟩
  · rintro vs H Q E ⟨a, g, x, e1, hG, hk, ok, x1, x2, q⟩
    cases g with
    | roots n => cases hk
    | rests p => exact ⟨a, p, x, e1, hG, x1, by omega, q⟩
  · rintro vs H Q E ⟨a, g, x, e1, hG, hk, ok, x1, x2, q⟩
    cases g with
    | rests p => cases hk
    | roots n =>
      obtain ⟨L, rfl⟩ : ∃ L : Nat, x = (L : Int) := ⟨x.toNat, by omega⟩
      refine ⟨a, n, L, e1, hG, by omega, by omega, ?_⟩
      have e : decide (n % L = 0) = decide (numM (.roots n) % (L : Int) = 0) := by
        refine decide_eq_decide.mpr ?_
        show n % L = 0 ↔ (n : Int) % (L : Int) = 0
        omega
      rw [e]
      exact q
theorem kb_Rests_sum_of {f : Addr} {fd : FuncData} (F : Fun K "sum_of" "Rests.sum_of" s_Rests_sum_of f fd) : KBinds K fd P_Rests_sum_of ["other", "one"] (fun us ws => gSf 2 [1, 0] us ws) (fun vs zs => gSf 2 [1, 0] vs zs) := kbs F 2 [1, 0] (by nofun) fun _ _ _ _ _ _ us ws hu hw => match us, ws, hu, hw with
  | [u], [w0, w1], _, _ => rfl
theorem kb_Roots_sum_of {f : Addr} {fd : FuncData} (F : Fun K "sum_of" "Roots.sum_of" s_Roots_sum_of f fd) : KBinds K fd P_Rests_sum_of ["other", "one"] (fun us ws => gSf 2 [1, 0] us ws) (fun vs zs => gSf 2 [1, 0] vs zs) := kbs F 2 [1, 0] (by nofun) fun _ _ _ _ _ _ us ws hu hw => match us, ws, hu, hw with
  | [u], [w0, w1], _, _ => rfl
theorem muk_sum {CT CB C1 C2 CR CS CI fI : Addr} {fdI : FuncData} (T : Blt mg) (S : G16 K mg CT CB C1 C2 CR CS CI fI fdI) : MthUK P w K mg base CX0 1 C1 C2 "sum_of" P_Rests_sum_of ["other", "one"] 2 [1, 0] (spKa K C1 C2) := by
  obtain ⟨_, _, a1, a2, a3⟩ := S.a1
  obtain ⟨_, _, b1, b2, b3⟩ := S.a2
  have A1 := ok_u1a (P := P) (w := w) (mg := mg) (base := base) (C2 := C2) (k := 0) a1 S.R1
  have A2 := ok_u2a (P := P) (w := w) (mg := mg) (base := base) (C1 := C1) (C2 := C2) (k := 0) b1 T
  refine ⟨S.R1.cl, S.R2.cl, ⟨_, _, _, _, a3, b3, kb_Rests_sum_of a1, kb_Roots_sum_of b1, fnsub A1 ?_, fnsub A2 ?_⟩, fun H a g h => h.lk (by decide) (by decide) (by decide) (by decide)⟩
  all_goals
    rintro vs H Q E ⟨a, g, x, y, u, w, k, l, e1, hG, hk, ok, hx, hy, q⟩
    exact ⟨a, g, x, y, u, w, e1, hG, hk, ok, hx.1, hy.1, hx.2.1, hy.2.1, fun v H' sm hv => q v H' sm ⟨hv, nm_add ok hx.2.1 hy.2.1, (bb_add hx.2.1 hy.2.1 hx.2.2 hy.2.2).up (p2_add k l)⟩⟩
theorem kb_Rests_gap_of {f : Addr} {fd : FuncData} (F : Fun K "gap_of" "Rests.gap_of" s_Rests_gap_of f fd) : KBinds K fd P_Rests_gap_of ["other", "one"] (fun us ws => gSf 2 [1, 0] us ws) (fun vs zs => gSf 2 [1, 0] vs zs) := kbs F 2 [1, 0] (by nofun) fun _ _ _ _ _ _ us ws hu hw => match us, ws, hu, hw with
  | [u], [w0, w1], _, _ => rfl
theorem kb_Roots_gap_of {f : Addr} {fd : FuncData} (F : Fun K "gap_of" "Roots.gap_of" s_Roots_gap_of f fd) : KBinds K fd P_Rests_gap_of ["other", "one"] (fun us ws => gSf 2 [1, 0] us ws) (fun vs zs => gSf 2 [1, 0] vs zs) := kbs F 2 [1, 0] (by nofun) fun _ _ _ _ _ _ us ws hu hw => match us, ws, hu, hw with
  | [u], [w0, w1], _, _ => rfl
theorem muk_gap {CT CB C1 C2 CR CS CI fI : Addr} {fdI : FuncData} (T : Blt mg) (S : G16 K mg CT CB C1 C2 CR CS CI fI fdI) (X : GX K C1 C2) : MthUK P w K mg base CX0 1 C1 C2 "gap_of" P_Rests_gap_of ["other", "one"] 2 [1, 0] (spKg K C1 C2) := by
  obtain ⟨_, _, a1, a2, a3⟩ := X.g1
  obtain ⟨_, _, b1, b2, b3⟩ := X.g2
  have A1 := ok_gap_of (P := P) (w := w) (mg := mg) (base := base) (k := 0) a1 S.R1
  have A2 := ok_gap_ofR (P := P) (w := w) (mg := mg) (base := base) (k := 0) b1 T
  refine ⟨S.R1.cl, S.R2.cl, ⟨_, _, _, _, a3, b3, kb_Rests_gap_of a1, kb_Roots_gap_of b1, fnsub A1 ?_, fnsub A2 ?_⟩, fun H a g h => h.lk (by decide) (by decide) (by decide) (by decide)⟩
  · rintro vs H Q E ⟨a, g, x, y, u, w, k, l, e1, hG, hk, ok, hx, hy, q⟩
    have nn := nm_add ok hx.2.1 (nm_neg ok hy.2.1)
    have bb := (bb_add hx.2.1 (nm_neg ok hy.2.1) hx.2.2 (bb_neg ok hy.2.1 hy.2.2)).up (p2_add k l)
    rcases wr g ok hx.2.1 with ⟨p, x', rfl, rfl, x0, x1, p2, p4⟩ | ⟨n, xs, rfl, rfl, l, w1⟩
    · cases w with
      | v ys => exact hy.2.1.elim
      | i y' =>
        have ex : x = .int x' := hx.1
        have ey : y = .int y' := hy.1
        have hn : 0 ≤ y' ∧ y' < p := hy.2.1
        refine ⟨a, p, x', y', by rw [e1, ex, ey], hG, p2, p4, x0, x1, hn.1, hn.2, q _ _ (Same.refl _) ⟨?_, nn, bb⟩⟩
        show V.int _ = V.int _
        rw [ea_r, Int.sub_eq_add_neg]
    · cases hk
  · rintro vs H Q E ⟨a, g, x, y, u, w, k, l, e1, hG, hk, ok, hx, hy, q⟩
    have nn := nm_add ok hx.2.1 (nm_neg ok hy.2.1)
    have bb := (bb_add hx.2.1 (nm_neg ok hy.2.1) hx.2.2 (bb_neg ok hy.2.1 hy.2.2)).up (p2_add k l)
    rcases wr g ok hx.2.1 with ⟨p, x', rfl, rfl, x0, x1, p2, p4⟩ | ⟨n, xs, rfl, rfl, lx, w1⟩
    · cases hk
    · cases w with
      | i y' => exact hy.2.1.elim
      | v ys =>
        obtain ⟨tx, ex, hx1⟩ := hx.1
        obtain ⟨ty, ey, hy1⟩ := hy.1
        have ly : ys.length = wl n := hy.2.1
        have w30 := (wl1 ok.1 ok.2).2
        refine ⟨a, tx, ty, xs, ys, by rw [e1, ex, ey], hx1, hy1, by omega, by omega, fun p H' hp sm hq => q _ _ sm ⟨⟨p, rfl, SqT.of ?_⟩, nn, bb⟩⟩
        have : List.zipWith (· + ·) xs (ys.map fun x => -x) = List.zipWith (· - ·) xs ys := by
          rw [List.zipWith_map_right]
          congr 1
        rw [this]
        exact hq
theorem kb_Rests_product_of {f : Addr} {fd : FuncData} (F : Fun K "product_of" "Rests.product_of" s_Rests_product_of f fd) : KBinds K fd P_Rests_product_of ["other", "one"] (fun us ws => gSf 2 [1, 0] us ws) (fun vs zs => gSf 2 [1, 0] vs zs) := kbs F 2 [1, 0] (by nofun) fun _ _ _ _ _ _ us ws hu hw => match us, ws, hu, hw with
  | [u], [w0, w1], _, _ => rfl
theorem kb_Roots_product_of {f : Addr} {fd : FuncData} (F : Fun K "product_of" "Roots.product_of" s_Roots_product_of f fd) : KBinds K fd P_Rests_product_of ["other", "one"] (fun us ws => gSf 2 [1, 0] us ws) (fun vs zs => gSf 2 [1, 0] vs zs) := kbs F 2 [1, 0] (by nofun) fun _ _ _ _ _ _ us ws hu hw => match us, ws, hu, hw with
  | [u], [w0, w1], _, _ => rfl
theorem muk_prod {CT CB C1 C2 CR CS CI fI : Addr} {fdI : FuncData} {f1 f2 : Addr} {d1 d2 : FuncData} (T : Blt mg) (S : G16 K mg CT CB C1 C2 CR CS CI fI fdI) (D_divided : Df K mg "divided" s_divided P_divided f1 d1) (D_multiplied : Df K mg "multiplied" s_multiplied P_multiplied f2 d2) : MthUK P w K mg base CX0 2 C1 C2 "product_of" P_Rests_product_of ["other", "one"] 2 [1, 0] (spKm K C1 C2) := by
  obtain ⟨_, _, a1, a2, a3⟩ := S.q1
  obtain ⟨_, _, b1, b2, b3⟩ := S.q2
  have A1 := ok_u1m (P := P) (w := w) (mg := mg) (base := base) (C2 := C2) (k := 1) a1 S.R1
  have A2 := ok_u2m (P := P) (w := w) (base := base) (C1 := C1) (k := 0) b1 T S.R2 D_divided D_multiplied
  refine ⟨S.R1.cl, S.R2.cl, ⟨_, _, _, _, a3, b3, kb_Rests_product_of a1, kb_Roots_product_of b1, fnsub A1 ?_, fnsub A2 ?_⟩, fun H a g h => h.lk (by decide) (by decide) (by decide) (by decide)⟩
  all_goals
    rintro vs H Q E ⟨a, g, x, y, u, w, k, l, e1, hG, hk, ok, hx, hy, k4, l4, q⟩
    exact ⟨a, g, x, y, u, w, e1, hG, hk, ok, hx.1, hy.1, hx.2.1, hy.2.1, hx.bw k4, hy.bw l4, fun v H' sm hv => q v H' sm ⟨hv, nm_mul ok hx.2.1 hy.2.1, (bb_mul ok hx.2.1 hy.2.1 hx.2.2 hy.2.2).up (p2_mul k l)⟩⟩
theorem kb_Rests_root_at {f : Addr} {fd : FuncData} (F : Fun K "root_at" "Rests.root_at" s_Rests_root_at f fd) : KBinds K fd P_Rests_root_at ["power", "length"] (fun us ws => gSf 2 [1, 0] us ws) (fun vs zs => gSf 2 [1, 0] vs zs) := kbs F 2 [1, 0] (by nofun) fun _ _ _ _ _ _ us ws hu hw => match us, ws, hu, hw with
  | [u], [w0, w1], _, _ => rfl
theorem kb_Roots_root_at {f : Addr} {fd : FuncData} (F : Fun K "root_at" "Roots.root_at" s_Roots_root_at f fd) : KBinds K fd P_Rests_root_at ["power", "length"] (fun us ws => gSf 2 [1, 0] us ws) (fun vs zs => gSf 2 [1, 0] vs zs) := kbs F 2 [1, 0] (by nofun) fun _ _ _ _ _ _ us ws hu hw => match us, ws, hu, hw with
  | [u], [w0, w1], _, _ => rfl
theorem muk_root {CT CB C1 C2 CR CS CI fI : Addr} {fdI : FuncData} {f1 f2 : Addr} {d1 d2 : FuncData} (T : Blt mg) (S : G16 K mg CT CB C1 C2 CR CS CI fI fdI) (D_divided : Df K mg "divided" s_divided P_divided f1 d1) (D_power_rest : Df K mg "power_rest" s_power_rest P_power_rest f2 d2) : MthUK P w K mg base CX0 3 C1 C2 "root_at" P_Rests_root_at ["power", "length"] 2 [1, 0] (spKr K C1 C2) := by
  obtain ⟨_, _, h1, h2, h3⟩ := S.h1
  obtain ⟨_, _, r1, r2, r3⟩ := S.r1
  obtain ⟨_, _, i1, i2, i3⟩ := S.h2
  obtain ⟨_, _, t1, t2, t3⟩ := S.r2
  have Rt1 := ok_u1r (P := P) (w := w) (base := base) (C2 := C2) (k := 0) r1 S.R1 h3 h2 h1 D_power_rest S.F S.b S.ty S.RR S.mr
  have Rt2 := ok_u2r (P := P) (w := w) (base := base) (C1 := C1) (k := 0) t1 T S.R2 i1 i2 i3 D_divided S.F S.b S.ty S.RR S.mr
  refine ⟨S.R1.cl, S.R2.cl, ⟨_, _, _, _, r3, t3, kb_Rests_root_at r1, kb_Roots_root_at t1, fnsub (fnNo Rt1) ?_, fnsub (fnNo Rt2) ?_⟩, fun H a g h => h.lk (by decide) (by decide) (by decide) (by decide)⟩
  all_goals
    rintro vs H Q E ⟨a, g, L, e, q, e1, hG, hk, ok, hq, L1, L2', hd, nx⟩
    have i0 := Int.emod_nonneg e (show (L : Int) ≠ 0 by omega)
    have i1 := Int.emod_lt_of_pos e (show (0 : Int) < L by omega)
    exact ⟨a, g, L, e, e1, hG, hk, ok, L1, L2', fun _ v q' H' hq' sm hv => nx v H' sm ⟨by rw [← hq'.un hq]; exact hv, nm_rt ok, bb_rtw ok L1 hd (by omega)⟩, fun z => absurd hd z⟩
/-! shared_by, where the worth is so many times another -/
theorem kb_Rests_shared_by {f : Addr} {fd : FuncData} (F : Fun K "shared_by" "Rests.shared_by" s_Rests_shared_by f fd) : KBinds K fd P_Rests_shared_by ["number", "worth"] (fun us ws => gSf 2 [1, 0] us ws) (fun vs zs => gSf 2 [1, 0] vs zs) := kbs F 2 [1, 0] (by nofun) fun _ _ _ _ _ _ us ws hu hw => match us, ws, hu, hw with
  | [u], [w0, w1], _, _ => rfl
theorem kb_Roots_shared_by {f : Addr} {fd : FuncData} (F : Fun K "shared_by" "Roots.shared_by" s_Roots_shared_by f fd) : KBinds K fd P_Rests_shared_by ["number", "worth"] (fun us ws => gSf 2 [1, 0] us ws) (fun vs zs => gSf 2 [1, 0] vs zs) := kbs F 2 [1, 0] (by nofun) fun _ _ _ _ _ _ us ws hu hw => match us, ws, hu, hw with
  | [u], [w0, w1], _, _ => rfl
theorem muk_share {CT CB C1 C2 CR CS CI fI : Addr} {fdI : FuncData} {f1 : Addr} {d1 : FuncData} (T : Blt mg) (S : G16 K mg CT CB C1 C2 CR CS CI fI fdI) (D_inverse : Df K mg "inverse" s_inverse P_inverse f1 d1) : MthUK P w K mg base CX0 4 C1 C2 "shared_by" P_Rests_shared_by ["number", "worth"] 2 [1, 0] (spKs K C1 C2) := by
  obtain ⟨_, _, s1, s2, s3⟩ := S.s1
  obtain ⟨_, _, u1, u2, u3⟩ := S.s2
  have Sh1 := ok_u1s (P := P) (w := w) (base := base) (C2 := C2) (k := 0) s1 S.R1 D_inverse S.F S.b S.ty S.RI S.mi S.RS S.ms
  have Sh2 := ok_u2s (P := P) (w := w) (base := base) (C1 := C1) (C2 := C2) (k := 1) u1 T S.F S.b S.ty S.RS S.ms
  refine ⟨S.R1.cl, S.R2.cl, ⟨_, _, _, _, s3, u3, kb_Rests_shared_by s1, kb_Roots_shared_by u1, fnsub (fnNo Sh1) ?_, fnsub (fnNo Sh2) ?_⟩, fun H a g h => h.lk (by decide) (by decide) (by decide) (by decide)⟩
  all_goals
    rintro vs H Q E ⟨a, g, x, u, w, m, k, l, e1, hG, hk, ok, hx, nw, bw', m1, m2, eu, hn, nx⟩
    refine ⟨a, g, x, u, m, e1, hG, hk, ok, hx.1, hx.2.1, m1, m2, fun _ v w' H' hs sm hv => ?_, fun z => absurd ?_ z⟩
    · rw [eu] at hs
      have := gsh_any ok nw m1 hn hs
      subst this
      exact nx v H' sm ⟨hv, nw, bw'⟩
    · rw [eu]
      rcases wr g ok nw with ⟨p, x, rfl, rfl, x0, x1, p2, _⟩ | ⟨n, xs, rfl, rfl, l, w1⟩
      · intro z
        exact hn (by
          show Wt.i (m % p) = .i (0 % p)
          rw [z, Int.zero_emod])
      · rw [scW_v ok l]
        intro x hx
        obtain ⟨y, _, rfl⟩ := List.mem_map.mp hx
        exact Int.mul_emod_left y m
theorem kb_Rests_worth_of {f : Addr} {fd : FuncData} (F : Fun K "worth_of" "Rests.worth_of" s_Rests_worth_of f fd) : KBinds K fd P_Rests_worth_of ["number"] (fun us ws => gSf 1 [0] us ws) (fun vs zs => gSf 1 [0] vs zs) := kbs F 1 [0] (by nofun) fun _ _ _ _ _ _ us ws hu hw => match us, ws, hu, hw with
  | [u], [w0], _, _ => rfl
theorem kb_Roots_worth_of {f : Addr} {fd : FuncData} (F : Fun K "worth_of" "Roots.worth_of" s_Roots_worth_of f fd) : KBinds K fd P_Rests_worth_of ["number"] (fun us ws => gSf 1 [0] us ws) (fun vs zs => gSf 1 [0] vs zs) := kbs F 1 [0] (by nofun) fun _ _ _ _ _ _ us ws hu hw => match us, ws, hu, hw with
  | [u], [w0], _, _ => rfl
theorem muk_wof {CT CB C1 C2 CR CS CI fI : Addr} {fdI : FuncData} {f1 : Addr} {d1 : FuncData} (T : Blt mg) (S : G16 K mg CT CB C1 C2 CR CS CI fI fdI) (X : GX K C1 C2) (D_divided : Df K mg "divided" s_divided P_divided f1 d1) : MthUK P w K mg base CX0 2 C1 C2 "worth_of" P_Rests_worth_of ["number"] 1 [0] (spKw K C1 C2) := by
  obtain ⟨_, _, a1, a2, a3⟩ := X.w1
  obtain ⟨_, _, b1, b2, b3⟩ := X.w2
  have A1 := ok_wof (P := P) (w := w) (mg := mg) (base := base) (k := 1) a1 S.R1
  have A2 := ok_worO (P := P) (w := w) (base := base) (k := 0) b1 T S.R2 D_divided
  refine ⟨S.R1.cl, S.R2.cl, ⟨_, _, _, _, a3, b3, kb_Rests_worth_of a1, kb_Roots_worth_of b1, fnsub A1 ?_, fnsub A2 ?_⟩, fun H a g h => h.lk (by decide) (by decide) (by decide) (by decide)⟩
  · rintro vs H Q E ⟨a, g, x, e1, hG, hk, ok, hx, q⟩
    cases g with
    | roots n => cases hk
    | rests p =>
      have pb := prs_b ok
      exact ⟨a, p, x, e1, hG, by omega, q _ _ (Same.refl _) ⟨rfl, nm_gw ok, bb_gw hx⟩⟩
  · rintro vs H Q E ⟨a, g, x, e1, hG, hk, ok, hx, q⟩
    cases g with
    | rests p => cases hk
    | roots n => exact ⟨a, n, x, e1, hG, ok.1, ok.2, fun p H' hp sm hq => q _ _ sm ⟨⟨p, rfl, SqT.of hq⟩, nm_gw ok, bb_gw hx⟩⟩
theorem kb_Rests_is_worth {f : Addr} {fd : FuncData} (F : Fun K "is_worth" "Rests.is_worth" s_Rests_is_worth f fd) : KBinds K fd P_Rests_is_worth ["thing"] (fun us ws => gSf 1 [0] us ws) (fun vs zs => gSf 1 [0] vs zs) := kbs F 1 [0] (by nofun) fun _ _ _ _ _ _ us ws hu hw => match us, ws, hu, hw with
  | [u], [w0], _, _ => rfl
theorem kb_Roots_is_worth {f : Addr} {fd : FuncData} (F : Fun K "is_worth" "Roots.is_worth" s_Roots_is_worth f fd) : KBinds K fd P_Rests_is_worth ["thing"] (fun us ws => gSf 1 [0] us ws) (fun vs zs => gSf 1 [0] vs zs) := kbs F 1 [0] (by nofun) fun _ _ _ _ _ _ us ws hu hw => match us, ws, hu, hw with
  | [u], [w0], _, _ => rfl
theorem muk_isw {CT CB C1 C2 CR CS CI fI : Addr} {fdI : FuncData} {f1 : Addr} {d1 : FuncData} (T : Blt mg) (S : G16 K mg CT CB C1 C2 CR CS CI fI fdI) (X : GX K C1 C2) (D_is_whole : Df K mg "is_whole" s_is_whole P_is_whole f1 d1) : MthUK P w K mg base CX0 2 C1 C2 "is_worth" P_Rests_is_worth ["thing"] 1 [0] (spKi K C1 C2) := by
  obtain ⟨_, _, a1, a2, a3⟩ := X.i1
  obtain ⟨_, _, b1, b2, b3⟩ := X.i2
  have A1 := ok_isw (P := P) (w := w) (base := base) (k := 0) a1 T S.R1 D_is_whole
  have A2 := ok_isW (P := P) (w := w) (base := base) (k := 0) b1 T S.R2 D_is_whole
  refine ⟨S.R1.cl, S.R2.cl, ⟨_, _, _, _, a3, b3, kb_Rests_is_worth a1, kb_Roots_is_worth b1, fnsub A1 ?_, fnsub A2 ?_⟩, fun H a g h => h.lk (by decide) (by decide) (by decide) (by decide)⟩
  · rintro vs H Q E ⟨a, g, x, u, k, e1, hG, hk, ok, hx, q⟩
    rcases wr g ok hx.2.1 with ⟨p, x', rfl, rfl, x0, x1, p2, p4⟩ | ⟨n, xs, rfl, rfl, lx, w1⟩
    · have ex : x = .int x' := hx.1
      refine ⟨a, p, x, _, e1, hG, ex ▸ Kd.int x', fun i ei => ?_, fun z => absurd ex (z x')⟩
      have : i = x' := V.int.inj (ei.symm.trans ex)
      subst this
      rw [decide_eq_true x0, decide_eq_true x1]
      exact q _ (Same.refl _)
    · cases hk
  · rintro vs H Q E ⟨a, g, x, u, k, e1, hG, hk, ok, hx, q⟩
    rcases wr g ok hx.2.1 with ⟨p, x', rfl, rfl, x0, x1, p2, p4⟩ | ⟨n, xs, rfl, rfl, lx, w1⟩
    · cases hk
    · have w30 := (wl1 ok.1 ok.2).2
      refine ⟨a, n, x, _, e1, hG, ok.1, ok.2, hx.1.dp, fun ds e => ?_, fun H' sm => ?_⟩
      · cases e
        rw [List.length_map]
        omega
      · have : isW ((whl n).length - 1) (wD (.v xs)) = true := by
          show (decide ((xs.map PyData.int).length = wl n) && (xs.map PyData.int).all intD) = true
          rw [List.length_map, decide_eq_true lx, Bool.true_and, List.all_eq_true]
          intro d hd
          obtain ⟨y, _, rfl⟩ := List.mem_map.mp hd
          rfl
        rw [this]
        exact q _ sm
end
/-! ### == and != of worths, of rows -/
theorem scW_one {g : Gk} {u : Wt} (h : GkOk g) (hu : nm g u) : u = scW g 1 u := by
  rcases wr g h hu with ⟨p, x, rfl, rfl, x0, x1, p2, _⟩ | ⟨n, xs, rfl, rfl, l, w1⟩
  · show Wt.i x = Wt.i (x * (1 % p) % p)
    have h1 : 1 % p = 1 := Int.emod_eq_of_lt (by decide) (by omega)
    rw [h1, Int.mul_one, Int.emod_eq_of_lt x0 x1]
  · rw [scW_v h l]
    have : xs.map (· * 1) = xs := by
      conv => rhs; rw [← List.map_id xs]
      exact List.map_congr_left fun x _ => Int.mul_one x
    rw [this]
theorem gw_one {g : Gk} (h : GkOk g) : gw g 1 ≠ gw g 0 := by
  cases g with
  | rests p =>
    have pb := prs_b h
    intro e
    have e2 : Wt.i (1 % p) = Wt.i (0 % p) := e
    injection e2 with e3
    rw [Int.emod_eq_of_lt (by decide) (by omega), Int.zero_emod] at e3
    exact absurd e3 (by decide)
  | roots n =>
    intro e
    have e2 : Wt.v (1 :: _) = Wt.v (0 :: _) := e
    injection e2 with e3
    injection e3 with e4
    exact absurd e4 (by decide)
def byD (g : Gk) (q : Int) (u w : Wt) (L : Nat) : List PyData := [.bool true, .bool true, wD (gw g 77), wD (gadd g u w), wD (gadd g u (gneg g w)), wD (gmul g u w), wD (rtW g q L (5 % (L : Int)).toNat), wD u, .str (gTxt g), .str (gTxt g)]
def spBy (K : PySem.W.Frag) (C1 C2 : Addr) : Sp := fun vs H Q _ => ∃ (a l : Addr) (g : Gk) (q : Int) (x y : V) (u w : Wt) (L : Nat), vs = [.ref a, .ref l, .int (L : Int)] ∧ GrAt C1 C2 H a g ∧ GkOk g ∧ LgOk g q ∧ SqL K H l [x, y] ∧ Wk K H g x u 50 ∧ Wk K H g y w 50 ∧ 1 ≤ L ∧ L ≤ 1000 ∧ numM g % (L : Int) = 0 ∧
  ∀ p vs' H', Same H H' → H' p = some (.lst vs') → DpAll K H' vs' (byD g q u w L) → Q (.ref p) H'
abbrev s__law_by_places : Stmt := top 27
abbrev N__law_by_places : List Str := ["_law_ground", "_law_some", "_law_long", "_law_found"]
abbrev P__law_by_places : List Str := ["_law_ground", "_law_some", "_law_long"]
theorem sc__law_by_places : FnScope N__law_by_places P__law_by_places (defScope s__law_by_places) := ⟨rfl, rfl, rfl, by decide +kernel, rfl, by decide +kernel, by decide +kernel⟩
section
variable {P : Program} {w : World} {K : PySem.W.Frag} {mg : Str → Option Value} {base : Heap}
theorem ok_by_places {C1 C2 f : Addr} {fd : FuncData} (F : Fun K "_law_by_places" "_law_by_places" s__law_by_places f fd) (T : Blt mg) (OU : OwnU P w K mg base C1 C2) (MU_has_root : MthU P w K mg base CX0 1 C1 C2 "has_root" P_Rests_has_root (spUh K C1 C2)) (MU_is_worth : MthU P w K mg base CX0 2 C1 C2 "is_worth" P_Rests_is_worth (spKi K C1 C2)) (MU_worth_of : MthU P w K mg base CX0 2 C1 C2 "worth_of" P_Rests_worth_of (spKw K C1 C2)) (MU_sum_of : MthU P w K mg base CX0 1 C1 C2 "sum_of" P_Rests_sum_of (spKa K C1 C2)) (MU_gap_of : MthU P w K mg base CX0 1 C1 C2 "gap_of" P_Rests_gap_of (spKg K C1 C2)) (MU_product_of : MthU P w K mg base CX0 2 C1 C2 "product_of" P_Rests_product_of (spKm K C1 C2)) (MU_root_at : MthU P w K mg base CX0 3 C1 C2 "root_at" P_Rests_root_at (spKr K C1 C2)) (MU_shared_by : MthU P w K mg base CX0 4 C1 C2 "shared_by" P_Rests_shared_by (spKs K C1 C2)) : FnOk P w K mg base CX0 5 f fd P__law_by_places (spBy K C1 C2) := by
  have nd := sc__law_by_places.nd
  refine F.ok sc__law_by_places (fun vs H Q E h => ?_) (fun cdv A outer s H vs Q E hr h => ?_)
  · obtain ⟨a, l, g, q0, x, y, u, w, L, rfl, _⟩ := h
    rfl
  · obtain ⟨a, l, g, q0, x, y, u, w, L, rfl, hG, hok, hq, hl, hx, hy, L1, L2, hd, q⟩ := h
    refine ⟨_, (pss_cons (ps_set (i := 3) nd rfl (Or.inl rfl) (pe_lst (pa_cons (pe_methU (pv 0) MU_has_root (hr.mono (by omega)) pass0 (pa_cons (pv 2) pa_nil)) (pa_cons (pe_methU (pv 0) MU_is_worth (hr.mono (by omega)) pass0 (pa_cons (pe_ix (r := rIxL K) ix_list (pv 1) (pe_int) (fun _ _ => rfl)) pa_nil)) (pa_cons (pe_methU (pv 0) MU_worth_of (hr.mono (by omega)) pass0 (pa_cons (pe_int) pa_nil)) (pa_cons (pe_methU (pv 0) MU_sum_of (hr.mono (by omega)) pass0 (pa_cons (pe_ix (r := rIxL K) ix_list (pv 1) (pe_int) (fun _ _ => rfl)) (pa_cons (pe_ix (r := rIxL K) ix_list (pv 1) (pe_int) (fun _ _ => rfl)) pa_nil))) pa_nil))))))
      (pss_cons (ps_set (i := 3) nd rfl (Or.inl rfl) (pe_op op_cat (pv 3) (pe_lst (pa_cons (pe_methU (pv 0) MU_gap_of (hr.mono (by omega)) pass0 (pa_cons (pe_ix (r := rIxL K) ix_list (pv 1) (pe_int) (fun _ _ => rfl)) (pa_cons (pe_ix (r := rIxL K) ix_list (pv 1) (pe_int) (fun _ _ => rfl)) pa_nil))) (pa_cons (pe_methU (pv 0) MU_product_of (hr.mono (by omega)) pass0 (pa_cons (pe_ix (r := rIxL K) ix_list (pv 1) (pe_int) (fun _ _ => rfl)) (pa_cons (pe_ix (r := rIxL K) ix_list (pv 1) (pe_int) (fun _ _ => rfl)) pa_nil))) (pa_cons (pe_methU (pv 0) MU_root_at (hr.mono (by omega)) pass0 (pa_cons (pv 2) (pa_cons (pe_int) pa_nil))) pa_nil))))))
      (pss_one (ps_ret (pe_op op_cat (pv 3) (pe_lst (pa_cons (pe_methU (pv 0) MU_shared_by (hr.mono (by omega)) pass0 (pa_cons (pe_methU (pv 0) MU_product_of (hr.mono (by omega)) pass0 (pa_cons (pe_ix (r := rIxL K) ix_list (pv 1) (pe_int) (fun _ _ => rfl)) (pa_cons (pe_methU (pv 0) MU_worth_of (hr.mono (by omega)) pass0 (pa_cons (pe_int) pa_nil)) pa_nil))) (pa_cons (pe_int) pa_nil))) (pa_cons (pe_callTy (r := rStU C1 C2) (call_stU OU (hr.mono (by omega))) (by rfl) T.b_str (by decide +kernel) (pa_cons (pv 0) pa_nil)) (pa_cons (pe_callB (r := rStU C1 C2) (call_reU OU (hr.mono (by omega))) (by rfl) T.b_repr (by decide +kernel) (pa_cons (pv 0) pa_nil)) pa_nil))))))))), ?_⟩
    have b77 : (77 : Int).natAbs ≤ 1125899906842624 := by decide
    have b1 : (1 : Int).natAbs ≤ 1125899906842624 := by decide
    have k50 : (50 : Nat) < 9000 := by decide
    have nu := hx.2.1
    have bu : BB (2 ^ 50) u := hx.2.2
    have g1 := gw_one hok
    have i1 : (1 : Int) ≤ 1 := by decide
    have i2 : (1 : Int) ≤ 1000 := by decide
    walk_at "ev"
    intro H1 s1
    have hG1 := hG.same s1
    have hx1 := hx.same s1
    have hy1 := hy.same s1
    have hl1 := s1.seq hl
    walk_at "ev"
    intro v3 H2 s2 cv3
    have hG2 := hG1.same s2
    have hx2 := hx1.same s2
    have hy2 := hy1.same s2
    have hl2 := s2.seq hl1
    walk_at "ev"
    intro v4 H3 s3 cv4
    have hG3 := hG2.same s3
    have hx3 := hx2.same s3
    have hy3 := hy2.same s3
    have hl3 := s3.seq hl2
    walk_at "ev"
    rw [decide_eq_true hd]
    intro p1 ep1
    have s4 := same_new (o := .lst [.bl true, .bl true, v3, v4]) ep1
    have qp1_4 : upd H3 p1 (.lst [.bl true, .bl true, v3, v4]) p1 = some (.lst [.bl true, .bl true, v3, v4]) := upd_same
    generalize upd H3 p1 (.lst [.bl true, .bl true, v3, v4]) = H4 at s4 qp1_4 ⊢

    have hG4 := hG3.same s4
    have hx4 := hx3.same s4
    have hy4 := hy3.same s4
    have hl4 := s4.seq hl3
    walk_at "ev"
    intro v5 H5 s5 cv5
    have hG5 := hG4.same s5
    have hx5 := hx4.same s5
    have hy5 := hy4.same s5
    have hl5 := s5.seq hl4
    have qp1_5 := s5 _ _ qp1_4
    walk_at "ev"
    intro v6 H6 s6 cv6
    have hG6 := hG5.same s6
    have hx6 := hx5.same s6
    have hy6 := hy5.same s6
    have hl6 := s6.seq hl5
    have qp1_6 := s6 _ _ qp1_5
    walk_at "ev"
    intro v7 H7 s7 cv7
    have hG7 := hG6.same s7
    have hx7 := hx6.same s7
    have hy7 := hy6.same s7
    have hl7 := s7.seq hl6
    have qp1_7 := s7 _ _ qp1_6
    walk_at "ev"
    intro p2 ep2
    have s8 := same_new (o := .lst [v5, v6, v7]) ep2
    have qp2_8 : upd H7 p2 (.lst [v5, v6, v7]) p2 = some (.lst [v5, v6, v7]) := upd_same
    generalize upd H7 p2 (.lst [v5, v6, v7]) = H8 at s8 qp2_8 ⊢

    have hG8 := hG7.same s8
    have hx8 := hx7.same s8
    have hy8 := hy7.same s8
    have hl8 := s8.seq hl7
    have qp1_8 := s8 _ _ qp1_7
    walk_at "ev"
    intro p3 ep3
    have s9 := same_new (o := .lst ([.bl true, .bl true, v3, v4] ++ [v5, v6, v7])) ep3
    have qp3_9 : upd H8 p3 (.lst ([.bl true, .bl true, v3, v4] ++ [v5, v6, v7])) p3 = some (.lst ([.bl true, .bl true, v3, v4] ++ [v5, v6, v7])) := upd_same
    generalize upd H8 p3 (.lst ([.bl true, .bl true, v3, v4] ++ [v5, v6, v7])) = H9 at s9 qp3_9 ⊢

    have hG9 := hG8.same s9
    have hx9 := hx8.same s9
    have hy9 := hy8.same s9
    have hl9 := s9.seq hl8
    have qp1_9 := s9 _ _ qp1_8
    have qp2_9 := s9 _ _ qp2_8
    walk_at "ev"
    intro w1 H10 s10 cw1
    have hG10 := hG9.same s10
    have hx10 := hx9.same s10
    have hy10 := hy9.same s10
    have hl10 := s10.seq hl9
    have qp1_10 := s10 _ _ qp1_9
    have qp2_10 := s10 _ _ qp2_9
    have qp3_10 := s10 _ _ qp3_9
    have eu : gmul g u (gw g 1) = scW g 1 u := rfl
    walk_at "ev"
    intro w2 H11 s11 cw2
    have hG11 := hG10.same s11
    have hx11 := hx10.same s11
    have hy11 := hy10.same s11
    have hl11 := s11.seq hl10
    have qp1_11 := s11 _ _ qp1_10
    have qp2_11 := s11 _ _ qp2_10
    have qp3_11 := s11 _ _ qp3_10
    walk_at "ev"
    intro v8 H12 s12 cv8
    have hG12 := hG11.same s12
    have hx12 := hx11.same s12
    have hy12 := hy11.same s12
    have hl12 := s12.seq hl11
    have qp1_12 := s12 _ _ qp1_11
    have qp2_12 := s12 _ _ qp2_11
    have qp3_12 := s12 _ _ qp3_11
    walk_at "ev"
    intro p5 ep5
    have s13 := same_new (o := .lst [v8, .str (gTxt g), .str (gTxt g)]) ep5
    have qp5_13 : upd H12 p5 (.lst [v8, .str (gTxt g), .str (gTxt g)]) p5 = some (.lst [v8, .str (gTxt g), .str (gTxt g)]) := upd_same
    generalize upd H12 p5 (.lst [v8, .str (gTxt g), .str (gTxt g)]) = H13 at s13 qp5_13 ⊢

    have hG13 := hG12.same s13
    have hx13 := hx12.same s13
    have hy13 := hy12.same s13
    have hl13 := s13.seq hl12
    have qp1_13 := s13 _ _ qp1_12
    have qp2_13 := s13 _ _ qp2_12
    have qp3_13 := s13 _ _ qp3_12
    walk_at "ev"
    intro p9 e9
    have t13 := same_new (o := .lst ([.bl true, .bl true, v3, v4] ++ [v5, v6, v7] ++ [v8, .str (gTxt g), .str (gTxt g)])) e9
    have t12 := s13.trans t13
    have t11 := s12.trans t12
    have t10 := s11.trans t11
    have t9 := s10.trans t10
    have t8 := s9.trans t9
    have t7 := s8.trans t8
    have t6 := s7.trans t7
    have t5 := s6.trans t6
    have t4 := s5.trans t5
    have t3 := s4.trans t4
    have t2 := s3.trans t3
    have t1 := s2.trans t2
    have t0 := s1.trans t1
    exact q p9 _ _ t0 upd_same (.cons (.bl _) (.cons (.bl _) (.cons (cv3.1.same t2).dp (.cons (cv4.1.same t3).dp (.cons (cv5.1.same t5).dp (.cons (cv6.1.same t6).dp (.cons (cv7.1.same t7).dp (.cons (cv8.1.same t12).dp (.cons (.str _) (.cons (.str _) .nil))))))))))
end
abbrev s__law_by_names : Stmt := top 28
abbrev N__law_by_names : List Str := ["_law_ground", "_law_some", "_law_long", "_law_found"]
abbrev P__law_by_names : List Str := ["_law_ground", "_law_some", "_law_long"]
theorem sc__law_by_names : FnScope N__law_by_names P__law_by_names (defScope s__law_by_names) := ⟨rfl, rfl, rfl, by decide +kernel, rfl, by decide +kernel, by decide +kernel⟩
section
variable {P : Program} {w : World} {K : PySem.W.Frag} {mg : Str → Option Value} {base : Heap}
theorem ok_by_names {C1 C2 f : Addr} {fd : FuncData} (F : Fun K "_law_by_names" "_law_by_names" s__law_by_names f fd) (T : Blt mg) (OU : OwnU P w K mg base C1 C2) (MUK_has_root : MthUK P w K mg base CX0 1 C1 C2 "has_root" P_Rests_has_root ["length"] 1 [0] (spUh K C1 C2)) (MUK_is_worth : MthUK P w K mg base CX0 2 C1 C2 "is_worth" P_Rests_is_worth ["thing"] 1 [0] (spKi K C1 C2)) (MUK_worth_of : MthUK P w K mg base CX0 2 C1 C2 "worth_of" P_Rests_worth_of ["number"] 1 [0] (spKw K C1 C2)) (MUK_sum_of : MthUK P w K mg base CX0 1 C1 C2 "sum_of" P_Rests_sum_of ["other", "one"] 2 [1, 0] (spKa K C1 C2)) (MUK_gap_of : MthUK P w K mg base CX0 1 C1 C2 "gap_of" P_Rests_gap_of ["other", "one"] 2 [1, 0] (spKg K C1 C2)) (MUK_product_of : MthUK P w K mg base CX0 2 C1 C2 "product_of" P_Rests_product_of ["other", "one"] 2 [1, 0] (spKm K C1 C2)) (MUK_root_at : MthUK P w K mg base CX0 3 C1 C2 "root_at" P_Rests_root_at ["power", "length"] 2 [1, 0] (spKr K C1 C2)) (MUK_shared_by : MthUK P w K mg base CX0 4 C1 C2 "shared_by" P_Rests_shared_by ["number", "worth"] 2 [1, 0] (spKs K C1 C2)) : FnOk P w K mg base CX0 5 f fd P__law_by_names (spBy K C1 C2) := by
  have nd := sc__law_by_names.nd
  refine F.ok sc__law_by_names (fun vs H Q E h => ?_) (fun cdv A outer s H vs Q E hr h => ?_)
  · obtain ⟨a, l, g, q0, x, y, u, w, L, rfl, _⟩ := h
    rfl
  · obtain ⟨a, l, g, q0, x, y, u, w, L, rfl, hG, hok, hq, hl, hx, hy, L1, L2, hd, q⟩ := h
    refine ⟨_, (pss_cons (ps_set (i := 3) nd rfl (Or.inl rfl) (pe_lst (pa_cons (pe_methUK0 (pv 0) MUK_has_root (hr.mono (by omega)) pass0 (pk_cons (pv 2) pk_nil)) (pa_cons (pe_methUK0 (pv 0) MUK_is_worth (hr.mono (by omega)) pass0 (pk_cons (pe_ix (r := rIxL K) ix_list (pv 1) (pe_int) (fun _ _ => rfl)) pk_nil)) (pa_cons (pe_methUK0 (pv 0) MUK_worth_of (hr.mono (by omega)) pass0 (pk_cons (pe_int) pk_nil)) pa_nil)))))
      (pss_cons (ps_set (i := 3) nd rfl (Or.inl rfl) (pe_op op_cat (pv 3) (pe_lst (pa_cons (pe_methUK0 (pv 0) MUK_sum_of (hr.mono (by omega)) pass0 (pk_cons (pe_ix (r := rIxL K) ix_list (pv 1) (pe_int) (fun _ _ => rfl)) (pk_cons (pe_ix (r := rIxL K) ix_list (pv 1) (pe_int) (fun _ _ => rfl)) pk_nil))) (pa_cons (pe_methUK0 (pv 0) MUK_gap_of (hr.mono (by omega)) pass0 (pk_cons (pe_ix (r := rIxL K) ix_list (pv 1) (pe_int) (fun _ _ => rfl)) (pk_cons (pe_ix (r := rIxL K) ix_list (pv 1) (pe_int) (fun _ _ => rfl)) pk_nil))) pa_nil)))))
      (pss_cons (ps_set (i := 3) nd rfl (Or.inl rfl) (pe_op op_cat (pv 3) (pe_lst (pa_cons (pe_methUK0 (pv 0) MUK_product_of (hr.mono (by omega)) pass0 (pk_cons (pe_ix (r := rIxL K) ix_list (pv 1) (pe_int) (fun _ _ => rfl)) (pk_cons (pe_ix (r := rIxL K) ix_list (pv 1) (pe_int) (fun _ _ => rfl)) pk_nil))) (pa_cons (pe_methUK0 (pv 0) MUK_root_at (hr.mono (by omega)) pass0 (pk_cons (pe_int) (pk_cons (pv 2) pk_nil))) pa_nil)))))
      (pss_one (ps_ret (pe_op op_cat (pv 3) (pe_lst (pa_cons (pe_methUK0 (pv 0) MUK_shared_by (hr.mono (by omega)) pass0 (pk_cons (pe_int) (pk_cons (pe_ix (r := rIxL K) ix_list (pv 1) (pe_int) (fun _ _ => rfl)) pk_nil))) (pa_cons (pe_callTy (r := rStU C1 C2) (call_stU OU (hr.mono (by omega))) (by rfl) T.b_str (by decide +kernel) (pa_cons (pv 0) pa_nil)) (pa_cons (pe_callB (r := rStU C1 C2) (call_reU OU (hr.mono (by omega))) (by rfl) T.b_repr (by decide +kernel) (pa_cons (pv 0) pa_nil)) pa_nil)))))))))), ?_⟩
    have b77 : (77 : Int).natAbs ≤ 1125899906842624 := by decide
    have b1 : (1 : Int).natAbs ≤ 1125899906842624 := by decide
    have k50 : (50 : Nat) < 9000 := by decide
    have nu := hx.2.1
    have bu : BB (2 ^ 50) u := hx.2.2
    have g1 := gw_one hok
    have i1 : (1 : Int) ≤ 1 := by decide
    have i2 : (1 : Int) ≤ 1000 := by decide
    walk_at "ev"
    intro H1 s1
    have hG1 := hG.same s1
    have hx1 := hx.same s1
    have hy1 := hy.same s1
    have hl1 := s1.seq hl
    walk_at "ev"
    intro v3 H2 s2 cv3
    have hG2 := hG1.same s2
    have hx2 := hx1.same s2
    have hy2 := hy1.same s2
    have hl2 := s2.seq hl1
    walk_at "ev"
    rw [decide_eq_true hd]
    intro p1 ep1
    have s3 := same_new (o := .lst [.bl true, .bl true, v3]) ep1
    have qp1_3 : upd H2 p1 (.lst [.bl true, .bl true, v3]) p1 = some (.lst [.bl true, .bl true, v3]) := upd_same
    generalize upd H2 p1 (.lst [.bl true, .bl true, v3]) = H3 at s3 qp1_3 ⊢

    have hG3 := hG2.same s3
    have hx3 := hx2.same s3
    have hy3 := hy2.same s3
    have hl3 := s3.seq hl2
    walk_at "ev"
    intro v4 H4 s4 cv4
    have hG4 := hG3.same s4
    have hx4 := hx3.same s4
    have hy4 := hy3.same s4
    have hl4 := s4.seq hl3
    have qp1_4 := s4 _ _ qp1_3
    walk_at "ev"
    intro v5 H5 s5 cv5
    have hG5 := hG4.same s5
    have hx5 := hx4.same s5
    have hy5 := hy4.same s5
    have hl5 := s5.seq hl4
    have qp1_5 := s5 _ _ qp1_4
    walk_at "ev"
    intro p2 ep2
    have s6 := same_new (o := .lst [v4, v5]) ep2
    have qp2_6 : upd H5 p2 (.lst [v4, v5]) p2 = some (.lst [v4, v5]) := upd_same
    generalize upd H5 p2 (.lst [v4, v5]) = H6 at s6 qp2_6 ⊢

    have hG6 := hG5.same s6
    have hx6 := hx5.same s6
    have hy6 := hy5.same s6
    have hl6 := s6.seq hl5
    have qp1_6 := s6 _ _ qp1_5
    walk_at "ev"
    intro p3 ep3
    have s7 := same_new (o := .lst ([.bl true, .bl true, v3] ++ [v4, v5])) ep3
    have qp3_7 : upd H6 p3 (.lst ([.bl true, .bl true, v3] ++ [v4, v5])) p3 = some (.lst ([.bl true, .bl true, v3] ++ [v4, v5])) := upd_same
    generalize upd H6 p3 (.lst ([.bl true, .bl true, v3] ++ [v4, v5])) = H7 at s7 qp3_7 ⊢

    have hG7 := hG6.same s7
    have hx7 := hx6.same s7
    have hy7 := hy6.same s7
    have hl7 := s7.seq hl6
    have qp1_7 := s7 _ _ qp1_6
    have qp2_7 := s7 _ _ qp2_6
    walk_at "ev"
    intro v6 H8 s8 cv6
    have hG8 := hG7.same s8
    have hx8 := hx7.same s8
    have hy8 := hy7.same s8
    have hl8 := s8.seq hl7
    have qp1_8 := s8 _ _ qp1_7
    have qp2_8 := s8 _ _ qp2_7
    have qp3_8 := s8 _ _ qp3_7
    walk_at "ev"
    intro v7 H9 s9 cv7
    have hG9 := hG8.same s9
    have hx9 := hx8.same s9
    have hy9 := hy8.same s9
    have hl9 := s9.seq hl8
    have qp1_9 := s9 _ _ qp1_8
    have qp2_9 := s9 _ _ qp2_8
    have qp3_9 := s9 _ _ qp3_8
    walk_at "ev"
    intro p4 ep4
    have s10 := same_new (o := .lst [v6, v7]) ep4
    have qp4_10 : upd H9 p4 (.lst [v6, v7]) p4 = some (.lst [v6, v7]) := upd_same
    generalize upd H9 p4 (.lst [v6, v7]) = H10 at s10 qp4_10 ⊢

    have hG10 := hG9.same s10
    have hx10 := hx9.same s10
    have hy10 := hy9.same s10
    have hl10 := s10.seq hl9
    have qp1_10 := s10 _ _ qp1_9
    have qp2_10 := s10 _ _ qp2_9
    have qp3_10 := s10 _ _ qp3_9
    walk_at "ev"
    intro p3b ep3b
    have s11 := same_new (o := .lst ([.bl true, .bl true, v3] ++ [v4, v5] ++ [v6, v7])) ep3b
    have qp3b_11 : upd H10 p3b (.lst ([.bl true, .bl true, v3] ++ [v4, v5] ++ [v6, v7])) p3b = some (.lst ([.bl true, .bl true, v3] ++ [v4, v5] ++ [v6, v7])) := upd_same
    generalize upd H10 p3b (.lst ([.bl true, .bl true, v3] ++ [v4, v5] ++ [v6, v7])) = H11 at s11 qp3b_11 ⊢

    have hG11 := hG10.same s11
    have hx11 := hx10.same s11
    have hy11 := hy10.same s11
    have hl11 := s11.seq hl10
    have qp1_11 := s11 _ _ qp1_10
    have qp2_11 := s11 _ _ qp2_10
    have qp3_11 := s11 _ _ qp3_10
    have qp4_11 := s11 _ _ qp4_10
    have eu : u = scW g 1 u := scW_one hok hx.2.1
    walk_at "ev"
    intro v8 H12 s12 cv8
    have hG12 := hG11.same s12
    have hx12 := hx11.same s12
    have hy12 := hy11.same s12
    have hl12 := s12.seq hl11
    have qp1_12 := s12 _ _ qp1_11
    have qp2_12 := s12 _ _ qp2_11
    have qp3_12 := s12 _ _ qp3_11
    have qp4_12 := s12 _ _ qp4_11
    have qp3b_12 := s12 _ _ qp3b_11
    walk_at "ev"
    intro p5 ep5
    have s13 := same_new (o := .lst [v8, .str (gTxt g), .str (gTxt g)]) ep5
    have qp5_13 : upd H12 p5 (.lst [v8, .str (gTxt g), .str (gTxt g)]) p5 = some (.lst [v8, .str (gTxt g), .str (gTxt g)]) := upd_same
    generalize upd H12 p5 (.lst [v8, .str (gTxt g), .str (gTxt g)]) = H13 at s13 qp5_13 ⊢

    have hG13 := hG12.same s13
    have hx13 := hx12.same s13
    have hy13 := hy12.same s13
    have hl13 := s13.seq hl12
    have qp1_13 := s13 _ _ qp1_12
    have qp2_13 := s13 _ _ qp2_12
    have qp3_13 := s13 _ _ qp3_12
    have qp4_13 := s13 _ _ qp4_12
    have qp3b_13 := s13 _ _ qp3b_12
    walk_at "ev"
    intro p9 e9
    have t13 := same_new (o := .lst ([.bl true, .bl true, v3] ++ [v4, v5] ++ [v6, v7] ++ [v8, .str (gTxt g), .str (gTxt g)])) e9
    have t12 := s13.trans t13
    have t11 := s12.trans t12
    have t10 := s11.trans t11
    have t9 := s10.trans t10
    have t8 := s9.trans t9
    have t7 := s8.trans t8
    have t6 := s7.trans t7
    have t5 := s6.trans t6
    have t4 := s5.trans t5
    have t3 := s4.trans t4
    have t2 := s3.trans t3
    have t1 := s2.trans t2
    have t0 := s1.trans t1
    exact q p9 _ _ t0 upd_same (.cons (.bl _) (.cons (.bl _) (.cons (cv3.1.same t2).dp (.cons (cv4.1.same t4).dp (.cons (cv5.1.same t5).dp (.cons (cv6.1.same t8).dp (.cons (cv7.1.same t9).dp (.cons (cv8.1.same t12).dp (.cons (.str _) (.cons (.str _) .nil))))))))))
end
/-! ### except (x, x2, x3) as n -/
theorem fly_keeps3 {base : Heap} {l : List Env} {e : Addr} {Z : Obj → Prop} {h h' : Heap} (f : HandSPX.FlyingZ base l e Z h) (k : ∀ b o, h.get? b = some o → h'.get? b = some o) : HandSPX.FlyingZ base l e Z h' := by
  obtain ⟨k1, k2, k3, ob, vs, T, oT, ts, q1, q2, q3, q4, q5, q6, q7, q8, q9⟩ := f
  exact ⟨fun b o z => k b o (k1 b o z), k2, Heap.FunFrames.of_keeps (fun b o z _ => ⟨o, k b o z, rfl⟩) k3, ob, vs, T, oT, ts, k _ _ q1, q2, q3, q4, q5, q6, k _ _ q7, q8, q9⟩
/-- what 'except x as n: ..' wishes, the exception tracked behind it -/
def wKeep3 (K : PySem.W.Frag) (c c2 c3 : Value) (i : Nat) (ts : Addr → TS) (Wout : WX) (D : Ends) : WX := fun cls d σ H =>
  ∃ b, PySem.W.exmAny K cls [c, c2, c3] = some b ∧ (b = true → ∃ C dd, cls = .ref C ∧ d = some dd ∧ ∀ a, H a = none →
    ts a { nx := fun σ2 H2 => D.nx (σ2.set i none) (upd H2 a (XOb C dd a)), rt := fun _ _ => False, bk := fun _ _ => False, ct := fun _ _ => False } (σ.set i (some (.ref a))) H) ∧ (b = false → Wout cls d σ H)
section
variable {X : Cx} {x x2 x3 n : Str} {c c2 c3 : Value} {i : Nat} {body suite : List Stmt} {b₀ : Stmt} {np np2 np3 tpos pos pos' : Pos} {kk : Nat} {tb : WX → TS} {ts : Addr → TS} {Wout : WX}
theorem ps_try_keep3 (hs : X.stack = X.env :: X.outer) (hf : X.env.frame = some X.env.locals) (hex : X.ex = []) (hN : X.N.Nodup) (hi : X.N[i]? = some n) (hln : X.env.kindOf n = some .local) (hc : Names X x c) (hc2 : Names X x2 c2) (hc3 : Names X x3 c3) (tk : Takes X Wout)
    (hb : ∀ (W : WX) (pn : List (Addr × Obj)) (xe : Value → Shared → Prop), Takes (X.tr pn xe) W → PassesOwn (model X.prog X.w) X.A X.env xe → PSs (X.tr pn xe) body (tb W))
    (hsu : ∀ (a : Addr) (pn : List (Addr × Obj)), PSs (X.suite a pn) (b₀ :: suite) (ts a)) :
    PS X (.Try body [.ExceptHandler (some (.Tuple [.Name x np, .Name x2 np2, .Name x3 np3] kk tpos)) (some n) (b₀ :: suite) pos'] [] [] pos) (fun D σ H => tb (wKeep3 X.K c c2 c3 i ts Wout D) D σ H) := by
  refine ⟨fun pins s σ H D I h => ?_⟩
  have ok := I.ok
  have fr : X.A.frames = some (X.env :: X.outer) := ok.frames.trans (congrArg some hs)
  refine wpAny_Try_except (wpAny_mono ((hb (wKeep3 X.K c c2 c3 i ts Wout D) (X.pn ++ pins) (fun e s1 => wpAny (model X.prog X.w) X.A (noteFrame e X.env)
    (fun _ s2 => wpAny (model X.prog X.w) X.A (setFlight e none) (fun _ s3 => wpAny (model X.prog X.w) X.A (handleBy e X.env [.ExceptHandler (some (.Tuple [.Name x np, .Name x2 np2, .Name x3 np3] kk tpos)) (some n) (b₀ :: suite) pos']) (SP X pins D) X.xe s3) X.xe s2) X.xe s1)
    (fun u s1 fly => ?_) PassesOwn.looking).run [] s σ H D (I.toTry _) h) (fun f s1 q => ?_) (fun _ _ z => z))
  · obtain ⟨a, B, s0, pins1, σ1, H1, cls, d, rfl, J0, nb, up, sky, na, os, ag, b, hm, yes, no⟩ := fly
    have J : Inv X pins σ1 H1 s0 := J0.ofTry ok
    have sky1 : Sky B (X.env :: X.outer) a (Zc cls d) X.env.locals s1.heap := hs ▸ sky
    show wpAny (model X.prog X.w) X.A (noteFrame (.ref a) X.env) _ _ _
    refine Sky.land Zc.steady fr hf sky1 fun g3 fly3 up3 => ?_
    have J3 : Inv X pins σ1 H1 { s1 with heap := g3 } := J.landed nb fly3.1 (up.trans up3) os ag
    obtain ⟨o3, f3, e3, z3, d3⟩ := fly3.there
    have away : a ∉ frs (X.env :: X.outer) := fun hmem => by
      obtain ⟨_, o', e', hnf⟩ := fly3.2.2.1.mem hmem
      cases e3.symm.trans e'
      exact hnf _ d3
    have nL : a ≠ X.env.locals := fun z => away (List.mem_filterMap.mpr ⟨X.env, List.mem_cons_self, hf.trans (congrArg some z.symm)⟩)
    have nF : a ∉ X.fs := fun hmem => by
      obtain ⟨e, he, q⟩ := List.mem_filterMap.mp hmem
      exact away (List.mem_filterMap.mpr ⟨e, List.mem_cons_of_mem _ he, q⟩)
    have nB : B.get? a = none := fly3.2.1
    have n0 : X.s_0.heap.get? a = none := by
      cases e : X.s_0.heap.get? a with
      | none => rfl
      | some o =>
        obtain ⟨o', q⟩ := J.base.there a o e (by rw [hex]; exact fun z => nomatch z)
        have q2 := nb a o' q (by rw [hs]; exact away)
        rw [nB] at q2
        cases q2
    have nP : ∀ p ∈ X.pn ++ pins, p.1 ≠ a := fun p hp z => by
      obtain ⟨q, _⟩ := J.pin p hp
      have q2 := nb p.1 p.2 q (by rw [hs, z]; exact away)
      rw [z, nB] at q2
      cases q2
    have S3 := J3.suite e3 d3 na nL nF
    have lt : PySem.W.Looks (model X.prog X.w) g3 (typeOf (.ref a)) cls := fun A Q E s k q => wpAny_typeOf_ref (k _ _ e3) (by rw [z3.1]; exact q)
    refine wpAny_handleBy_cons (codeAny_handlers_test ?_) (fun q => nomatch q)
    have named : ∀ {y : Str} {yp : Pos} {cy : Value} {Q E : Value → Shared → Prop}, Names X y cy → Q cy { s1 with heap := g3 } → wpAny (model X.prog X.w) (X.A.mark (some (.ref a))) (eval (.Name y yp) X.env) Q E { s1 with heap := g3 } := fun {y yp cy Q E} hc q => by
      rcases hc with ⟨hg, hdb, hm1 | ⟨hm1, hv, hnn⟩⟩
      · exact ld_glob (X := X.suite a ((a, o3) :: (X.pn ++ pins))) S3 hg hm1 q hdb
      · exact ld_blt (X := X.suite a ((a, o3) :: (X.pn ++ pins))) S3 hg hm1 hv q hnn hdb
    refine wpAny_Tuple (wpAny_items_cons (named hc (wpAny_items_cons (named hc2 (wpAny_items_cons (named hc3 (wpAny_items_nil ⟨by size_fits, ?_⟩)))))))
    have kp : ∀ q o, g3.get? q = some o → (g3.push { cls := .type "tuple", data := .seq [c, c2, c3].toArray }).get? q = some o := fun _ _ z => Heap.get?_push_of_some _ z
    have lm := PySem.W.exm_tup3 (M := model X.prog X.w) (J3.kIn.keeps kp) (lt.keeps kp) (Heap.get?_push_size g3 rfl) hm
    have fly5 := fly_keeps3 fly3 kp
    have up5 := up3.trans (Heap.UpToSlots.of_keeps kp)
    refine lm.here ?_
    cases b with
    | true =>
      obtain ⟨C, dd, ec, ed, yes⟩ := yes rfl
      refine codeAny_handlers_suite_as (HandSPX.lands_againZ fly5 fun g4 fly4 up4 => ?_)
      have J4 : Inv X pins σ1 H1 { s1 with heap := g4 } := J.landed nb fly4.1 ((up.trans up5).trans up4) os ag
      obtain ⟨o4, f4, e4, z4, d4⟩ := fly4.there
      refine store_ok (X := X.suite a ((a, o4) :: (X.pn ++ pins))) (v := .ref a) (J4.suite e4 d4 na nL nF) hN hi (.inl hln) rfl (fun s5 S5 => ?_) (.inr hln)
      refine wpAny_mono ((hsu a ((a, o4) :: (X.pn ++ pins))).run [] s5 _ H1 _ S5 (yes a na)) (fun f s6 q6 => ?_) (fun _ _ z => z.elim)
      cases f with
      | next =>
        obtain ⟨σ6, H6, S6, q6⟩ := q6
        refine gone_ok (X := X.suite a ((a, o4) :: (X.pn ++ pins))) (pins := []) S6 hN hi hln fun s7 S7 => ?_
        obtain ⟨e7, n7, _⟩ := S7.pin (a, o4) (List.mem_append_left _ List.mem_cons_self)
        refine ⟨_, _, track (S7.unsuite ok) n0 n7 nL (fun y c' ey z => ?_) nP (xob_ok (C := C) (d := dd) e7 (by rw [← ec, ← ed]; exact z4) d4), q6⟩
        obtain ⟨v, ob, q1, q2⟩ := S7.cell y c' ey
        subst z
        cases e7.symm.trans q1
        cases d4.symm.trans q2
      | brk =>
        obtain ⟨_, _, _, q6⟩ := q6
        exact q6.elim
      | cont =>
        obtain ⟨_, _, _, q6⟩ := q6
        exact q6.elim
      | ret u =>
        obtain ⟨_, _, _, _, _, q6⟩ := q6
        exact q6.elim
    | false =>
      show wpAny _ X.A (handleBy (.ref a) X.env []) _ _ _
      refine wpAny_handleBy_nil ?_
      obtain ⟨k1, k2, k3, ob, fl, T, oT, tl, he, hz, hd, h1, hr⟩ := id fly5
      unfold PySem.passOn
      refine wpAny_bind (wpAny_field he hd h1 ?_)
      rw [if_neg (show ¬ ((Value.ref T == Value.none) = true) from by simp)]
      have fin : wpAny (model X.prog X.w) X.A (setFlight (.ref a) X.env.frame) (fun _ s4 => wpAny (model X.prog X.w) X.A (throw (.ref a) : Sem Flow) (SP X pins D) X.xe s4) X.xe { s1 with heap := g3.push { cls := .type "tuple", data := .seq [c, c2, c3].toArray } } := by
        rw [hf]
        exact HandSPX.setFlight_upZ fly5 fun g4 held4 up4 => wpAny_throw (tk _ _ ⟨a, B, s0, pins, σ1, H1, cls, d, rfl, J, nb, (up.trans up5).trans up4, .inr (.inr (hs ▸ held4)), na, os, ag, no rfl⟩)
      first
        | exact wpAny_bind (wpAny_pure (wpAny_bind fin))
        | exact wpAny_bind fin
  · cases f with
    | next =>
      obtain ⟨σ1, H1, J, q⟩ := q
      exact wpAny_execs_nil ⟨σ1, H1, J.ofTry ok, q⟩
    | brk =>
      obtain ⟨σ1, H1, J, q⟩ := q
      exact ⟨σ1, H1, J.ofTry ok, q⟩
    | cont =>
      obtain ⟨σ1, H1, J, q⟩ := q
      exact ⟨σ1, H1, J.ofTry ok, q⟩
    | ret u =>
      obtain ⟨v, σ1, H1, J, r, q⟩ := q
      exact ⟨v, σ1, H1, J.ofTry ok, r, q⟩
end

/-! ### classes and methods called by names alone -/
def tMakeKS (C : Addr) (n : Nat) (pm : List Nat) (sp : Sp) (E : L2.St → XK) (tk : TA) : TE := fun σ H Q => tk σ H fun zs H1 => zs.length = n ∧ ∀ x dx, H1 x = none → H1 dx = none → dx ≠ x → sp (gSf n pm [.ref x] zs) (upd (upd H1 dx (.own x)) x (.ins C dx [])) (fun v H2 => v = .non ∧ Q (.ref x) H2) (E σ)
def tMethKS (C : Addr) (m : Str) (n : Nat) (pm : List Nat) (sp : Sp) (E : L2.St → XK) (ta : TE) (tk : TA) : TE := fun σ H Q => ta σ H fun x H1 => ∃ a dx fs, x = .ref a ∧ H1 a = some (.ins C dx fs) ∧ fs.lookup m = none ∧ tk σ H1 fun zs H2 => sp (gSf n pm [x] zs) H2 Q (E σ)
section
variable {X : Cx} {CX : CXT} {k n : Nat} {pm : List Nat} {f C : Addr} {fd : FuncData} {ps ks : List Str} {sp : Sp} {E : L2.St → XK} {x m : Str} {p pos apos : Pos} {o : Expr} {kws : List Keyword} {ta : TE} {tk : TA}
theorem passAll {E : XK} (h : Passes CX X E) : ∀ σ : L2.St, PassesAt CX X σ ((fun _ : L2.St => E) σ) := fun σ pins H s e s' => h pins σ H s e s'
theorem pe_makeKS0 (M : Mk X.K C f) (F : FnOk X.prog X.w X.K X.mg X.base CX k f fd ps sp) (hr : Room (k + 1) X.A) (hg : Gl X x) (hm : X.mg x = some (.ref C)) (hb : KBinds X.K fd ps ks (fun us ws => gSf n pm us ws) (fun vs zs => gSf n pm vs zs)) (hx : ∀ σ, PassesAt CX X σ (E σ)) (hkw : PK X kws tk)
    (hall : (backToKw pos (keywordEach kws X.env)).all (·.1.isSome) = true := by rfl) (hks : (backToKw pos (keywordEach kws X.env)).filterMap (·.1) = ks := by rfl) (hdb : (x == ("__debug__" : Str)) = false := by decide)
    (hpl : ((backTo pos (starEach [] X.env)).any (·.1) || (backToKw pos (keywordEach kws X.env)).any (·.1.isNone)) = false := by rfl) :
    PE X (.Call (.Name x p) [] kws pos) (tMakeKS C n pm sp E tk) := by
  refine ⟨fun pins s σ H Q I h => ?_⟩
  refine wpAny_Call_Name_kw (ld_glob I hg hm ?_ hdb)
  refine PySem.W.callWith_KW0 (h₀ := X.base) I.ok.mod.kin M.kp hall ?_ hpl
  refine thn (hkw.run pos pins s σ H _ I h) fun ws s2 ⟨zs, H2, I2, rz, l2, q2⟩ => ⟨I2.kIn, ?_⟩
  rw [hks]
  have hq := q2 (s2.heap.objs.size + 1) s2.heap.objs.size (I2.hok.fresh (Nat.le_succ _)) (I2.hok.fresh (Nat.le_refl _)) (Nat.ne_of_lt (Nat.lt_succ_self _))
  have J := Inv.made (C := C) I2
  have r1 : Vals [V.ref (s2.heap.objs.size + 1)] [Value.ref (s2.heap.objs.size + 1)] := .cons rfl .nil
  have r2 := hb.rel r1 rz
  have hl := r2.length.symm.trans (F.len _ _ _ _ hq)
  refine wpAny_call (make_map (f := f) I2.kIn M.makes M.init (beq_iff_eq.mp M.fn) (codeAny_mono (F.run _ X.stack _ _ ⟨[Value.ref (s2.heap.objs.size + 1)], ks.zip ws⟩ _ _ _ (E σ) (hr.make C [] (ks.zip ws)) (J.env0.make C [] (ks.zip ws)) (hb.to _ [Value.ref (s2.heap.objs.size + 1)] ws J.kIn hl) r2 hq) fun rs s1 q1 => ?_))
  cases rs with
  | error er => exact hx σ pins _ _ er s1 J q1
  | ok fl =>
    cases fl with
    | ret u =>
      obtain ⟨v, H3, I3, rv, ev, q3⟩ := J.after q1
      subst ev
      exact ⟨rv, ⟨V.ref (s2.heap.objs.size + 1), H3, I3, rfl, q3⟩⟩
    | next => exact q1.elim
    | brk => exact q1.elim
    | cont => exact q1.elim
theorem run_fnkSs {pins : List (Addr × Obj)} {σ : L2.St} {H : Hp} {s : Shared} {Q : VK} {us ws : List Value} {vs zs : List V} {g : List Value → List Value → List Value} {gV : List V → List V → List V} (F : FnOk X.prog X.w X.K X.mg X.base CX k f fd ps sp) (hr : Room k X.A) (hb : KBinds X.K fd ps ks g gV) (hx : PassesAt CX X σ (E σ))
    (I : Inv X pins σ H s) (r : Vals vs us) (rz : Vals zs ws) (h : sp (gV vs zs) H Q (E σ)) : wpAny (model X.prog X.w) X.A (call (.ref f) us (ks.zip ws)) (EP X pins σ Q) X.xe s := by
  have r2 := hb.rel r rz
  have hl : (g us ws).length = ps.length := by rw [← r2.length]; exact F.len _ _ _ _ h
  refine wpAny_call (codeAny_mono (F.run X.A X.stack s H ⟨us, ks.zip ws⟩ (g us ws) (gV vs zs) Q (E σ) hr I.env0 (hb.to s us ws I.kIn hl) r2 h) fun r s' hq => ?_)
  cases r with
  | error e => exact hx pins H s e s' I hq
  | ok fl =>
    cases fl with
    | ret u => exact I.after hq
    | next => exact False.elim hq
    | brk => exact False.elim hq
    | cont => exact False.elim hq
theorem pe_methKS0 {pl : Sem Bool} (he : PE X o ta) (c : L2.Cls X.K C) (hm : Meth X.K C m f) (F : FnOk X.prog X.w X.K X.mg X.base CX k f fd ps sp) (hr : Room k X.A) (hb : KBinds X.K fd ps ks (fun us ws => gSf n pm us ws) (fun vs zs => gSf n pm vs zs)) (hx : ∀ σ, PassesAt CX X σ (E σ)) (hkw : PK X kws tk)
    (hall : (backToKw pos (keywordEach kws X.env)).all (·.1.isSome) = true := by rfl) (hks : (backToKw pos (keywordEach kws X.env)).filterMap (·.1) = ks := by rfl)
    (hpl : ((backTo pos (starEach [] X.env)).any (·.1) || (backToKw pos (keywordEach kws X.env)).any (·.1.isNone)) = false := by rfl)
    (ht : eval (.Call (.Attribute o m apos) [] kws pos) X.env = (do
      let ov ← eval o X.env
      standAt apos.atName
      let (f, first) ← holding [ov] (getMethod ov m pl)
      callWith pos f first (backTo pos (starEach [] X.env)) (backToKw pos (keywordEach kws X.env))) := by rfl) : PE X (.Call (.Attribute o m apos) [] kws pos) (tMethKS C m n pm sp E ta tk) := by
  refine ⟨fun pins s σ H Q I h => PySem.W.methodCall_KW (pl := pl) (thn (he.run pins s σ H _ I h) fun u s1 q1 => ?_) ht⟩
  obtain ⟨y, H1, I1, ry, a, dx, fs, ey, ea, l, q⟩ := q1
  subst ey
  cases (show u = Value.ref a from ry)
  refine getmeth_ok I1 ea c hm l (PySem.W.callWith_KW0 (first := [.ref a]) (h₀ := X.base) I.ok.mod.kin hm.kp hall (thn (hkw.run pos pins s1 σ H1 _ I1 q) fun ws s2 ⟨zs, H2, I2, rz, q2⟩ => ⟨I2.kIn, ?_⟩) hpl)
  rw [hks]
  exact run_fnkSs (us := [.ref a]) (vs := [.ref a]) F hr hb (hx σ) I2 (.cons rfl .nil) rz q2
end
theorem kb_ri {K : PySem.W.Frag} {f : Addr} {fd : FuncData} (F : Fun K "__init__" "Rests.__init__" s_Rests___init__ f fd) : KBinds K fd P_Rests___init__ ["prime"] (fun us ws => gSf 1 [0] us ws) (fun vs zs => gSf 1 [0] vs zs) := kbs F 1 [0] (by nofun) fun _ _ _ _ _ _ us ws hu hw => match us, ws, hu, hw with
  | [u], [w0], _, _ => rfl
theorem kb_roi {K : PySem.W.Frag} {f : Addr} {fd : FuncData} (F : Fun K "__init__" "Roots.__init__" s_Roots___init__ f fd) : KBinds K fd P_Roots___init__ ["order"] (fun us ws => gSf 1 [0] us ws) (fun vs zs => gSf 1 [0] vs zs) := kbs F 1 [0] (by nofun) fun _ _ _ _ _ _ us ws hu hw => match us, ws, hu, hw with
  | [u], [w0], _, _ => rfl
abbrev s__law_refused : Stmt := top 29
abbrev N__law_refused : List Str := ["_law_way", "_law_caught", "error"]
abbrev P__law_refused : List Str := ["_law_way"]
theorem sc__law_refused : FnScope N__law_refused P__law_refused (defScope s__law_refused) := ⟨rfl, rfl, rfl, by decide +kernel, rfl, by decide +kernel, by decide +kernel⟩
structure Ex15 (K : PySem.W.Frag) (CB CR CS : Addr) : Prop where
  eb : PySem.W.exmAny K (.ref CB) [.ref CB, .ref CR, .ref CS] = some true
  er : PySem.W.exmAny K (.ref CR) [.ref CB, .ref CR, .ref CS] = some true
  es : PySem.W.exmAny K (.ref CS) [.ref CB, .ref CR, .ref CS] = some true
def ans15 : List Int := [91, 31, 7, 4, 10]
def spRf15 : Sp := fun vs H Q _ => ∃ (i : Nat), vs = [.int (i : Int)] ∧ i < 5 ∧ ∀ H', Same H H' → Q (.int (ans15.getD i 0)) H'
theorem pr97 : (97 : Int) ∈ prs 10000 := prL_in _ (by simp [prL])
theorem pr5 : (5 : Int) ∈ prs 10000 := prL_in _ (by simp [prL])
theorem no91 : ¬ (91 : Int) ∈ prs 10000 := fun h => by
  obtain ⟨j, e, _, _, h4⟩ := mem_prs.mp h
  have : j = 91 := by omega
  subst this
  exact absurd h4 (by decide +kernel)
section
variable {P : Program} {w : World} {K : PySem.W.Frag} {mg : Str → Option Value} {base : Heap}
theorem ok_rf15 {f fI CT CB C1 C2 CR CS CI f1 f2 f3 f4 f5 f6 f7 f8 f9 : Addr} {fd fdI d1 d2 d3 d4 d5 d6 d7 d8 d9 : FuncData} (F : Fun K "_law_refused" "_law_refused" s__law_refused f fd) (T : Blt mg) (S : G16 K mg CT CB C1 C2 CR CS CI fI fdI) (ex : Ex15 K CB CR CS) (D_is_whole : Df K mg "is_whole" s_is_whole P_is_whole f1 d1) (D_factors : Df K mg "factors" s_factors P_factors f2 d2) (D_is_prime : Df K mg "is_prime" s_is_prime P_is_prime f3 d3) (D_power_rest : Df K mg "power_rest" s_power_rest P_power_rest f4 d4) (D_generator : Df K mg "generator" s_generator P_generator f5 d5) (D_wheel : Df K mg "wheel" s_wheel P_wheel f6 d6) (D_divisors : Df K mg "divisors" s_divisors P_divisors f7 d7) (D_divided : Df K mg "divided" s_divided P_divided f8 d8) (D_inverse : Df K mg "inverse" s_inverse P_inverse f9 d9) : FnOk P w K mg base CX0 9 f fd P__law_refused spRf15 := by
  obtain ⟨t1, M_MOST_PRIME⟩ := S.p1
  obtain ⟨t2, M_MOST_ORDER⟩ := S.p2
  obtain ⟨fM, dM, MK_Rests, FM, B_Rests___init__⟩ := S.k1
  obtain ⟨fN, dN, MK_Roots, FN, B_Roots___init__⟩ := S.k2
  have M_Rests := S.m1
  have M_Roots := S.m2
  have M_BadGround := S.mb
  have M_NoRoot := S.mr
  have M_NoShare := S.ms
  have CL_Rests := S.R1.cl
  have CL_Roots := S.R2.cl
  have G_Rests___init__ : FnOk P w K mg base (L2.CX P w) 3 fM dM P_Rests___init__ (spRI K C1 CB) := ok_ri FM T S.R1 D_is_whole D_factors D_is_prime D_power_rest D_generator M_MOST_PRIME S.F S.b S.ty S.RB S.mb
  have G_Roots___init__ : FnOk P w K mg base (L2.CX P w) 7 fN dN P_Roots___init__ (spRoI K C2 CB) := ok_roi FN T S.R2 D_is_whole D_wheel D_divisors D_divided M_MOST_ORDER S.F S.b S.ty S.RB S.mb
  have KB_Rests___init__ := kb_ri FM
  have KB_Roots___init__ := kb_roi FN
  obtain ⟨_, _, h1, h2, h3⟩ := S.h1
  obtain ⟨_, _, r1, r2, ME_Rests_root_at⟩ := S.r1
  have KB_Rests_root_at := kb_Rests_root_at r1
  have G_Rests_root_at := ok_u1r (P := P) (w := w) (base := base) (C2 := C2) (k := 0) r1 S.R1 h3 h2 h1 D_power_rest S.F S.b S.ty S.RR S.mr
  obtain ⟨_, _, s1, s2, ME_Rests_shared_by⟩ := S.s1
  obtain ⟨_, _, u1, u2, ME_Roots_shared_by⟩ := S.s2
  have KB_Rests_shared_by := kb_Rests_shared_by s1
  have KB_Roots_shared_by := kb_Roots_shared_by u1
  have G_Rests_shared_by := ok_u1s (P := P) (w := w) (base := base) (C2 := C2) (k := 0) s1 S.R1 D_inverse S.F S.b S.ty S.RI S.mi S.RS S.ms
  have G_Roots_shared_by := ok_u2s (P := P) (w := w) (base := base) (C1 := C1) (C2 := C2) (k := 1) u1 T S.F S.b S.ty S.RS S.ms
  have nd := sc__law_refused.nd
  refine F.ok sc__law_refused (fun vs H Q E h => ?_) (fun cdv A outer s H vs Q E hr h => ?_)
  · obtain ⟨i, rfl, _⟩ := h
    rfl
  · obtain ⟨i, rfl, hi, q⟩ := h
    refine ⟨_, (pss_cons (ps_set (i := 1) nd rfl (Or.inl rfl) (pe_non))
      (pss_cons (ps_try_keep3 (i := 2) (Wout := fun _ _ _ _ => False) rfl rfl rfl nd rfl rfl ⟨by rfl, by decide, Or.inl M_BadGround⟩ ⟨by rfl, by decide, Or.inl M_NoRoot⟩ ⟨by rfl, by decide, Or.inl M_NoShare⟩ takes0 (fun W pn xe tk _ => by exact (pss_one (ps_if (pt_cmpR op_eq (pv 0) (pe_int) (nomark _)) (pss_one (ps_expr (pe_makeKS0 MK_Rests G_Rests___init__ (hr.mono (by omega)) (by rfl) M_Rests KB_Rests___init__ (fun σ => passAt tk σ) (pk_cons (pe_int) pk_nil)))) (pss_one (ps_if (pt_cmpR op_eq (pv 0) (pe_int) (nomark _)) (pss_one (ps_expr (pe_makeKS0 MK_Roots G_Roots___init__ (hr.mono (by omega)) (by rfl) M_Roots KB_Roots___init__ (fun σ => passAt tk σ) (pk_cons (pe_int) pk_nil)))) (pss_one (ps_if (pt_cmpR op_eq (pv 0) (pe_int) (nomark _)) (pss_one (ps_expr (pe_methKS0 (pe_makeS MK_Rests G_Rests___init__ (hr.mono (by omega)) (by rfl) M_Rests B_Rests___init__ (fun σ => passAt tk σ) (pa_cons (pe_int) pa_nil)) CL_Rests ME_Rests_root_at G_Rests_root_at (hr.mono (by omega)) KB_Rests_root_at (fun σ => passAt tk σ) (pk_cons (pe_int) (pk_cons (pe_int) pk_nil))))) (pss_one (ps_if (pt_cmpR op_eq (pv 0) (pe_int) (nomark _)) (pss_one (ps_expr (pe_methKS0 (pe_makeS MK_Roots G_Roots___init__ (hr.mono (by omega)) (by rfl) M_Roots B_Roots___init__ (fun σ => passAt tk σ) (pa_cons (pe_int) pa_nil)) CL_Roots ME_Roots_shared_by G_Roots_shared_by (hr.mono (by omega)) KB_Roots_shared_by (fun σ => passAt tk σ) (pk_cons (pe_int) (pk_cons (pe_tup (pa_cons (pe_int) (pa_cons (pe_int) pa_nil))) pk_nil))))) (pss_one (ps_expr (pe_methKS0 (pe_makeS MK_Rests G_Rests___init__ (hr.mono (by omega)) (by rfl) M_Rests B_Rests___init__ (fun σ => passAt tk σ) (pa_cons (pe_int) pa_nil)) CL_Rests ME_Rests_shared_by G_Rests_shared_by (hr.mono (by omega)) KB_Rests_shared_by (fun σ => passAt tk σ) (pk_cons (pe_int) (pk_cons (pe_int) pk_nil)))))))))))))) (fun a pn => (pss_one (ps_set (i := 1) nd rfl (Or.inl rfl) (pv 2)))))
      (pss_one (ps_ret (pe_ifExp (pt_cmpR op_isN (pv 1) (pe_non) (nomark _)) (pe_non) (pe_xw (pv 1))))))), ?_⟩
    have hc : i = 0 ∨ i = 1 ∨ i = 2 ∨ i = 3 ∨ i = 4 := by omega
    rcases hc with z | z | z | z | z <;> subst z
    · walk_at "ev"
      intro x dx hx hd ne
      have sm0 : Same H (upd (upd H dx (.own x)) x (.ins C1 dx [])) := same_upd (same_new hd) (by rw [upd_ne (Ne.symm ne)]; exact hx)
      refine ⟨x, dx, .int 91, "int", rfl, upd_same, .int 91, fun p ep hp => absurd hp (by cases ep; exact no91), fun _ d H3 hd3 sm3 hwd => ?_⟩
      refine ⟨true, ex.eb, fun _ => ⟨CB, d, rfl, rfl, fun a ha => ?_⟩, fun z => nomatch z⟩
      have sm4 : Same H3 (upd H3 a (XOb CB d a)) := same_new ha
      have hx4 : XAt (upd H3 a (XOb CB d a)) a CB [(("what" : Str), .int 91)] := ⟨d, upd_same, sm4 _ _ hwd⟩
      have ek := S.RB.ek
      have nw := S.RB.ek.nw
      walk_at "ev"
      exact q _ (sm0.trans (sm3.trans sm4))
    · walk_at "ev"
      intro x dx hx hd ne
      have sm0 : Same H (upd (upd H dx (.own x)) x (.ins C2 dx [])) := same_upd (same_new hd) (by rw [upd_ne (Ne.symm ne)]; exact hx)
      refine ⟨x, dx, .int 31, "int", rfl, upd_same, .int 31, fun n en n1 n31 => absurd (V.int.inj en) (by omega), fun _ d H3 hd3 sm3 hwd => ?_⟩
      refine ⟨true, ex.eb, fun _ => ⟨CB, d, rfl, rfl, fun a ha => ?_⟩, fun z => nomatch z⟩
      have sm4 : Same H3 (upd H3 a (XOb CB d a)) := same_new ha
      have hx4 : XAt (upd H3 a (XOb CB d a)) a CB [(("what" : Str), .int 31)] := ⟨d, upd_same, sm4 _ _ hwd⟩
      have ek := S.RB.ek
      have nw := S.RB.ek.nw
      walk_at "ev"
      exact q _ (sm0.trans (sm3.trans sm4))
    · walk_at "ev"
      unfold tDrop tMethKS tMakeS
      walk_at "ev"
      intro x dx hx hd ne
      refine ⟨x, dx, .int 97, "int", rfl, upd_same, .int 97, fun p ep hp H6 k6 hR => ⟨rfl, ?_⟩, fun no => absurd ⟨97, rfl, pr97⟩ no⟩
      cases ep
      have sm0 : Same H H6 := keep_mk hx hd k6
      have hG : GrAt C1 C2 H6 x (.rests 97) := hR
      have ok : GkOk (.rests 97) := pr97
      obtain ⟨dz, fz, eaz, lz⟩ := hG.lk (m := "root_at") (by decide) (by decide) (by decide) (by decide)
      refine ⟨x, dz, fz, rfl, eaz, lz, ?_⟩
      walk_at "ev"
      refine ⟨fun z => absurd z (by decide), fun _ d H3 hd3 sm3 hwd => ?_⟩
      refine ⟨true, ex.er, fun _ => ⟨CR, d, rfl, rfl, fun a ha => ?_⟩, fun z => nomatch z⟩
      have sm4 : Same H3 (upd H3 a (XOb CR d a)) := same_new ha
      have hx4 : XAt (upd H3 a (XOb CR d a)) a CR [(("what" : Str), .int 7)] := ⟨d, upd_same, sm4 _ _ hwd⟩
      have ek := S.RR.ek
      have nw := S.RR.ek.nw
      walk_at "ev"
      exact q _ (sm0.trans (sm3.trans sm4))
    · walk_at "ev"
      unfold tDrop tMethKS tMakeS
      walk_at "ev"
      intro x dx hx hd ne
      refine ⟨x, dx, .int 6, "int", rfl, upd_same, .int 6, fun n en n1 n31 H6 k6 hR => ⟨rfl, ?_⟩, fun no => absurd ⟨6, rfl, by decide, by decide⟩ no⟩
      have en' : n = 6 := by
        have := V.int.inj en
        omega
      subst en'
      have sm0 : Same H H6 := keep_mk hx hd k6
      have hG : GrAt C1 C2 H6 x (.roots 6) := hR
      have ok : GkOk (.roots 6) := ⟨by decide, by decide⟩
      obtain ⟨dz, fz, eaz, lz⟩ := hG.lk (m := "shared_by") (by decide) (by decide) (by decide) (by decide)
      refine ⟨x, dz, fz, rfl, eaz, lz, ?_⟩
      walk_at "ev"
      intro tp htp
      have sm5 : Same H6 (upd H6 tp (.tup [.int 8, .int 2])) := same_new htp
      have hG7 := hG.same sm5
      have hw3 : WtAt K (upd H6 tp (.tup [.int 8, .int 2])) (.ref tp) (.v [8, 2]) := ⟨tp, rfl, SqT.of upd_same⟩
      have hn3 : nm (.roots 6) (.v [8, 2]) := by show [8, 2].length = wl 6; decide +kernel
      have i1 : (1 : Int) ≤ 4 := by decide
      have i2 : (4 : Int) ≤ 1000 := by decide
      walk_at "ev"
      refine ⟨fun z => absurd (z 2 (by simp)) (by decide), fun _ d H3 hd3 sm3 hwd => ?_⟩
      refine ⟨true, ex.es, fun _ => ⟨CS, d, rfl, rfl, fun a ha => ?_⟩, fun z => nomatch z⟩
      have sm4 : Same H3 (upd H3 a (XOb CS d a)) := same_new ha
      have hx4 : XAt (upd H3 a (XOb CS d a)) a CS [(("what" : Str), .int 4)] := ⟨d, upd_same, sm4 _ _ hwd⟩
      have ek := S.RS.ek
      have nw := S.RS.ek.nw
      walk_at "ev"
      exact q _ ((sm0.trans sm5).trans (sm3.trans sm4))
    · walk_at "ev"
      refine ite2 (fun c => absurd c (by decide)) (fun c => ?_)
      unfold tDrop tMethKS tMakeS
      walk_at "ev"
      intro x dx hx hd ne
      refine ⟨x, dx, .int 5, "int", rfl, upd_same, .int 5, fun p ep hp H6 k6 hR => ⟨rfl, ?_⟩, fun no => absurd ⟨5, rfl, pr5⟩ no⟩
      cases ep
      have sm0 : Same H H6 := keep_mk hx hd k6
      have hG : GrAt C1 C2 H6 x (.rests 5) := hR
      have ok : GkOk (.rests 5) := pr5
      obtain ⟨dz, fz, eaz, lz⟩ := hG.lk (m := "shared_by") (by decide) (by decide) (by decide) (by decide)
      refine ⟨x, dz, fz, rfl, eaz, lz, ?_⟩
      have hw3 : WtAt K H6 (.int 3) (.i 3) := rfl
      have hn3 : nm (.rests 5) (.i 3) := ⟨by decide, by decide⟩
      have i1 : (1 : Int) ≤ 10 := by decide
      have i2 : (10 : Int) ≤ 1000 := by decide
      walk_at "ev"
      refine ⟨fun z => absurd (by decide) z, fun _ d H3 hd3 sm3 hwd => ?_⟩
      refine ⟨true, ex.es, fun _ => ⟨CS, d, rfl, rfl, fun a ha => ?_⟩, fun z => nomatch z⟩
      have sm4 : Same H3 (upd H3 a (XOb CS d a)) := same_new ha
      have hx4 : XAt (upd H3 a (XOb CS d a)) a CS [(("what" : Str), .int 10)] := ⟨d, upd_same, sm4 _ _ hwd⟩
      have ek := S.RS.ek
      have nw := S.RS.ek.nw
      walk_at "ev"
      exact q _ (sm0.trans (sm3.trans sm4))
end
abbrev s__law_told_right : Stmt := top 30
abbrev N__law_told_right : List Str := ["_law_box_here", "_law_bases", "_law_kinds", "_law_some", "_law_told", "_law_ground", "_law_name", "_law_second", "_law_its", "_law_two", "_law_long", "_law_found", "_law_due", "_law_many", "_law_odd"]
abbrev P__law_told_right : List Str := ["_law_box_here"]
theorem sc__law_told_right : FnScope N__law_told_right P__law_told_right (defScope s__law_told_right) := ⟨rfl, rfl, rfl, by decide +kernel, rfl, by decide +kernel, by decide +kernel⟩
def gOk : Gk → Prop
  | .rests p => p ∈ ([97, 13, 2521, 9973, 3, 2] : List Int)
  | .roots n => 1 ≤ n ∧ n < 31
theorem gOk.ok {g : Gk} (h : gOk g) : GkOk g := by
  cases g with
  | roots n => exact h
  | rests p =>
    have h' : p ∈ ([97, 13, 2521, 9973, 3, 2] : List Int) := h
    simp only [List.mem_cons, List.not_mem_nil, or_false] at h'
    rcases h' with z | z | z | z | z | z <;> subst z
    · exact prL_in _ (by simp [prL])
    · exact prL_in _ (by simp [prL])
    · exact prL_in _ (by simp [prL])
    · exact mem_prs.mpr ⟨9973, rfl, by decide, by decide, by decide +kernel⟩
    · exact prL_in _ (by simp [prL])
    · exact prL_in _ (by simp [prL])
def nmG : Gk → Str
  | .rests _ => "rests"
  | .roots _ => "roots"
def gN : Gk → Int
  | .rests p => p
  | .roots n => (n : Int)
theorem gtx_eq (g : Gk) : nmG g ++ Str.ofString " " ++ Str.ofString (toString (gN g)) = gTxt g := by
  cases g with
  | rests p => exact congrArg (· ++ Str.ofString (toString p)) (show (Str.ofString "rests" ++ Str.ofString " " : Str) = Str.empty ++ Str.ofString "rests " by decide)
  | roots n => exact congrArg (· ++ Str.ofString (toString (n : Int))) (show (Str.ofString "roots" ++ Str.ofString " " : Str) = Str.empty ++ Str.ofString "roots " by decide)
theorem gN_b {g : Gk} (h : gOk g) : 1 ≤ gN g ∧ gN g ≤ 10000 := by
  have ok := h.ok
  cases g with
  | rests p =>
    have := prs_b ok
    exact ⟨by show 1 ≤ p; omega, by show p ≤ 10000; omega⟩
  | roots n =>
    have h1 := ok.1
    have h2 := ok.2
    exact ⟨by show 1 ≤ (n : Int); omega, by show (n : Int) ≤ 10000; omega⟩
theorem nmg_len {g : Gk} : (nmG g).length ≤ 5 := by
  cases g <;> exact (by decide : (Str.ofString "rests").length ≤ 5)
theorem nm_eqv (g g2 : Gk) : PyData.eqv (.tuple [.str (nmG g), .int (gN g)]) (.tuple [.str (nmG g2), .int (gN g2)]) = gEq g g2 := by
  have n1 : ((Str.ofString "rests" : Str) == Str.ofString "roots") = false := by decide
  have n2 : ((Str.ofString "roots" : Str) == Str.ofString "rests") = false := by decide
  cases g with
  | rests p =>
    cases g2 with
    | rests q =>
      simp [PyData.eqv, PyData.eqvAll, nmG, gN, gEq]
      exact Bool.eq_iff_iff.mpr (by simp)
    | roots q => simp [PyData.eqv, PyData.eqvAll, nmG, gN, gEq, n1]
  | roots p =>
    cases g2 with
    | rests q => simp [PyData.eqv, PyData.eqvAll, nmG, gN, gEq, n2]
    | roots q =>
      simp [PyData.eqv, PyData.eqvAll, nmG, gN, gEq]
      exact Bool.eq_iff_iff.mpr (by simp [Int.natCast_inj])
theorem strOk_tl {x : Str} (h : ∀ c ∈ TL.tl x, c < 0x110000) : PyData.strOk x = true := by
  unfold PyData.strOk
  rw [← Array.all_toList, List.all_eq_true]
  exact fun c hc => decide_eq_true (h c hc)
theorem num_chr (n : Nat) : ∀ c ∈ TL.numL n, c < 0x110000 := fun c hc => by
  obtain ⟨ch, _, rfl⟩ := List.mem_map.mp hc
  have h : ch.toNat < 0xd800 ∨ (0xdfff < ch.toNat ∧ ch.toNat < 0x110000) := ch.valid
  omega
theorem gtx_chr {w : Str} (hw : ∀ c ∈ TL.tl w, c < 0x110000) (n : Nat) : PyData.strOk (Str.empty ++ w ++ Str.ofString (toString ((n : Nat) : Int))) = true := by
  refine strOk_tl fun c hc => ?_
  rw [TL.tl_append, TL.tl_append, TL.tl_num] at hc
  rcases List.mem_append.mp hc with z | z
  · rcases List.mem_append.mp z with y | y
    · cases y
    · exact hw c y
  · exact num_chr n c z
theorem gtx_ok {g : Gk} (h : GkOk g) : PyData.strOk (gTxt g) = true := by
  cases g with
  | rests p =>
    have pb := prs_b h
    obtain ⟨n, rfl⟩ := Int.eq_ofNat_of_zero_le (show 0 ≤ p by omega)
    exact gtx_chr (w := Str.ofString "rests ") (by decide) n
  | roots n => exact gtx_chr (w := Str.ofString "roots ") (by decide) n
theorem nmg_ok (g : Gk) : PyData.strOk (nmG g) = true := by
  cases g
  · exact (by decide +kernel : PyData.strOk (Str.ofString "rests") = true)
  · exact (by decide +kernel : PyData.strOk (Str.ofString "roots") = true)
theorem shp_two {a b : Str} (ha : PyData.strOk a = true) (hb : PyData.strOk b = true) : SeqAt.shaped (.list [.str a, .str b]) = true ∧ PyData.eqv (.list [.str a, .str b]) (.list [.str a, .str b]) = true := by
  have h : (PyData.list [.str a, .str b]).canLay0 = true := by simp [PyData.canLay0, PyData.canLayAll0, ha, hb]
  exact ⟨by unfold SeqAt.shaped; rw [h]; rfl, SeqAt.eqv_refl _ h⟩
theorem shp_tsi {a : Str} {i : Int} (ha : PyData.strOk a = true) : SeqAt.shaped (.tuple [.str a, .int i]) = true := by
  have h : (PyData.tuple [.str a, .int i]).canLay0 = true := by simp [PyData.canLay0, PyData.canLayAll0, ha]
  unfold SeqAt.shaped
  rw [h]
  rfl
theorem longL {g : Gk} (h : gOk g) (h2 : gN g ≠ 2) : ∃ L : Nat, ((2 - gN g % 2 * (if decide (V.str (nmG g) = V.str (Str.ofString "roots")) = true then 1 else 0) : Int)) = (L : Int) ∧ 1 ≤ L ∧ L ≤ 1000 ∧ numM g % (L : Int) = 0 := by
  cases g with
  | rests p =>
    have nq : ¬ (Str.ofString "rests" : Str) = Str.ofString "roots" := by decide
    have e : decide (V.str (nmG (.rests p)) = V.str (Str.ofString "roots")) = false := decide_eq_false fun z => nq (V.str.inj z)
    rw [e]
    refine ⟨2, by simp, by decide, by decide, ?_⟩
    have h' : p ∈ ([97, 13, 2521, 9973, 3, 2] : List Int) := h
    have h2' : p ≠ 2 := h2
    show (p - 1) % 2 = 0
    simp only [List.mem_cons, List.not_mem_nil, or_false] at h'
    omega
  | roots n =>
    have e : decide (V.str (nmG (.roots n)) = V.str (Str.ofString "roots")) = true := decide_eq_true rfl
    rw [e, if_pos rfl, Int.mul_one]
    have hn : 1 ≤ n := h.1
    have eg : gN (.roots n) = (n : Int) := rfl
    rw [eg]
    rcases Nat.mod_two_eq_zero_or_one n with z | z
    · exact ⟨2, by omega, by decide, by decide, by show ((n : Nat) : Int) % 2 = 0; omega⟩
    · exact ⟨1, by omega, by decide, by decide, Int.emod_one _⟩
theorem sm_wB {g : Gk} {w : Wt} (h : GkOk g) (hw : nm g w) (hB : BB 100000000000 w) : Sm 456 1 (wD w) := by
  rcases wr g h hw with ⟨p, x, rfl, rfl, x0, x1, p2, p3⟩ | ⟨n, xs, rfl, rfl, l, w1⟩
  · exact (sm_int (by omega)).up (by decide) (by decide)
  · have := nm_len h hw xs rfl
    refine (Sm.tup (B := 13) (k := 0) (n := 30) (by rw [List.length_map]; exact this) fun d hd => ?_).up (by decide) (by decide)
    obtain ⟨x, hx, rfl⟩ := List.mem_map.mp hd
    exact sm_int (hB x hx)
theorem sm_gtx {g : Gk} (h : gOk g) : Sm 456 1 (.str (gTxt g)) := by
  have hl : (PyData.shown (.str (gTxt g))).length ≤ 400 := by
    cases g with
    | rests p =>
      have h' : p ∈ ([97, 13, 2521, 9973, 3, 2] : List Int) := h
      have all : ∀ p ∈ ([97, 13, 2521, 9973, 3, 2] : List Int), (PyData.shown (.str (gTxt (.rests p)))).length ≤ 400 := by decide +kernel
      exact all p h'
    | roots n =>
      have all : ∀ n < 31, (PyData.shown (.str (gTxt (.roots n)))).length ≤ 400 := by decide +kernel
      exact all n h.2
  have h3 : dw (.str (gTxt g)) = (PyData.shown (.str (gTxt g))).length := by rw [dw] <;> nofun
  exact ⟨by rw [PyData.canLay0]; exact gtx_ok h.ok, by rw [PyData.showable], by omega, by rw [PyData.depth]; decide⟩
theorem sm_by {g : Gk} {q c1 c2 : Int} {L : Nat} (h : gOk g) (h1 : c1.natAbs ≤ 200) (h2 : c2.natAbs ≤ 200) (L1 : 1 ≤ L) (hd : numM g % (L : Int) = 0) : Sm 10000 2 (.list (byD g q (gw g c1) (gw g c2) L)) := by
  have ok := h.ok
  have n1 : nm g (gw g c1) := nm_gw ok
  have n2 : nm g (gw g c2) := nm_gw ok
  have b1 : BB 200 (gw g c1) := bb_gw h1
  have b2 : BB 200 (gw g c2) := bb_gw h2
  have hm : (5 % (L : Int)).toNat < L := by
    have := Int.emod_nonneg 5 (show (L : Int) ≠ 0 by omega)
    have := Int.emod_lt_of_pos 5 (show (0 : Int) < (L : Int) by omega)
    omega
  refine (Sm.lst (B := 456) (k := 1) (n := 10) (Nat.le_refl _) fun d hd => ?_).up (by decide) (by decide)
  simp only [byD, List.mem_cons, List.not_mem_nil, or_false] at hd
  rcases hd with z | z | z | z | z | z | z | z | z | z <;> subst z
  · exact (sm_bl _).up (by decide) (by decide)
  · exact (sm_bl _).up (by decide) (by decide)
  · exact sm_wB ok (nm_gw ok) ((bb_gw (B := 200) (by decide)).up (by decide))
  · exact sm_wB ok (nm_add ok n1 n2) ((bb_add n1 n2 b1 b2).up (by decide))
  · exact sm_wB ok (nm_add ok n1 (nm_neg ok n2)) ((bb_add n1 (nm_neg ok n2) b1 (bb_neg ok n2 b2)).up (by decide))
  · exact sm_wB ok (nm_mul ok n1 n2) ((bb_mul ok n1 n2 b1 b2).up (by decide))
  · exact sm_wB ok (nm_rt ok) ((bb_rtw ok L1 hd hm).up (by decide))
  · exact sm_wB ok n1 (b1.up (by decide))
  · exact sm_gtx h
  · exact sm_gtx h
def TLs (C1 C2 : Addr) (H : Hp) (sl tl : Addr) (es : List (Addr × Addr × Gk)) : Prop := H sl = some (.lst (es.map fun e => V.ref e.1)) ∧ H tl = some (.lst (es.map fun e => V.ref e.2.1)) ∧ es.length = 4 ∧ ∀ e ∈ es, GrAt C1 C2 H e.1 e.2.2 ∧ gOk e.2.2 ∧ H e.2.1 = some (.tup [.str (nmG e.2.2), .int (gN e.2.2)])
theorem TLs.same {C1 C2 : Addr} {H H' : Hp} {sl tl : Addr} {es : List (Addr × Addr × Gk)} (h : TLs C1 C2 H sl tl es) (e : Same H H') : TLs C1 C2 H' sl tl es :=
  ⟨e _ _ h.1, e _ _ h.2.1, h.2.2.1, fun x hx => ⟨(h.2.2.2 x hx).1.same e, (h.2.2.2 x hx).2.1, e _ _ (h.2.2.2 x hx).2.2⟩⟩
theorem TLs.keep {C1 C2 : Addr} {H H' : Hp} {sl tl b : Addr} {c : Int} {es : List (Addr × Addr × Gk)} (h : TLs C1 C2 H sl tl es) (hb : BoxAt H b c) (k : Keep b H H') : TLs C1 C2 H' sl tl es := by
  obtain ⟨x, y, z0, e1, _⟩ := id hb
  have ln : ∀ xs : List V, H b = some (.lst xs) → xs.length = 4 → False := fun xs e l => by
    rw [e1] at e
    cases e
    cases l
  refine ⟨k _ _ (fun z => ?_) h.1, k _ _ (fun z => ?_) h.2.1, h.2.2.1, fun e he => ⟨(h.2.2.2 e he).1.keep hb k, (h.2.2.2 e he).2.1, k _ _ (fun z => ?_) (h.2.2.2 e he).2.2⟩⟩
  · exact ln _ (z ▸ h.1) (by rw [List.length_map]; exact h.2.2.1)
  · exact ln _ (z ▸ h.2.1) (by rw [List.length_map]; exact h.2.2.1)
  · have := (h.2.2.2 e he).2.2
    rw [z, e1] at this
    cases this
def spTR15 : Sp := fun vs H Q _ => ∃ (b : Addr) (n : Int), vs = [.ref b] ∧ BoxAt H b n ∧ n < 900000 ∧ ∀ H', Keep b H H' → BoxAt H' b (n + 100) → Q (.bl true) H'
section
variable {P : Program} {w : World} {K : PySem.W.Frag} {mg : Str → Option Value} {base : Heap}
theorem ok_tr15 {f fT fP fN1 fP1 fI CT CB C1 C2 CR CS CI f1 f2 f3 f4 f5 f6 f7 f8 : Addr} {fd dT dP dN1 dP1 fdI d1 d2 d3 d4 d5 d6 d7 d8 : FuncData} (F : Fun K "_law_told_right" "_law_told_right" s__law_told_right f fd) (T : Blt mg) (S : G16 K mg CT CB C1 C2 CR CS CI fI fdI) (OU : OwnU P w K mg base C1 C2) (MU_worth_of : MthU P w K mg base CX0 2 C1 C2 "worth_of" P_Rests_worth_of (spKw K C1 C2)) (D_is_whole : Df K mg "is_whole" s_is_whole P_is_whole f1 d1) (D_factors : Df K mg "factors" s_factors P_factors f2 d2) (D_is_prime : Df K mg "is_prime" s_is_prime P_is_prime f3 d3) (D_power_rest : Df K mg "power_rest" s_power_rest P_power_rest f4 d4) (D_generator : Df K mg "generator" s_generator P_generator f5 d5) (D_wheel : Df K mg "wheel" s_wheel P_wheel f6 d6) (D_divisors : Df K mg "divisors" s_divisors P_divisors f7 d7) (D_divided : Df K mg "divided" s_divided P_divided f8 d8)
    (D__law_take : Df K mg "_law_take" s__law_take P__law_take fT dT) (D__law_pick : Df K mg "_law_pick" s__law_pick P__law_pick fP dP) (D__law_by_names : Df K mg "_law_by_names" s__law_by_names P__law_by_names fN1 dN1) (D__law_by_places : Df K mg "_law_by_places" s__law_by_places P__law_by_places fP1 dP1)
    (G__law_by_names : FnOk P w K mg base CX0 5 fN1 dN1 P__law_by_names (spBy K C1 C2)) (G__law_by_places : FnOk P w K mg base CX0 5 fP1 dP1 P__law_by_places (spBy K C1 C2)) : FnG P w K mg base CX0 9 f fd P__law_told_right spTR15 := by
  have G__law_take : FnOk P w K mg base CX0 1 fT dT P__law_take spTake := ok_take D__law_take.F
  have G__law_pick : FnOk P w K mg base CX0 2 fP dP P__law_pick (spPick K) := ok_pick D__law_pick.F T D__law_take
  obtain ⟨t1, M_MOST_PRIME⟩ := S.p1
  obtain ⟨t2, M_MOST_ORDER⟩ := S.p2
  obtain ⟨fM, dM, MK_Rests, FM, B_Rests___init__⟩ := S.k1
  obtain ⟨fN, dN, MK_Roots, FN, B_Roots___init__⟩ := S.k2
  have M_Rests := S.m1
  have M_Roots := S.m2
  have CL_Rests := S.R1.cl
  have CL_Roots := S.R2.cl
  have G_Rests___init__ : FnOk P w K mg base (L2.CX P w) 3 fM dM P_Rests___init__ (spRI K C1 CB) := ok_ri FM T S.R1 D_is_whole D_factors D_is_prime D_power_rest D_generator M_MOST_PRIME S.F S.b S.ty S.RB S.mb
  have G_Roots___init__ : FnOk P w K mg base (L2.CX P w) 7 fN dN P_Roots___init__ (spRoI K C2 CB) := ok_roi FN T S.R2 D_is_whole D_wheel D_divisors D_divided M_MOST_ORDER S.F S.b S.ty S.RB S.mb
  have KB_Rests___init__ := kb_ri FM
  have KB_Roots___init__ := kb_roi FN
  have nd := sc__law_told_right.nd
  refine okG F sc__law_told_right (fun vs H Q E h => ?_) (fun cdv A outer s H vs Q E hgd hr h => ?_)
  · obtain ⟨b, n, rfl, _⟩ := h
    rfl
  · obtain ⟨b, n, rfl, hb, hn, q⟩ := h
    have tail : ∃ tt, PSs (cxOf CX0 P w K mg base N__law_told_right "_law_told_right" (defScope s__law_told_right) f cdv A outer s H E).nox ((defBody s__law_told_right).drop 4) tt ∧ ∀ (Z : Ends) (U : Hp) (ba ki sl tl o1 o2 o3 o4 ta tb tc td : Addr) (p1 p2 : Int) (n1 n2 : Nat) (es : List (Addr × Addr × Gk)) (n : Int) (x5 x6 x7 x8 x9 x10 x11 x12 x13 x14 : Option V), BoxAt U b n → n < 900100 → TLs C1 C2 U sl tl es → es = [(o1, ta, .rests p1), (o2, tb, .rests p2), (o3, tc, .roots n1), (o4, td, .roots n2)] → U ba = some (.lst [.int p1, .int p2]) → ba ≠ b → U ki = some (.lst [.int (n1 : Int), .int (n2 : Int)]) → ki ≠ b →
        (∀ (H' : Hp) (x5 x6 x7 x8 x9 x10 x11 x12 : Option V), Keep b U H' → BoxAt H' b (n + 12) → Z.rt (.bl true) H') →
        tt Z [some (.ref b), some (.ref ba), some (.ref ki), some (.ref sl), some (.ref tl), x5, x6, x7, x8, x9, x10, x11, x12, none, none] U := by
      refine ⟨_, (pss_cons (ps_for PassesOwn.never rfl (pi_zip (by rfl) T.b_zip (pa_cons (pv 3) (pa_cons (pv 4) pa_nil))) (pg_tup (by rfl) (pgs_cons (pg_name (i := 5) nd rfl (Or.inr rfl)) (pgs_cons (pg_name (i := 6) nd rfl (Or.inl rfl)) pgs_nil)))
      (pss_cons (ps_if (pt_cmpR (r := rNeD K) (op_neD hr.units) (pe_lst (pa_cons (pe_callTy (r := rStU C1 C2) (call_stU OU (hr.mono (by omega))) (by rfl) T.b_str (by decide +kernel) (pa_cons (pv 5) pa_nil)) (pa_cons (pe_callB (r := rStU C1 C2) (call_reU OU (hr.mono (by omega))) (by rfl) T.b_repr (by decide +kernel) (pa_cons (pv 5) pa_nil)) pa_nil))) (pe_op op_rep (pe_lst (pa_cons (pe_op op_add_str (pe_op op_add_str (pe_ix (r := rIxT K) ix_tup (pv 6) (pe_int) (fun _ _ => rfl)) (pe_str)) (pe_callTy call_str_int (by rfl) T.b_str (by decide +kernel) (pa_cons (pe_ix (r := rIxT K) ix_tup (pv 6) (pe_int) (fun _ _ => rfl)) pa_nil))) pa_nil)) (pe_int)) (nomark _)) (pss_one (ps_ret (pe_bl))) pss_nil)
      (pss_cons (ps_for PassesOwn.never rfl (pi_zip (by rfl) T.b_zip (pa_cons (pv 3) (pa_cons (pv 4) pa_nil))) (pg_tup (by rfl) (pgs_cons (pg_name (i := 7) nd rfl (Or.inl rfl)) (pgs_cons (pg_name (i := 8) nd rfl (Or.inl rfl)) pgs_nil)))
      (pss_one (ps_if (PW.pt (pw_or (pt_cmpR op_ne (pe_cmpR (r := rEqU K C1 C2) (op_eqU OU (hr.mono (by omega))) (pv 5) (pv 7) (nomark _)) (pe_cmpR (r := rEqD K) (op_eqD hr.units) (pv 6) (pv 8) (nomark _)) (nomark _)) (pw_or1 (pt_cmpR op_eq (pe_cmpR (r := rNeU K C1 C2) (op_neU OU (hr.mono (by omega))) (pv 5) (pv 7) (nomark _)) (pe_cmpR (r := rEqD K) (op_eqD hr.units) (pv 6) (pv 8) (nomark _)) (nomark _))))) (pss_one (ps_ret (pe_bl))) pss_nil)))
      (pss_cons (ps_if (pt_val (pe_callB (r := rAny K) (cr_any rfl) (by rfl) T.b_any (by decide +kernel) (pa_cons (pe_lc (own := [("_law_odd", 14)]) (g := gName 14) (by rfl) nd (pi_tup (pe_tup (pa_cons (pe_non) (pa_cons (pv 6) (pa_cons (pe_ix (r := rIxT K) ix_tup (pv 6) (pe_int) (fun _ _ => rfl)) (pa_cons (pe_callTy (r := rStU C1 C2) (call_stU OU (hr.mono (by omega))) (by rfl) T.b_str (by decide +kernel) (pa_cons (pv 5) pa_nil)) (pa_cons (pe_lst pa_nil) (pa_cons (pe_int) pa_nil)))))))) (blkOk_by (own := [("_law_odd", 14)]) (N := N__law_told_right) (sc := defScope s__law_told_right) (by decide +kernel)) (fun _ _ _ _ _ => (pg_name (i := 14) nd rfl (Or.inl rfl))) (fun _ _ _ _ _ => pts_nil) (fun _ _ _ _ _ => (pe_cmpR (r := rEqU K C1 C2) (op_eqU OU (hr.mono (by omega))) (pv 5) (pv 14) (nomark _)))) pa_nil))) (pss_one (ps_ret (pe_bl))) pss_nil)
      (pss_cons (ps_setLc (i := 9) (own := [("_law_many", 13)]) (g := gName 13) (by rfl) nd rfl rfl (sw_true rfl rfl rfl (by decide +kernel)) (pi_tup (pe_tup (pa_cons (pe_op op_add (pe_int) (pe_call G__law_take (hr.mono (by omega)) (by rfl) D__law_take.g D__law_take.F.kp D__law_take.b .nil pass0 (pa_cons (pv 0) (pa_cons (pe_int) pa_nil)))) (pa_cons (pe_op op_sub (pe_call G__law_take (hr.mono (by omega)) (by rfl) D__law_take.g D__law_take.F.kp D__law_take.b .nil pass0 (pa_cons (pv 0) (pa_cons (pe_int) pa_nil))) (pe_int)) pa_nil)))) (blkOk_by (own := [("_law_many", 13)]) (N := N__law_told_right) (sc := defScope s__law_told_right) (by decide +kernel)) (fun _ _ _ _ _ => (pg_name (i := 13) nd rfl (Or.inl rfl))) (fun _ _ _ _ _ => pts_nil) (fun _ _ _ _ _ => (pe_methU (pv 5) MU_worth_of (hr.mono (by omega)) pass0 (pa_cons (pv 13) pa_nil))))
      (pss_cons (ps_set (i := 10) nd rfl (Or.inl rfl) (pe_call G__law_pick (hr.mono (by omega)) (by rfl) D__law_pick.g D__law_pick.F.kp D__law_pick.b .nil pass0 (pa_cons (pv 0) (pa_cons (pe_lst (pa_cons (pe_int) (pa_cons (pe_ifExp (pt_cmpR op_eq (pe_ix (r := rIxT K) ix_tup (pv 6) (pe_int) (fun _ _ => rfl)) (pe_int) (nomark _)) (pe_int) (pe_op op_sub (pe_int) (pe_op op_mul (pe_op op_mod (pe_ix (r := rIxT K) ix_tup (pv 6) (pe_int) (fun _ _ => rfl)) (pe_int)) (pe_callTy call_int1 (by rfl) T.b_int (by decide +kernel) (pa_cons (pe_cmpR op_eq (pe_ix (r := rIxT K) ix_tup (pv 6) (pe_int) (fun _ _ => rfl)) (pe_str) (nomark _)) pa_nil))))) pa_nil))) pa_nil))))
      (pss_cons (ps_par (i := 11) (j := 12) (by rfl) nd rfl rfl (by decide) rfl rfl (pa_cons (pe_call G__law_by_names (hr.mono (by omega)) (by rfl) D__law_by_names.g D__law_by_names.F.kp D__law_by_names.b .nil pass0 (pa_cons (pv 5) (pa_cons (pv 9) (pa_cons (pv 10) pa_nil)))) (pa_cons (pe_call G__law_by_places (hr.mono (by omega)) (by rfl) D__law_by_places.g D__law_by_places.F.kp D__law_by_places.b .nil pass0 (pa_cons (pv 5) (pa_cons (pv 9) (pa_cons (pv 10) pa_nil)))) pa_nil)) (by rfl))
      (pss_one (ps_if (pt_cmpR op_ne (pe_callB (r := rRepG K) (call_reprG hgd hr.units) (by rfl) T.b_repr (by decide +kernel) (pa_cons (pv 11) pa_nil)) (pe_callB (r := rRepG K) (call_reprG hgd hr.units) (by rfl) T.b_repr (by decide +kernel) (pa_cons (pv 12) pa_nil)) (nomark _)) (pss_one (ps_ret (pe_bl))) pss_nil)))))))))
      (pss_one (ps_ret (pe_cmpR (r := rEqD K) (op_eqD hr.units) (pe_lst (pa_cons (pe_fld (pe_ix (r := rIxL K) ix_list (pv 3) (pe_int) (fun _ _ => rfl)) (by rfl)) (pa_cons (pe_fld (pe_ix (r := rIxL K) ix_list (pv 3) (pe_int) (fun _ _ => rfl)) (by rfl)) (pa_cons (pe_fld (pe_ix (r := rIxL K) ix_list (pv 3) (pe_int) (fun _ _ => rfl)) (by rfl)) (pa_cons (pe_fld (pe_ix (r := rIxL K) ix_list (pv 3) (pe_int) (fun _ _ => rfl)) (by rfl)) pa_nil))))) (pe_op op_cat (pv 1) (pv 2)) (nomark _))))), ?_⟩
      intro Z U ba ki sl tl o1 o2 o3 o4 ta tb tc td p1 p2 n1 n2 es n x5 x6 x7 x8 x9 x10 x11 x12 x13 x14 hbu hn hT hes hba nba hki nki nx
      have hSo : SqL K U sl (es.map fun e => V.ref e.1) := SqL.of hT.1
      have hSt : SqL K U tl (es.map fun e => V.ref e.2.1) := SqL.of hT.2.1
      walk_at "ev"
      refine RZ.for_zipL (K := K) (a := sl) (b := tl) (xs := es.map fun e => V.ref e.1) (ys := es.map fun e => V.ref e.2.1) (by rw [List.length_map, List.length_map]) (fun i σ H' => Hold (∃ s5 s6 s7 s8 s9 s10 s11 s12, σ = [some (.ref b), some (.ref ba), some (.ref ki), some (.ref sl), some (.ref tl), s5, s6, s7, s8, s9, s10, s11, s12, none, none] ∧ Keep b U H' ∧ BoxAt H' b (n + 3 * (i : Int)))) (.mk ⟨_, _, _, _, _, _, _, _, rfl, Keep.refl _ _, hbu.mono (by omega)⟩) ?_ ?_ ?_
      · intro i σ H' hP
        obtain ⟨s5, s6, s7, s8, s9, s10, s11, s12, rfl, kd, hbd⟩ := hP.un
        have hT' := hT.keep hbu kd
        exact ⟨SqL.of hT'.1, SqL.of hT'.2.1⟩
      · intro i x y TT σ H1 hx hy hP hTT
        obtain ⟨s5, s6, s7, s8, s9, s10, s11, s12, rfl, kd, hbd⟩ := hP.un
        rw [List.getElem?_map] at hx hy
        obtain ⟨e, he, rfl⟩ := Option.map_eq_some_iff.mp hx
        obtain ⟨e', he', rfl⟩ := Option.map_eq_some_iff.mp hy
        rw [he] at he'
        cases he'
        obtain ⟨o, t, g⟩ := e
        have hel := List.mem_of_getElem? he
        have hi4 : i < es.length := (List.getElem?_eq_some_iff.mp he).1
        have hi : i < 4 := by have := hT.2.2.1; omega
        have hT1 := hT.keep hbu kd
        have s2 := same_new (o := .tup [.ref o, .ref t]) hTT
        have qT : upd H1 TT (.tup [.ref o, .ref t]) TT = some (.tup [.ref o, .ref t]) := upd_same
        generalize upd H1 TT (.tup [.ref o, .ref t]) = H2 at s2 qT ⊢
        have hTq : SqT K H2 TT [.ref o, .ref t] := SqT.of qT
        have hT2 := hT1.same s2
        have hb2 := hbd.same s2
        obtain ⟨hG2, gk, hq2⟩ := hT2.2.2.2 _ hel
        replace gk : gOk g := gk
        replace hG2 : GrAt C1 C2 H2 o g := hG2
        replace hq2 : H2 t = some (.tup [.str (nmG g), .int (gN g)]) := hq2
        have ok := gk.ok
        have nb := gN_b gk
        have nl := nmg_len (g := g)
        have ln := num_len (by omega) nb.2
        have lg : (gN g).natAbs.log2 < 1920 := (Nat.log2_lt (by omega)).mpr (Nat.lt_of_lt_of_le (show _ < 2 ^ 14 by omega) (Nat.pow_le_pow_right (by decide) (by decide)))
        have z5 : 60 ≤ sizeLine := by rw [sizeLine_eq]; decide
        have w1 : (Str.ofString " ").length = 1 := by decide
        have y1 : (nmG g).length + (Str.ofString " ").length ≤ sizeLine := by omega
        have y0 : (nmG g ++ Str.ofString " ").length = (nmG g).length + (Str.ofString " ").length := by rw [TL.len_tl, TL.tl_append, List.length_append, ← TL.len_tl, ← TL.len_tl]
        have y2 : (nmG g ++ Str.ofString " ").length + (Str.ofString (toString (gN g))).length ≤ sizeLine := by omega
        walk_at "ev"
        intro pa hpa
        have s3 := same_new (o := .lst [.str (gTxt g), .str (gTxt g)]) hpa
        have qpa : upd H2 pa (.lst [.str (gTxt g), .str (gTxt g)]) pa = some (.lst [.str (gTxt g), .str (gTxt g)]) := upd_same
        generalize upd H2 pa (.lst [.str (gTxt g), .str (gTxt g)]) = H3 at s3 qpa ⊢
        have hT3 := hT2.same s3
        have hb3 := hb2.same s3
        have hqt3 : SqT K H3 t [.str (nmG g), .int (gN g)] := SqT.of (s3 _ _ hq2)
        walk_at "ev"
        intro pb hpb
        rw [gtx_eq]
        have s4 := same_new (o := .lst [.str (gTxt g)]) hpb
        have qpb : upd H3 pb (.lst [.str (gTxt g)]) pb = some (.lst [.str (gTxt g)]) := upd_same
        generalize upd H3 pb (.lst [.str (gTxt g)]) = H4 at s4 qpb ⊢
        walk_at "ev"
        intro pc hpc
        generalize hG5 : upd H4 pc _ = H5
        obtain ⟨s5, qpc⟩ := newO hG5 hpc
        clear hG5
        have dA : Dp K H5 (.ref pa) (.list [.str (gTxt g), .str (gTxt g)]) := .lst (SqL.of ((s4.trans s5) _ _ qpa)) (.cons (.str _) (.cons (.str _) .nil))
        have dB : Dp K H5 (.ref pc) (.list [.str (gTxt g), .str (gTxt g)]) := .lst (SqL.of qpc) (.cons (.str _) (.cons (.str _) .nil))
        obtain ⟨sh, evt⟩ := shp_two (gtx_ok ok) (gtx_ok ok)
        refine ⟨_, _, dA, dB, sh, sh, ?_⟩
        rw [evt]
        have hT5 := hT3.same (s4.trans s5)
        have hb5 := hb3.same (s4.trans s5)
        have h5o : SqL K H5 sl (es.map fun e => V.ref e.1) := SqL.of hT5.1
        have h5t : SqL K H5 tl (es.map fun e => V.ref e.2.1) := SqL.of hT5.2.1
        clear dA dB sh evt
        walk_at "ev"
        refine RZ.for_zipL (K := K) (a := sl) (b := tl) (xs := es.map fun e => V.ref e.1) (ys := es.map fun e => V.ref e.2.1) (by rw [List.length_map, List.length_map]) (fun j σ H' => Hold (∃ s7 s8, σ = [some (.ref b), some (.ref ba), some (.ref ki), some (.ref sl), some (.ref tl), some (.ref o), some (.ref t), s7, s8, s9, s10, s11, s12, none, none] ∧ Same H5 H')) (.mk ⟨_, _, rfl, Same.refl _⟩) ?_ ?_ ?_
        · intro j σ H' hP
          obtain ⟨s7, s8, rfl, kj⟩ := hP.un
          exact ⟨kj.seq h5o, kj.seq h5t⟩
        · intro j x y T2 σ H6 hx hy hP hT2'
          obtain ⟨s7, s8, rfl, kj⟩ := hP.un
          rw [List.getElem?_map] at hx hy
          obtain ⟨e2, he2, rfl⟩ := Option.map_eq_some_iff.mp hx
          obtain ⟨e3, he3, rfl⟩ := Option.map_eq_some_iff.mp hy
          rw [he2] at he3
          cases he3
          obtain ⟨o2, u2, g2⟩ := e2
          have hel2 := List.mem_of_getElem? he2
          have s7' := same_new (o := .tup [.ref o2, .ref u2]) hT2'
          have qT2 : upd H6 T2 (.tup [.ref o2, .ref u2]) T2 = some (.tup [.ref o2, .ref u2]) := upd_same
          generalize upd H6 T2 (.tup [.ref o2, .ref u2]) = H7 at s7' qT2 ⊢
          have hTq2 : SqT K H7 T2 [.ref o2, .ref u2] := SqT.of qT2
          have hT7 := hT5.same (kj.trans s7')
          obtain ⟨hGa, _, hqa⟩ := hT7.2.2.2 _ hel
          obtain ⟨hGb, gk2, hqb⟩ := hT7.2.2.2 _ hel2
          replace hGa : GrAt C1 C2 H7 o g := hGa
          replace hGb : GrAt C1 C2 H7 o2 g2 := hGb
          have dA : Dp K H7 (.ref t) (.tuple [.str (nmG g), .int (gN g)]) := .tup (SqT.of hqa) (.cons (.str _) (.cons (.int _) .nil))
          have dB : Dp K H7 (.ref u2) (.tuple [.str (nmG g2), .int (gN g2)]) := .tup (SqT.of hqb) (.cons (.str _) (.cons (.int _) .nil))
          have sA : SeqAt.shaped (.tuple [.str (nmG g), .int (gN g)]) = true := shp_tsi (nmg_ok g)
          have sB : SeqAt.shaped (.tuple [.str (nmG g2), .int (gN g2)]) = true := shp_tsi (nmg_ok g2)
          have oq : ∀ {Q : Bool → Prop}, Q (gEq g g2) → OtherOk K C1 C2 H7 g (.ref o2) Q := fun q => .inl ⟨o2, g2, rfl, hGb, q⟩
          have eqv : PyData.eqv (.tuple [.str (nmG g), .int (gN g)]) (.tuple [.str (nmG g2), .int (gN g2)]) = gEq g g2 := nm_eqv _ _
          walk_at "ev"
          refine oq ?_
          walk_at "ev"
          rw [eqv]
          walk_at "ev"
          refine oq ?_
          walk_at "ev"
          rw [eqv]
          have nb1 : (decide (V.bl (!gEq g g2) = V.bl (gEq g g2))) = false := by cases gEq g g2 <;> rfl
          walk_at "ev"
          refine iteFe nb1 ?_
          walk_at "ev"
          exact .mk ⟨_, _, rfl, kj.trans s7'⟩
        · intro σ H6 hP
          obtain ⟨s7, s8, rfl, kj⟩ := hP.un
          have hT6 := hT5.same kj
          have hqt6 : SqT K H6 t [.str (nmG g), .int (gN g)] := same_t kj (same_t (s4.trans s5) hqt3)
          have hG6 : GrAt C1 C2 H6 o g := (hT6.2.2.2 _ hel).1
          have hqr6 : H6 t = some (.tup [.str (nmG g), .int (gN g)]) := (hT6.2.2.2 _ hel).2.2
          have at1 : atI [V.str (nmG g), V.int (gN g)] 1 = some (V.int (gN g)) := rfl
          walk_at "ev"
          intro pe hpe
          generalize hG7 : upd H6 pe _ = H7
          obtain ⟨s7', qpe⟩ := newO hG7 hpe
          clear hG7
          walk_at "ev"
          intro tq htq
          generalize hG8 : upd H7 tq _ = H8
          obtain ⟨s8', qtq⟩ := newO hG8 htq
          clear hG8
          have hTt : SqT K H8 tq [.non, .ref t, .int (gN g), .str (gTxt g), .ref pe, .int 0] := SqT.of qtq
          walk_at "ev"
          refine ⟨⟨_, hTt⟩, fun D hD => ?_⟩
          have s68 := s7'.trans s8'
          refine lc_tup (K := K) (a := tq) (xs := [.non, .ref t, .int (gN g), .str (gTxt g), .ref pe, .int 0]) (fun i H' => Hold (Same H8 H' ∧ H' D = some (.lst ((List.replicate i false).map V.bl)))) (.mk ⟨same_new hD, upd_same⟩) ?_ ?_ ?_
          · intro j H' hj hP
            obtain ⟨kd8, _⟩ := hP.un
            exact same_t kd8 hTt
          · intro j v H9 hv hP
            obtain ⟨kd8, hD9⟩ := hP.un
            have hG9 : GrAt C1 C2 H9 o g := (hG6.same s68).same kd8
            have hj6 : j < 6 := (List.getElem?_eq_some_iff.mp hv).1
            have oth : ∀ {Q : Bool → Prop}, Q false → OtherOk K C1 C2 H9 g v Q := fun q => by
              have hvm := List.mem_of_getElem? hv
              simp only [List.mem_cons, List.not_mem_nil, or_false] at hvm
              rcases hvm with z | z | z | z | z | z <;> subst z
              · exact .inr ⟨"NoneType", by decide, .base .non, q⟩
              · exact .inr ⟨"tuple", by decide, .base (.tup (kd8 _ _ (s68 _ _ hqr6))), q⟩
              · exact .inr ⟨"int", by decide, .base (.int _), q⟩
              · exact .inr ⟨"str", by decide, .base (.str _), q⟩
              · exact .inr ⟨"list", by decide, .base (.lst (kd8 _ _ (s8' _ _ qpe))), q⟩
              · exact .inr ⟨"int", by decide, .base (.int _), q⟩
            have hsz : ((List.replicate j false).map V.bl).length < sizeLine := szm (by rw [List.length_map, List.length_replicate]; omega)
            walk_at "ev"
            refine oth ?_
            walk_at "ev"
            refine .mk ⟨same_mut kd8 hD, ?_⟩
            rw [upd_same, List.replicate_succ', List.map_append]
            rfl
          · intro H9 hP
            obtain ⟨kd8, hD9⟩ := hP.un
            refine ⟨D, List.replicate 6 false, rfl, SqL.of hD9, ?_⟩
            have s59 := kj.trans (s68.trans kd8)
            have hb9 := hb5.same s59
            have cn : n + 3 * (i : Int) < 1048576 := by omega
            have cn1 : n + 3 * (i : Int) + 1 < 1048576 := by omega
            walk_at "ev"
            intro r1 H10 r10 r11 k10 hb10
            walk_at "ev"
            intro r2 H11 r20 r21 k11 hb11
            walk_at "ev"
            intro tw htw
            generalize hG12 : upd H11 tw _ = H12
            obtain ⟨s12, qtw⟩ := newO hG12 htw
            clear hG12
            have hTw : SqT K H12 tw [.int (5 + r1), .int (r2 - 50)] := SqT.of qtw
            have k912 : Keep b H9 H12 := (k10.trans k11).trans (keepS s12)
            have hG12 : GrAt C1 C2 H12 o g := ((hG6.same s68).same kd8).keep hb9 k912
            have hb12 := hb11.same s12
            clear hqt6 hqr6 at1 qpe hTt hD9 hG6
            walk_at "ev"
            refine ⟨⟨_, hTw⟩, fun D2 hD2 => ?_⟩
            refine lc_tup (K := K) (a := tw) (xs := [.int (5 + r1), .int (r2 - 50)]) (fun i H' => Hold (∃ us : List (V × Wt), Same H12 H' ∧ H' D2 = some (.lst (us.map (·.1))) ∧ us.length = i ∧ ∀ e ∈ us, ∃ c : Int, c.natAbs ≤ 200 ∧ e.2 = gw g c ∧ WtAt K H' e.1 e.2)) (.mk ⟨[], same_new hD2, upd_same, rfl, fun e he => nomatch he⟩) ?_ ?_ ?_
            · intro j H' hj hP
              obtain ⟨us, kd12, _⟩ := hP.un
              exact same_t kd12 hTw
            · intro j v H13 hv hP
              obtain ⟨us, kd12, hU, lU, wU⟩ := hP.un
              have hG13 := hG12.same kd12
              obtain ⟨c, rfl, hc⟩ : ∃ c : Int, v = .int c ∧ c.natAbs ≤ 200 := by
                have hvm := List.mem_of_getElem? hv
                simp only [List.mem_cons, List.not_mem_nil, or_false] at hvm
                rcases hvm with z | z <;> exact ⟨_, z, by omega⟩
              have hj2 : j < 2 := (List.getElem?_eq_some_iff.mp hv).1
              have hc2 : c.natAbs ≤ 1125899906842624 := by omega
              have hsz : (us.map (·.1)).length < sizeLine := szm (by rw [List.length_map]; omega)
              walk_at "ev"
              intro z H14 s14 hz
              have hU14 := s14 _ _ hU
              walk_at "ev"
              refine .mk ⟨us ++ [(z, gw g c)], same_mut (kd12.trans s14) hD2, by rw [upd_same, List.map_append]; rfl, by rw [List.length_append, lU]; rfl, fun e he => ?_⟩
              rcases List.mem_append.mp he with y | y
              · obtain ⟨c', h1, h2, h3⟩ := wU e y
                exact ⟨c', h1, h2, (h3.same s14).mut hU14⟩
              · rw [List.mem_singleton.mp y]
                exact ⟨c, hc, rfl, hz.1.mut hU14⟩
            · intro H13 hP
              obtain ⟨us, kd12, hU, lU, wU⟩ := hP.un
              obtain ⟨e1, e2, rfl⟩ : ∃ e1 e2, us = [e1, e2] := by
                match us, lU with
                | [a, b], _ => exact ⟨a, b, rfl⟩
              obtain ⟨c1, hc1, ec1, w1'⟩ := wU e1 (by simp)
              obtain ⟨c2, hc2, ec2, w2'⟩ := wU e2 (by simp)
              have hT13 := ((hT5.same s59).keep hb9 k912).same kd12
              have ht13 : SqT K H13 t [.str (nmG g), .int (gN g)] := SqT.of (hT13.2.2.2 _ hel).2.2
              have hb13 := hb12.same kd12
              have hG13 := hG12.same kd12
              have at0 : atI [V.str (nmG g), V.int (gN g)] 0 = some (V.str (nmG g)) := rfl
              have at1 : atI [V.str (nmG g), V.int (gN g)] 1 = some (V.int (gN g)) := rfl
              have nbl := nb.1
              have nbh := nb.2
              have nD2b : D2 ≠ b := hb12.ne hD2
              clear hTw hG12 qtw k10 k11 hb10 hb11 hb12
              walk_at "ev"
              by_cases h2 : gN g = 2
              · refine iteTe (decide_eq_true (congrArg V.int h2)) ?_
                walk_at "ev"
                intro pz hpz
                generalize hGz : upd H13 pz _ = H14
                obtain ⟨s14, qz⟩ := newO hGz hpz
                clear hGz
                obtain ⟨L2, eL2, hL2, hL3, hL4⟩ := (⟨1, rfl, by decide, by decide, Int.emod_one _⟩ : ∃ L : Nat, (1 : Int) = (L : Int) ∧ 1 ≤ L ∧ L ≤ 1000 ∧ numM g % (L : Int) = 0)
                have hLz : SqL K H14 pz [.int 1, .int (L2 : Int)] := SqL.of (by rw [← eL2]; exact qz)
                have hb14 := hb13.same s14
                have npz : pz ≠ b := hb13.ne hpz
                have l0 : 0 < (([.int 1, .int (L2 : Int)] : List V).length : Int) := by show (0 : Int) < 2; decide
                have l1 : (([.int 1, .int (L2 : Int)] : List V).length : Int) < 1048576 := by show (2 : Int) < 1048576; decide
                have cn2 : n + 3 * (i : Int) + 1 + 1 < 1048576 := by omega
                walk_at "ev"
                intro vL H15 hvL k15 hb15
                obtain ⟨L, rfl, L1, L1000, hLd⟩ : ∃ L : Nat, vL = .int (L : Int) ∧ 1 ≤ L ∧ L ≤ 1000 ∧ numM g % (L : Int) = 0 := by
                  simp only [List.mem_cons, List.not_mem_nil, or_false] at hvL
                  rcases hvL with z | z
                  · exact ⟨1, z, by decide, by decide, Int.emod_one _⟩
                  · exact ⟨L2, z, hL2, hL3, hL4⟩
                obtain ⟨qq, hq⟩ := lg_ex ok
                have nD2 : D2 ≠ b := nD2b
                have hU15 : SqL K H15 D2 [e1.1, e2.1] := SqL.of (k15 _ _ nD2 (s14 _ _ hU))
                have wk1 : Wk K H15 g e1.1 (gw g c1) 50 := ⟨(ec1 ▸ (w1'.same s14)).keep hb14 k15, nm_gw ok, (bb_gw hc1).up (by decide)⟩
                have wk2 : Wk K H15 g e2.1 (gw g c2) 50 := ⟨(ec2 ▸ (w2'.same s14)).keep hb14 k15, nm_gw ok, (bb_gw hc2).up (by decide)⟩
                have hG15 : GrAt C1 C2 H15 o g := (hG13.same s14).keep hb14 k15
                clear hLz qz hU w1' w2' hG13 ht13 wU
                walk_at "ev"
                intro pf vf H16 s16 qf df
                have hU16 : SqL K H16 D2 [e1.1, e2.1] := s16.seq hU15
                have wk3 := wk1.same s16
                have wk4 := wk2.same s16
                have hG16 := hG15.same s16
                walk_at "ev"
                intro pg vg H17 s17 qg dg
                have dF : Dp K H17 (.ref pf) (.list (byD g qq (gw g c1) (gw g c2) L)) := .lst (SqL.of (s17 _ _ qf)) (dpall_same s17 df)
                have dG : Dp K H17 (.ref pg) (.list (byD g qq (gw g c1) (gw g c2) L)) := .lst (SqL.of qg) dg
                have sh := (sm_by (q := qq) gk hc1 hc2 L1 hLd).shn (by decide) (by decide)
                walk_at "ev"
                refine .mk ⟨_, _, _, _, _, _, _, _, rfl, ((kd.trans (keepS (((s2.trans s3).trans (s4.trans s5)).trans s59))).trans k912).trans (((keepS (kd12.trans s14)).trans k15).trans (keepS (s16.trans s17))), ((hb15.same s16).same s17).mono (by omega)⟩
              · refine iteFe (decide_eq_false fun z => h2 (V.int.inj z)) ?_
                walk_at "ev"
                intro pz hpz
                generalize hGz : upd H13 pz _ = H14
                obtain ⟨s14, qz⟩ := newO hGz hpz
                clear hGz
                obtain ⟨L2, eL2, hL2, hL3, hL4⟩ := longL gk h2
                have hLz : SqL K H14 pz [.int 1, .int (L2 : Int)] := SqL.of (by rw [← eL2]; exact qz)
                have hb14 := hb13.same s14
                have npz : pz ≠ b := hb13.ne hpz
                have l0 : 0 < (([.int 1, .int (L2 : Int)] : List V).length : Int) := by show (0 : Int) < 2; decide
                have l1 : (([.int 1, .int (L2 : Int)] : List V).length : Int) < 1048576 := by show (2 : Int) < 1048576; decide
                have cn2 : n + 3 * (i : Int) + 1 + 1 < 1048576 := by omega
                walk_at "ev"
                intro vL H15 hvL k15 hb15
                obtain ⟨L, rfl, L1, L1000, hLd⟩ : ∃ L : Nat, vL = .int (L : Int) ∧ 1 ≤ L ∧ L ≤ 1000 ∧ numM g % (L : Int) = 0 := by
                  simp only [List.mem_cons, List.not_mem_nil, or_false] at hvL
                  rcases hvL with z | z
                  · exact ⟨1, z, by decide, by decide, Int.emod_one _⟩
                  · exact ⟨L2, z, hL2, hL3, hL4⟩
                obtain ⟨qq, hq⟩ := lg_ex ok
                have nD2 : D2 ≠ b := nD2b
                have hU15 : SqL K H15 D2 [e1.1, e2.1] := SqL.of (k15 _ _ nD2 (s14 _ _ hU))
                have wk1 : Wk K H15 g e1.1 (gw g c1) 50 := ⟨(ec1 ▸ (w1'.same s14)).keep hb14 k15, nm_gw ok, (bb_gw hc1).up (by decide)⟩
                have wk2 : Wk K H15 g e2.1 (gw g c2) 50 := ⟨(ec2 ▸ (w2'.same s14)).keep hb14 k15, nm_gw ok, (bb_gw hc2).up (by decide)⟩
                have hG15 : GrAt C1 C2 H15 o g := (hG13.same s14).keep hb14 k15
                clear hLz qz hU w1' w2' hG13 ht13 wU
                walk_at "ev"
                intro pf vf H16 s16 qf df
                have hU16 : SqL K H16 D2 [e1.1, e2.1] := s16.seq hU15
                have wk3 := wk1.same s16
                have wk4 := wk2.same s16
                have hG16 := hG15.same s16
                walk_at "ev"
                intro pg vg H17 s17 qg dg
                have dF : Dp K H17 (.ref pf) (.list (byD g qq (gw g c1) (gw g c2) L)) := .lst (SqL.of (s17 _ _ qf)) (dpall_same s17 df)
                have dG : Dp K H17 (.ref pg) (.list (byD g qq (gw g c1) (gw g c2) L)) := .lst (SqL.of qg) dg
                have sh := (sm_by (q := qq) gk hc1 hc2 L1 hLd).shn (by decide) (by decide)
                walk_at "ev"
                refine .mk ⟨_, _, _, _, _, _, _, _, rfl, ((kd.trans (keepS (((s2.trans s3).trans (s4.trans s5)).trans s59))).trans k912).trans (((keepS (kd12.trans s14)).trans k15).trans (keepS (s16.trans s17))), ((hb15.same s16).same s17).mono (by omega)⟩
      · intro σ H1 hP
        obtain ⟨s5, s6, s7, s8, s9, s10, s11, s12, rfl, kd, hbd⟩ := hP.un
        have hT1 := hT.keep hbu kd
        have qs1 := hT1.1
        rw [hes] at qs1
        have hS1 : SqL K H1 sl [.ref o1, .ref o2, .ref o3, .ref o4] := SqL.of qs1
        have qa1 := kd _ _ nba hba
        have qb1 := kd _ _ nki hki
        obtain ⟨d1, g1, a1, b1⟩ : RestAt C1 H1 o1 p1 := (hT1.2.2.2 (o1, ta, .rests p1) (by rw [hes]; simp)).1
        obtain ⟨d2, g2, a2, b2⟩ : RestAt C1 H1 o2 p2 := (hT1.2.2.2 (o2, tb, .rests p2) (by rw [hes]; simp)).1
        obtain ⟨d3, g3, a3, b3⟩ : RootAt C2 H1 o3 n1 := (hT1.2.2.2 (o3, tc, .roots n1) (by rw [hes]; simp)).1
        obtain ⟨d4, g4, a4, b4⟩ : RootAt C2 H1 o4 n2 := (hT1.2.2.2 (o4, td, .roots n2) (by rw [hes]; simp)).1
        obtain ⟨cl1, np1, nb1⟩ := S.R1
        obtain ⟨cl2, np2, nb2⟩ := S.R2
        walk_at "ev"
        intro pz hpz
        have s3 := same_new (o := .lst [.int p1, .int p2, .int (n1 : Int), .int (n2 : Int)]) hpz
        have qz : upd H1 pz (.lst [.int p1, .int p2, .int (n1 : Int), .int (n2 : Int)]) pz = some (.lst [.int p1, .int p2, .int (n1 : Int), .int (n2 : Int)]) := upd_same
        generalize upd H1 pz (.lst [.int p1, .int p2, .int (n1 : Int), .int (n2 : Int)]) = H3 at s3 qz ⊢
        have qa3 := s3 _ _ qa1
        have qb3 := s3 _ _ qb1
        walk_at "ev"
        intro pw hpw
        have s4 := same_new (o := .lst ([.int p1, .int p2] ++ [.int (n1 : Int), .int (n2 : Int)])) hpw
        have qw : upd H3 pw (.lst ([.int p1, .int p2] ++ [.int (n1 : Int), .int (n2 : Int)])) pw = some (.lst ([.int p1, .int p2] ++ [.int (n1 : Int), .int (n2 : Int)])) := upd_same
        generalize upd H3 pw (.lst ([.int p1, .int p2] ++ [.int (n1 : Int), .int (n2 : Int)])) = H4 at s4 qw ⊢
        have dA : Dp K H4 (.ref pz) (.list [.int p1, .int p2, .int (n1 : Int), .int (n2 : Int)]) := .lst (SqL.of (s4 _ _ qz)) (.cons (.int _) (.cons (.int _) (.cons (.int _) (.cons (.int _) .nil))))
        have dB : Dp K H4 (.ref pw) (.list [.int p1, .int p2, .int (n1 : Int), .int (n2 : Int)]) := .lst (SqL.of qw) (.cons (.int _) (.cons (.int _) (.cons (.int _) (.cons (.int _) .nil))))
        have sh : SeqAt.shaped (.list [.int p1, .int p2, .int (n1 : Int), .int (n2 : Int)]) = true := rfl
        have ev := SeqAt.eqv_refl (.list [.int p1, .int p2, .int (n1 : Int), .int (n2 : Int)]) rfl
        refine ⟨_, _, dA, dB, sh, sh, ?_⟩
        rw [ev]
        walk_at "ev"
        exact nx H4 none none none none none none none none (kd.trans (keepS (s3.trans s4))) ((hbd.same (s3.trans s4)).mono (by rw [List.length_map, hT.2.2.1]; omega))
    obtain ⟨tt, htl, fin⟩ := tail
    refine ⟨_, (pss_cons (ps_set (i := 1) nd rfl (Or.inl rfl) (pe_lst (pa_cons (pe_call G__law_pick (hr.mono (by omega)) (by rfl) D__law_pick.g D__law_pick.F.kp D__law_pick.b .nil pass0 (pa_cons (pv 0) (pa_cons (pe_lst (pa_cons (pe_int) (pa_cons (pe_int) (pa_cons (pe_int) (pa_cons (pe_int) pa_nil))))) pa_nil))) (pa_cons (pe_call G__law_pick (hr.mono (by omega)) (by rfl) D__law_pick.g D__law_pick.F.kp D__law_pick.b .nil pass0 (pa_cons (pv 0) (pa_cons (pe_lst (pa_cons (pe_int) (pa_cons (pe_int) (pa_cons (pe_int) (pa_cons (pe_int) pa_nil))))) pa_nil))) pa_nil))))
      (pss_cons (ps_set (i := 2) nd rfl (Or.inl rfl) (pe_lst (pa_cons (pe_op op_add (pe_int) (pe_call G__law_take (hr.mono (by omega)) (by rfl) D__law_take.g D__law_take.F.kp D__law_take.b .nil pass0 (pa_cons (pv 0) (pa_cons (pe_int) pa_nil)))) (pa_cons (pe_call G__law_pick (hr.mono (by omega)) (by rfl) D__law_pick.g D__law_pick.F.kp D__law_pick.b .nil pass0 (pa_cons (pv 0) (pa_cons (pe_lst (pa_cons (pe_int) (pa_cons (pe_int) (pa_cons (pe_op op_mod (pe_int) (pe_int)) pa_nil)))) pa_nil))) pa_nil))))
      (pss_cons (ps_set (i := 3) nd rfl (Or.inl rfl) (pe_lst (pa_cons (pe_makeKS0 MK_Rests G_Rests___init__ (hr.mono (by omega)) (by rfl) M_Rests KB_Rests___init__ (passAll passL) (pk_cons (pe_ix (r := rIxL K) ix_list (pv 1) (pe_int) (fun _ _ => rfl)) pk_nil)) (pa_cons (pe_make MK_Rests G_Rests___init__ (hr.mono (by omega)) (by rfl) M_Rests B_Rests___init__ .nil passL (pa_cons (pe_ix (r := rIxL K) ix_list (pv 1) (pe_int) (fun _ _ => rfl)) pa_nil)) (pa_cons (pe_makeKS0 MK_Roots G_Roots___init__ (hr.mono (by omega)) (by rfl) M_Roots KB_Roots___init__ (passAll passL) (pk_cons (pe_ix (r := rIxL K) ix_list (pv 2) (pe_int) (fun _ _ => rfl)) pk_nil)) (pa_cons (pe_make MK_Roots G_Roots___init__ (hr.mono (by omega)) (by rfl) M_Roots B_Roots___init__ .nil passL (pa_cons (pe_ix (r := rIxL K) ix_list (pv 2) (pe_int) (fun _ _ => rfl)) pa_nil)) pa_nil))))))
      (pss_cons (ps_set (i := 4) nd rfl (Or.inl rfl) (pe_lst (pa_cons (pe_tup (pa_cons (pe_str) (pa_cons (pe_ix (r := rIxL K) ix_list (pv 1) (pe_int) (fun _ _ => rfl)) pa_nil))) (pa_cons (pe_tup (pa_cons (pe_str) (pa_cons (pe_ix (r := rIxL K) ix_list (pv 1) (pe_int) (fun _ _ => rfl)) pa_nil))) (pa_cons (pe_tup (pa_cons (pe_str) (pa_cons (pe_ix (r := rIxL K) ix_list (pv 2) (pe_int) (fun _ _ => rfl)) pa_nil))) (pa_cons (pe_tup (pa_cons (pe_str) (pa_cons (pe_ix (r := rIxL K) ix_list (pv 2) (pe_int) (fun _ _ => rfl)) pa_nil))) pa_nil))))))
      htl)))), ?_⟩
    walk_at "ev"
    intro ca eca
    have s1 := same_new (o := .lst [.int 97, .int 13, .int 2521, .int 9973]) eca
    have qca_1 : upd H ca (.lst [.int 97, .int 13, .int 2521, .int 9973]) ca = some (.lst [.int 97, .int 13, .int 2521, .int 9973]) := upd_same
    have nca := hb.ne eca
    generalize upd H ca (.lst [.int 97, .int 13, .int 2521, .int 9973]) = H1 at s1 qca_1 ⊢
    have hb1 := hb.same s1
    have k1 := keepS (b := b) s1
    have u1 := SqL.of (K := K) qca_1
    have l1 : 0 < (([.int 97, .int 13, .int 2521, .int 9973] : List V).length : Int) := by decide
    have m1 : (([.int 97, .int 13, .int 2521, .int 9973] : List V).length : Int) < 1048576 := by decide
    have c1 : n < 1048576 := by omega
    walk_at "ev"
    intro v1 H2 hv1 k2 hb2
    have qca_2 := k2 _ _ nca qca_1
    walk_at "ev"
    intro cb ecb
    have s3 := same_new (o := .lst [.int 97, .int 13, .int 3, .int 2]) ecb
    have qcb_3 : upd H2 cb (.lst [.int 97, .int 13, .int 3, .int 2]) cb = some (.lst [.int 97, .int 13, .int 3, .int 2]) := upd_same
    have ncb := hb2.ne ecb
    generalize upd H2 cb (.lst [.int 97, .int 13, .int 3, .int 2]) = H3 at s3 qcb_3 ⊢
    have hb3 := hb2.same s3
    have k3 := keepS (b := b) s3
    have u3 := SqL.of (K := K) qcb_3
    have l3 : 0 < (([.int 97, .int 13, .int 3, .int 2] : List V).length : Int) := by decide
    have m3 : (([.int 97, .int 13, .int 3, .int 2] : List V).length : Int) < 1048576 := by decide
    have c3 : n < 1048576 := by omega
    walk_at "ev"
    intro v2 H4 hv2 k4 hb4
    have qcb_4 := k4 _ _ ncb qcb_3
    walk_at "ev"
    obtain ⟨p1, e1, gp1⟩ : ∃ p : Int, v1 = V.int p ∧ gOk (.rests p) := by
      simp only [List.mem_cons, List.not_mem_nil, or_false] at hv1
      rcases hv1 with z | z | z | z <;> exact ⟨_, z, by show _ ∈ _; simp⟩
    subst e1
    obtain ⟨p2, e2, gp2⟩ : ∃ p : Int, v2 = V.int p ∧ gOk (.rests p) := by
      simp only [List.mem_cons, List.not_mem_nil, or_false] at hv2
      rcases hv2 with z | z | z | z <;> exact ⟨_, z, by show _ ∈ _; simp⟩
    subst e2
    intro ba eba
    have s5 := same_new (o := .lst [.int p1, .int p2]) eba
    have qba_5 : upd H4 ba (.lst [.int p1, .int p2]) ba = some (.lst [.int p1, .int p2]) := upd_same
    have nba := hb4.ne eba
    generalize upd H4 ba (.lst [.int p1, .int p2]) = H5 at s5 qba_5 ⊢
    have hb5 := hb4.same s5
    have k5 := keepS (b := b) s5
    walk_at "ev"
    intro r H6 r0 r1 k6 hb6
    have qba_6 := k6 _ _ nba qba_5
    walk_at "ev"
    intro cc ecc
    have s7 := same_new (o := .lst [.int 12, .int 13, .int (97 % 30)]) ecc
    have qcc_7 : upd H6 cc (.lst [.int 12, .int 13, .int (97 % 30)]) cc = some (.lst [.int 12, .int 13, .int (97 % 30)]) := upd_same
    have ncc := hb6.ne ecc
    generalize upd H6 cc (.lst [.int 12, .int 13, .int (97 % 30)]) = H7 at s7 qcc_7 ⊢
    have hb7 := hb6.same s7
    have k7 := keepS (b := b) s7
    have qba_7 := s7 _ _ qba_6
    have u7 := SqL.of (K := K) qcc_7
    have l7 : 0 < (([.int 12, .int 13, .int (97 % 30)] : List V).length : Int) := by decide
    have m7 : (([.int 12, .int 13, .int (97 % 30)] : List V).length : Int) < 1048576 := by decide
    have c7 : n + 1 < 1048576 := by omega
    walk_at "ev"
    intro v3 H8 hv3 k8 hb8
    have qba_8 := k8 _ _ nba qba_7
    have qcc_8 := k8 _ _ ncc qcc_7
    obtain ⟨n2, e3, gn2⟩ : ∃ n : Nat, v3 = V.int (n : Int) ∧ gOk (.roots n) := by
      simp only [List.mem_cons, List.not_mem_nil, or_false] at hv3
      rcases hv3 with z | z | z
      · exact ⟨12, z, by decide, by decide⟩
      · exact ⟨13, z, by decide, by decide⟩
      · exact ⟨7, z, by decide, by decide⟩
    subst e3
    obtain ⟨n1, en1, gn1⟩ : ∃ n : Nat, 1 + r = (n : Int) ∧ gOk (.roots n) := ⟨(1 + r).toNat, by omega, by show 1 ≤ _ ∧ _ < 31; omega⟩
    walk_at "ev"
    intro ki eki
    have s9 := same_new (o := .lst [.int (1 + r), .int (n2 : Int)]) eki
    have qki_9 : upd H8 ki (.lst [.int (1 + r), .int (n2 : Int)]) ki = some (.lst [.int (1 + r), .int (n2 : Int)]) := upd_same
    have nki := hb8.ne eki
    generalize upd H8 ki (.lst [.int (1 + r), .int (n2 : Int)]) = H9 at s9 qki_9 ⊢
    have hb9 := hb8.same s9
    have k9 := keepS (b := b) s9
    have qba_9 := s9 _ _ qba_8
    rw [en1] at qki_9
    have u9 := SqL.of (K := K) qba_9
    have ux9 := SqL.of (K := K) qki_9
    walk_at "ev"
    refine fun o1 dxo1 hxo1 hdo1 neo1 => ?_
    refine ⟨o1, dxo1, .int p1, "int", rfl, upd_same, .int p1, fun p' ep hp' H10 k' hRo1 => ⟨rfl, ?_⟩, fun no => absurd ⟨p1, rfl, gp1.ok⟩ no⟩
    cases ep
    have s10 := keep_mk hxo1 hdo1 k'
    have hb10 := hb9.same s10
    have k10 := keepS (b := b) s10
    have qba_10 := s10 _ _ qba_9
    have qki_10 := s10 _ _ qki_9
    have ho1_10 : GrAt C1 C2 H10 o1 (.rests p1) := hRo1
    have u10 := SqL.of (K := K) qba_10
    have ux10 := SqL.of (K := K) qki_10
    walk_at "ev"
    refine fun o2 dxo2 hxo2 hdo2 neo2 => ?_
    refine ⟨o2, dxo2, .int p2, "int", rfl, upd_same, .int p2, fun p' ep hp' H11 k' hRo2 => ⟨rfl, ?_⟩, fun no => absurd ⟨p2, rfl, gp2.ok⟩ no⟩
    cases ep
    have s11 := keep_mk hxo2 hdo2 k'
    have hb11 := hb10.same s11
    have k11 := keepS (b := b) s11
    have qba_11 := s11 _ _ qba_10
    have qki_11 := s11 _ _ qki_10
    have ho1_11 := ho1_10.same s11
    have ho2_11 : GrAt C1 C2 H11 o2 (.rests p2) := hRo2
    have u11 := SqL.of (K := K) qba_11
    have ux11 := SqL.of (K := K) qki_11
    walk_at "ev"
    refine fun o3 dxo3 hxo3 hdo3 neo3 => ?_
    refine ⟨o3, dxo3, .int (n1 : Int), "int", rfl, upd_same, .int (n1 : Int), fun n' en' n1' n31' H12 k' hRo3 => ⟨rfl, ?_⟩, fun no => absurd ⟨n1, rfl, gn1.1, gn1.2⟩ no⟩
    obtain rfl : n1 = n' := by
      have := V.int.inj en'
      omega
    have s12 := keep_mk hxo3 hdo3 k'
    have hb12 := hb11.same s12
    have k12 := keepS (b := b) s12
    have qba_12 := s12 _ _ qba_11
    have qki_12 := s12 _ _ qki_11
    have ho1_12 := ho1_11.same s12
    have ho2_12 := ho2_11.same s12
    have ho3_12 : GrAt C1 C2 H12 o3 (.roots n1) := hRo3
    have u12 := SqL.of (K := K) qba_12
    have ux12 := SqL.of (K := K) qki_12
    walk_at "ev"
    refine fun o4 dxo4 hxo4 hdo4 neo4 => ?_
    refine ⟨o4, dxo4, .int (n2 : Int), "int", rfl, upd_same, .int (n2 : Int), fun n' en' n1' n31' H13 k' hRo4 => ⟨rfl, ?_⟩, fun no => absurd ⟨n2, rfl, gn2.1, gn2.2⟩ no⟩
    obtain rfl : n2 = n' := by
      have := V.int.inj en'
      omega
    have s13 := keep_mk hxo4 hdo4 k'
    have hb13 := hb12.same s13
    have k13 := keepS (b := b) s13
    have qba_13 := s13 _ _ qba_12
    have qki_13 := s13 _ _ qki_12
    have ho1_13 := ho1_12.same s13
    have ho2_13 := ho2_12.same s13
    have ho3_13 := ho3_12.same s13
    have ho4_13 : GrAt C1 C2 H13 o4 (.roots n2) := hRo4
    have u13 := SqL.of (K := K) qba_13
    have ux13 := SqL.of (K := K) qki_13
    walk_at "ev"
    intro sl esl
    have s14 := same_new (o := .lst [.ref o1, .ref o2, .ref o3, .ref o4]) esl
    have qsl_14 : upd H13 sl (.lst [.ref o1, .ref o2, .ref o3, .ref o4]) sl = some (.lst [.ref o1, .ref o2, .ref o3, .ref o4]) := upd_same
    have nsl := hb13.ne esl
    generalize upd H13 sl (.lst [.ref o1, .ref o2, .ref o3, .ref o4]) = H14 at s14 qsl_14 ⊢
    have hb14 := hb13.same s14
    have k14 := keepS (b := b) s14
    have qba_14 := s14 _ _ qba_13
    have qki_14 := s14 _ _ qki_13
    have ho1_14 := ho1_13.same s14
    have ho2_14 := ho2_13.same s14
    have ho3_14 := ho3_13.same s14
    have ho4_14 := ho4_13.same s14
    have u14 := SqL.of (K := K) qba_14
    have ux14 := SqL.of (K := K) qki_14
    walk_at "ev"
    intro ta eta
    have s15 := same_new (o := .tup [.str (Str.ofString "rests"), .int p1]) eta
    have qta_15 : upd H14 ta (.tup [.str (Str.ofString "rests"), .int p1]) ta = some (.tup [.str (Str.ofString "rests"), .int p1]) := upd_same
    have nta := hb14.ne eta
    generalize upd H14 ta (.tup [.str (Str.ofString "rests"), .int p1]) = H15 at s15 qta_15 ⊢
    have hb15 := hb14.same s15
    have k15 := keepS (b := b) s15
    have qba_15 := s15 _ _ qba_14
    have qki_15 := s15 _ _ qki_14
    have qsl_15 := s15 _ _ qsl_14
    have ho1_15 := ho1_14.same s15
    have ho2_15 := ho2_14.same s15
    have ho3_15 := ho3_14.same s15
    have ho4_15 := ho4_14.same s15
    have u15 := SqL.of (K := K) qba_15
    have ux15 := SqL.of (K := K) qki_15
    walk_at "ev"
    intro tb etb
    have s16 := same_new (o := .tup [.str (Str.ofString "rests"), .int p2]) etb
    have qtb_16 : upd H15 tb (.tup [.str (Str.ofString "rests"), .int p2]) tb = some (.tup [.str (Str.ofString "rests"), .int p2]) := upd_same
    have ntb := hb15.ne etb
    generalize upd H15 tb (.tup [.str (Str.ofString "rests"), .int p2]) = H16 at s16 qtb_16 ⊢
    have hb16 := hb15.same s16
    have k16 := keepS (b := b) s16
    have qba_16 := s16 _ _ qba_15
    have qki_16 := s16 _ _ qki_15
    have qsl_16 := s16 _ _ qsl_15
    have qta_16 := s16 _ _ qta_15
    have ho1_16 := ho1_15.same s16
    have ho2_16 := ho2_15.same s16
    have ho3_16 := ho3_15.same s16
    have ho4_16 := ho4_15.same s16
    have u16 := SqL.of (K := K) qba_16
    have ux16 := SqL.of (K := K) qki_16
    walk_at "ev"
    intro tc etc
    have s17 := same_new (o := .tup [.str (Str.ofString "roots"), .int (n1 : Int)]) etc
    have qtc_17 : upd H16 tc (.tup [.str (Str.ofString "roots"), .int (n1 : Int)]) tc = some (.tup [.str (Str.ofString "roots"), .int (n1 : Int)]) := upd_same
    have ntc := hb16.ne etc
    generalize upd H16 tc (.tup [.str (Str.ofString "roots"), .int (n1 : Int)]) = H17 at s17 qtc_17 ⊢
    have hb17 := hb16.same s17
    have k17 := keepS (b := b) s17
    have qba_17 := s17 _ _ qba_16
    have qki_17 := s17 _ _ qki_16
    have qsl_17 := s17 _ _ qsl_16
    have qta_17 := s17 _ _ qta_16
    have qtb_17 := s17 _ _ qtb_16
    have ho1_17 := ho1_16.same s17
    have ho2_17 := ho2_16.same s17
    have ho3_17 := ho3_16.same s17
    have ho4_17 := ho4_16.same s17
    have u17 := SqL.of (K := K) qba_17
    have ux17 := SqL.of (K := K) qki_17
    walk_at "ev"
    intro td etd
    have s18 := same_new (o := .tup [.str (Str.ofString "roots"), .int (n2 : Int)]) etd
    have qtd_18 : upd H17 td (.tup [.str (Str.ofString "roots"), .int (n2 : Int)]) td = some (.tup [.str (Str.ofString "roots"), .int (n2 : Int)]) := upd_same
    have ntd := hb17.ne etd
    generalize upd H17 td (.tup [.str (Str.ofString "roots"), .int (n2 : Int)]) = H18 at s18 qtd_18 ⊢
    have hb18 := hb17.same s18
    have k18 := keepS (b := b) s18
    have qba_18 := s18 _ _ qba_17
    have qki_18 := s18 _ _ qki_17
    have qsl_18 := s18 _ _ qsl_17
    have qta_18 := s18 _ _ qta_17
    have qtb_18 := s18 _ _ qtb_17
    have qtc_18 := s18 _ _ qtc_17
    have ho1_18 := ho1_17.same s18
    have ho2_18 := ho2_17.same s18
    have ho3_18 := ho3_17.same s18
    have ho4_18 := ho4_17.same s18
    have u18 := SqL.of (K := K) qba_18
    have ux18 := SqL.of (K := K) qki_18
    walk_at "ev"
    intro tl etl
    have s19 := same_new (o := .lst [.ref ta, .ref tb, .ref tc, .ref td]) etl
    have qtl_19 : upd H18 tl (.lst [.ref ta, .ref tb, .ref tc, .ref td]) tl = some (.lst [.ref ta, .ref tb, .ref tc, .ref td]) := upd_same
    have ntl := hb18.ne etl
    generalize upd H18 tl (.lst [.ref ta, .ref tb, .ref tc, .ref td]) = H19 at s19 qtl_19 ⊢
    have hb19 := hb18.same s19
    have k19 := keepS (b := b) s19
    have qba_19 := s19 _ _ qba_18
    have qki_19 := s19 _ _ qki_18
    have qsl_19 := s19 _ _ qsl_18
    have qta_19 := s19 _ _ qta_18
    have qtb_19 := s19 _ _ qtb_18
    have qtc_19 := s19 _ _ qtc_18
    have qtd_19 := s19 _ _ qtd_18
    have ho1_19 := ho1_18.same s19
    have ho2_19 := ho2_18.same s19
    have ho3_19 := ho3_18.same s19
    have ho4_19 := ho4_18.same s19
    refine fin { nx := fun _ H' => Q .non H', rt := Q } H19 ba ki sl tl o1 o2 o3 o4 ta tb tc td p1 p2 n1 n2 [(o1, ta, .rests p1), (o2, tb, .rests p2), (o3, tc, .roots n1), (o4, td, .roots n2)] _ none none none none none none none none none none hb19 (by omega) ⟨qsl_19, qtl_19, rfl, fun e he => ?_⟩ rfl qba_19 nba qki_19 nki fun H' _ _ _ _ _ _ _ _ kz bz => q H' (k1.trans (k2.trans (k3.trans (k4.trans (k5.trans (k6.trans (k7.trans (k8.trans (k9.trans (k10.trans (k11.trans (k12.trans (k13.trans (k14.trans (k15.trans (k16.trans (k17.trans (k18.trans (k19.trans kz))))))))))))))))))) (bz.mono (by omega))
    simp only [List.mem_cons, List.not_mem_nil, or_false] at he
    rcases he with z | z | z | z <;> subst z
    · exact ⟨ho1_19, gp1, qta_19⟩
    · exact ⟨ho2_19, gp2, qtb_19⟩
    · exact ⟨ho3_19, gn1, qtc_19⟩
    · exact ⟨ho4_19, gn2, qtd_19⟩
end
/-! ### calls by names alone -/
section
variable {X : Cx} {CX : CXT} {k : Nat} {f : Addr} {fd : FuncData} {ps ks : List Str} {sp : Sp} {x : Str} {p pos : Pos} {kws : List Keyword} {tk : TA} {g : List Value → List Value → List Value} {gV : List V → List V → List V}
theorem pe_callK0 {E : XK} (F : FnOk X.prog X.w X.K X.mg X.base CX k f fd ps sp) (hr : Room k X.A) (hg : Gl X x) (hm : X.mg x = some (.ref f)) (hk : PySem.W.keepIn X.K (.ref f) = true) (hb : KBinds X.K fd ps ks g gV) (hx : Passes CX X E)
    (hkw : PK X kws tk) (hall : (backToKw pos (keywordEach kws X.env)).all (·.1.isSome) = true := by rfl) (hks : (backToKw pos (keywordEach kws X.env)).filterMap (·.1) = ks := by rfl)
    (hdb : (x == ("__debug__" : Str)) = false := by decide) (hpl : ((backTo pos (starEach [] X.env)).any (·.1) || (backToKw pos (keywordEach kws X.env)).any (·.1.isNone)) = false := by rfl) :
    PE X (.Call (.Name x p) [] kws pos) (tCallK sp gV E tNil tk) := by
  refine ⟨fun pins s σ H Q I h => ?_⟩
  refine wpAny_Call_Name_kw (ld_glob I hg hm ?_ hdb)
  refine PySem.W.callWith_KW0 (h₀ := X.base) I.ok.mod.kin hk hall (thn (hkw.run pos pins s σ H _ I h) fun ws s2 ⟨zs, H2, I2, rz, q2⟩ => ⟨I2.kIn, ?_⟩) hpl
  rw [hks]
  exact run_fnk (us := []) (vs := []) F hr hb hx I2 .nil rz q2
end
/-- one value by its name -/
def g1 {α : Type} : List α → List α → List α
  | [], [a] => [a]
  | _, _ => []
/-- two values by their names, the second parameter first -/
def g2 {α : Type} : List α → List α → List α
  | [], [a, b] => [b, a]
  | _, _ => []
theorem g1_rel {vs zs : List V} {us ws : List Value} (a : Vals vs us) (b : Vals zs ws) : Vals (g1 vs zs) (g1 us ws) := by
  cases a with
  | nil =>
    cases b with
    | nil => exact .nil
    | cons h t =>
      cases t with
      | nil => exact .cons h .nil
      | cons _ _ => exact .nil
  | cons h t => exact .nil
theorem kb1 {K : PySem.W.Frag} {x qual : Str} {st : Stmt} {f : Addr} {fd : FuncData} {y : Str} (F : Fun K x qual st f fd)
    (h : ∀ (kV doc pm : Value) (an : Option Addr) (cdv ct : Value) (u : Value), bindArgs (PySem.W.fnOf x qual (defArgs st) (defBody st) (defScope st) .none kV doc pm an cdv ct) ⟨[], [(y, u)]⟩ = pure [(y, u)]) : KBinds K fd [y] [y] g1 g1 := by
  obtain ⟨oc, od, kV, doc, pm, an, cdv, ct, osl, rfl, lk, hcd⟩ := F.ex
  refine ⟨fun s us ws _ hl => ?_, fun a b => g1_rel a b⟩
  match us, ws, hl with
  | [], [u], _ => exact .of_eq (h kV doc pm an cdv ct u)
  | [], [], hl => exact absurd (show (0 : Nat) = 1 from hl) (by decide)
  | [], _ :: _ :: _, hl => exact absurd (show (0 : Nat) = 1 from hl) (by decide)
  | _ :: _, _, hl => exact absurd (show (0 : Nat) = 1 from hl) (by decide)
abbrev s_law : Stmt := top 31
abbrev N_law : List Str := ["_law_script", "_law_k", "_law_box_here", "_law_way"]
abbrev P_law : List Str := ["_law_script"]
theorem sc_law : FnScope N_law P_law (defScope s_law) := ⟨rfl, rfl, rfl, by decide +kernel, rfl, by decide +kernel, by decide +kernel⟩
def spLaw (K : PySem.W.Frag) : Sp := fun vs H Q _ => ∃ (a : Addr) (ns : List Int), vs = [.ref a] ∧ SqL K H a (ns.map V.int) ∧ ns.length ≤ 63 ∧ ∀ H', Q (.bl true) H'
theorem exm3 {K : PySem.W.Frag} {cls c c2 c3 : Value} {b1 b2 b3 : Bool} (h1 : PySem.W.exmOne K cls c = some b1) (h2 : PySem.W.exmOne K cls c2 = some b2) (h3 : PySem.W.exmOne K cls c3 = some b3) : PySem.W.exmAny K cls [c, c2, c3] = some (b1 || (b2 || (b3 || false))) := by
  simp only [PySem.W.exmAny, h1, h2, h3]
theorem tyf_all {K : PySem.W.Frag} {C1 C2 : Addr} (h1 : TyF K C1 C2 "NoneType") (h2 : TyF K C1 C2 "tuple") (h3 : TyF K C1 C2 "int") (h4 : TyF K C1 C2 "str") (h5 : TyF K C1 C2 "list") : ∀ n ∈ tys, TyF K C1 C2 n := by
  intro n hn
  simp only [tys, List.mem_cons, List.not_mem_nil, or_false] at hn
  rcases hn with rfl | rfl | rfl | rfl | rfl <;> assumption
theorem kb_wh15 {K : PySem.W.Frag} {f : Addr} {fd : FuncData} (F : Fun K "wheel" "wheel" s_wheel f fd) : KBinds K fd P_wheel ["order"] g1 g1 := kb1 F fun _ _ _ _ _ _ _ => rfl
structure Fns (P : Program) (w : World) (K : PySem.W.Frag) (mg : Str → Option Value) (base : Heap) : Prop where
  x0 : ∃ f fd, Df K mg "is_whole" s_is_whole P_is_whole f fd
  x1 : ∃ f fd, Df K mg "is_prime" s_is_prime P_is_prime f fd
  x2 : ∃ f fd, Df K mg "factors" s_factors P_factors f fd
  x3 : ∃ f fd, Df K mg "divisors" s_divisors P_divisors f fd
  x4 : ∃ f fd, Df K mg "inverse" s_inverse P_inverse f fd
  x5 : ∃ f fd, Df K mg "power_rest" s_power_rest P_power_rest f fd
  x6 : ∃ f fd, Df K mg "generator" s_generator P_generator f fd
  x7 : ∃ f fd, Df K mg "divided" s_divided P_divided f fd
  x8 : ∃ f fd, Df K mg "multiplied" s_multiplied P_multiplied f fd
  x9 : ∃ f fd, Df K mg "wheel" s_wheel P_wheel f fd
  x10 : ∃ f fd, Df K mg "_law_box" s__law_box P__law_box f fd
  x11 : ∃ f fd, Df K mg "_law_take" s__law_take P__law_take f fd
  x12 : ∃ f fd, Df K mg "_law_pick" s__law_pick P__law_pick f fd
  x13 : ∃ f fd, Df K mg "_law_by_places" s__law_by_places P__law_by_places f fd
  x14 : ∃ f fd, Df K mg "_law_by_names" s__law_by_names P__law_by_names f fd
  x15 : ∃ f fd, Df K mg "_law_refused" s__law_refused P__law_refused f fd
  x16 : ∃ f fd, Df K mg "_law_told_right" s__law_told_right P__law_told_right f fd
section
variable {P : Program} {w : World} {K : PySem.W.Frag} {mg : Str → Option Value} {base : Heap}
theorem ok_law {f CT CB C1 C2 CR CS CI fI : Addr} {fd fdI : FuncData} (F : Fun K "law" "law" s_law f fd) (T : Blt mg) (U : Fns P w K mg base) (S : G16 K mg CT CB C1 C2 CR CS CI fI fdI) (X : GX K C1 C2) (O : OwnX K C1 C2) (ex : Ex15 K CB CR CS) : FnG P w K mg base CX0 10 f fd P_law (spLaw K) := by
  obtain ⟨⟨f0, d0, D_is_whole⟩, ⟨f1, d1, D_is_prime⟩, ⟨f2, d2, D_factors⟩, ⟨f3, d3, D_divisors⟩, ⟨f4, d4, D_inverse⟩, ⟨f5, d5, D_power_rest⟩, ⟨f6, d6, D_generator⟩, ⟨f7, d7, D_divided⟩, ⟨f8, d8, D_multiplied⟩, ⟨f9, d9, D_wheel⟩, ⟨f10, d10, D__law_box⟩, ⟨f11, d11, D__law_take⟩, ⟨f12, d12, D__law_pick⟩, ⟨f13, d13, D__law_by_places⟩, ⟨f14, d14, D__law_by_names⟩, ⟨f15, d15, D__law_refused⟩, ⟨f16, d16, D__law_told_right⟩⟩ := U
  have OU : OwnU P w K mg base C1 C2 := ownU_of T O S.R1 S.R2 S.m1 S.m2
  have G__law_box : FnOk P w K mg base CX0 1 f10 d10 P__law_box (spBox K) := ok_box D__law_box.F T

  have MU_has_root : MthU P w K mg base CX0 1 C1 C2 "has_root" P_Rests_has_root (spUh K C1 C2) := mu_has S
  have MUK_has_root : MthUK P w K mg base CX0 1 C1 C2 "has_root" P_Rests_has_root ["length"] 1 [0] (spUh K C1 C2) := muk_has S
  have MU_is_worth : MthU P w K mg base CX0 2 C1 C2 "is_worth" P_Rests_is_worth (spKi K C1 C2) := mu_isw T S X D_is_whole
  have MUK_is_worth : MthUK P w K mg base CX0 2 C1 C2 "is_worth" P_Rests_is_worth ["thing"] 1 [0] (spKi K C1 C2) := muk_isw T S X D_is_whole
  have MU_worth_of : MthU P w K mg base CX0 2 C1 C2 "worth_of" P_Rests_worth_of (spKw K C1 C2) := mu_wof T S X D_divided
  have MUK_worth_of : MthUK P w K mg base CX0 2 C1 C2 "worth_of" P_Rests_worth_of ["number"] 1 [0] (spKw K C1 C2) := muk_wof T S X D_divided
  have MU_sum_of : MthU P w K mg base CX0 1 C1 C2 "sum_of" P_Rests_sum_of (spKa K C1 C2) := mu_sum T S
  have MUK_sum_of : MthUK P w K mg base CX0 1 C1 C2 "sum_of" P_Rests_sum_of ["other", "one"] 2 [1, 0] (spKa K C1 C2) := muk_sum T S
  have MU_gap_of : MthU P w K mg base CX0 1 C1 C2 "gap_of" P_Rests_gap_of (spKg K C1 C2) := mu_gap T S X
  have MUK_gap_of : MthUK P w K mg base CX0 1 C1 C2 "gap_of" P_Rests_gap_of ["other", "one"] 2 [1, 0] (spKg K C1 C2) := muk_gap T S X
  have MU_product_of : MthU P w K mg base CX0 2 C1 C2 "product_of" P_Rests_product_of (spKm K C1 C2) := mu_prod T S D_divided D_multiplied
  have MUK_product_of : MthUK P w K mg base CX0 2 C1 C2 "product_of" P_Rests_product_of ["other", "one"] 2 [1, 0] (spKm K C1 C2) := muk_prod T S D_divided D_multiplied
  have MU_root_at : MthU P w K mg base CX0 3 C1 C2 "root_at" P_Rests_root_at (spKr K C1 C2) := mu_root T S D_divided D_power_rest
  have MUK_root_at : MthUK P w K mg base CX0 3 C1 C2 "root_at" P_Rests_root_at ["power", "length"] 2 [1, 0] (spKr K C1 C2) := muk_root T S D_divided D_power_rest
  have MU_shared_by : MthU P w K mg base CX0 4 C1 C2 "shared_by" P_Rests_shared_by (spKs K C1 C2) := mu_share T S D_inverse
  have MUK_shared_by : MthUK P w K mg base CX0 4 C1 C2 "shared_by" P_Rests_shared_by ["number", "worth"] 2 [1, 0] (spKs K C1 C2) := muk_share T S D_inverse
  have G__law_by_places : FnOk P w K mg base CX0 5 f13 d13 P__law_by_places (spBy K C1 C2) := ok_by_places D__law_by_places.F T OU MU_has_root MU_is_worth MU_worth_of MU_sum_of MU_gap_of MU_product_of MU_root_at MU_shared_by
  have G__law_by_names : FnOk P w K mg base CX0 5 f14 d14 P__law_by_names (spBy K C1 C2) := ok_by_names D__law_by_names.F T OU MUK_has_root MUK_is_worth MUK_worth_of MUK_sum_of MUK_gap_of MUK_product_of MUK_root_at MUK_shared_by
  have G__law_refused : FnOk P w K mg base CX0 9 f15 d15 P__law_refused spRf15 := ok_rf15 D__law_refused.F T S ex D_is_whole D_factors D_is_prime D_power_rest D_generator D_wheel D_divisors D_divided D_inverse
  have G__law_told_right : FnG P w K mg base CX0 9 f16 d16 P__law_told_right spTR15 := ok_tr15 D__law_told_right.F T S OU MU_worth_of D_is_whole D_factors D_is_prime D_power_rest D_generator D_wheel D_divisors D_divided D__law_take D__law_pick D__law_by_names D__law_by_places G__law_by_names G__law_by_places
  have G_wheel : FnOk P w K mg base CX0 6 f9 d9 P_wheel (spWheel 5) := ok_wheel D_wheel T D_divisors D_divided 5
  have KB_wheel := kb_wh15 D_wheel.F
  have nd := sc_law.nd
  refine okG F sc_law (fun vs H Q E h => ?_) (fun cdv A outer s H vs Q E hgd hr h => ?_)
  · obtain ⟨a, ns, rfl, _⟩ := h
    rfl
  · obtain ⟨a, ns, rfl, hS, hlen, q⟩ := h
    refine ⟨_, (pss_cons (ps_for PassesOwn.never rfl (pi_range1 (by rfl) T.b_range (pa_cons (pe_callB (call_max2 rfl) (by rfl) T.b_max (by decide +kernel) (pa_cons (pe_int) (pa_cons (pe_callB (call_min2 rfl) (by rfl) T.b_min (by decide +kernel) (pa_cons (pe_int) (pa_cons (pe_callB (r := rLenQ K) call_len_seq (by rfl) T.b_len (by decide +kernel) (pa_cons (pv 0) pa_nil)) pa_nil))) pa_nil))) pa_nil)) (pg_name (i := 1) nd rfl (Or.inl rfl))
      (pss_cons (ps_set (i := 2) nd rfl (Or.inl rfl) (pe_call G__law_box (hr.mono (by omega)) (by rfl) D__law_box.g D__law_box.F.kp D__law_box.b .nil pass0 (pa_cons (pv 0) (pa_cons (pv 1) pa_nil))))
      (pss_cons (ps_if (PW.pt (pw_or (pt_not (pt_val (pe_callG G__law_told_right hgd (hr.mono (by omega)) (by rfl) D__law_told_right.g D__law_told_right.F.kp D__law_told_right.b .nil pass0 (pa_cons (pv 2) pa_nil)))) (pw_or1 (pt_not (pt_val (pe_callG G__law_told_right hgd (hr.mono (by omega)) (by rfl) D__law_told_right.g D__law_told_right.F.kp D__law_told_right.b .nil pass0 (pa_cons (pv 2) pa_nil))))))) (pss_one (ps_ret (pe_bl))) pss_nil)
      (pss_one (ps_if (PW.pt (pw_or (pt_cmpR (r := rNeD K) (op_neD hr.units) (pe_lc (own := [("_law_way", 3)]) (g := gName 3) (by rfl) nd (pi_range1 (by rfl) T.b_range (pa_cons (pe_int) pa_nil)) (blkOk_by (own := [("_law_way", 3)]) (N := N_law) (sc := defScope s_law) (by decide +kernel)) (fun _ _ _ _ _ => (pg_name (i := 3) nd rfl (Or.inl rfl))) (fun _ _ _ _ _ => pts_nil) (fun _ _ _ _ _ => (pe_call G__law_refused (hr.mono (by omega)) (by rfl) D__law_refused.g D__law_refused.F.kp D__law_refused.b .nil pass0 (pa_cons (pv 3) pa_nil)))) (pe_lst (pa_cons (pe_int) (pa_cons (pe_int) (pa_cons (pe_int) (pa_cons (pe_int) (pa_cons (pe_int) pa_nil)))))) (nomark _)) (pw_or1 (pt_cmpR (r := rNeD K) (op_neD hr.units) (pe_callK0 G_wheel (hr.mono (by omega)) (by rfl) D_wheel.g D_wheel.F.kp KB_wheel pass0 (pk_cons (pe_int) pk_nil)) (pe_call G_wheel (hr.mono (by omega)) (by rfl) D_wheel.g D_wheel.F.kp D_wheel.b .nil pass0 (pa_cons (pe_int) pa_nil)) (nomark _))))) (pss_one (ps_ret (pe_bl))) pss_nil)))))
      (pss_one (ps_ret (pe_bl)))), ?_⟩
    walk_at "ev"
    refine for_range (lo := 0) (n := _) (fun i σ H' => Hold (∃ s1 s2 s3, σ = [some (.ref a), s1, s2, s3] ∧ Same H H')) (.mk ⟨none, none, none, rfl, Same.refl _⟩) ?_ ?_
    · intro i σ Hb hi hP
      obtain ⟨s1, s2, s3, rfl, smb⟩ := hP.un
      have hi3 : i ≤ 100000 := by
        have : ∀ c : Int, (if 4 ≤ c then (4 : Int) else c) ≤ 4 := fun c => by split <;> omega
        have h5 : ∀ c : Int, c ≤ 4 → (if 1 ≥ c then (1 : Int) else c).toNat ≤ 4 := fun c h => by split <;> omega
        first | (have := h5 _ (this ((ns.map V.int).length : Int)); omega) | omega
      have hSb := smb.seq hS
      walk_at "ev"
      intro b Hc hb0 smc hbx
      have hbf : H b = none := smb.free hb0
      walk_at "ev"
      intro H1 k1 hb1
      have c100 : (0 : Int) + 100 < 900000 := by decide
      walk_at "ev"
      intro H2 k2 hb2
      walk_at "ev"
      intro D hD
      refine lc_range (lo := 0) (n := _) (fun j H' => Hold (Same H2 H' ∧ H' D = some (.lst ((ans15.take j).map V.int)))) (.mk ⟨same_new hD, upd_same⟩) ?_ ?_
      · intro j H3 hj hJ
        obtain ⟨sm3, hD3⟩ := hJ.un
        have hj5 : j < 5 := hj
        rw [show (0 : Int) + (j : Int) = (j : Int) by omega]
        have hsz : ((ans15.take j).map V.int).length < sizeLine := szm (by rw [List.length_map, List.length_take]; omega)
        have etk : ans15.take (j + 1) = ans15.take j ++ [ans15.getD j 0] := (by decide : ∀ j < 5, ans15.take (j + 1) = ans15.take j ++ [ans15.getD j 0]) j hj5
        walk_at "ev"
        intro H4 sm4
        have hD4 := sm4 _ _ hD3
        walk_at "ev"
        refine .mk ⟨same_mut (sm3.trans sm4) hD, ?_⟩
        rw [upd_same, etk, List.map_append]
        rfl
      · intro H3 hJ
        obtain ⟨sm3, hD3⟩ := hJ.un
        have hD3' : H3 D = some (.lst (ans15.map V.int)) := hD3
        walk_at "ev"
        w_cond _4
        have dA : Dp K H4 (.ref D) (.list (ans15.map PyData.int)) := dpl _ (SqL.of (sm4 _ _ hD3'))
        have dB : Dp K H4 (.ref l4) (.list (ans15.map PyData.int)) := dpl _ (SqL.of hq4)
        have sh := PySem.W.ke_shaped_ints ans15
        have ev := SeqAt.eqv_refl (.list (ans15.map PyData.int)) rfl
        refine ⟨_, _, dA, dB, sh, sh, ?_⟩
        rw [ev]
        walk_at "ev"
        intro l5 H5 hl5 sm5 hq5
        walk_at "ev"
        intro l6 H6 hl6 sm6 hq6
        have dC : Dp K H6 (.ref l5) (.list ((whl 6).map PyData.int)) := dpl _ (SqL.of (sm6 _ _ hq5))
        have dE : Dp K H6 (.ref l6) (.list ((whl 6).map PyData.int)) := dpl _ (SqL.of hq6)
        have sh6 := PySem.W.ke_shaped_ints (whl 6)
        have ev6 : PyData.eqv (.list ((whl 6).map PyData.int)) (.list ((whl 6).map PyData.int)) = true := by
          rw [PyData.eqv, eqv_ints]
          exact decide_eq_true rfl
        refine ⟨_, _, dC, dE, sh6, sh6, ?_⟩
        rw [ev6]
        walk_at "ev"
        exact .mk ⟨_, _, _, rfl, (keep_same (keep_same (smb.trans smc) hbf k1) hbf k2).trans (sm3.trans (sm4.trans (sm5.trans sm6)))⟩
    · intro σ Hb hP
      obtain ⟨s1, s2, s3, rfl, smb⟩ := hP.un
      walk_at "ev"
      exact q _
end
theorem all_mk {l : PySem.W.OpenLaw} {w : World} {K : PySem.W.Frag} {h : Heap} {mg : Str → Option Value} {fa : Addr} (X : K.In h) (G : h.Ns mainGlobals mg) (hfa : mg "law" = some (.ref fa))
    {od0 an0 : Option Addr} {sl0 : Array (Option Value)} {oc0 kV0 dc0 pm0 cd0 ct0 : Value} {f0 : Addr}
    {od1 an1 : Option Addr} {sl1 : Array (Option Value)} {oc1 kV1 dc1 pm1 cd1 ct1 : Value} {f1 : Addr}
    {od2 an2 : Option Addr} {sl2 : Array (Option Value)} {oc2 kV2 dc2 pm2 cd2 ct2 : Value} {f2 : Addr}
    {od3 an3 : Option Addr} {sl3 : Array (Option Value)} {oc3 kV3 dc3 pm3 cd3 ct3 : Value} {f3 : Addr}
    {od4 an4 : Option Addr} {sl4 : Array (Option Value)} {oc4 kV4 dc4 pm4 cd4 ct4 : Value} {f4 : Addr}
    {od5 an5 : Option Addr} {sl5 : Array (Option Value)} {oc5 kV5 dc5 pm5 cd5 ct5 : Value} {f5 : Addr}
    {od6 an6 : Option Addr} {sl6 : Array (Option Value)} {oc6 kV6 dc6 pm6 cd6 ct6 : Value} {f6 : Addr}
    {od7 an7 : Option Addr} {sl7 : Array (Option Value)} {oc7 kV7 dc7 pm7 cd7 ct7 : Value} {f7 : Addr}
    {od8 an8 : Option Addr} {sl8 : Array (Option Value)} {oc8 kV8 dc8 pm8 cd8 ct8 : Value} {f8 : Addr}
    {od9 an9 : Option Addr} {sl9 : Array (Option Value)} {oc9 kV9 dc9 pm9 cd9 ct9 : Value} {f9 : Addr}
    {od10 an10 : Option Addr} {sl10 : Array (Option Value)} {oc10 kV10 dc10 pm10 cd10 ct10 : Value} {f10 : Addr}
    {od11 an11 : Option Addr} {sl11 : Array (Option Value)} {oc11 kV11 dc11 pm11 cd11 ct11 : Value} {f11 : Addr}
    {od12 an12 : Option Addr} {sl12 : Array (Option Value)} {oc12 kV12 dc12 pm12 cd12 ct12 : Value} {f12 : Addr}
    {od13 an13 : Option Addr} {sl13 : Array (Option Value)} {oc13 kV13 dc13 pm13 cd13 ct13 : Value} {f13 : Addr}
    {od14 an14 : Option Addr} {sl14 : Array (Option Value)} {oc14 kV14 dc14 pm14 cd14 ct14 : Value} {f14 : Addr}
    {od15 an15 : Option Addr} {sl15 : Array (Option Value)} {oc15 kV15 dc15 pm15 cd15 ct15 : Value} {f15 : Addr}
    {od16 an16 : Option Addr} {sl16 : Array (Option Value)} {oc16 kV16 dc16 pm16 cd16 ct16 : Value} {f16 : Addr}
    {od17 an17 : Option Addr} {sl17 : Array (Option Value)} {oc17 kV17 dc17 pm17 cd17 ct17 : Value} {f17 : Addr}
    {fI : Addr} {odI anI : Option Addr} {slI : Array (Option Value)} {ocI kVI dcI pmI cdI ctI : Value}
    {C_TurnError : Addr}
    {C_BadGround : Addr}
    {C_NoRoot : Addr}
    {C_NoShare : Addr}
    {C_NoInverse : Addr}
    {C_Rests : Addr}
    {C_Roots : Addr}
    {nm_BadGround q_BadGround : Str} {N_BadGround : Addr} {bs_BadGround : List Value} {sn_BadGround : List Str} {sb_BadGround : List Value} {ab_BadGround : Bool} {co_BadGround : Option Bool} {dd_BadGround : Option Addr} {m0_BadGround m1_BadGround m2_BadGround m3_BadGround m5_BadGround : Option Value}
    {nm_NoRoot q_NoRoot : Str} {N_NoRoot : Addr} {bs_NoRoot : List Value} {sn_NoRoot : List Str} {sb_NoRoot : List Value} {ab_NoRoot : Bool} {co_NoRoot : Option Bool} {dd_NoRoot : Option Addr} {m0_NoRoot m1_NoRoot m2_NoRoot m3_NoRoot m5_NoRoot : Option Value}
    {nm_NoShare q_NoShare : Str} {N_NoShare : Addr} {bs_NoShare : List Value} {sn_NoShare : List Str} {sb_NoShare : List Value} {ab_NoShare : Bool} {co_NoShare : Option Bool} {dd_NoShare : Option Addr} {m0_NoShare m1_NoShare m2_NoShare m3_NoShare m5_NoShare : Option Value}
    {nm_NoInverse q_NoInverse : Str} {N_NoInverse : Addr} {bs_NoInverse : List Value} {sn_NoInverse : List Str} {sb_NoInverse : List Value} {ab_NoInverse : Bool} {co_NoInverse : Option Bool} {dd_NoInverse : Option Addr} {m0_NoInverse m1_NoInverse m2_NoInverse m3_NoInverse m5_NoInverse : Option Value}
    {t_MOST_PRIME : Tok}
    {t_MOST_ORDER : Tok}
    {od_Rests___init__ an_Rests___init__ : Option Addr} {sl_Rests___init__ : Array (Option Value)} {oc_Rests___init__ kV_Rests___init__ dc_Rests___init__ pm_Rests___init__ cd_Rests___init__ ct_Rests___init__ : Value} {f_Rests___init__ : Addr}
    {od_Rests_sum_of an_Rests_sum_of : Option Addr} {sl_Rests_sum_of : Array (Option Value)} {oc_Rests_sum_of kV_Rests_sum_of dc_Rests_sum_of pm_Rests_sum_of cd_Rests_sum_of ct_Rests_sum_of : Value} {f_Rests_sum_of : Addr}
    {od_Rests_product_of an_Rests_product_of : Option Addr} {sl_Rests_product_of : Array (Option Value)} {oc_Rests_product_of kV_Rests_product_of dc_Rests_product_of pm_Rests_product_of cd_Rests_product_of ct_Rests_product_of : Value} {f_Rests_product_of : Addr}
    {od_Rests_has_root an_Rests_has_root : Option Addr} {sl_Rests_has_root : Array (Option Value)} {oc_Rests_has_root kV_Rests_has_root dc_Rests_has_root pm_Rests_has_root cd_Rests_has_root ct_Rests_has_root : Value} {f_Rests_has_root : Addr}
    {od_Rests_root_at an_Rests_root_at : Option Addr} {sl_Rests_root_at : Array (Option Value)} {oc_Rests_root_at kV_Rests_root_at dc_Rests_root_at pm_Rests_root_at cd_Rests_root_at ct_Rests_root_at : Value} {f_Rests_root_at : Addr}
    {od_Rests_shared_by an_Rests_shared_by : Option Addr} {sl_Rests_shared_by : Array (Option Value)} {oc_Rests_shared_by kV_Rests_shared_by dc_Rests_shared_by pm_Rests_shared_by cd_Rests_shared_by ct_Rests_shared_by : Value} {f_Rests_shared_by : Addr}
    {od_Rests_gap_of an_Rests_gap_of : Option Addr} {sl_Rests_gap_of : Array (Option Value)} {oc_Rests_gap_of kV_Rests_gap_of dc_Rests_gap_of pm_Rests_gap_of cd_Rests_gap_of ct_Rests_gap_of : Value} {f_Rests_gap_of : Addr}
    {od_Rests_worth_of an_Rests_worth_of : Option Addr} {sl_Rests_worth_of : Array (Option Value)} {oc_Rests_worth_of kV_Rests_worth_of dc_Rests_worth_of pm_Rests_worth_of cd_Rests_worth_of ct_Rests_worth_of : Value} {f_Rests_worth_of : Addr}
    {od_Rests_is_worth an_Rests_is_worth : Option Addr} {sl_Rests_is_worth : Array (Option Value)} {oc_Rests_is_worth kV_Rests_is_worth dc_Rests_is_worth pm_Rests_is_worth cd_Rests_is_worth ct_Rests_is_worth : Value} {f_Rests_is_worth : Addr}
    {od_Rests___eq__ an_Rests___eq__ : Option Addr} {sl_Rests___eq__ : Array (Option Value)} {oc_Rests___eq__ kV_Rests___eq__ dc_Rests___eq__ pm_Rests___eq__ cd_Rests___eq__ ct_Rests___eq__ : Value} {f_Rests___eq__ : Addr}
    {od_Rests___str__ an_Rests___str__ : Option Addr} {sl_Rests___str__ : Array (Option Value)} {oc_Rests___str__ kV_Rests___str__ dc_Rests___str__ pm_Rests___str__ cd_Rests___str__ ct_Rests___str__ : Value} {f_Rests___str__ : Addr}
    {od_Rests___repr__ an_Rests___repr__ : Option Addr} {sl_Rests___repr__ : Array (Option Value)} {oc_Rests___repr__ kV_Rests___repr__ dc_Rests___repr__ pm_Rests___repr__ cd_Rests___repr__ ct_Rests___repr__ : Value} {f_Rests___repr__ : Addr}
    {od_Roots___init__ an_Roots___init__ : Option Addr} {sl_Roots___init__ : Array (Option Value)} {oc_Roots___init__ kV_Roots___init__ dc_Roots___init__ pm_Roots___init__ cd_Roots___init__ ct_Roots___init__ : Value} {f_Roots___init__ : Addr}
    {od_Roots_sum_of an_Roots_sum_of : Option Addr} {sl_Roots_sum_of : Array (Option Value)} {oc_Roots_sum_of kV_Roots_sum_of dc_Roots_sum_of pm_Roots_sum_of cd_Roots_sum_of ct_Roots_sum_of : Value} {f_Roots_sum_of : Addr}
    {od_Roots_product_of an_Roots_product_of : Option Addr} {sl_Roots_product_of : Array (Option Value)} {oc_Roots_product_of kV_Roots_product_of dc_Roots_product_of pm_Roots_product_of cd_Roots_product_of ct_Roots_product_of : Value} {f_Roots_product_of : Addr}
    {od_Roots_has_root an_Roots_has_root : Option Addr} {sl_Roots_has_root : Array (Option Value)} {oc_Roots_has_root kV_Roots_has_root dc_Roots_has_root pm_Roots_has_root cd_Roots_has_root ct_Roots_has_root : Value} {f_Roots_has_root : Addr}
    {od_Roots_root_at an_Roots_root_at : Option Addr} {sl_Roots_root_at : Array (Option Value)} {oc_Roots_root_at kV_Roots_root_at dc_Roots_root_at pm_Roots_root_at cd_Roots_root_at ct_Roots_root_at : Value} {f_Roots_root_at : Addr}
    {od_Roots_shared_by an_Roots_shared_by : Option Addr} {sl_Roots_shared_by : Array (Option Value)} {oc_Roots_shared_by kV_Roots_shared_by dc_Roots_shared_by pm_Roots_shared_by cd_Roots_shared_by ct_Roots_shared_by : Value} {f_Roots_shared_by : Addr}
    {od_Roots_gap_of an_Roots_gap_of : Option Addr} {sl_Roots_gap_of : Array (Option Value)} {oc_Roots_gap_of kV_Roots_gap_of dc_Roots_gap_of pm_Roots_gap_of cd_Roots_gap_of ct_Roots_gap_of : Value} {f_Roots_gap_of : Addr}
    {od_Roots_worth_of an_Roots_worth_of : Option Addr} {sl_Roots_worth_of : Array (Option Value)} {oc_Roots_worth_of kV_Roots_worth_of dc_Roots_worth_of pm_Roots_worth_of cd_Roots_worth_of ct_Roots_worth_of : Value} {f_Roots_worth_of : Addr}
    {od_Roots_is_worth an_Roots_is_worth : Option Addr} {sl_Roots_is_worth : Array (Option Value)} {oc_Roots_is_worth kV_Roots_is_worth dc_Roots_is_worth pm_Roots_is_worth cd_Roots_is_worth ct_Roots_is_worth : Value} {f_Roots_is_worth : Addr}
    {od_Roots___eq__ an_Roots___eq__ : Option Addr} {sl_Roots___eq__ : Array (Option Value)} {oc_Roots___eq__ kV_Roots___eq__ dc_Roots___eq__ pm_Roots___eq__ cd_Roots___eq__ ct_Roots___eq__ : Value} {f_Roots___eq__ : Addr}
    {od_Roots___str__ an_Roots___str__ : Option Addr} {sl_Roots___str__ : Array (Option Value)} {oc_Roots___str__ kV_Roots___str__ dc_Roots___str__ pm_Roots___str__ cd_Roots___str__ ct_Roots___str__ : Value} {f_Roots___str__ : Addr}
    {od_Roots___repr__ an_Roots___repr__ : Option Addr} {sl_Roots___repr__ : Array (Option Value)} {oc_Roots___repr__ kV_Roots___repr__ dc_Roots___repr__ pm_Roots___repr__ cd_Roots___repr__ ct_Roots___repr__ : Value} {f_Roots___repr__ : Addr}
    (g_TurnError : PySem.W.nsIn K mainGlobals "TurnError" = some (some (.ref C_TurnError)))
    (g_BadGround : PySem.W.nsIn K mainGlobals "BadGround" = some (some (.ref C_BadGround)))
    (g_NoRoot : PySem.W.nsIn K mainGlobals "NoRoot" = some (some (.ref C_NoRoot)))
    (g_NoShare : PySem.W.nsIn K mainGlobals "NoShare" = some (some (.ref C_NoShare)))
    (g_NoInverse : PySem.W.nsIn K mainGlobals "NoInverse" = some (some (.ref C_NoInverse)))
    (g_Rests : PySem.W.nsIn K mainGlobals "Rests" = some (some (.ref C_Rests)))
    (g_Roots : PySem.W.nsIn K mainGlobals "Roots" = some (some (.ref C_Roots)))
    (on : PySem.W.specialIn K (.builtin "object.__class__") "__get__" = some (some (.builtin "getset_descriptor.__get__")))
    (ot : PySem.W.takesIn K (.builtin "object.__class__") = some true)
    (eT : PySem.W.subIn K (.ref C_TurnError) (.type "BaseException") = some true)
    (hT : PySem.W.hasDictIn K C_TurnError = true)
    (tT : PySem.W.typeIn K (.ref C_TurnError) = some (.type "type"))
    (xL_BadGround : K.lookup C_BadGround = some (excClassObj nm_BadGround q_BadGround C_BadGround N_BadGround bs_BadGround [.ref C_TurnError, .type "ValueError", .type "Exception", .type "BaseException", .type "object"] true sn_BadGround sb_BadGround ab_BadGround co_BadGround dd_BadGround m0_BadGround m1_BadGround m2_BadGround m3_BadGround m5_BadGround "ValueError.__new__"))
    (sa_BadGround : PySem.W.findIn K (.ref C_BadGround) "__setattr__" = some (some (.builtin "object.__setattr__")))
    (ga_BadGround : PySem.W.findIn K (.ref C_BadGround) "__getattribute__" = some (some (.builtin "BaseException.__getattribute__")))
    (gg_BadGround : PySem.W.findIn K (.ref C_BadGround) "__getattr__" = some none)
    (nw_BadGround : PySem.W.findIn K (.ref C_BadGround) "what" = some none)
    (ii_BadGround : PySem.W.findIn K (.ref C_BadGround) "__init__" = some (some (.ref fI)))
    (oc_BadGround : PySem.W.findIn K (.ref C_BadGround) "__class__" = some (some (.builtin "object.__class__")))
    (kC_BadGround : PySem.W.keepIn K (.ref C_BadGround) = true)
    (eC_BadGround : PySem.W.subIn K (.ref C_BadGround) (.type "BaseException") = some true)
    (tC_BadGround : PySem.W.typeIn K (.ref C_BadGround) = some (.type "type"))
    (hC_BadGround : PySem.W.hasDictIn K C_BadGround = true)
    (mo_BadGround : PySem.W.mroIn K C_BadGround (.type "object") = some true)
    (su_BadGround : PySem.W.subIn K (.ref C_BadGround) (.ref C_TurnError) = some true)
    (kv_BadGround : PySem.W.kitOne K (.ref C_BadGround) (.type "ValueError") = some true)
    (kt_BadGround : PySem.W.kitOne K (.ref C_BadGround) (.ref C_TurnError) = some true)
    (xL_NoRoot : K.lookup C_NoRoot = some (excClassObj nm_NoRoot q_NoRoot C_NoRoot N_NoRoot bs_NoRoot [.ref C_TurnError, .type "ValueError", .type "Exception", .type "BaseException", .type "object"] true sn_NoRoot sb_NoRoot ab_NoRoot co_NoRoot dd_NoRoot m0_NoRoot m1_NoRoot m2_NoRoot m3_NoRoot m5_NoRoot "ValueError.__new__"))
    (sa_NoRoot : PySem.W.findIn K (.ref C_NoRoot) "__setattr__" = some (some (.builtin "object.__setattr__")))
    (ga_NoRoot : PySem.W.findIn K (.ref C_NoRoot) "__getattribute__" = some (some (.builtin "BaseException.__getattribute__")))
    (gg_NoRoot : PySem.W.findIn K (.ref C_NoRoot) "__getattr__" = some none)
    (nw_NoRoot : PySem.W.findIn K (.ref C_NoRoot) "what" = some none)
    (ii_NoRoot : PySem.W.findIn K (.ref C_NoRoot) "__init__" = some (some (.ref fI)))
    (oc_NoRoot : PySem.W.findIn K (.ref C_NoRoot) "__class__" = some (some (.builtin "object.__class__")))
    (kC_NoRoot : PySem.W.keepIn K (.ref C_NoRoot) = true)
    (eC_NoRoot : PySem.W.subIn K (.ref C_NoRoot) (.type "BaseException") = some true)
    (tC_NoRoot : PySem.W.typeIn K (.ref C_NoRoot) = some (.type "type"))
    (hC_NoRoot : PySem.W.hasDictIn K C_NoRoot = true)
    (mo_NoRoot : PySem.W.mroIn K C_NoRoot (.type "object") = some true)
    (su_NoRoot : PySem.W.subIn K (.ref C_NoRoot) (.ref C_TurnError) = some true)
    (kv_NoRoot : PySem.W.kitOne K (.ref C_NoRoot) (.type "ValueError") = some true)
    (kt_NoRoot : PySem.W.kitOne K (.ref C_NoRoot) (.ref C_TurnError) = some true)
    (xL_NoShare : K.lookup C_NoShare = some (excClassObj nm_NoShare q_NoShare C_NoShare N_NoShare bs_NoShare [.ref C_TurnError, .type "ValueError", .type "Exception", .type "BaseException", .type "object"] true sn_NoShare sb_NoShare ab_NoShare co_NoShare dd_NoShare m0_NoShare m1_NoShare m2_NoShare m3_NoShare m5_NoShare "ValueError.__new__"))
    (sa_NoShare : PySem.W.findIn K (.ref C_NoShare) "__setattr__" = some (some (.builtin "object.__setattr__")))
    (ga_NoShare : PySem.W.findIn K (.ref C_NoShare) "__getattribute__" = some (some (.builtin "BaseException.__getattribute__")))
    (gg_NoShare : PySem.W.findIn K (.ref C_NoShare) "__getattr__" = some none)
    (nw_NoShare : PySem.W.findIn K (.ref C_NoShare) "what" = some none)
    (ii_NoShare : PySem.W.findIn K (.ref C_NoShare) "__init__" = some (some (.ref fI)))
    (oc_NoShare : PySem.W.findIn K (.ref C_NoShare) "__class__" = some (some (.builtin "object.__class__")))
    (kC_NoShare : PySem.W.keepIn K (.ref C_NoShare) = true)
    (eC_NoShare : PySem.W.subIn K (.ref C_NoShare) (.type "BaseException") = some true)
    (tC_NoShare : PySem.W.typeIn K (.ref C_NoShare) = some (.type "type"))
    (hC_NoShare : PySem.W.hasDictIn K C_NoShare = true)
    (mo_NoShare : PySem.W.mroIn K C_NoShare (.type "object") = some true)
    (su_NoShare : PySem.W.subIn K (.ref C_NoShare) (.ref C_TurnError) = some true)
    (kv_NoShare : PySem.W.kitOne K (.ref C_NoShare) (.type "ValueError") = some true)
    (kt_NoShare : PySem.W.kitOne K (.ref C_NoShare) (.ref C_TurnError) = some true)
    (xL_NoInverse : K.lookup C_NoInverse = some (excClassObj nm_NoInverse q_NoInverse C_NoInverse N_NoInverse bs_NoInverse [.ref C_TurnError, .type "ValueError", .type "Exception", .type "BaseException", .type "object"] true sn_NoInverse sb_NoInverse ab_NoInverse co_NoInverse dd_NoInverse m0_NoInverse m1_NoInverse m2_NoInverse m3_NoInverse m5_NoInverse "ValueError.__new__"))
    (sa_NoInverse : PySem.W.findIn K (.ref C_NoInverse) "__setattr__" = some (some (.builtin "object.__setattr__")))
    (ga_NoInverse : PySem.W.findIn K (.ref C_NoInverse) "__getattribute__" = some (some (.builtin "BaseException.__getattribute__")))
    (gg_NoInverse : PySem.W.findIn K (.ref C_NoInverse) "__getattr__" = some none)
    (nw_NoInverse : PySem.W.findIn K (.ref C_NoInverse) "what" = some none)
    (ii_NoInverse : PySem.W.findIn K (.ref C_NoInverse) "__init__" = some (some (.ref fI)))
    (oc_NoInverse : PySem.W.findIn K (.ref C_NoInverse) "__class__" = some (some (.builtin "object.__class__")))
    (kC_NoInverse : PySem.W.keepIn K (.ref C_NoInverse) = true)
    (eC_NoInverse : PySem.W.subIn K (.ref C_NoInverse) (.type "BaseException") = some true)
    (tC_NoInverse : PySem.W.typeIn K (.ref C_NoInverse) = some (.type "type"))
    (hC_NoInverse : PySem.W.hasDictIn K C_NoInverse = true)
    (mo_NoInverse : PySem.W.mroIn K C_NoInverse (.type "object") = some true)
    (su_NoInverse : PySem.W.subIn K (.ref C_NoInverse) (.ref C_TurnError) = some true)
    (kv_NoInverse : PySem.W.kitOne K (.ref C_NoInverse) (.type "ValueError") = some true)
    (kt_NoInverse : PySem.W.kitOne K (.ref C_NoInverse) (.ref C_TurnError) = some true)
    (lI : K.lookup fI = some ⟨ocI, odI, .func (PySem.W.fnOf "__init__" "TurnError.__init__" (defArgs s_init) (defBody s_init) (defScope s_init) .none kVI dcI pmI anI cdI ctI), slI⟩)
    (cI : PySem.W.codeIn K cdI "TurnError.__init__" = true)
    (kI : PySem.W.keepIn K (.ref fI) = true)
    (tI : PySem.W.typeIn K (.ref fI) = some (.type "function"))
    (g_MOST_PRIME : PySem.W.nsIn K mainGlobals "MOST_PRIME" = some (some (.int 10000 t_MOST_PRIME)))
    (g_MOST_ORDER : PySem.W.nsIn K mainGlobals "MOST_ORDER" = some (some (.int 30 t_MOST_ORDER)))
    (pg_Rests : PySem.W.plainGet K C_Rests Str.empty = true)
    (hd_Rests : PySem.W.hasDictIn K C_Rests = true)
    (po_Rests : PySem.W.plainOver K C_Rests = true)
    (sa_Rests : PySem.W.findIn K (.ref C_Rests) "__setattr__" = some (some (.builtin "object.__setattr__")))
    (mk_Rests : PySem.W.makesIn K C_Rests = true)
    (kc_Rests : PySem.W.keepIn K (.ref C_Rests) = true)
    (nf_Rests_prime : PySem.W.findIn K (.ref C_Rests) "prime" = some none)
    (nf_Rests_base : PySem.W.findIn K (.ref C_Rests) "base" = some none)
    (at_Rests___init__ : PySem.W.findIn K (.ref C_Rests) "__init__" = some (some (.ref f_Rests___init__)))
    (lk_Rests___init__ : K.lookup f_Rests___init__ = some ⟨oc_Rests___init__, od_Rests___init__, .func (PySem.W.fnOf "__init__" "Rests.__init__" (defArgs s_Rests___init__) (defBody s_Rests___init__) (defScope s_Rests___init__) .none kV_Rests___init__ dc_Rests___init__ pm_Rests___init__ an_Rests___init__ cd_Rests___init__ ct_Rests___init__), sl_Rests___init__⟩)
    (cn_Rests___init__ : PySem.W.codeIn K cd_Rests___init__ "Rests.__init__" = true)
    (kp_Rests___init__ : PySem.W.keepIn K (.ref f_Rests___init__) = true)
    (fn_Rests___init__ : PySem.W.isFn K (.ref f_Rests___init__) = true)
    (at_Rests_sum_of : PySem.W.findIn K (.ref C_Rests) "sum_of" = some (some (.ref f_Rests_sum_of)))
    (lk_Rests_sum_of : K.lookup f_Rests_sum_of = some ⟨oc_Rests_sum_of, od_Rests_sum_of, .func (PySem.W.fnOf "sum_of" "Rests.sum_of" (defArgs s_Rests_sum_of) (defBody s_Rests_sum_of) (defScope s_Rests_sum_of) .none kV_Rests_sum_of dc_Rests_sum_of pm_Rests_sum_of an_Rests_sum_of cd_Rests_sum_of ct_Rests_sum_of), sl_Rests_sum_of⟩)
    (cn_Rests_sum_of : PySem.W.codeIn K cd_Rests_sum_of "Rests.sum_of" = true)
    (kp_Rests_sum_of : PySem.W.keepIn K (.ref f_Rests_sum_of) = true)
    (fn_Rests_sum_of : PySem.W.isFn K (.ref f_Rests_sum_of) = true)
    (at_Rests_product_of : PySem.W.findIn K (.ref C_Rests) "product_of" = some (some (.ref f_Rests_product_of)))
    (lk_Rests_product_of : K.lookup f_Rests_product_of = some ⟨oc_Rests_product_of, od_Rests_product_of, .func (PySem.W.fnOf "product_of" "Rests.product_of" (defArgs s_Rests_product_of) (defBody s_Rests_product_of) (defScope s_Rests_product_of) .none kV_Rests_product_of dc_Rests_product_of pm_Rests_product_of an_Rests_product_of cd_Rests_product_of ct_Rests_product_of), sl_Rests_product_of⟩)
    (cn_Rests_product_of : PySem.W.codeIn K cd_Rests_product_of "Rests.product_of" = true)
    (kp_Rests_product_of : PySem.W.keepIn K (.ref f_Rests_product_of) = true)
    (fn_Rests_product_of : PySem.W.isFn K (.ref f_Rests_product_of) = true)
    (at_Rests_has_root : PySem.W.findIn K (.ref C_Rests) "has_root" = some (some (.ref f_Rests_has_root)))
    (lk_Rests_has_root : K.lookup f_Rests_has_root = some ⟨oc_Rests_has_root, od_Rests_has_root, .func (PySem.W.fnOf "has_root" "Rests.has_root" (defArgs s_Rests_has_root) (defBody s_Rests_has_root) (defScope s_Rests_has_root) .none kV_Rests_has_root dc_Rests_has_root pm_Rests_has_root an_Rests_has_root cd_Rests_has_root ct_Rests_has_root), sl_Rests_has_root⟩)
    (cn_Rests_has_root : PySem.W.codeIn K cd_Rests_has_root "Rests.has_root" = true)
    (kp_Rests_has_root : PySem.W.keepIn K (.ref f_Rests_has_root) = true)
    (fn_Rests_has_root : PySem.W.isFn K (.ref f_Rests_has_root) = true)
    (at_Rests_root_at : PySem.W.findIn K (.ref C_Rests) "root_at" = some (some (.ref f_Rests_root_at)))
    (lk_Rests_root_at : K.lookup f_Rests_root_at = some ⟨oc_Rests_root_at, od_Rests_root_at, .func (PySem.W.fnOf "root_at" "Rests.root_at" (defArgs s_Rests_root_at) (defBody s_Rests_root_at) (defScope s_Rests_root_at) .none kV_Rests_root_at dc_Rests_root_at pm_Rests_root_at an_Rests_root_at cd_Rests_root_at ct_Rests_root_at), sl_Rests_root_at⟩)
    (cn_Rests_root_at : PySem.W.codeIn K cd_Rests_root_at "Rests.root_at" = true)
    (kp_Rests_root_at : PySem.W.keepIn K (.ref f_Rests_root_at) = true)
    (fn_Rests_root_at : PySem.W.isFn K (.ref f_Rests_root_at) = true)
    (at_Rests_shared_by : PySem.W.findIn K (.ref C_Rests) "shared_by" = some (some (.ref f_Rests_shared_by)))
    (lk_Rests_shared_by : K.lookup f_Rests_shared_by = some ⟨oc_Rests_shared_by, od_Rests_shared_by, .func (PySem.W.fnOf "shared_by" "Rests.shared_by" (defArgs s_Rests_shared_by) (defBody s_Rests_shared_by) (defScope s_Rests_shared_by) .none kV_Rests_shared_by dc_Rests_shared_by pm_Rests_shared_by an_Rests_shared_by cd_Rests_shared_by ct_Rests_shared_by), sl_Rests_shared_by⟩)
    (cn_Rests_shared_by : PySem.W.codeIn K cd_Rests_shared_by "Rests.shared_by" = true)
    (kp_Rests_shared_by : PySem.W.keepIn K (.ref f_Rests_shared_by) = true)
    (fn_Rests_shared_by : PySem.W.isFn K (.ref f_Rests_shared_by) = true)
    (at_Rests_gap_of : PySem.W.findIn K (.ref C_Rests) "gap_of" = some (some (.ref f_Rests_gap_of)))
    (lk_Rests_gap_of : K.lookup f_Rests_gap_of = some ⟨oc_Rests_gap_of, od_Rests_gap_of, .func (PySem.W.fnOf "gap_of" "Rests.gap_of" (defArgs s_Rests_gap_of) (defBody s_Rests_gap_of) (defScope s_Rests_gap_of) .none kV_Rests_gap_of dc_Rests_gap_of pm_Rests_gap_of an_Rests_gap_of cd_Rests_gap_of ct_Rests_gap_of), sl_Rests_gap_of⟩)
    (cn_Rests_gap_of : PySem.W.codeIn K cd_Rests_gap_of "Rests.gap_of" = true)
    (kp_Rests_gap_of : PySem.W.keepIn K (.ref f_Rests_gap_of) = true)
    (fn_Rests_gap_of : PySem.W.isFn K (.ref f_Rests_gap_of) = true)
    (at_Rests_worth_of : PySem.W.findIn K (.ref C_Rests) "worth_of" = some (some (.ref f_Rests_worth_of)))
    (lk_Rests_worth_of : K.lookup f_Rests_worth_of = some ⟨oc_Rests_worth_of, od_Rests_worth_of, .func (PySem.W.fnOf "worth_of" "Rests.worth_of" (defArgs s_Rests_worth_of) (defBody s_Rests_worth_of) (defScope s_Rests_worth_of) .none kV_Rests_worth_of dc_Rests_worth_of pm_Rests_worth_of an_Rests_worth_of cd_Rests_worth_of ct_Rests_worth_of), sl_Rests_worth_of⟩)
    (cn_Rests_worth_of : PySem.W.codeIn K cd_Rests_worth_of "Rests.worth_of" = true)
    (kp_Rests_worth_of : PySem.W.keepIn K (.ref f_Rests_worth_of) = true)
    (fn_Rests_worth_of : PySem.W.isFn K (.ref f_Rests_worth_of) = true)
    (at_Rests_is_worth : PySem.W.findIn K (.ref C_Rests) "is_worth" = some (some (.ref f_Rests_is_worth)))
    (lk_Rests_is_worth : K.lookup f_Rests_is_worth = some ⟨oc_Rests_is_worth, od_Rests_is_worth, .func (PySem.W.fnOf "is_worth" "Rests.is_worth" (defArgs s_Rests_is_worth) (defBody s_Rests_is_worth) (defScope s_Rests_is_worth) .none kV_Rests_is_worth dc_Rests_is_worth pm_Rests_is_worth an_Rests_is_worth cd_Rests_is_worth ct_Rests_is_worth), sl_Rests_is_worth⟩)
    (cn_Rests_is_worth : PySem.W.codeIn K cd_Rests_is_worth "Rests.is_worth" = true)
    (kp_Rests_is_worth : PySem.W.keepIn K (.ref f_Rests_is_worth) = true)
    (fn_Rests_is_worth : PySem.W.isFn K (.ref f_Rests_is_worth) = true)
    (at_Rests___eq__ : PySem.W.findIn K (.ref C_Rests) "__eq__" = some (some (.ref f_Rests___eq__)))
    (lk_Rests___eq__ : K.lookup f_Rests___eq__ = some ⟨oc_Rests___eq__, od_Rests___eq__, .func (PySem.W.fnOf "__eq__" "Rests.__eq__" (defArgs s_Rests___eq__) (defBody s_Rests___eq__) (defScope s_Rests___eq__) .none kV_Rests___eq__ dc_Rests___eq__ pm_Rests___eq__ an_Rests___eq__ cd_Rests___eq__ ct_Rests___eq__), sl_Rests___eq__⟩)
    (cn_Rests___eq__ : PySem.W.codeIn K cd_Rests___eq__ "Rests.__eq__" = true)
    (kp_Rests___eq__ : PySem.W.keepIn K (.ref f_Rests___eq__) = true)
    (fn_Rests___eq__ : PySem.W.isFn K (.ref f_Rests___eq__) = true)
    (at_Rests___str__ : PySem.W.findIn K (.ref C_Rests) "__str__" = some (some (.ref f_Rests___str__)))
    (lk_Rests___str__ : K.lookup f_Rests___str__ = some ⟨oc_Rests___str__, od_Rests___str__, .func (PySem.W.fnOf "__str__" "Rests.__str__" (defArgs s_Rests___str__) (defBody s_Rests___str__) (defScope s_Rests___str__) .none kV_Rests___str__ dc_Rests___str__ pm_Rests___str__ an_Rests___str__ cd_Rests___str__ ct_Rests___str__), sl_Rests___str__⟩)
    (cn_Rests___str__ : PySem.W.codeIn K cd_Rests___str__ "Rests.__str__" = true)
    (kp_Rests___str__ : PySem.W.keepIn K (.ref f_Rests___str__) = true)
    (fn_Rests___str__ : PySem.W.isFn K (.ref f_Rests___str__) = true)
    (at_Rests___repr__ : PySem.W.findIn K (.ref C_Rests) "__repr__" = some (some (.ref f_Rests___repr__)))
    (lk_Rests___repr__ : K.lookup f_Rests___repr__ = some ⟨oc_Rests___repr__, od_Rests___repr__, .func (PySem.W.fnOf "__repr__" "Rests.__repr__" (defArgs s_Rests___repr__) (defBody s_Rests___repr__) (defScope s_Rests___repr__) .none kV_Rests___repr__ dc_Rests___repr__ pm_Rests___repr__ an_Rests___repr__ cd_Rests___repr__ ct_Rests___repr__), sl_Rests___repr__⟩)
    (cn_Rests___repr__ : PySem.W.codeIn K cd_Rests___repr__ "Rests.__repr__" = true)
    (kp_Rests___repr__ : PySem.W.keepIn K (.ref f_Rests___repr__) = true)
    (fn_Rests___repr__ : PySem.W.isFn K (.ref f_Rests___repr__) = true)
    (pg_Roots : PySem.W.plainGet K C_Roots Str.empty = true)
    (hd_Roots : PySem.W.hasDictIn K C_Roots = true)
    (po_Roots : PySem.W.plainOver K C_Roots = true)
    (sa_Roots : PySem.W.findIn K (.ref C_Roots) "__setattr__" = some (some (.builtin "object.__setattr__")))
    (mk_Roots : PySem.W.makesIn K C_Roots = true)
    (kc_Roots : PySem.W.keepIn K (.ref C_Roots) = true)
    (nf_Roots_order : PySem.W.findIn K (.ref C_Roots) "order" = some none)
    (nf_Roots_rim : PySem.W.findIn K (.ref C_Roots) "rim" = some none)
    (at_Roots___init__ : PySem.W.findIn K (.ref C_Roots) "__init__" = some (some (.ref f_Roots___init__)))
    (lk_Roots___init__ : K.lookup f_Roots___init__ = some ⟨oc_Roots___init__, od_Roots___init__, .func (PySem.W.fnOf "__init__" "Roots.__init__" (defArgs s_Roots___init__) (defBody s_Roots___init__) (defScope s_Roots___init__) .none kV_Roots___init__ dc_Roots___init__ pm_Roots___init__ an_Roots___init__ cd_Roots___init__ ct_Roots___init__), sl_Roots___init__⟩)
    (cn_Roots___init__ : PySem.W.codeIn K cd_Roots___init__ "Roots.__init__" = true)
    (kp_Roots___init__ : PySem.W.keepIn K (.ref f_Roots___init__) = true)
    (fn_Roots___init__ : PySem.W.isFn K (.ref f_Roots___init__) = true)
    (at_Roots_sum_of : PySem.W.findIn K (.ref C_Roots) "sum_of" = some (some (.ref f_Roots_sum_of)))
    (lk_Roots_sum_of : K.lookup f_Roots_sum_of = some ⟨oc_Roots_sum_of, od_Roots_sum_of, .func (PySem.W.fnOf "sum_of" "Roots.sum_of" (defArgs s_Roots_sum_of) (defBody s_Roots_sum_of) (defScope s_Roots_sum_of) .none kV_Roots_sum_of dc_Roots_sum_of pm_Roots_sum_of an_Roots_sum_of cd_Roots_sum_of ct_Roots_sum_of), sl_Roots_sum_of⟩)
    (cn_Roots_sum_of : PySem.W.codeIn K cd_Roots_sum_of "Roots.sum_of" = true)
    (kp_Roots_sum_of : PySem.W.keepIn K (.ref f_Roots_sum_of) = true)
    (fn_Roots_sum_of : PySem.W.isFn K (.ref f_Roots_sum_of) = true)
    (at_Roots_product_of : PySem.W.findIn K (.ref C_Roots) "product_of" = some (some (.ref f_Roots_product_of)))
    (lk_Roots_product_of : K.lookup f_Roots_product_of = some ⟨oc_Roots_product_of, od_Roots_product_of, .func (PySem.W.fnOf "product_of" "Roots.product_of" (defArgs s_Roots_product_of) (defBody s_Roots_product_of) (defScope s_Roots_product_of) .none kV_Roots_product_of dc_Roots_product_of pm_Roots_product_of an_Roots_product_of cd_Roots_product_of ct_Roots_product_of), sl_Roots_product_of⟩)
    (cn_Roots_product_of : PySem.W.codeIn K cd_Roots_product_of "Roots.product_of" = true)
    (kp_Roots_product_of : PySem.W.keepIn K (.ref f_Roots_product_of) = true)
    (fn_Roots_product_of : PySem.W.isFn K (.ref f_Roots_product_of) = true)
    (at_Roots_has_root : PySem.W.findIn K (.ref C_Roots) "has_root" = some (some (.ref f_Roots_has_root)))
    (lk_Roots_has_root : K.lookup f_Roots_has_root = some ⟨oc_Roots_has_root, od_Roots_has_root, .func (PySem.W.fnOf "has_root" "Roots.has_root" (defArgs s_Roots_has_root) (defBody s_Roots_has_root) (defScope s_Roots_has_root) .none kV_Roots_has_root dc_Roots_has_root pm_Roots_has_root an_Roots_has_root cd_Roots_has_root ct_Roots_has_root), sl_Roots_has_root⟩)
    (cn_Roots_has_root : PySem.W.codeIn K cd_Roots_has_root "Roots.has_root" = true)
    (kp_Roots_has_root : PySem.W.keepIn K (.ref f_Roots_has_root) = true)
    (fn_Roots_has_root : PySem.W.isFn K (.ref f_Roots_has_root) = true)
    (at_Roots_root_at : PySem.W.findIn K (.ref C_Roots) "root_at" = some (some (.ref f_Roots_root_at)))
    (lk_Roots_root_at : K.lookup f_Roots_root_at = some ⟨oc_Roots_root_at, od_Roots_root_at, .func (PySem.W.fnOf "root_at" "Roots.root_at" (defArgs s_Roots_root_at) (defBody s_Roots_root_at) (defScope s_Roots_root_at) .none kV_Roots_root_at dc_Roots_root_at pm_Roots_root_at an_Roots_root_at cd_Roots_root_at ct_Roots_root_at), sl_Roots_root_at⟩)
    (cn_Roots_root_at : PySem.W.codeIn K cd_Roots_root_at "Roots.root_at" = true)
    (kp_Roots_root_at : PySem.W.keepIn K (.ref f_Roots_root_at) = true)
    (fn_Roots_root_at : PySem.W.isFn K (.ref f_Roots_root_at) = true)
    (at_Roots_shared_by : PySem.W.findIn K (.ref C_Roots) "shared_by" = some (some (.ref f_Roots_shared_by)))
    (lk_Roots_shared_by : K.lookup f_Roots_shared_by = some ⟨oc_Roots_shared_by, od_Roots_shared_by, .func (PySem.W.fnOf "shared_by" "Roots.shared_by" (defArgs s_Roots_shared_by) (defBody s_Roots_shared_by) (defScope s_Roots_shared_by) .none kV_Roots_shared_by dc_Roots_shared_by pm_Roots_shared_by an_Roots_shared_by cd_Roots_shared_by ct_Roots_shared_by), sl_Roots_shared_by⟩)
    (cn_Roots_shared_by : PySem.W.codeIn K cd_Roots_shared_by "Roots.shared_by" = true)
    (kp_Roots_shared_by : PySem.W.keepIn K (.ref f_Roots_shared_by) = true)
    (fn_Roots_shared_by : PySem.W.isFn K (.ref f_Roots_shared_by) = true)
    (at_Roots_gap_of : PySem.W.findIn K (.ref C_Roots) "gap_of" = some (some (.ref f_Roots_gap_of)))
    (lk_Roots_gap_of : K.lookup f_Roots_gap_of = some ⟨oc_Roots_gap_of, od_Roots_gap_of, .func (PySem.W.fnOf "gap_of" "Roots.gap_of" (defArgs s_Roots_gap_of) (defBody s_Roots_gap_of) (defScope s_Roots_gap_of) .none kV_Roots_gap_of dc_Roots_gap_of pm_Roots_gap_of an_Roots_gap_of cd_Roots_gap_of ct_Roots_gap_of), sl_Roots_gap_of⟩)
    (cn_Roots_gap_of : PySem.W.codeIn K cd_Roots_gap_of "Roots.gap_of" = true)
    (kp_Roots_gap_of : PySem.W.keepIn K (.ref f_Roots_gap_of) = true)
    (fn_Roots_gap_of : PySem.W.isFn K (.ref f_Roots_gap_of) = true)
    (at_Roots_worth_of : PySem.W.findIn K (.ref C_Roots) "worth_of" = some (some (.ref f_Roots_worth_of)))
    (lk_Roots_worth_of : K.lookup f_Roots_worth_of = some ⟨oc_Roots_worth_of, od_Roots_worth_of, .func (PySem.W.fnOf "worth_of" "Roots.worth_of" (defArgs s_Roots_worth_of) (defBody s_Roots_worth_of) (defScope s_Roots_worth_of) .none kV_Roots_worth_of dc_Roots_worth_of pm_Roots_worth_of an_Roots_worth_of cd_Roots_worth_of ct_Roots_worth_of), sl_Roots_worth_of⟩)
    (cn_Roots_worth_of : PySem.W.codeIn K cd_Roots_worth_of "Roots.worth_of" = true)
    (kp_Roots_worth_of : PySem.W.keepIn K (.ref f_Roots_worth_of) = true)
    (fn_Roots_worth_of : PySem.W.isFn K (.ref f_Roots_worth_of) = true)
    (at_Roots_is_worth : PySem.W.findIn K (.ref C_Roots) "is_worth" = some (some (.ref f_Roots_is_worth)))
    (lk_Roots_is_worth : K.lookup f_Roots_is_worth = some ⟨oc_Roots_is_worth, od_Roots_is_worth, .func (PySem.W.fnOf "is_worth" "Roots.is_worth" (defArgs s_Roots_is_worth) (defBody s_Roots_is_worth) (defScope s_Roots_is_worth) .none kV_Roots_is_worth dc_Roots_is_worth pm_Roots_is_worth an_Roots_is_worth cd_Roots_is_worth ct_Roots_is_worth), sl_Roots_is_worth⟩)
    (cn_Roots_is_worth : PySem.W.codeIn K cd_Roots_is_worth "Roots.is_worth" = true)
    (kp_Roots_is_worth : PySem.W.keepIn K (.ref f_Roots_is_worth) = true)
    (fn_Roots_is_worth : PySem.W.isFn K (.ref f_Roots_is_worth) = true)
    (at_Roots___eq__ : PySem.W.findIn K (.ref C_Roots) "__eq__" = some (some (.ref f_Roots___eq__)))
    (lk_Roots___eq__ : K.lookup f_Roots___eq__ = some ⟨oc_Roots___eq__, od_Roots___eq__, .func (PySem.W.fnOf "__eq__" "Roots.__eq__" (defArgs s_Roots___eq__) (defBody s_Roots___eq__) (defScope s_Roots___eq__) .none kV_Roots___eq__ dc_Roots___eq__ pm_Roots___eq__ an_Roots___eq__ cd_Roots___eq__ ct_Roots___eq__), sl_Roots___eq__⟩)
    (cn_Roots___eq__ : PySem.W.codeIn K cd_Roots___eq__ "Roots.__eq__" = true)
    (kp_Roots___eq__ : PySem.W.keepIn K (.ref f_Roots___eq__) = true)
    (fn_Roots___eq__ : PySem.W.isFn K (.ref f_Roots___eq__) = true)
    (at_Roots___str__ : PySem.W.findIn K (.ref C_Roots) "__str__" = some (some (.ref f_Roots___str__)))
    (lk_Roots___str__ : K.lookup f_Roots___str__ = some ⟨oc_Roots___str__, od_Roots___str__, .func (PySem.W.fnOf "__str__" "Roots.__str__" (defArgs s_Roots___str__) (defBody s_Roots___str__) (defScope s_Roots___str__) .none kV_Roots___str__ dc_Roots___str__ pm_Roots___str__ an_Roots___str__ cd_Roots___str__ ct_Roots___str__), sl_Roots___str__⟩)
    (cn_Roots___str__ : PySem.W.codeIn K cd_Roots___str__ "Roots.__str__" = true)
    (kp_Roots___str__ : PySem.W.keepIn K (.ref f_Roots___str__) = true)
    (fn_Roots___str__ : PySem.W.isFn K (.ref f_Roots___str__) = true)
    (at_Roots___repr__ : PySem.W.findIn K (.ref C_Roots) "__repr__" = some (some (.ref f_Roots___repr__)))
    (lk_Roots___repr__ : K.lookup f_Roots___repr__ = some ⟨oc_Roots___repr__, od_Roots___repr__, .func (PySem.W.fnOf "__repr__" "Roots.__repr__" (defArgs s_Roots___repr__) (defBody s_Roots___repr__) (defScope s_Roots___repr__) .none kV_Roots___repr__ dc_Roots___repr__ pm_Roots___repr__ an_Roots___repr__ cd_Roots___repr__ ct_Roots___repr__), sl_Roots___repr__⟩)
    (cn_Roots___repr__ : PySem.W.codeIn K cd_Roots___repr__ "Roots.__repr__" = true)
    (kp_Roots___repr__ : PySem.W.keepIn K (.ref f_Roots___repr__) = true)
    (fn_Roots___repr__ : PySem.W.isFn K (.ref f_Roots___repr__) = true)
    (ne_Rests : PySem.W.findIn K (.ref C_Rests) "__ne__" = some (some (.builtin "object.__ne__")))
    (oc_Rests : PySem.W.findIn K (.ref C_Rests) "__class__" = some (some (.builtin "object.__class__")))
    (mo_Rests : PySem.W.mroIn K C_Rests (.type "object") = some true)
    (ne_Roots : PySem.W.findIn K (.ref C_Roots) "__ne__" = some (some (.builtin "object.__ne__")))
    (oc_Roots : PySem.W.findIn K (.ref C_Roots) "__class__" = some (some (.builtin "object.__class__")))
    (mo_Roots : PySem.W.mroIn K C_Roots (.type "object") = some true)
    (kit_Rests_Rests : PySem.W.kitOne K (.ref C_Rests) (.ref C_Rests) = some true)
    (kit_Rests_Roots : PySem.W.kitOne K (.ref C_Rests) (.ref C_Roots) = some false)
    (kit_Roots_Rests : PySem.W.kitOne K (.ref C_Roots) (.ref C_Rests) = some false)
    (kit_Roots_Roots : PySem.W.kitOne K (.ref C_Roots) (.ref C_Roots) = some true)
    (nf12 : PySem.W.notFirst K C_Rests (.ref C_Roots) = true)
    (nf21 : PySem.W.notFirst K C_Roots (.ref C_Rests) = true)
    (tk_NoneType_Rests : PySem.W.kitOne K (.type "NoneType") (.ref C_Rests) = some false)
    (tk_NoneType_Roots : PySem.W.kitOne K (.type "NoneType") (.ref C_Roots) = some false)
    (tn_NoneType_Rests : PySem.W.notFirst K C_Rests (.type "NoneType") = true)
    (tn_NoneType_Roots : PySem.W.notFirst K C_Roots (.type "NoneType") = true)
    (tk_tuple_Rests : PySem.W.kitOne K (.type "tuple") (.ref C_Rests) = some false)
    (tk_tuple_Roots : PySem.W.kitOne K (.type "tuple") (.ref C_Roots) = some false)
    (tn_tuple_Rests : PySem.W.notFirst K C_Rests (.type "tuple") = true)
    (tn_tuple_Roots : PySem.W.notFirst K C_Roots (.type "tuple") = true)
    (tk_int_Rests : PySem.W.kitOne K (.type "int") (.ref C_Rests) = some false)
    (tk_int_Roots : PySem.W.kitOne K (.type "int") (.ref C_Roots) = some false)
    (tn_int_Rests : PySem.W.notFirst K C_Rests (.type "int") = true)
    (tn_int_Roots : PySem.W.notFirst K C_Roots (.type "int") = true)
    (tk_str_Rests : PySem.W.kitOne K (.type "str") (.ref C_Rests) = some false)
    (tk_str_Roots : PySem.W.kitOne K (.type "str") (.ref C_Roots) = some false)
    (tn_str_Rests : PySem.W.notFirst K C_Rests (.type "str") = true)
    (tn_str_Roots : PySem.W.notFirst K C_Roots (.type "str") = true)
    (tk_list_Rests : PySem.W.kitOne K (.type "list") (.ref C_Rests) = some false)
    (tk_list_Roots : PySem.W.kitOne K (.type "list") (.ref C_Roots) = some false)
    (tn_list_Rests : PySem.W.notFirst K C_Rests (.type "list") = true)
    (tn_list_Roots : PySem.W.notFirst K C_Roots (.type "list") = true)
    (sx_BadGround_BadGround : PySem.W.subIn K (.ref C_BadGround) (.ref C_BadGround) = some true)
    (sx_BadGround_NoRoot : PySem.W.subIn K (.ref C_BadGround) (.ref C_NoRoot) = some false)
    (sx_BadGround_NoShare : PySem.W.subIn K (.ref C_BadGround) (.ref C_NoShare) = some false)
    (sx_NoRoot_BadGround : PySem.W.subIn K (.ref C_NoRoot) (.ref C_BadGround) = some false)
    (sx_NoRoot_NoRoot : PySem.W.subIn K (.ref C_NoRoot) (.ref C_NoRoot) = some true)
    (sx_NoRoot_NoShare : PySem.W.subIn K (.ref C_NoRoot) (.ref C_NoShare) = some false)
    (sx_NoShare_BadGround : PySem.W.subIn K (.ref C_NoShare) (.ref C_BadGround) = some false)
    (sx_NoShare_NoRoot : PySem.W.subIn K (.ref C_NoShare) (.ref C_NoRoot) = some false)
    (sx_NoShare_NoShare : PySem.W.subIn K (.ref C_NoShare) (.ref C_NoShare) = some true)
    (a0 : PySem.W.nsIn K mainGlobals "is_whole" = some (some (.ref f0))) (l0 : K.lookup f0 = some ⟨oc0, od0, .func (PySem.W.fnOf "is_whole" "is_whole" (defArgs s_is_whole) (defBody s_is_whole) (defScope s_is_whole) .none kV0 dc0 pm0 an0 cd0 ct0), sl0⟩) (c0 : PySem.W.codeIn K cd0 "is_whole" = true) (k0 : PySem.W.keepIn K (.ref f0) = true)
    (a1 : PySem.W.nsIn K mainGlobals "is_prime" = some (some (.ref f1))) (l1 : K.lookup f1 = some ⟨oc1, od1, .func (PySem.W.fnOf "is_prime" "is_prime" (defArgs s_is_prime) (defBody s_is_prime) (defScope s_is_prime) .none kV1 dc1 pm1 an1 cd1 ct1), sl1⟩) (c1 : PySem.W.codeIn K cd1 "is_prime" = true) (k1 : PySem.W.keepIn K (.ref f1) = true)
    (a2 : PySem.W.nsIn K mainGlobals "factors" = some (some (.ref f2))) (l2 : K.lookup f2 = some ⟨oc2, od2, .func (PySem.W.fnOf "factors" "factors" (defArgs s_factors) (defBody s_factors) (defScope s_factors) .none kV2 dc2 pm2 an2 cd2 ct2), sl2⟩) (c2 : PySem.W.codeIn K cd2 "factors" = true) (k2 : PySem.W.keepIn K (.ref f2) = true)
    (a3 : PySem.W.nsIn K mainGlobals "divisors" = some (some (.ref f3))) (l3 : K.lookup f3 = some ⟨oc3, od3, .func (PySem.W.fnOf "divisors" "divisors" (defArgs s_divisors) (defBody s_divisors) (defScope s_divisors) .none kV3 dc3 pm3 an3 cd3 ct3), sl3⟩) (c3 : PySem.W.codeIn K cd3 "divisors" = true) (k3 : PySem.W.keepIn K (.ref f3) = true)
    (a4 : PySem.W.nsIn K mainGlobals "inverse" = some (some (.ref f4))) (l4 : K.lookup f4 = some ⟨oc4, od4, .func (PySem.W.fnOf "inverse" "inverse" (defArgs s_inverse) (defBody s_inverse) (defScope s_inverse) .none kV4 dc4 pm4 an4 cd4 ct4), sl4⟩) (c4 : PySem.W.codeIn K cd4 "inverse" = true) (k4 : PySem.W.keepIn K (.ref f4) = true)
    (a5 : PySem.W.nsIn K mainGlobals "power_rest" = some (some (.ref f5))) (l5 : K.lookup f5 = some ⟨oc5, od5, .func (PySem.W.fnOf "power_rest" "power_rest" (defArgs s_power_rest) (defBody s_power_rest) (defScope s_power_rest) .none kV5 dc5 pm5 an5 cd5 ct5), sl5⟩) (c5 : PySem.W.codeIn K cd5 "power_rest" = true) (k5 : PySem.W.keepIn K (.ref f5) = true)
    (a6 : PySem.W.nsIn K mainGlobals "generator" = some (some (.ref f6))) (l6 : K.lookup f6 = some ⟨oc6, od6, .func (PySem.W.fnOf "generator" "generator" (defArgs s_generator) (defBody s_generator) (defScope s_generator) .none kV6 dc6 pm6 an6 cd6 ct6), sl6⟩) (c6 : PySem.W.codeIn K cd6 "generator" = true) (k6 : PySem.W.keepIn K (.ref f6) = true)
    (a7 : PySem.W.nsIn K mainGlobals "divided" = some (some (.ref f7))) (l7 : K.lookup f7 = some ⟨oc7, od7, .func (PySem.W.fnOf "divided" "divided" (defArgs s_divided) (defBody s_divided) (defScope s_divided) .none kV7 dc7 pm7 an7 cd7 ct7), sl7⟩) (c7 : PySem.W.codeIn K cd7 "divided" = true) (k7 : PySem.W.keepIn K (.ref f7) = true)
    (a8 : PySem.W.nsIn K mainGlobals "multiplied" = some (some (.ref f8))) (l8 : K.lookup f8 = some ⟨oc8, od8, .func (PySem.W.fnOf "multiplied" "multiplied" (defArgs s_multiplied) (defBody s_multiplied) (defScope s_multiplied) .none kV8 dc8 pm8 an8 cd8 ct8), sl8⟩) (c8 : PySem.W.codeIn K cd8 "multiplied" = true) (k8 : PySem.W.keepIn K (.ref f8) = true)
    (a9 : PySem.W.nsIn K mainGlobals "wheel" = some (some (.ref f9))) (l9 : K.lookup f9 = some ⟨oc9, od9, .func (PySem.W.fnOf "wheel" "wheel" (defArgs s_wheel) (defBody s_wheel) (defScope s_wheel) .none kV9 dc9 pm9 an9 cd9 ct9), sl9⟩) (c9 : PySem.W.codeIn K cd9 "wheel" = true) (k9 : PySem.W.keepIn K (.ref f9) = true)
    (a10 : PySem.W.nsIn K mainGlobals "_law_box" = some (some (.ref f10))) (l10 : K.lookup f10 = some ⟨oc10, od10, .func (PySem.W.fnOf "_law_box" "_law_box" (defArgs s__law_box) (defBody s__law_box) (defScope s__law_box) .none kV10 dc10 pm10 an10 cd10 ct10), sl10⟩) (c10 : PySem.W.codeIn K cd10 "_law_box" = true) (k10 : PySem.W.keepIn K (.ref f10) = true)
    (a11 : PySem.W.nsIn K mainGlobals "_law_take" = some (some (.ref f11))) (l11 : K.lookup f11 = some ⟨oc11, od11, .func (PySem.W.fnOf "_law_take" "_law_take" (defArgs s__law_take) (defBody s__law_take) (defScope s__law_take) .none kV11 dc11 pm11 an11 cd11 ct11), sl11⟩) (c11 : PySem.W.codeIn K cd11 "_law_take" = true) (k11 : PySem.W.keepIn K (.ref f11) = true)
    (a12 : PySem.W.nsIn K mainGlobals "_law_pick" = some (some (.ref f12))) (l12 : K.lookup f12 = some ⟨oc12, od12, .func (PySem.W.fnOf "_law_pick" "_law_pick" (defArgs s__law_pick) (defBody s__law_pick) (defScope s__law_pick) .none kV12 dc12 pm12 an12 cd12 ct12), sl12⟩) (c12 : PySem.W.codeIn K cd12 "_law_pick" = true) (k12 : PySem.W.keepIn K (.ref f12) = true)
    (a13 : PySem.W.nsIn K mainGlobals "_law_by_places" = some (some (.ref f13))) (l13 : K.lookup f13 = some ⟨oc13, od13, .func (PySem.W.fnOf "_law_by_places" "_law_by_places" (defArgs s__law_by_places) (defBody s__law_by_places) (defScope s__law_by_places) .none kV13 dc13 pm13 an13 cd13 ct13), sl13⟩) (c13 : PySem.W.codeIn K cd13 "_law_by_places" = true) (k13 : PySem.W.keepIn K (.ref f13) = true)
    (a14 : PySem.W.nsIn K mainGlobals "_law_by_names" = some (some (.ref f14))) (l14 : K.lookup f14 = some ⟨oc14, od14, .func (PySem.W.fnOf "_law_by_names" "_law_by_names" (defArgs s__law_by_names) (defBody s__law_by_names) (defScope s__law_by_names) .none kV14 dc14 pm14 an14 cd14 ct14), sl14⟩) (c14 : PySem.W.codeIn K cd14 "_law_by_names" = true) (k14 : PySem.W.keepIn K (.ref f14) = true)
    (a15 : PySem.W.nsIn K mainGlobals "_law_refused" = some (some (.ref f15))) (l15 : K.lookup f15 = some ⟨oc15, od15, .func (PySem.W.fnOf "_law_refused" "_law_refused" (defArgs s__law_refused) (defBody s__law_refused) (defScope s__law_refused) .none kV15 dc15 pm15 an15 cd15 ct15), sl15⟩) (c15 : PySem.W.codeIn K cd15 "_law_refused" = true) (k15 : PySem.W.keepIn K (.ref f15) = true)
    (a16 : PySem.W.nsIn K mainGlobals "_law_told_right" = some (some (.ref f16))) (l16 : K.lookup f16 = some ⟨oc16, od16, .func (PySem.W.fnOf "_law_told_right" "_law_told_right" (defArgs s__law_told_right) (defBody s__law_told_right) (defScope s__law_told_right) .none kV16 dc16 pm16 an16 cd16 ct16), sl16⟩) (c16 : PySem.W.codeIn K cd16 "_law_told_right" = true) (k16 : PySem.W.keepIn K (.ref f16) = true)
    (a17 : PySem.W.nsIn K mainGlobals "law" = some (some (.ref f17))) (l17 : K.lookup f17 = some ⟨oc17, od17, .func (PySem.W.fnOf "law" "law" (defArgs s_law) (defBody s_law) (defScope s_law) .none kV17 dc17 pm17 an17 cd17 ct17), sl17⟩) (c17 : PySem.W.codeIn K cd17 "law" = true) (k17 : PySem.W.keepIn K (.ref f17) = true)
    (z0 : PySem.W.nsIn K mainGlobals "ValueError" = some none) (z1 : PySem.W.nsIn K mainGlobals "abs" = some none) (z2 : PySem.W.nsIn K mainGlobals "all" = some none) (z3 : PySem.W.nsIn K mainGlobals "any" = some none) (z4 : PySem.W.nsIn K mainGlobals "bool" = some none) (z5 : PySem.W.nsIn K mainGlobals "enumerate" = some none) (z6 : PySem.W.nsIn K mainGlobals "int" = some none) (z7 : PySem.W.nsIn K mainGlobals "isinstance" = some none) (z8 : PySem.W.nsIn K mainGlobals "len" = some none) (z9 : PySem.W.nsIn K mainGlobals "list" = some none) (z10 : PySem.W.nsIn K mainGlobals "max" = some none) (z11 : PySem.W.nsIn K mainGlobals "min" = some none) (z12 : PySem.W.nsIn K mainGlobals "range" = some none) (z13 : PySem.W.nsIn K mainGlobals "repr" = some none) (z14 : PySem.W.nsIn K mainGlobals "set" = some none) (z15 : PySem.W.nsIn K mainGlobals "sorted" = some none) (z16 : PySem.W.nsIn K mainGlobals "str" = some none) (z17 : PySem.W.nsIn K mainGlobals "tuple" = some none) (z18 : PySem.W.nsIn K mainGlobals "zip" = some none) :
    ∃ fd : FuncData, (∀ (s : Shared) (v : Value), BindsTo s fd ⟨[v], []⟩ [("_law_script", v)]) ∧ ∀ base : Heap, K.In base → base.Ns mainGlobals mg → FnG l.prog w K mg base CX0 10 fa fd ["_law_script"] (spLaw K) := by
  have e := hfa.symm.trans (PySem.W.mg_of X G a17)
  cases e
  have T : Blt mg := ⟨PySem.W.mg_none_of X G z0, PySem.W.mg_none_of X G z1, PySem.W.mg_none_of X G z2, PySem.W.mg_none_of X G z3, PySem.W.mg_none_of X G z4, PySem.W.mg_none_of X G z5, PySem.W.mg_none_of X G z6, PySem.W.mg_none_of X G z7, PySem.W.mg_none_of X G z8, PySem.W.mg_none_of X G z9, PySem.W.mg_none_of X G z10, PySem.W.mg_none_of X G z11, PySem.W.mg_none_of X G z12, PySem.W.mg_none_of X G z13, PySem.W.mg_none_of X G z14, PySem.W.mg_none_of X G z15, PySem.W.mg_none_of X G z16, PySem.W.mg_none_of X G z17, PySem.W.mg_none_of X G z18⟩
  have F0 := fun_mk (st := s_is_whole) l0 c0 k0
  have b0 := F0.binds (ps := P_is_whole) fun _ _ _ _ _ _ us hl => match us, hl with | [_], _ => rfl
  have F1 := fun_mk (st := s_is_prime) l1 c1 k1
  have b1 := F1.binds (ps := P_is_prime) fun _ _ _ _ _ _ us hl => match us, hl with | [_], _ => rfl
  have F2 := fun_mk (st := s_factors) l2 c2 k2
  have b2 := F2.binds (ps := P_factors) fun _ _ _ _ _ _ us hl => match us, hl with | [_], _ => rfl
  have F3 := fun_mk (st := s_divisors) l3 c3 k3
  have b3 := F3.binds (ps := P_divisors) fun _ _ _ _ _ _ us hl => match us, hl with | [_], _ => rfl
  have F4 := fun_mk (st := s_inverse) l4 c4 k4
  have b4 := F4.binds (ps := P_inverse) fun _ _ _ _ _ _ us hl => match us, hl with | [_, _], _ => rfl
  have F5 := fun_mk (st := s_power_rest) l5 c5 k5
  have b5 := F5.binds (ps := P_power_rest) fun _ _ _ _ _ _ us hl => match us, hl with | [_, _, _], _ => rfl
  have F6 := fun_mk (st := s_generator) l6 c6 k6
  have b6 := F6.binds (ps := P_generator) fun _ _ _ _ _ _ us hl => match us, hl with | [_], _ => rfl
  have F7 := fun_mk (st := s_divided) l7 c7 k7
  have b7 := F7.binds (ps := P_divided) fun _ _ _ _ _ _ us hl => match us, hl with | [_, _], _ => rfl
  have F8 := fun_mk (st := s_multiplied) l8 c8 k8
  have b8 := F8.binds (ps := P_multiplied) fun _ _ _ _ _ _ us hl => match us, hl with | [_, _], _ => rfl
  have F9 := fun_mk (st := s_wheel) l9 c9 k9
  have b9 := F9.binds (ps := P_wheel) fun _ _ _ _ _ _ us hl => match us, hl with | [_], _ => rfl
  have F10 := fun_mk (st := s__law_box) l10 c10 k10
  have b10 := F10.binds (ps := P__law_box) fun _ _ _ _ _ _ us hl => match us, hl with | [_, _], _ => rfl
  have F11 := fun_mk (st := s__law_take) l11 c11 k11
  have b11 := F11.binds (ps := P__law_take) fun _ _ _ _ _ _ us hl => match us, hl with | [_, _], _ => rfl
  have F12 := fun_mk (st := s__law_pick) l12 c12 k12
  have b12 := F12.binds (ps := P__law_pick) fun _ _ _ _ _ _ us hl => match us, hl with | [_, _], _ => rfl
  have F13 := fun_mk (st := s__law_by_places) l13 c13 k13
  have b13 := F13.binds (ps := P__law_by_places) fun _ _ _ _ _ _ us hl => match us, hl with | [_, _, _], _ => rfl
  have F14 := fun_mk (st := s__law_by_names) l14 c14 k14
  have b14 := F14.binds (ps := P__law_by_names) fun _ _ _ _ _ _ us hl => match us, hl with | [_, _, _], _ => rfl
  have F15 := fun_mk (st := s__law_refused) l15 c15 k15
  have b15 := F15.binds (ps := P__law_refused) fun _ _ _ _ _ _ us hl => match us, hl with | [_], _ => rfl
  have F16 := fun_mk (st := s__law_told_right) l16 c16 k16
  have b16 := F16.binds (ps := P__law_told_right) fun _ _ _ _ _ _ us hl => match us, hl with | [_], _ => rfl
  have F17 := fun_mk (st := s_law) l17 c17 k17
  have F_I := fun_mk (st := s_init) lI cI kI
  have b_I := F_I.binds (ps := N_init) fun _ _ _ _ _ _ us hl => match us, hl with | [_, _], _ => rfl
  have EK_BadGround : ExK K C_BadGround := ⟨⟨⟨nm_BadGround, q_BadGround, N_BadGround, bs_BadGround, _, sn_BadGround, sb_BadGround, ab_BadGround, co_BadGround, dd_BadGround, m0_BadGround, m1_BadGround, m2_BadGround, m3_BadGround, m5_BadGround, xL_BadGround, rfl⟩, sa_BadGround, eC_BadGround, tC_BadGround, kC_BadGround⟩, ⟨ga_BadGround, gg_BadGround, eC_BadGround, hC_BadGround⟩, ⟨ga_BadGround, gg_BadGround, eC_BadGround, hC_BadGround, oc_BadGround, on, ot, mo_BadGround⟩, nw_BadGround⟩
  have R_BadGround : Ref K C_TurnError C_BadGround fI := ⟨EK_BadGround, ii_BadGround, PySem.W.exm_ref eT hT tT su_BadGround, kv_BadGround, kt_BadGround⟩
  have EK_NoRoot : ExK K C_NoRoot := ⟨⟨⟨nm_NoRoot, q_NoRoot, N_NoRoot, bs_NoRoot, _, sn_NoRoot, sb_NoRoot, ab_NoRoot, co_NoRoot, dd_NoRoot, m0_NoRoot, m1_NoRoot, m2_NoRoot, m3_NoRoot, m5_NoRoot, xL_NoRoot, rfl⟩, sa_NoRoot, eC_NoRoot, tC_NoRoot, kC_NoRoot⟩, ⟨ga_NoRoot, gg_NoRoot, eC_NoRoot, hC_NoRoot⟩, ⟨ga_NoRoot, gg_NoRoot, eC_NoRoot, hC_NoRoot, oc_NoRoot, on, ot, mo_NoRoot⟩, nw_NoRoot⟩
  have R_NoRoot : Ref K C_TurnError C_NoRoot fI := ⟨EK_NoRoot, ii_NoRoot, PySem.W.exm_ref eT hT tT su_NoRoot, kv_NoRoot, kt_NoRoot⟩
  have EK_NoShare : ExK K C_NoShare := ⟨⟨⟨nm_NoShare, q_NoShare, N_NoShare, bs_NoShare, _, sn_NoShare, sb_NoShare, ab_NoShare, co_NoShare, dd_NoShare, m0_NoShare, m1_NoShare, m2_NoShare, m3_NoShare, m5_NoShare, xL_NoShare, rfl⟩, sa_NoShare, eC_NoShare, tC_NoShare, kC_NoShare⟩, ⟨ga_NoShare, gg_NoShare, eC_NoShare, hC_NoShare⟩, ⟨ga_NoShare, gg_NoShare, eC_NoShare, hC_NoShare, oc_NoShare, on, ot, mo_NoShare⟩, nw_NoShare⟩
  have R_NoShare : Ref K C_TurnError C_NoShare fI := ⟨EK_NoShare, ii_NoShare, PySem.W.exm_ref eT hT tT su_NoShare, kv_NoShare, kt_NoShare⟩
  have EK_NoInverse : ExK K C_NoInverse := ⟨⟨⟨nm_NoInverse, q_NoInverse, N_NoInverse, bs_NoInverse, _, sn_NoInverse, sb_NoInverse, ab_NoInverse, co_NoInverse, dd_NoInverse, m0_NoInverse, m1_NoInverse, m2_NoInverse, m3_NoInverse, m5_NoInverse, xL_NoInverse, rfl⟩, sa_NoInverse, eC_NoInverse, tC_NoInverse, kC_NoInverse⟩, ⟨ga_NoInverse, gg_NoInverse, eC_NoInverse, hC_NoInverse⟩, ⟨ga_NoInverse, gg_NoInverse, eC_NoInverse, hC_NoInverse, oc_NoInverse, on, ot, mo_NoInverse⟩, nw_NoInverse⟩
  have R_NoInverse : Ref K C_TurnError C_NoInverse fI := ⟨EK_NoInverse, ii_NoInverse, PySem.W.exm_ref eT hT tT su_NoInverse, kv_NoInverse, kt_NoInverse⟩
  have M_MOST_PRIME := PySem.W.mg_of X G g_MOST_PRIME
  have M_MOST_ORDER := PySem.W.mg_of X G g_MOST_ORDER
  have CL_Rests : L2.Cls K C_Rests := ⟨pg_Rests, hd_Rests, po_Rests, sa_Rests⟩
  have F_Rests___init__ := fun_mk (st := s_Rests___init__) lk_Rests___init__ cn_Rests___init__ kp_Rests___init__
  have B_Rests___init__ := F_Rests___init__.binds (ps := P_Rests___init__) fun _ _ _ _ _ _ us hl => match us, hl with | [_, _], _ => rfl
  have MK_Rests : Mk K C_Rests f_Rests___init__ := ⟨mk_Rests, at_Rests___init__, fn_Rests___init__, kc_Rests⟩
  have F_Rests_sum_of := fun_mk (st := s_Rests_sum_of) lk_Rests_sum_of cn_Rests_sum_of kp_Rests_sum_of
  have B_Rests_sum_of := F_Rests_sum_of.binds (ps := P_Rests_sum_of) fun _ _ _ _ _ _ us hl => match us, hl with | [_, _, _], _ => rfl
  have ME_Rests_sum_of : Meth K C_Rests "sum_of" f_Rests_sum_of := ⟨at_Rests_sum_of, fn_Rests_sum_of, kp_Rests_sum_of⟩
  have F_Rests_product_of := fun_mk (st := s_Rests_product_of) lk_Rests_product_of cn_Rests_product_of kp_Rests_product_of
  have B_Rests_product_of := F_Rests_product_of.binds (ps := P_Rests_product_of) fun _ _ _ _ _ _ us hl => match us, hl with | [_, _, _], _ => rfl
  have ME_Rests_product_of : Meth K C_Rests "product_of" f_Rests_product_of := ⟨at_Rests_product_of, fn_Rests_product_of, kp_Rests_product_of⟩
  have F_Rests_has_root := fun_mk (st := s_Rests_has_root) lk_Rests_has_root cn_Rests_has_root kp_Rests_has_root
  have B_Rests_has_root := F_Rests_has_root.binds (ps := P_Rests_has_root) fun _ _ _ _ _ _ us hl => match us, hl with | [_, _], _ => rfl
  have ME_Rests_has_root : Meth K C_Rests "has_root" f_Rests_has_root := ⟨at_Rests_has_root, fn_Rests_has_root, kp_Rests_has_root⟩
  have F_Rests_root_at := fun_mk (st := s_Rests_root_at) lk_Rests_root_at cn_Rests_root_at kp_Rests_root_at
  have B_Rests_root_at := F_Rests_root_at.binds (ps := P_Rests_root_at) fun _ _ _ _ _ _ us hl => match us, hl with | [_, _, _], _ => rfl
  have ME_Rests_root_at : Meth K C_Rests "root_at" f_Rests_root_at := ⟨at_Rests_root_at, fn_Rests_root_at, kp_Rests_root_at⟩
  have F_Rests_shared_by := fun_mk (st := s_Rests_shared_by) lk_Rests_shared_by cn_Rests_shared_by kp_Rests_shared_by
  have B_Rests_shared_by := F_Rests_shared_by.binds (ps := P_Rests_shared_by) fun _ _ _ _ _ _ us hl => match us, hl with | [_, _, _], _ => rfl
  have ME_Rests_shared_by : Meth K C_Rests "shared_by" f_Rests_shared_by := ⟨at_Rests_shared_by, fn_Rests_shared_by, kp_Rests_shared_by⟩
  have F_Rests_gap_of := fun_mk (st := s_Rests_gap_of) lk_Rests_gap_of cn_Rests_gap_of kp_Rests_gap_of
  have B_Rests_gap_of := F_Rests_gap_of.binds (ps := P_Rests_gap_of) fun _ _ _ _ _ _ us hl => match us, hl with | [_, _, _], _ => rfl
  have ME_Rests_gap_of : Meth K C_Rests "gap_of" f_Rests_gap_of := ⟨at_Rests_gap_of, fn_Rests_gap_of, kp_Rests_gap_of⟩
  have F_Rests_worth_of := fun_mk (st := s_Rests_worth_of) lk_Rests_worth_of cn_Rests_worth_of kp_Rests_worth_of
  have B_Rests_worth_of := F_Rests_worth_of.binds (ps := P_Rests_worth_of) fun _ _ _ _ _ _ us hl => match us, hl with | [_, _], _ => rfl
  have ME_Rests_worth_of : Meth K C_Rests "worth_of" f_Rests_worth_of := ⟨at_Rests_worth_of, fn_Rests_worth_of, kp_Rests_worth_of⟩
  have F_Rests_is_worth := fun_mk (st := s_Rests_is_worth) lk_Rests_is_worth cn_Rests_is_worth kp_Rests_is_worth
  have B_Rests_is_worth := F_Rests_is_worth.binds (ps := P_Rests_is_worth) fun _ _ _ _ _ _ us hl => match us, hl with | [_, _], _ => rfl
  have ME_Rests_is_worth : Meth K C_Rests "is_worth" f_Rests_is_worth := ⟨at_Rests_is_worth, fn_Rests_is_worth, kp_Rests_is_worth⟩
  have F_Rests___eq__ := fun_mk (st := s_Rests___eq__) lk_Rests___eq__ cn_Rests___eq__ kp_Rests___eq__
  have B_Rests___eq__ := F_Rests___eq__.binds (ps := P_Rests___eq__) fun _ _ _ _ _ _ us hl => match us, hl with | [_, _], _ => rfl
  have ME_Rests___eq__ : Meth K C_Rests "__eq__" f_Rests___eq__ := ⟨at_Rests___eq__, fn_Rests___eq__, kp_Rests___eq__⟩
  have F_Rests___str__ := fun_mk (st := s_Rests___str__) lk_Rests___str__ cn_Rests___str__ kp_Rests___str__
  have B_Rests___str__ := F_Rests___str__.binds (ps := P_Rests___str__) fun _ _ _ _ _ _ us hl => match us, hl with | [_], _ => rfl
  have ME_Rests___str__ : Meth K C_Rests "__str__" f_Rests___str__ := ⟨at_Rests___str__, fn_Rests___str__, kp_Rests___str__⟩
  have F_Rests___repr__ := fun_mk (st := s_Rests___repr__) lk_Rests___repr__ cn_Rests___repr__ kp_Rests___repr__
  have B_Rests___repr__ := F_Rests___repr__.binds (ps := P_Rests___repr__) fun _ _ _ _ _ _ us hl => match us, hl with | [_], _ => rfl
  have ME_Rests___repr__ : Meth K C_Rests "__repr__" f_Rests___repr__ := ⟨at_Rests___repr__, fn_Rests___repr__, kp_Rests___repr__⟩
  have CL_Roots : L2.Cls K C_Roots := ⟨pg_Roots, hd_Roots, po_Roots, sa_Roots⟩
  have F_Roots___init__ := fun_mk (st := s_Roots___init__) lk_Roots___init__ cn_Roots___init__ kp_Roots___init__
  have B_Roots___init__ := F_Roots___init__.binds (ps := P_Roots___init__) fun _ _ _ _ _ _ us hl => match us, hl with | [_, _], _ => rfl
  have MK_Roots : Mk K C_Roots f_Roots___init__ := ⟨mk_Roots, at_Roots___init__, fn_Roots___init__, kc_Roots⟩
  have F_Roots_sum_of := fun_mk (st := s_Roots_sum_of) lk_Roots_sum_of cn_Roots_sum_of kp_Roots_sum_of
  have B_Roots_sum_of := F_Roots_sum_of.binds (ps := P_Roots_sum_of) fun _ _ _ _ _ _ us hl => match us, hl with | [_, _, _], _ => rfl
  have ME_Roots_sum_of : Meth K C_Roots "sum_of" f_Roots_sum_of := ⟨at_Roots_sum_of, fn_Roots_sum_of, kp_Roots_sum_of⟩
  have F_Roots_product_of := fun_mk (st := s_Roots_product_of) lk_Roots_product_of cn_Roots_product_of kp_Roots_product_of
  have B_Roots_product_of := F_Roots_product_of.binds (ps := P_Roots_product_of) fun _ _ _ _ _ _ us hl => match us, hl with | [_, _, _], _ => rfl
  have ME_Roots_product_of : Meth K C_Roots "product_of" f_Roots_product_of := ⟨at_Roots_product_of, fn_Roots_product_of, kp_Roots_product_of⟩
  have F_Roots_has_root := fun_mk (st := s_Roots_has_root) lk_Roots_has_root cn_Roots_has_root kp_Roots_has_root
  have B_Roots_has_root := F_Roots_has_root.binds (ps := P_Roots_has_root) fun _ _ _ _ _ _ us hl => match us, hl with | [_, _], _ => rfl
  have ME_Roots_has_root : Meth K C_Roots "has_root" f_Roots_has_root := ⟨at_Roots_has_root, fn_Roots_has_root, kp_Roots_has_root⟩
  have F_Roots_root_at := fun_mk (st := s_Roots_root_at) lk_Roots_root_at cn_Roots_root_at kp_Roots_root_at
  have B_Roots_root_at := F_Roots_root_at.binds (ps := P_Roots_root_at) fun _ _ _ _ _ _ us hl => match us, hl with | [_, _, _], _ => rfl
  have ME_Roots_root_at : Meth K C_Roots "root_at" f_Roots_root_at := ⟨at_Roots_root_at, fn_Roots_root_at, kp_Roots_root_at⟩
  have F_Roots_shared_by := fun_mk (st := s_Roots_shared_by) lk_Roots_shared_by cn_Roots_shared_by kp_Roots_shared_by
  have B_Roots_shared_by := F_Roots_shared_by.binds (ps := P_Roots_shared_by) fun _ _ _ _ _ _ us hl => match us, hl with | [_, _, _], _ => rfl
  have ME_Roots_shared_by : Meth K C_Roots "shared_by" f_Roots_shared_by := ⟨at_Roots_shared_by, fn_Roots_shared_by, kp_Roots_shared_by⟩
  have F_Roots_gap_of := fun_mk (st := s_Roots_gap_of) lk_Roots_gap_of cn_Roots_gap_of kp_Roots_gap_of
  have B_Roots_gap_of := F_Roots_gap_of.binds (ps := P_Roots_gap_of) fun _ _ _ _ _ _ us hl => match us, hl with | [_, _, _], _ => rfl
  have ME_Roots_gap_of : Meth K C_Roots "gap_of" f_Roots_gap_of := ⟨at_Roots_gap_of, fn_Roots_gap_of, kp_Roots_gap_of⟩
  have F_Roots_worth_of := fun_mk (st := s_Roots_worth_of) lk_Roots_worth_of cn_Roots_worth_of kp_Roots_worth_of
  have B_Roots_worth_of := F_Roots_worth_of.binds (ps := P_Roots_worth_of) fun _ _ _ _ _ _ us hl => match us, hl with | [_, _], _ => rfl
  have ME_Roots_worth_of : Meth K C_Roots "worth_of" f_Roots_worth_of := ⟨at_Roots_worth_of, fn_Roots_worth_of, kp_Roots_worth_of⟩
  have F_Roots_is_worth := fun_mk (st := s_Roots_is_worth) lk_Roots_is_worth cn_Roots_is_worth kp_Roots_is_worth
  have B_Roots_is_worth := F_Roots_is_worth.binds (ps := P_Roots_is_worth) fun _ _ _ _ _ _ us hl => match us, hl with | [_, _], _ => rfl
  have ME_Roots_is_worth : Meth K C_Roots "is_worth" f_Roots_is_worth := ⟨at_Roots_is_worth, fn_Roots_is_worth, kp_Roots_is_worth⟩
  have F_Roots___eq__ := fun_mk (st := s_Roots___eq__) lk_Roots___eq__ cn_Roots___eq__ kp_Roots___eq__
  have B_Roots___eq__ := F_Roots___eq__.binds (ps := P_Roots___eq__) fun _ _ _ _ _ _ us hl => match us, hl with | [_, _], _ => rfl
  have ME_Roots___eq__ : Meth K C_Roots "__eq__" f_Roots___eq__ := ⟨at_Roots___eq__, fn_Roots___eq__, kp_Roots___eq__⟩
  have F_Roots___str__ := fun_mk (st := s_Roots___str__) lk_Roots___str__ cn_Roots___str__ kp_Roots___str__
  have B_Roots___str__ := F_Roots___str__.binds (ps := P_Roots___str__) fun _ _ _ _ _ _ us hl => match us, hl with | [_], _ => rfl
  have ME_Roots___str__ : Meth K C_Roots "__str__" f_Roots___str__ := ⟨at_Roots___str__, fn_Roots___str__, kp_Roots___str__⟩
  have F_Roots___repr__ := fun_mk (st := s_Roots___repr__) lk_Roots___repr__ cn_Roots___repr__ kp_Roots___repr__
  have B_Roots___repr__ := F_Roots___repr__.binds (ps := P_Roots___repr__) fun _ _ _ _ _ _ us hl => match us, hl with | [_], _ => rfl
  have ME_Roots___repr__ : Meth K C_Roots "__repr__" f_Roots___repr__ := ⟨at_Roots___repr__, fn_Roots___repr__, kp_Roots___repr__⟩
  have M_TurnError := PySem.W.mg_of X G g_TurnError
  have M_BadGround := PySem.W.mg_of X G g_BadGround
  have M_NoRoot := PySem.W.mg_of X G g_NoRoot
  have M_NoShare := PySem.W.mg_of X G g_NoShare
  have M_NoInverse := PySem.W.mg_of X G g_NoInverse
  have M_Rests := PySem.W.mg_of X G g_Rests
  have M_Roots := PySem.W.mg_of X G g_Roots
  refine ⟨_, fun s v => .of_eq rfl, fun base _ _ => ok_law (P := l.prog) (w := w) (base := base) F17 T ⟨⟨_, _, F0, b0, PySem.W.mg_of X G a0⟩, ⟨_, _, F1, b1, PySem.W.mg_of X G a1⟩, ⟨_, _, F2, b2, PySem.W.mg_of X G a2⟩, ⟨_, _, F3, b3, PySem.W.mg_of X G a3⟩, ⟨_, _, F4, b4, PySem.W.mg_of X G a4⟩, ⟨_, _, F5, b5, PySem.W.mg_of X G a5⟩, ⟨_, _, F6, b6, PySem.W.mg_of X G a6⟩, ⟨_, _, F7, b7, PySem.W.mg_of X G a7⟩, ⟨_, _, F8, b8, PySem.W.mg_of X G a8⟩, ⟨_, _, F9, b9, PySem.W.mg_of X G a9⟩, ⟨_, _, F10, b10, PySem.W.mg_of X G a10⟩, ⟨_, _, F11, b11, PySem.W.mg_of X G a11⟩, ⟨_, _, F12, b12, PySem.W.mg_of X G a12⟩, ⟨_, _, F13, b13, PySem.W.mg_of X G a13⟩, ⟨_, _, F14, b14, PySem.W.mg_of X G a14⟩, ⟨_, _, F15, b15, PySem.W.mg_of X G a15⟩, ⟨_, _, F16, b16, PySem.W.mg_of X G a16⟩⟩ ⟨F_I, b_I, tI, R_BadGround, M_BadGround, ⟨CL_Rests, nf_Rests_prime, nf_Rests_base⟩, ⟨CL_Roots, nf_Roots_order, nf_Roots_rim⟩, M_Rests, M_Roots, ⟨_, M_MOST_PRIME⟩, ⟨_, M_MOST_ORDER⟩, ⟨_, _, MK_Rests, F_Rests___init__, B_Rests___init__⟩, ⟨_, _, MK_Roots, F_Roots___init__, B_Roots___init__⟩, ⟨_, _, F_Rests_sum_of, B_Rests_sum_of, ME_Rests_sum_of⟩, ⟨_, _, F_Rests_product_of, B_Rests_product_of, ME_Rests_product_of⟩, ⟨_, _, F_Rests_has_root, B_Rests_has_root, ME_Rests_has_root⟩, ⟨_, _, F_Rests_root_at, B_Rests_root_at, ME_Rests_root_at⟩, ⟨_, _, F_Rests_shared_by, B_Rests_shared_by, ME_Rests_shared_by⟩, ⟨_, _, F_Roots_sum_of, B_Roots_sum_of, ME_Roots_sum_of⟩, ⟨_, _, F_Roots_product_of, B_Roots_product_of, ME_Roots_product_of⟩, ⟨_, _, F_Roots_has_root, B_Roots_has_root, ME_Roots_has_root⟩, ⟨_, _, F_Roots_root_at, B_Roots_root_at, ME_Roots_root_at⟩, ⟨_, _, F_Roots_shared_by, B_Roots_shared_by, ME_Roots_shared_by⟩, R_NoRoot, M_NoRoot, R_NoShare, M_NoShare, R_NoInverse, M_NoInverse, M_TurnError⟩ ⟨⟨_, _, F_Rests_gap_of, B_Rests_gap_of, ME_Rests_gap_of⟩, ⟨_, _, F_Rests_worth_of, B_Rests_worth_of, ME_Rests_worth_of⟩, ⟨_, _, F_Rests_is_worth, B_Rests_is_worth, ME_Rests_is_worth⟩, ⟨_, _, F_Roots_gap_of, B_Roots_gap_of, ME_Roots_gap_of⟩, ⟨_, _, F_Roots_worth_of, B_Roots_worth_of, ME_Roots_worth_of⟩, ⟨_, _, F_Roots_is_worth, B_Roots_is_worth, ME_Roots_is_worth⟩⟩ ⟨⟨_, _, F_Rests___eq__, B_Rests___eq__, ME_Rests___eq__⟩, ⟨_, _, F_Rests___str__, B_Rests___str__, ME_Rests___str__⟩, ⟨_, _, F_Rests___repr__, B_Rests___repr__, ME_Rests___repr__⟩, ⟨_, _, F_Roots___eq__, B_Roots___eq__, ME_Roots___eq__⟩, ⟨_, _, F_Roots___str__, B_Roots___str__, ME_Roots___str__⟩, ⟨_, _, F_Roots___repr__, B_Roots___repr__, ME_Roots___repr__⟩, ne_Rests, ne_Roots, oc_Rests, oc_Roots, mo_Rests, mo_Roots, on, ot, kit_Rests_Rests, kit_Roots_Roots, kit_Rests_Roots, kit_Roots_Rests, nf12, nf21, tyf_all ⟨tk_NoneType_Rests, tk_NoneType_Roots, tn_NoneType_Rests, tn_NoneType_Roots⟩ ⟨tk_tuple_Rests, tk_tuple_Roots, tn_tuple_Rests, tn_tuple_Roots⟩ ⟨tk_int_Rests, tk_int_Roots, tn_int_Rests, tn_int_Roots⟩ ⟨tk_str_Rests, tk_str_Roots, tn_str_Rests, tn_str_Roots⟩ ⟨tk_list_Rests, tk_list_Roots, tn_list_Rests, tn_list_Roots⟩⟩ ⟨exm3 (PySem.W.exm_ref eC_BadGround hC_BadGround tC_BadGround sx_BadGround_BadGround) (PySem.W.exm_ref eC_NoRoot hC_NoRoot tC_NoRoot sx_BadGround_NoRoot) (PySem.W.exm_ref eC_NoShare hC_NoShare tC_NoShare sx_BadGround_NoShare), exm3 (PySem.W.exm_ref eC_BadGround hC_BadGround tC_BadGround sx_NoRoot_BadGround) (PySem.W.exm_ref eC_NoRoot hC_NoRoot tC_NoRoot sx_NoRoot_NoRoot) (PySem.W.exm_ref eC_NoShare hC_NoShare tC_NoShare sx_NoRoot_NoShare), exm3 (PySem.W.exm_ref eC_BadGround hC_BadGround tC_BadGround sx_NoShare_BadGround) (PySem.W.exm_ref eC_NoRoot hC_NoRoot tC_NoRoot sx_NoShare_NoRoot) (PySem.W.exm_ref eC_NoShare hC_NoShare tC_NoShare sx_NoShare_NoShare)⟩⟩
end My
open PySem PySem.W PyProof.Rows
set_option maxRecDepth 100000 in
set_option maxHeartbeats 0 in
theorem PySem.Challenge.cw_turnsums_k15_whole_grounds_by_names_holds : PySem.Challenge.rw_turnsums_k15_whole_grounds_by_names.Holds := by
  refine My.hdtop ?_
  k_fill
  refine My.walk_ofG (l := PySem.Challenge.rw_turnsums_k15_whole_grounds_by_names) (n := 63) (k := 10) (x := "_law_script") (sp := fun w => My.spLaw _) rfl (by decide) rfl ⟨rfl, by decide, by decide⟩ (fun w h Y => PySem.W.kIn_of Y) ?F (fun _ _ a ns hl _ hS => ⟨a, ns, rfl, hS, hl, fun _ => rfl⟩)
  case F =>
    intro w mg fa h KX G hmg
    refine' My.all_mk KX G hmg ?g_TurnError ?g_BadGround ?g_NoRoot ?g_NoShare ?g_NoInverse ?g_Rests ?g_Roots ?on ?ot ?eT ?hT ?tT ?xL_BadGround ?sa_BadGround ?ga_BadGround ?gg_BadGround ?nw_BadGround ?ii_BadGround ?oc_BadGround ?kC_BadGround ?eC_BadGround ?tC_BadGround ?hC_BadGround ?mo_BadGround ?su_BadGround ?kv_BadGround ?kt_BadGround ?xL_NoRoot ?sa_NoRoot ?ga_NoRoot ?gg_NoRoot ?nw_NoRoot ?ii_NoRoot ?oc_NoRoot ?kC_NoRoot ?eC_NoRoot ?tC_NoRoot ?hC_NoRoot ?mo_NoRoot ?su_NoRoot ?kv_NoRoot ?kt_NoRoot ?xL_NoShare ?sa_NoShare ?ga_NoShare ?gg_NoShare ?nw_NoShare ?ii_NoShare ?oc_NoShare ?kC_NoShare ?eC_NoShare ?tC_NoShare ?hC_NoShare ?mo_NoShare ?su_NoShare ?kv_NoShare ?kt_NoShare ?xL_NoInverse ?sa_NoInverse ?ga_NoInverse ?gg_NoInverse ?nw_NoInverse ?ii_NoInverse ?oc_NoInverse ?kC_NoInverse ?eC_NoInverse ?tC_NoInverse ?hC_NoInverse ?mo_NoInverse ?su_NoInverse ?kv_NoInverse ?kt_NoInverse ?lI ?cI ?kI ?tI ?g_MOST_PRIME ?g_MOST_ORDER ?pg_Rests ?hd_Rests ?po_Rests ?sa_Rests ?mk_Rests ?kc_Rests ?nf_Rests_prime ?nf_Rests_base ?at_Rests___init__ ?lk_Rests___init__ ?cn_Rests___init__ ?kp_Rests___init__ ?fn_Rests___init__ ?at_Rests_sum_of ?lk_Rests_sum_of ?cn_Rests_sum_of ?kp_Rests_sum_of ?fn_Rests_sum_of ?at_Rests_product_of ?lk_Rests_product_of ?cn_Rests_product_of ?kp_Rests_product_of ?fn_Rests_product_of ?at_Rests_has_root ?lk_Rests_has_root ?cn_Rests_has_root ?kp_Rests_has_root ?fn_Rests_has_root ?at_Rests_root_at ?lk_Rests_root_at ?cn_Rests_root_at ?kp_Rests_root_at ?fn_Rests_root_at ?at_Rests_shared_by ?lk_Rests_shared_by ?cn_Rests_shared_by ?kp_Rests_shared_by ?fn_Rests_shared_by ?at_Rests_gap_of ?lk_Rests_gap_of ?cn_Rests_gap_of ?kp_Rests_gap_of ?fn_Rests_gap_of ?at_Rests_worth_of ?lk_Rests_worth_of ?cn_Rests_worth_of ?kp_Rests_worth_of ?fn_Rests_worth_of ?at_Rests_is_worth ?lk_Rests_is_worth ?cn_Rests_is_worth ?kp_Rests_is_worth ?fn_Rests_is_worth ?at_Rests___eq__ ?lk_Rests___eq__ ?cn_Rests___eq__ ?kp_Rests___eq__ ?fn_Rests___eq__ ?at_Rests___str__ ?lk_Rests___str__ ?cn_Rests___str__ ?kp_Rests___str__ ?fn_Rests___str__ ?at_Rests___repr__ ?lk_Rests___repr__ ?cn_Rests___repr__ ?kp_Rests___repr__ ?fn_Rests___repr__ ?pg_Roots ?hd_Roots ?po_Roots ?sa_Roots ?mk_Roots ?kc_Roots ?nf_Roots_order ?nf_Roots_rim ?at_Roots___init__ ?lk_Roots___init__ ?cn_Roots___init__ ?kp_Roots___init__ ?fn_Roots___init__ ?at_Roots_sum_of ?lk_Roots_sum_of ?cn_Roots_sum_of ?kp_Roots_sum_of ?fn_Roots_sum_of ?at_Roots_product_of ?lk_Roots_product_of ?cn_Roots_product_of ?kp_Roots_product_of ?fn_Roots_product_of ?at_Roots_has_root ?lk_Roots_has_root ?cn_Roots_has_root ?kp_Roots_has_root ?fn_Roots_has_root ?at_Roots_root_at ?lk_Roots_root_at ?cn_Roots_root_at ?kp_Roots_root_at ?fn_Roots_root_at ?at_Roots_shared_by ?lk_Roots_shared_by ?cn_Roots_shared_by ?kp_Roots_shared_by ?fn_Roots_shared_by ?at_Roots_gap_of ?lk_Roots_gap_of ?cn_Roots_gap_of ?kp_Roots_gap_of ?fn_Roots_gap_of ?at_Roots_worth_of ?lk_Roots_worth_of ?cn_Roots_worth_of ?kp_Roots_worth_of ?fn_Roots_worth_of ?at_Roots_is_worth ?lk_Roots_is_worth ?cn_Roots_is_worth ?kp_Roots_is_worth ?fn_Roots_is_worth ?at_Roots___eq__ ?lk_Roots___eq__ ?cn_Roots___eq__ ?kp_Roots___eq__ ?fn_Roots___eq__ ?at_Roots___str__ ?lk_Roots___str__ ?cn_Roots___str__ ?kp_Roots___str__ ?fn_Roots___str__ ?at_Roots___repr__ ?lk_Roots___repr__ ?cn_Roots___repr__ ?kp_Roots___repr__ ?fn_Roots___repr__ ?ne_Rests ?oc_Rests ?mo_Rests ?ne_Roots ?oc_Roots ?mo_Roots ?kit_Rests_Rests ?kit_Rests_Roots ?kit_Roots_Rests ?kit_Roots_Roots ?nf12 ?nf21 ?tk_NoneType_Rests ?tk_NoneType_Roots ?tn_NoneType_Rests ?tn_NoneType_Roots ?tk_tuple_Rests ?tk_tuple_Roots ?tn_tuple_Rests ?tn_tuple_Roots ?tk_int_Rests ?tk_int_Roots ?tn_int_Rests ?tn_int_Roots ?tk_str_Rests ?tk_str_Roots ?tn_str_Rests ?tn_str_Roots ?tk_list_Rests ?tk_list_Roots ?tn_list_Rests ?tn_list_Roots ?sx_BadGround_BadGround ?sx_BadGround_NoRoot ?sx_BadGround_NoShare ?sx_NoRoot_BadGround ?sx_NoRoot_NoRoot ?sx_NoRoot_NoShare ?sx_NoShare_BadGround ?sx_NoShare_NoRoot ?sx_NoShare_NoShare ?a0 ?l0 ?c0 ?k0 ?a1 ?l1 ?c1 ?k1 ?a2 ?l2 ?c2 ?k2 ?a3 ?l3 ?c3 ?k3 ?a4 ?l4 ?c4 ?k4 ?a5 ?l5 ?c5 ?k5 ?a6 ?l6 ?c6 ?k6 ?a7 ?l7 ?c7 ?k7 ?a8 ?l8 ?c8 ?k8 ?a9 ?l9 ?c9 ?k9 ?a10 ?l10 ?c10 ?k10 ?a11 ?l11 ?c11 ?k11 ?a12 ?l12 ?c12 ?k12 ?a13 ?l13 ?c13 ?k13 ?a14 ?l14 ?c14 ?k14 ?a15 ?l15 ?c15 ?k15 ?a16 ?l16 ?c16 ?k16 ?a17 ?l17 ?c17 ?k17 ?z0 ?z1 ?z2 ?z3 ?z4 ?z5 ?z6 ?z7 ?z8 ?z9 ?z10 ?z11 ?z12 ?z13 ?z14 ?z15 ?z16 ?z17 ?z18
    (case g_TurnError => as_aux_lemma => first | k_is | rfl)
    (case g_BadGround => as_aux_lemma => first | k_is | rfl)
    (case g_NoRoot => as_aux_lemma => first | k_is | rfl)
    (case g_NoShare => as_aux_lemma => first | k_is | rfl)
    (case g_NoInverse => as_aux_lemma => first | k_is | rfl)
    (case g_Rests => as_aux_lemma => first | k_is | rfl)
    (case g_Roots => as_aux_lemma => first | k_is | rfl)
    (case on => as_aux_lemma => first | k_is | rfl)
    (case ot => as_aux_lemma => first | k_is | rfl)
    (case eT => as_aux_lemma => first | k_is | rfl)
    (case hT => as_aux_lemma => first | k_is | rfl)
    (case tT => as_aux_lemma => first | k_is | rfl)
    (case xL_BadGround => as_aux_lemma => first | k_is | rfl)
    (case sa_BadGround => as_aux_lemma => first | k_is | rfl)
    (case ga_BadGround => as_aux_lemma => first | k_is | rfl)
    (case gg_BadGround => as_aux_lemma => first | k_is | rfl)
    (case nw_BadGround => as_aux_lemma => first | k_is | rfl)
    (case ii_BadGround => as_aux_lemma => first | k_is | rfl)
    (case oc_BadGround => as_aux_lemma => first | k_is | rfl)
    (case kC_BadGround => as_aux_lemma => first | k_is | rfl)
    (case eC_BadGround => as_aux_lemma => first | k_is | rfl)
    (case tC_BadGround => as_aux_lemma => first | k_is | rfl)
    (case hC_BadGround => as_aux_lemma => first | k_is | rfl)
    (case mo_BadGround => as_aux_lemma => first | k_is | rfl)
    (case su_BadGround => as_aux_lemma => first | k_is | rfl)
    (case kv_BadGround => as_aux_lemma => first | k_is | rfl)
    (case kt_BadGround => as_aux_lemma => first | k_is | rfl)
    (case xL_NoRoot => as_aux_lemma => first | k_is | rfl)
    (case sa_NoRoot => as_aux_lemma => first | k_is | rfl)
    (case ga_NoRoot => as_aux_lemma => first | k_is | rfl)
    (case gg_NoRoot => as_aux_lemma => first | k_is | rfl)
    (case nw_NoRoot => as_aux_lemma => first | k_is | rfl)
    (case ii_NoRoot => as_aux_lemma => first | k_is | rfl)
    (case oc_NoRoot => as_aux_lemma => first | k_is | rfl)
    (case kC_NoRoot => as_aux_lemma => first | k_is | rfl)
    (case eC_NoRoot => as_aux_lemma => first | k_is | rfl)
    (case tC_NoRoot => as_aux_lemma => first | k_is | rfl)
    (case hC_NoRoot => as_aux_lemma => first | k_is | rfl)
    (case mo_NoRoot => as_aux_lemma => first | k_is | rfl)
    (case su_NoRoot => as_aux_lemma => first | k_is | rfl)
    (case kv_NoRoot => as_aux_lemma => first | k_is | rfl)
    (case kt_NoRoot => as_aux_lemma => first | k_is | rfl)
    (case xL_NoShare => as_aux_lemma => first | k_is | rfl)
    (case sa_NoShare => as_aux_lemma => first | k_is | rfl)
    (case ga_NoShare => as_aux_lemma => first | k_is | rfl)
    (case gg_NoShare => as_aux_lemma => first | k_is | rfl)
    (case nw_NoShare => as_aux_lemma => first | k_is | rfl)
    (case ii_NoShare => as_aux_lemma => first | k_is | rfl)
    (case oc_NoShare => as_aux_lemma => first | k_is | rfl)
    (case kC_NoShare => as_aux_lemma => first | k_is | rfl)
    (case eC_NoShare => as_aux_lemma => first | k_is | rfl)
    (case tC_NoShare => as_aux_lemma => first | k_is | rfl)
    (case hC_NoShare => as_aux_lemma => first | k_is | rfl)
    (case mo_NoShare => as_aux_lemma => first | k_is | rfl)
    (case su_NoShare => as_aux_lemma => first | k_is | rfl)
    (case kv_NoShare => as_aux_lemma => first | k_is | rfl)
    (case kt_NoShare => as_aux_lemma => first | k_is | rfl)
    (case xL_NoInverse => as_aux_lemma => first | k_is | rfl)
    (case sa_NoInverse => as_aux_lemma => first | k_is | rfl)
    (case ga_NoInverse => as_aux_lemma => first | k_is | rfl)
    (case gg_NoInverse => as_aux_lemma => first | k_is | rfl)
    (case nw_NoInverse => as_aux_lemma => first | k_is | rfl)
    (case ii_NoInverse => as_aux_lemma => first | k_is | rfl)
    (case oc_NoInverse => as_aux_lemma => first | k_is | rfl)
    (case kC_NoInverse => as_aux_lemma => first | k_is | rfl)
    (case eC_NoInverse => as_aux_lemma => first | k_is | rfl)
    (case tC_NoInverse => as_aux_lemma => first | k_is | rfl)
    (case hC_NoInverse => as_aux_lemma => first | k_is | rfl)
    (case mo_NoInverse => as_aux_lemma => first | k_is | rfl)
    (case su_NoInverse => as_aux_lemma => first | k_is | rfl)
    (case kv_NoInverse => as_aux_lemma => first | k_is | rfl)
    (case kt_NoInverse => as_aux_lemma => first | k_is | rfl)
    (case lI => as_aux_lemma => first | k_is | rfl)
    (case cI => as_aux_lemma => first | k_is | rfl)
    (case kI => as_aux_lemma => first | k_is | rfl)
    (case tI => as_aux_lemma => first | k_is | rfl)
    (case g_MOST_PRIME => as_aux_lemma => first | k_is | rfl)
    (case g_MOST_ORDER => as_aux_lemma => first | k_is | rfl)
    (case pg_Rests => as_aux_lemma => first | k_is | rfl)
    (case hd_Rests => as_aux_lemma => first | k_is | rfl)
    (case po_Rests => as_aux_lemma => first | k_is | rfl)
    (case sa_Rests => as_aux_lemma => first | k_is | rfl)
    (case mk_Rests => as_aux_lemma => first | k_is | rfl)
    (case kc_Rests => as_aux_lemma => first | k_is | rfl)
    (case nf_Rests_prime => as_aux_lemma => first | k_is | rfl)
    (case nf_Rests_base => as_aux_lemma => first | k_is | rfl)
    (case at_Rests___init__ => as_aux_lemma => first | k_is | rfl)
    (case lk_Rests___init__ => as_aux_lemma => first | k_is | rfl)
    (case cn_Rests___init__ => as_aux_lemma => first | k_is | rfl)
    (case kp_Rests___init__ => as_aux_lemma => first | k_is | rfl)
    (case fn_Rests___init__ => as_aux_lemma => first | k_is | rfl)
    (case at_Rests_sum_of => as_aux_lemma => first | k_is | rfl)
    (case lk_Rests_sum_of => as_aux_lemma => first | k_is | rfl)
    (case cn_Rests_sum_of => as_aux_lemma => first | k_is | rfl)
    (case kp_Rests_sum_of => as_aux_lemma => first | k_is | rfl)
    (case fn_Rests_sum_of => as_aux_lemma => first | k_is | rfl)
    (case at_Rests_product_of => as_aux_lemma => first | k_is | rfl)
    (case lk_Rests_product_of => as_aux_lemma => first | k_is | rfl)
    (case cn_Rests_product_of => as_aux_lemma => first | k_is | rfl)
    (case kp_Rests_product_of => as_aux_lemma => first | k_is | rfl)
    (case fn_Rests_product_of => as_aux_lemma => first | k_is | rfl)
    (case at_Rests_has_root => as_aux_lemma => first | k_is | rfl)
    (case lk_Rests_has_root => as_aux_lemma => first | k_is | rfl)
    (case cn_Rests_has_root => as_aux_lemma => first | k_is | rfl)
    (case kp_Rests_has_root => as_aux_lemma => first | k_is | rfl)
    (case fn_Rests_has_root => as_aux_lemma => first | k_is | rfl)
    (case at_Rests_root_at => as_aux_lemma => first | k_is | rfl)
    (case lk_Rests_root_at => as_aux_lemma => first | k_is | rfl)
    (case cn_Rests_root_at => as_aux_lemma => first | k_is | rfl)
    (case kp_Rests_root_at => as_aux_lemma => first | k_is | rfl)
    (case fn_Rests_root_at => as_aux_lemma => first | k_is | rfl)
    (case at_Rests_shared_by => as_aux_lemma => first | k_is | rfl)
    (case lk_Rests_shared_by => as_aux_lemma => first | k_is | rfl)
    (case cn_Rests_shared_by => as_aux_lemma => first | k_is | rfl)
    (case kp_Rests_shared_by => as_aux_lemma => first | k_is | rfl)
    (case fn_Rests_shared_by => as_aux_lemma => first | k_is | rfl)
    (case at_Rests_gap_of => as_aux_lemma => first | k_is | rfl)
    (case lk_Rests_gap_of => as_aux_lemma => first | k_is | rfl)
    (case cn_Rests_gap_of => as_aux_lemma => first | k_is | rfl)
    (case kp_Rests_gap_of => as_aux_lemma => first | k_is | rfl)
    (case fn_Rests_gap_of => as_aux_lemma => first | k_is | rfl)
    (case at_Rests_worth_of => as_aux_lemma => first | k_is | rfl)
    (case lk_Rests_worth_of => as_aux_lemma => first | k_is | rfl)
    (case cn_Rests_worth_of => as_aux_lemma => first | k_is | rfl)
    (case kp_Rests_worth_of => as_aux_lemma => first | k_is | rfl)
    (case fn_Rests_worth_of => as_aux_lemma => first | k_is | rfl)
    (case at_Rests_is_worth => as_aux_lemma => first | k_is | rfl)
    (case lk_Rests_is_worth => as_aux_lemma => first | k_is | rfl)
    (case cn_Rests_is_worth => as_aux_lemma => first | k_is | rfl)
    (case kp_Rests_is_worth => as_aux_lemma => first | k_is | rfl)
    (case fn_Rests_is_worth => as_aux_lemma => first | k_is | rfl)
    (case at_Rests___eq__ => as_aux_lemma => first | k_is | rfl)
    (case lk_Rests___eq__ => as_aux_lemma => first | k_is | rfl)
    (case cn_Rests___eq__ => as_aux_lemma => first | k_is | rfl)
    (case kp_Rests___eq__ => as_aux_lemma => first | k_is | rfl)
    (case fn_Rests___eq__ => as_aux_lemma => first | k_is | rfl)
    (case at_Rests___str__ => as_aux_lemma => first | k_is | rfl)
    (case lk_Rests___str__ => as_aux_lemma => first | k_is | rfl)
    (case cn_Rests___str__ => as_aux_lemma => first | k_is | rfl)
    (case kp_Rests___str__ => as_aux_lemma => first | k_is | rfl)
    (case fn_Rests___str__ => as_aux_lemma => first | k_is | rfl)
    (case at_Rests___repr__ => as_aux_lemma => first | k_is | rfl)
    (case lk_Rests___repr__ => as_aux_lemma => first | k_is | rfl)
    (case cn_Rests___repr__ => as_aux_lemma => first | k_is | rfl)
    (case kp_Rests___repr__ => as_aux_lemma => first | k_is | rfl)
    (case fn_Rests___repr__ => as_aux_lemma => first | k_is | rfl)
    (case pg_Roots => as_aux_lemma => first | k_is | rfl)
    (case hd_Roots => as_aux_lemma => first | k_is | rfl)
    (case po_Roots => as_aux_lemma => first | k_is | rfl)
    (case sa_Roots => as_aux_lemma => first | k_is | rfl)
    (case mk_Roots => as_aux_lemma => first | k_is | rfl)
    (case kc_Roots => as_aux_lemma => first | k_is | rfl)
    (case nf_Roots_order => as_aux_lemma => first | k_is | rfl)
    (case nf_Roots_rim => as_aux_lemma => first | k_is | rfl)
    (case at_Roots___init__ => as_aux_lemma => first | k_is | rfl)
    (case lk_Roots___init__ => as_aux_lemma => first | k_is | rfl)
    (case cn_Roots___init__ => as_aux_lemma => first | k_is | rfl)
    (case kp_Roots___init__ => as_aux_lemma => first | k_is | rfl)
    (case fn_Roots___init__ => as_aux_lemma => first | k_is | rfl)
    (case at_Roots_sum_of => as_aux_lemma => first | k_is | rfl)
    (case lk_Roots_sum_of => as_aux_lemma => first | k_is | rfl)
    (case cn_Roots_sum_of => as_aux_lemma => first | k_is | rfl)
    (case kp_Roots_sum_of => as_aux_lemma => first | k_is | rfl)
    (case fn_Roots_sum_of => as_aux_lemma => first | k_is | rfl)
    (case at_Roots_product_of => as_aux_lemma => first | k_is | rfl)
    (case lk_Roots_product_of => as_aux_lemma => first | k_is | rfl)
    (case cn_Roots_product_of => as_aux_lemma => first | k_is | rfl)
    (case kp_Roots_product_of => as_aux_lemma => first | k_is | rfl)
    (case fn_Roots_product_of => as_aux_lemma => first | k_is | rfl)
    (case at_Roots_has_root => as_aux_lemma => first | k_is | rfl)
    (case lk_Roots_has_root => as_aux_lemma => first | k_is | rfl)
    (case cn_Roots_has_root => as_aux_lemma => first | k_is | rfl)
    (case kp_Roots_has_root => as_aux_lemma => first | k_is | rfl)
    (case fn_Roots_has_root => as_aux_lemma => first | k_is | rfl)
    (case at_Roots_root_at => as_aux_lemma => first | k_is | rfl)
    (case lk_Roots_root_at => as_aux_lemma => first | k_is | rfl)
    (case cn_Roots_root_at => as_aux_lemma => first | k_is | rfl)
    (case kp_Roots_root_at => as_aux_lemma => first | k_is | rfl)
    (case fn_Roots_root_at => as_aux_lemma => first | k_is | rfl)
    (case at_Roots_shared_by => as_aux_lemma => first | k_is | rfl)
    (case lk_Roots_shared_by => as_aux_lemma => first | k_is | rfl)
    (case cn_Roots_shared_by => as_aux_lemma => first | k_is | rfl)
    (case kp_Roots_shared_by => as_aux_lemma => first | k_is | rfl)
    (case fn_Roots_shared_by => as_aux_lemma => first | k_is | rfl)
    (case at_Roots_gap_of => as_aux_lemma => first | k_is | rfl)
    (case lk_Roots_gap_of => as_aux_lemma => first | k_is | rfl)
    (case cn_Roots_gap_of => as_aux_lemma => first | k_is | rfl)
    (case kp_Roots_gap_of => as_aux_lemma => first | k_is | rfl)
    (case fn_Roots_gap_of => as_aux_lemma => first | k_is | rfl)
    (case at_Roots_worth_of => as_aux_lemma => first | k_is | rfl)
    (case lk_Roots_worth_of => as_aux_lemma => first | k_is | rfl)
    (case cn_Roots_worth_of => as_aux_lemma => first | k_is | rfl)
    (case kp_Roots_worth_of => as_aux_lemma => first | k_is | rfl)
    (case fn_Roots_worth_of => as_aux_lemma => first | k_is | rfl)
    (case at_Roots_is_worth => as_aux_lemma => first | k_is | rfl)
    (case lk_Roots_is_worth => as_aux_lemma => first | k_is | rfl)
    (case cn_Roots_is_worth => as_aux_lemma => first | k_is | rfl)
    (case kp_Roots_is_worth => as_aux_lemma => first | k_is | rfl)
    (case fn_Roots_is_worth => as_aux_lemma => first | k_is | rfl)
    (case at_Roots___eq__ => as_aux_lemma => first | k_is | rfl)
    (case lk_Roots___eq__ => as_aux_lemma => first | k_is | rfl)
    (case cn_Roots___eq__ => as_aux_lemma => first | k_is | rfl)
    (case kp_Roots___eq__ => as_aux_lemma => first | k_is | rfl)
    (case fn_Roots___eq__ => as_aux_lemma => first | k_is | rfl)
    (case at_Roots___str__ => as_aux_lemma => first | k_is | rfl)
    (case lk_Roots___str__ => as_aux_lemma => first | k_is | rfl)
    (case cn_Roots___str__ => as_aux_lemma => first | k_is | rfl)
    (case kp_Roots___str__ => as_aux_lemma => first | k_is | rfl)
    (case fn_Roots___str__ => as_aux_lemma => first | k_is | rfl)
    (case at_Roots___repr__ => as_aux_lemma => first | k_is | rfl)
    (case lk_Roots___repr__ => as_aux_lemma => first | k_is | rfl)
    (case cn_Roots___repr__ => as_aux_lemma => first | k_is | rfl)
    (case kp_Roots___repr__ => as_aux_lemma => first | k_is | rfl)
    (case fn_Roots___repr__ => as_aux_lemma => first | k_is | rfl)
    (case ne_Rests => as_aux_lemma => first | k_is | rfl)
    (case oc_Rests => as_aux_lemma => first | k_is | rfl)
    (case mo_Rests => as_aux_lemma => first | k_is | rfl)
    (case ne_Roots => as_aux_lemma => first | k_is | rfl)
    (case oc_Roots => as_aux_lemma => first | k_is | rfl)
    (case mo_Roots => as_aux_lemma => first | k_is | rfl)
    (case kit_Rests_Rests => as_aux_lemma => first | k_is | rfl)
    (case kit_Rests_Roots => as_aux_lemma => first | k_is | rfl)
    (case kit_Roots_Rests => as_aux_lemma => first | k_is | rfl)
    (case kit_Roots_Roots => as_aux_lemma => first | k_is | rfl)
    (case nf12 => as_aux_lemma => first | k_is | rfl)
    (case nf21 => as_aux_lemma => first | k_is | rfl)
    (case tk_NoneType_Rests => as_aux_lemma => first | k_is | rfl)
    (case tk_NoneType_Roots => as_aux_lemma => first | k_is | rfl)
    (case tn_NoneType_Rests => as_aux_lemma => first | k_is | rfl)
    (case tn_NoneType_Roots => as_aux_lemma => first | k_is | rfl)
    (case tk_tuple_Rests => as_aux_lemma => first | k_is | rfl)
    (case tk_tuple_Roots => as_aux_lemma => first | k_is | rfl)
    (case tn_tuple_Rests => as_aux_lemma => first | k_is | rfl)
    (case tn_tuple_Roots => as_aux_lemma => first | k_is | rfl)
    (case tk_int_Rests => as_aux_lemma => first | k_is | rfl)
    (case tk_int_Roots => as_aux_lemma => first | k_is | rfl)
    (case tn_int_Rests => as_aux_lemma => first | k_is | rfl)
    (case tn_int_Roots => as_aux_lemma => first | k_is | rfl)
    (case tk_str_Rests => as_aux_lemma => first | k_is | rfl)
    (case tk_str_Roots => as_aux_lemma => first | k_is | rfl)
    (case tn_str_Rests => as_aux_lemma => first | k_is | rfl)
    (case tn_str_Roots => as_aux_lemma => first | k_is | rfl)
    (case tk_list_Rests => as_aux_lemma => first | k_is | rfl)
    (case tk_list_Roots => as_aux_lemma => first | k_is | rfl)
    (case tn_list_Rests => as_aux_lemma => first | k_is | rfl)
    (case tn_list_Roots => as_aux_lemma => first | k_is | rfl)
    (case sx_BadGround_BadGround => as_aux_lemma => first | k_is | rfl)
    (case sx_BadGround_NoRoot => as_aux_lemma => first | k_is | rfl)
    (case sx_BadGround_NoShare => as_aux_lemma => first | k_is | rfl)
    (case sx_NoRoot_BadGround => as_aux_lemma => first | k_is | rfl)
    (case sx_NoRoot_NoRoot => as_aux_lemma => first | k_is | rfl)
    (case sx_NoRoot_NoShare => as_aux_lemma => first | k_is | rfl)
    (case sx_NoShare_BadGround => as_aux_lemma => first | k_is | rfl)
    (case sx_NoShare_NoRoot => as_aux_lemma => first | k_is | rfl)
    (case sx_NoShare_NoShare => as_aux_lemma => first | k_is | rfl)
    (case a0 => as_aux_lemma => k_is)
    (case l0 => as_aux_lemma => k_is)
    (case c0 => as_aux_lemma => k_is)
    (case k0 => as_aux_lemma => k_is)
    (case a1 => as_aux_lemma => k_is)
    (case l1 => as_aux_lemma => k_is)
    (case c1 => as_aux_lemma => k_is)
    (case k1 => as_aux_lemma => k_is)
    (case a2 => as_aux_lemma => k_is)
    (case l2 => as_aux_lemma => k_is)
    (case c2 => as_aux_lemma => k_is)
    (case k2 => as_aux_lemma => k_is)
    (case a3 => as_aux_lemma => k_is)
    (case l3 => as_aux_lemma => k_is)
    (case c3 => as_aux_lemma => k_is)
    (case k3 => as_aux_lemma => k_is)
    (case a4 => as_aux_lemma => k_is)
    (case l4 => as_aux_lemma => k_is)
    (case c4 => as_aux_lemma => k_is)
    (case k4 => as_aux_lemma => k_is)
    (case a5 => as_aux_lemma => k_is)
    (case l5 => as_aux_lemma => k_is)
    (case c5 => as_aux_lemma => k_is)
    (case k5 => as_aux_lemma => k_is)
    (case a6 => as_aux_lemma => k_is)
    (case l6 => as_aux_lemma => k_is)
    (case c6 => as_aux_lemma => k_is)
    (case k6 => as_aux_lemma => k_is)
    (case a7 => as_aux_lemma => k_is)
    (case l7 => as_aux_lemma => k_is)
    (case c7 => as_aux_lemma => k_is)
    (case k7 => as_aux_lemma => k_is)
    (case a8 => as_aux_lemma => k_is)
    (case l8 => as_aux_lemma => k_is)
    (case c8 => as_aux_lemma => k_is)
    (case k8 => as_aux_lemma => k_is)
    (case a9 => as_aux_lemma => k_is)
    (case l9 => as_aux_lemma => k_is)
    (case c9 => as_aux_lemma => k_is)
    (case k9 => as_aux_lemma => k_is)
    (case a10 => as_aux_lemma => k_is)
    (case l10 => as_aux_lemma => k_is)
    (case c10 => as_aux_lemma => k_is)
    (case k10 => as_aux_lemma => k_is)
    (case a11 => as_aux_lemma => k_is)
    (case l11 => as_aux_lemma => k_is)
    (case c11 => as_aux_lemma => k_is)
    (case k11 => as_aux_lemma => k_is)
    (case a12 => as_aux_lemma => k_is)
    (case l12 => as_aux_lemma => k_is)
    (case c12 => as_aux_lemma => k_is)
    (case k12 => as_aux_lemma => k_is)
    (case a13 => as_aux_lemma => k_is)
    (case l13 => as_aux_lemma => k_is)
    (case c13 => as_aux_lemma => k_is)
    (case k13 => as_aux_lemma => k_is)
    (case a14 => as_aux_lemma => k_is)
    (case l14 => as_aux_lemma => k_is)
    (case c14 => as_aux_lemma => k_is)
    (case k14 => as_aux_lemma => k_is)
    (case a15 => as_aux_lemma => k_is)
    (case l15 => as_aux_lemma => k_is)
    (case c15 => as_aux_lemma => k_is)
    (case k15 => as_aux_lemma => k_is)
    (case a16 => as_aux_lemma => k_is)
    (case l16 => as_aux_lemma => k_is)
    (case c16 => as_aux_lemma => k_is)
    (case k16 => as_aux_lemma => k_is)
    (case a17 => as_aux_lemma => k_is)
    (case l17 => as_aux_lemma => k_is)
    (case c17 => as_aux_lemma => k_is)
    (case k17 => as_aux_lemma => k_is)
    (case z0 => as_aux_lemma => k_is)
    (case z1 => as_aux_lemma => k_is)
    (case z2 => as_aux_lemma => k_is)
    (case z3 => as_aux_lemma => k_is)
    (case z4 => as_aux_lemma => k_is)
    (case z5 => as_aux_lemma => k_is)
    (case z6 => as_aux_lemma => k_is)
    (case z7 => as_aux_lemma => k_is)
    (case z8 => as_aux_lemma => k_is)
    (case z9 => as_aux_lemma => k_is)
    (case z10 => as_aux_lemma => k_is)
    (case z11 => as_aux_lemma => k_is)
    (case z12 => as_aux_lemma => k_is)
    (case z13 => as_aux_lemma => k_is)
    (case z14 => as_aux_lemma => k_is)
    (case z15 => as_aux_lemma => k_is)
    (case z16 => as_aux_lemma => k_is)
    (case z17 => as_aux_lemma => k_is)
    (case z18 => as_aux_lemma => k_is)

