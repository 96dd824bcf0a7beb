import PyProof.Rows.All
import Wide.All
import OpenK.AllK
import Wide.FinOn
import HandS.ForMost
import HandS.IsInst
import HandS.Style
import HandS.Wide
import HandS.WideMore
import HandS.Zip
import HandS.Flow
import HandS.SetFor
import HandS.Strs
import HandS.SortInts
import HandS.ExcInit
import HandS.ExcField
import HandS.ExcIs
import HandS.ExcValue
import HandS.WordsExc
import HandS.NoneIn
import HandS.Conv
import KE.KExcIs
import KE.GoesMore
import PyProof.Draws
import PySem.Challenge.RW_turnsums_k48_what_orders_are
set_option Elab.async false
set_option linter.all false
set_option maxRecDepth 100000
set_option maxHeartbeats 4000000
namespace My
open PySem L2
def top (i : Nat) : Stmt := PySem.Challenge.pw_turnsums_k48_what_orders_are.main.body.getD i (.Pass ⟨0, 0, 0, 0⟩)
/-- a def of the text: where it stands, how it is called -/
structure Df (K : PySem.W.Frag) (mg : Str → Option Value) (x : Str) (st : Stmt) (ps : List Str) (f : Addr) (fd : FuncData) : Prop where
  F : Fun K x x st f fd
  b : Binds K fd ps []
  g : mg x = some (.ref f)
/-! heaps: all but the box stays -/
theorem same_upd {H H' : Hp} {p : Addr} {o : HO} (h : Same H H') (n : H' p = none) : Same H (upd H' p o) := fun b x e => by
  rw [upd_ne (ne_of_none (h b x e) n)]
  exact h b x e
theorem same_new {H : Hp} {p : Addr} {o : HO} (n : H p = none) : Same H (upd H p o) := same_upd (Same.refl H) n
theorem same_mut {H H' : Hp} {p : Addr} {o : HO} (h : Same H H') (n : H p = none) : Same H (upd H' p o) := fun b x e => by
  rw [upd_ne (ne_of_none e n)]
  exact h b x e
theorem same_t {K : PySem.W.Frag} {H H' : Hp} {a : Addr} {xs : List V} (e : Same H H') (h : SqT K H a xs) : SqT K H' a xs := by
  rcases h with (h | ⟨o, h⟩) | h
  · exact .inl (.inl (e _ _ h))
  · exact .inl (.inr ⟨o, e _ _ h⟩)
  · exact .inr h
def Keep (b : Addr) (H H' : Hp) : Prop := ∀ a o, a ≠ b → H a = some o → H' a = some o
theorem Keep.refl (b : Addr) (H : Hp) : Keep b H H := fun _ _ _ h => h
theorem Keep.trans {b : Addr} {H H1 H2 : Hp} (a : Keep b H H1) (c : Keep b H1 H2) : Keep b H H2 := fun x o n h => c x o n (a x o n h)
theorem keepS {b : Addr} {H H' : Hp} (h : Same H H') : Keep b H H' := fun x o _ e => h x o e
theorem keep_same {b : Addr} {H0 H H' : Hp} (a : Same H0 H) (n : H0 b = none) (k : Keep b H H') : Same H0 H' := fun x o e => k x o (ne_of_none e n) (a x o e)
theorem keep_upd {b : Addr} {H H' : Hp} {o : HO} (h : Keep b H H') : Keep b H (upd H' b o) := fun a u n e => by
  rw [upd_ne n]
  exact h a u n e
theorem keep_new {b p : Addr} {H H' : Hp} {o : HO} (h : Keep b H H') (n : H' p = none) : Keep b H (upd H' p o) := fun a u na e => by
  rw [upd_ne (ne_of_none (h a u na e) n)]
  exact h a u na e
theorem Keep.seq {K : PySem.W.Frag} {b a : Addr} {H H' : Hp} {xs : List V} (e : Keep b H H') (n : a ≠ b) (h : SqL K H a xs) : SqL K H' a xs := by
  rcases h with (h | ⟨o, h⟩) | h
  · exact .inl (.inl (e _ _ n h))
  · exact .inl (.inr ⟨o, e _ _ n h⟩)
  · exact .inr h
def BoxAt (H : Hp) (b : Addr) (n : Int) : Prop := ∃ x y z : Int, H b = some (.lst [.int x, .int y, .int z]) ∧ 0 ≤ x ∧ 0 ≤ y ∧ y ≤ 4294967296 ∧ 0 ≤ z ∧ z ≤ n
theorem BoxAt.mono {H : Hp} {b : Addr} {n m : Int} (h : BoxAt H b n) (e : n ≤ m) : BoxAt H b m := by
  obtain ⟨x, y, z, a1, a2, a3, a4, a5, a6⟩ := h
  exact ⟨x, y, z, a1, a2, a3, a4, a5, by omega⟩
theorem BoxAt.same {H H' : Hp} {b : Addr} {n : Int} (h : BoxAt H b n) (e : Same H H') : BoxAt H' b n := by
  obtain ⟨x, y, z, a1, a2⟩ := h
  exact ⟨x, y, z, e _ _ a1, a2⟩
theorem BoxAt.some {H : Hp} {b : Addr} {n : Int} (h : BoxAt H b n) : ∃ o, H b = some o := by
  obtain ⟨x, y, z, a1, a2⟩ := h
  exact ⟨_, a1⟩
theorem BoxAt.ne {H : Hp} {b p : Addr} {n : Int} (h : BoxAt H b n) (e : H p = none) : p ≠ b := by
  obtain ⟨o, h⟩ := h.some
  exact (ne_of_none h e).symm
theorem szl {n : Nat} (h : n ≤ 60000) : n ≤ sizeLine := Nat.le_trans h (by decide)
theorem szm {n : Nat} (h : n ≤ 60000) : n < sizeLine := Nat.lt_of_le_of_lt h (by decide)
theorem pw6 : (10 : Int) ^ Int.toNat 6 = 1000000 := by decide
theorem pw9 : (10 : Int) ^ Int.toNat 9 = 1000000000 := by decide
theorem newO {H H' : Hp} {p : Addr} {o : HO} (e : upd H p o = H') (hp : H p = none) : Same H H' ∧ H' p = some o := by
  subst e
  exact ⟨same_new hp, upd_same⟩
theorem mutO {H H' : Hp} {p : Addr} {o : HO} (e : upd H p o = H') : Keep p H H' ∧ H' p = some o := by
  subst e
  exact ⟨keep_upd (Keep.refl _ _), upd_same⟩
/-- a word of ours that the walk must not open -/
inductive Hold (p : Prop) : Prop
  | mk : p → Hold p
theorem Hold.un {p : Prop} (h : Hold p) : p := by
  cases h with
  | mk h => exact h
theorem holdN {W : Nat → L2.St → Hp → Prop} {m : Nat} : ∀ (σ' : L2.St) (H' : Hp), Hold (∃ m', m' < m ∧ W m' σ' H') → ∃ m', m' < m ∧ W m' σ' H' := fun _ _ h => h.un
theorem ite_dec {c A B : Prop} [Decidable c] (hc : c) (h : A) : if decide c = true then A else B := by
  rw [decide_eq_true hc]
  exact iteT h
def rLenQ (K : PySem.W.Frag) : List V → Hp → VK → Prop := fun xs H Q => ∃ p ys, xs = [.ref p] ∧ (SqL K H p ys ∨ SqT K H p ys) ∧ Q (.int ys.length) H
theorem iteTe {b : Bool} {A B : Prop} (e : b = true) (h : A) : if b = true then A else B := by
  rw [if_pos e]
  exact h
theorem iteFe {b : Bool} {A B : Prop} (e : b = false) (h : B) : if b = true then A else B := by
  rw [e]
  exact iteF h
theorem cmul_b {i : Int} {b : Bool} : CMul i (if b then 1 else 0) := by
  refine .inr ?_
  cases b <;> exact ⟨by decide, by decide⟩
theorem at_ints {ns : List Int} {k : Int} (h0 : 0 ≤ k) (h : k < (ns.length : Int)) : ∃ c, c ∈ ns ∧ atI (ns.map V.int) k = some (.int c) := by
  have hk : k.toNat < ns.length := by omega
  refine ⟨ns[k.toNat], List.getElem_mem hk, at_of (j := k.toNat) (by omega) ?_⟩
  rw [List.getElem?_map, List.getElem?_eq_getElem hk]
  rfl
theorem at_some {xs : List V} {k : Int} (h0 : 0 ≤ k) (h : k < (xs.length : Int)) : ∃ v, v ∈ xs ∧ atI xs k = some v := by
  have hk : k.toNat < xs.length := by omega
  exact ⟨xs[k.toNat], List.getElem_mem hk, at_of (j := k.toNat) (by omega) (List.getElem?_eq_getElem hk)⟩
theorem int_mem {ns : List Int} {v : V} (h : v ∈ ns.map V.int) : ∃ c, c ∈ ns ∧ v = .int c := by
  obtain ⟨c, hc, e⟩ := List.mem_map.mp h
  exact ⟨c, hc, e.symm⟩
structure Blt (mg : Str → Option Value) : Prop where
  b_abs : mg "abs" = none
  b_all : mg "all" = none
  b_bool : mg "bool" = none
  b_enumerate : mg "enumerate" = none
  b_int : mg "int" = none
  b_isinstance : mg "isinstance" = none
  b_len : mg "len" = none
  b_list : mg "list" = none
  b_range : mg "range" = none
  b_repr : mg "repr" = none
  b_set : mg "set" = none
  b_sorted : mg "sorted" = none
  b_str : mg "str" = none
  b_tuple : mg "tuple" = none
  b_zip : mg "zip" = none
/-! ### sorted(set(xs)), xs a list of few ints -/
section
open PySem.Spec PyProof.Rows PySem.Calls
abbrev bareSet (w : World) : Obj := { cls := .type "set", dict := none, data := .set #[] 0 (.fresh 0 0 (!w.params.followText "set-order")) }
/-- what set(xs) leaves behind -/
def SetLeft (w : World) (s : Shared) (ns : List Int) (h' : Heap) (c : Nat) : Prop := SetR w h' s.heap.objs.size (fun j => decide (j ∈ ns)) c ∧ c ≤ ns.length ∧ ∀ b o, s.heap.get? b = some o → h'.get? b = some o
variable {P : Program} {w : World} {A : Around} {E : Value → Shared → Prop} {s : Shared}
theorem items_ints {items : Array Value} {ns : List Int} (hi : IntsAre items.toList ns) (i : Nat) (v : Value) (hv : items[i]? = some v) : ∃ k t, ns[i]? = some k ∧ v = .int k t := by
  have hl : items.size = ns.length := by
    rw [← Array.length_toList]
    exact hi.length
  have hlt : i < ns.length := by
    rw [← hl]
    exact (Array.getElem?_eq_some_iff.mp hv).1
  obtain ⟨t, e⟩ := hi.int_at i v (by rw [Array.getElem?_toList]; exact hv)
  refine ⟨ns[i], t, List.getElem?_eq_getElem hlt, e.trans ?_⟩
  rw [List.getD_eq_getElem?_getD, List.getElem?_eq_getElem hlt]
  rfl
set_option maxHeartbeats 3200000 in
theorem set_of_list {l : Addr} {items : Array Value} {ns : List Int} {Q : Value → Shared → Prop} (hh : A.handled = none) (hl : s.heap.IsList l items) (hi : IntsAre items.toList ns) (hb : ns.length + 1 < scanBound)
    (h : ∀ (h' : Heap) (tk c : Nat), SetLeft w s ns h' c → Q (.ref s.heap.objs.size) { s with heap := h', toks := tk }) : wpAny (model P w) A (call (.type "set") [.ref l]) Q E s := by
  have hsz : items.size = ns.length := by
    rw [← Array.length_toList]
    exact hi.length
  obtain ⟨mc, mt, hmro⟩ := F.called_set.mro
  have a1 := F.called_set.made; have a2 := F.called_set.sub; have a3 := F.called_set.notType; have a4 := F.called_set.canCreate; have a5 := F.typeCall_set_1 (.ref l)
  refine wpAny_call (codeAny_of_tree (show wpAny _ _ (callAny (.type "set") _) _ _ _ from wpAny_pure ⟨Code.quiet_builtin _ (by decide +kernel), codeAny_builtin F.entry_type_call ?_⟩))
  rw [Around.under_plain (weight_type_call_type "set" [.ref l] []) rfl]; repeat (any_goals (first | assumption | wp_step))
  refine codeAny_mono (code_set_led1 (.ref l) (E := E) (Q₁ := fun v s' => v = .ref s.heap.objs.size ∧ s' = { s with heap := s.heap.push (bareSet w) }) ⟨rfl, rfl⟩) fun res s1 hres => ?_
  match res, hres with
  | .error e, hres => exact hres
  | .ok .next, hres => exact hres.elim
  | .ok .cont, hres => exact hres.elim
  | .ok .brk, hres => exact hres.elim
  | .ok (.ret v), hres =>
    obtain ⟨rfl, rfl⟩ := hres
    have g0 : (s.heap.push (bareSet w)).get? s.heap.objs.size = some (bareSet w) := Heap.get?_push_size _ rfl
    have ty0 : Shared.TypeIs { s with heap := s.heap.push (bareSet w) } (.ref s.heap.objs.size) "set" := ⟨_, g0, rfl⟩
    have i1 := F.called_set.init.lookup; have i2 := F.called_set.init.bind (.ref s.heap.objs.size)
    repeat (any_goals (first | assumption | wp_step))
    refine codeAny_mono (codeAny_call_builtin (R := wants (fun v s' => v = .none ∧ ∃ h' tk c, s' = { s with heap := h', toks := tk } ∧ SetLeft w s ns h' c) E) F.called_set.init.plain F.entry_set_init (check_set_init_1 ty0 ?_)) fun res2 s2 hres2 => ?_
    · obtain ⟨⟨lc, ld, la, ls⟩, hol, hcl, nl, hdl⟩ := hl
      simp only at hcl hdl; subst hcl; subst hdl
      have hol1 := Heap.get?_push_of_some (bareSet w) hol
      have hL1 : (s.heap.push (bareSet w)).IsList l items := ⟨_, hol1, rfl, nl, rfl⟩
      have n1 := F.sub_list_set; have n2 := F.sub_list_frozenset; have n3 : (Value.type "list" == Value.type "dict") = false := by decide
      unfold Builtin.«set.__init__» noKeywords Builtin.Frozenset.updateFrom; generalize hgo : pyIter = go; wp_walk; subst hgo
      refine wpAny_pyIter_list hL1 (wpAny_bind (wpAny_runValue ?_))
      have ll := Heap.lt_size hol
      have hhd : A.in1.in1.in1.handled = none := by simp [hh]
      have sz1 : (s.heap.push (bareSet w)).objs.size = s.heap.objs.size + 1 := Heap.size_push ..
      have off : l ≠ (s.heap.push (bareSet w)).objs.size := by rw [sz1]; exact Nat.ne_of_lt (Nat.lt_succ_of_lt ll)
      have out : s.heap.objs.size ∉ [(s.heap.push (bareSet w)).objs.size, l] := by
        intro z
        rcases List.mem_cons.mp z with z | z
        · rw [sz1] at z
          exact absurd z (Nat.ne_of_lt (Nat.lt_succ_self _))
        · exact absurd (List.mem_singleton.mp z) (Nat.ne_of_gt ll)
      refine set_update_ints ((Walks.list hhd _ l off items).toS) s.heap.objs.size out ns hsz hb (items_ints hi) (items.size - 0) 0 _ (by omega) (Nat.zero_le _) ⟨⟨_, Heap.get?_push_size _ rfl, rfl, rfl⟩, hL1.push _⟩ ⟨0, Nat.le_refl 0, setR_new_at (Heap.get?_push_of_some _ g0)⟩ ?_
      rintro ⟨h', g', d', tk', os'⟩ c' hm hc' hS'
      obtain ⟨e1, e2, e3⟩ := (show g' = s.gens ∧ d' = s.drawn ∧ os' = s.os from ⟨hm.gens, hm.drawn, hm.os⟩)
      subst e1; subst e2; subst e3
      refine wpAny_pure (show wpAny _ _ (ret Value.none) _ _ _ from wpAny_pure ⟨rfl, h', tk', c', rfl, hS', by omega, fun b o e => ?_⟩)
      have lb := Heap.lt_size e
      refine hm.heap b o ?_ (Heap.get?_push_of_some _ (Heap.get?_push_of_some _ e))
      intro z
      rcases List.mem_cons.mp z with z | z
      · exact absurd z (Nat.ne_of_lt lb)
      · have z2 := List.mem_singleton.mp z
        rw [sz1] at z2
        exact absurd z2 (Nat.ne_of_lt (Nat.lt_succ_of_lt lb))
    · match res2, hres2 with
      | .error e, hres2 => exact hres2
      | .ok .next, hres2 => exact hres2.elim
      | .ok .cont, hres2 => exact hres2.elim
      | .ok .brk, hres2 => exact hres2.elim
      | .ok (.ret v2), hres2 =>
        obtain ⟨rfl, h', tk, c', rfl, hS'⟩ := hres2
        repeat (any_goals (first | assumption | wp_step))
        exact h _ _ _ hS'
end
open PySem.Spec PyProof.Rows in
/-- sorted of a set of ints, however many -/
theorem set_sorted {P : Program} {w : World} {A : Around} {E : Value → Shared → Prop} {s : Shared} {a : Addr} {S : Int → Bool} {n : Nat} {Q : Value → Shared → Prop} (R : SetR w s.heap a S n) (hh : A.handled = none)
    (q : ∀ s' p (out : List Value) (c : Nat) (ms : List Int), (∀ b o, s.heap.get? b = some o → s'.heap.get? b = some o) → s'.gens = s.gens → s'.os = s.os → s.heap.objs.size ≤ p →
      s'.heap.get? p = some (seqObj "list" out.toArray c) → IntsAre out ms → ms.Pairwise (· < ·) → (∀ k, k ∈ ms ↔ S k = true) → ms.length = n → Q (.ref p) s') : wpAny (model P w) A (call (.builtin "sorted") [.ref a]) Q E s := by
  obtain ⟨o, es, ep, t, g1, g2, g3, good, nod, mem, g4, g5, g6, g7, g8⟩ := R
  refine Calls.call_function_entry kind_sorted plain_sorted entry_sorted (args_sorted1 _) ?_; unfold Builtin.«sorted»
  refine wpAny_bind (m := checkCount "sorted" 1 1 _) (wpAny_pure (wpAny_bind (collect_set (A := A.in1) hh ⟨o, g1, g2.1, g3⟩ g5 g4 g7 g8 fun s1 vs k1 z1 e1 e2 pm => ?_)))
  have len : vs.length = n := by
    rw [pm.length_eq, List.length_map, Array.length_toList]
    exact g6
  have ivs : ∀ e ∈ es.toList, SrtO.iv e.2 = keyOf e := fun e he => by
    obtain ⟨k, tk, h1, _⟩ := good e he
    unfold keyOf
    rw [h1]
    rfl
  have hI : IntsAre vs (vs.map SrtO.iv) := SrtO.ints_iv fun v hv => by
    obtain ⟨e, he, ev⟩ := List.mem_map.mp (pm.mem_iff.mp hv)
    obtain ⟨k, tk, h1, _⟩ := good e he
    exact ⟨k, tk, ev.symm.trans h1⟩
  have prm : (vs.map SrtO.iv).Perm (es.toList.map keyOf) := by
    refine (pm.map SrtO.iv).trans ?_
    rw [List.map_map]
    exact List.Perm.of_eq (List.map_congr_left ivs)
  have zn : n ≤ sizeLine := by
    unfold scanBound at g4
    exact szl (by omega)
  refine wpAny_bind (wpAny_newList ?_ (by rw [len]; exact zn))
  have at1 : (s1.heap.push (seqObj "list" vs.toArray 0)).get? s1.heap.objs.size = some (seqObj "list" vs.toArray 0) := Heap.get?_push_size _ rfl
  refine wpAny_bind (wpAny_holding (wpAny_call_entry slot_list_sort ⟨_, at1, rfl⟩ entry_list_sort (SrtO.list_sort_ord SrtO.swo_int at1 (by rw [len]; exact zn) (fun two => SrtO.ints_sortable hI two) fun out o1 o2 => ⟨_, rfl, ?_⟩) (args_list_sort _)))
  obtain ⟨j1, j2, j3⟩ := SrtO.ints_out hI o1 o2
  obtain ⟨c, at2⟩ := sortedHeap_at (vs := vs) (out := out.toArray) at1
  have prm2 := j2.trans prm
  refine wpAny_pure ⟨_, rfl, q _ s1.heap.objs.size out c _ (fun b u e => ?_) e1 e2 z1 at2 j1 (lt_of_le_nodup _ j3 (prm2.nodup_iff.mpr nod)) (fun k => by rw [prm2.mem_iff, ← mem k]) (by rw [prm2.length_eq, List.length_map, Array.length_toList]; exact g6)⟩
  have e3 := k1 b u e
  have l3 := Heap.lt_size e3
  exact (sortedHeap_old (vs := vs) (out := out.toArray) (Nat.ne_of_lt l3) (by rw [size_push']; exact Nat.lt_succ_of_lt l3)).trans (Heap.get?_push_of_some _ e3)
def tSortSet (K : PySem.W.Frag) (ta : TE) : TE := fun σ H Q => ta σ H fun x H1 => ∃ (l : Addr) (ns : List Int), x = .ref l ∧ SqL K H1 l (ns.map V.int) ∧ ns.length ≤ 4000 ∧
  ∀ (out : List Int) (p : Addr), H1 p = none → out.Pairwise (· < ·) → (∀ k, k ∈ out ↔ k ∈ ns) → out.length ≤ ns.length → Q (.ref p) (upd H1 p (.lst (out.map V.int)))
open PySem.Spec PyProof.Rows in
theorem pe_sortSet {X : Cx} {a : Expr} {ta : TE} {p p2 q pos : Pos} (hg : Gl X "sorted") (hm : X.mg "sorted" = none) (hg2 : Gl X "set") (hm2 : X.mg "set" = none) (ha : PE X a ta) (hc : X.calm = true := by rfl)
    (na : starEach [a] X.env = (false, eval a X.env) :: starEach [] X.env := by rfl) : PE X (.Call (.Name "sorted" p) [.Call (.Name "set" p2) [a] [] q] [] pos) (tSortSet X.K ta) := by
  refine ⟨fun pins s σ H Q I h => ?_⟩
  refine Call_ (ld_blt I hg hm boot_sorted (callWith_builtin1 (args_cons (Call_ (ld_blt I hg2 hm2 boot_set (callWith_type1 (args_cons (thn (ha.run pins s σ H _ I h) fun v s1 ⟨x, H1, I1, r1, q1⟩ => args_nil ?_) na) na rfl))) rfl) rfl rfl))
  obtain ⟨l, ns, rfl, hq, hn, q1⟩ := q1
  cases r1
  obtain ⟨its, r, pl, hz⟩ := I1.list hq
  have hd := I1.ok.hd hc
  refine set_of_list hd pl.isList (by simpa using ints_of_vals r) (by unfold scanBound; omega) fun h' tk c hL => args_nil ?_
  obtain ⟨R1, hcn, kept⟩ := hL
  refine set_sorted (s := { s1 with heap := h', toks := tk }) R1 hd fun s' pp out cc ms k g o hp hgt hi hs hmem hlen => ?_
  have kk : ∀ b u, s1.heap.get? b = some u → s'.heap.get? b = some u := fun b u e => k b u (kept b u e)
  have hpp : s1.heap.objs.size ≤ pp := Nat.le_trans (Nat.le_of_lt R1.lt) hp
  have fr : H1 pp = none := I1.hok.fresh hpp
  have sl : (ms.map V.int).length ≤ sizeLine := by
    rw [List.length_map, hlen]
    exact szl (by omega)
  have hos : s'.os = s1.os := o
  have J : Inv X pins σ (upd H1 pp (.lst (ms.map V.int))) { s1 with heap := s'.heap, gens := s'.gens, drawn := s'.drawn, toks := s'.toks } :=
    I1.call (ch := []) (Un.laid kk hpp fr) (I1.hok.laid kk hpp ⟨sl, out, cc, vals_of_ints hi, hgt⟩) (by rw [g]; exact I1.bare) (fun _ z => nomatch z)
  have es : s' = { s1 with heap := s'.heap, gens := s'.gens, drawn := s'.drawn, toks := s'.toks } := by
    obtain ⟨b1, b2, b3, b4, b5⟩ := s'
    simp only at hos
    subst hos
    rfl
  rw [es]
  exact ⟨.ref pp, _, J, rfl, q1 ms pp fr hs (fun j => (hmem j).trans decide_eq_true_iff) (by omega)⟩
local macro_rules | `(tactic| walk_at "ev1") => `(tactic| first
  | with_reducible assumption
  | ((with_reducible show _ = _); exact rfl)
  | ((first | with_reducible show (_ : Int) = _ | with_reducible show (_ : Int) < _ | with_reducible show (_ : Int) ≤ _ | with_reducible show (_ : Nat) < _ | with_reducible show (_ : Nat) ≤ _); first | omega | decide | (simp only [pw6, pw9]; omega) | (simp only [List.length_cons, List.length_nil, List.length_append, List.length_map, List.length_replicate]; omega))
  | assumption
  | exact upd_same
  | exact SqL.of upd_same
  | exact Or.inl (SqL.of upd_same)
  | exact Or.inl (by assumption)
  | exact Or.inr (by assumption)
  | omega
  | exact (show CDiv _ _ from ⟨by omega, by omega⟩)
  | exact (show CPow _ _ from ⟨by omega, by omega, by omega⟩)
  | exact (show CMul _ _ from .inl ⟨by omega, by omega⟩)
  | exact (show CMul _ _ from .inr ⟨by omega, by omega⟩)
  | exact (show CMul _ _ from cmul_b)
  | exact (show CDivW _ _ from wide_div (b := 31) (by omega) (by omega) (by decide) (by decide))
  | exact (Or.inl ⟨rfl, _, SqL.of (by assumption)⟩)
  | exact ClsV.ty _
  | exact .cons (.ty _) (.cons (.ty _) .nil)
  | (refine szl ?_; simp only [List.length_cons, List.length_nil, List.length_append, List.length_map, List.length_replicate]; omega)
  | (refine szm ?_; simp only [List.length_cons, List.length_nil, List.length_append, List.length_map, List.length_replicate]; omega))
local macro_rules | `(tactic| walk_at "s") => `(tactic| (first
  | (refine And.intro ?l ?_; (case l => walk_at "ev1"))
  | with_reducible refine iteT ?_
  | with_reducible refine iteF ?_
  | with_reducible refine ite_dec rfl ?_
  | with_reducible refine iteNS rfl ?_
  | with_reducible refine iteNS (by assumption) ?_
  | (apply Or.inl; apply Exists.intro; apply And.intro rfl)
  | (apply Or.inr; apply Exists.intro; apply And.intro rfl)
  | ((fail_if_success (refine @Exists.intro (Nat → Nat → L2.St → Hp → Prop) _ ?_ ?_)); (fail_if_success (refine @Exists.intro (Nat → L2.St → Hp → Prop) _ ?_ ?_)); (fail_if_success (refine @Exists.intro (L2.St → Hp → Prop) _ ?_ ?_)); (fail_if_success (refine @Exists.intro (Hp → Prop) _ ?_ ?_)); (fail_if_success (refine @Exists.intro (Nat → Nat → Hp → Prop) _ ?_ ?_)); apply Exists.intro)))
local macro_rules | `(tactic| walk_at "ev") => `(tactic| repeat (walk_at "s"))
local macro_rules | `(tactic| w_cond $i:ident) => do
  let b := (i.getId.toString.drop 1).toString
  let l := Lean.mkIdent (.mkSimple ("l" ++ b))
  let hl := Lean.mkIdent (.mkSimple ("hl" ++ b))
  let h := Lean.mkIdent (.mkSimple ("H" ++ b))
  let sm := Lean.mkIdent (.mkSimple ("sm" ++ b))
  let hq := Lean.mkIdent (.mkSimple ("hq" ++ b))
  `(tactic| (intro $l:ident $hl:ident; generalize hG : upd _ $l:ident _ = $h:ident; obtain ⟨$sm:ident, $hq:ident⟩ := newO hG $hl:ident; clear hG))
/-! ### the drawing -/
theorem log2_lt60 {t : Int} (h0 : 0 < t) (h : t < 1152921504606846976) : t.natAbs.log2 < 9000 := by
  have h1 : t.natAbs < 2 ^ 60 := by
    have : (2 : Nat) ^ 60 = 1152921504606846976 := by decide
    omega
  exact Nat.lt_trans ((Nat.log2_lt (by omega)).mpr h1) (by decide)
abbrev s__law_take : Stmt := top 9
abbrev N__law_take : List Str := ["_law_box_here", "_law_top", "_law_found", "_law_once"]
abbrev P__law_take : List Str := ["_law_box_here", "_law_top"]
theorem sc__law_take : FnScope N__law_take P__law_take (defScope s__law_take) := ⟨rfl, rfl, rfl, by decide +kernel, rfl, by decide +kernel, by decide +kernel⟩
def spTake : Sp := fun vs H Q _ => ∃ (b : Addr) (top n : Int), vs = [.ref b, .int top] ∧ BoxAt H b n ∧ 0 < top ∧ top < 1152921504606846976 ∧ n < 1048576 ∧ ∀ r H', 0 ≤ r → r < top → Keep b H H' → BoxAt H' b (n + 1) → Q (.int r) H'
section
variable {P : Program} {w : World} {K : PySem.W.Frag} {mg : Str → Option Value} {base : Heap}
theorem ok_take {f : Addr} {fd : FuncData} {k : Nat} (F : Fun K "_law_take" "_law_take" s__law_take f fd) : FnOk P w K mg base CX0 (k + 1) f fd P__law_take spTake := by
  have nd := sc__law_take.nd
  refine F.ok sc__law_take (fun vs H Q E h => ?_) (fun cdv A outer s H vs Q E hr h => ?_)
  · obtain ⟨b, top, n, rfl, _⟩ := h
    rfl
  · obtain ⟨b, top, n, rfl, ⟨x, y, z, hb, hx, hy, hy2, hz, hzn⟩, ht, ht2, hn, q⟩ := h
    refine ⟨_, (pss_cons (ps_if (pt_cmpR op_gt (pe_ix (r := rIxL K) ix_list (pv 0) (pe_int) (fun _ _ => rfl)) (pe_int) (nomark _)) (pss_cons (ps_set (i := 2) nd rfl (Or.inl rfl) (pe_op op_mod (pe_ix (r := rIxL K) ix_list (pv 0) (pe_int) (fun _ _ => rfl)) (pv 1)))
      (pss_cons (ps_asg (pe_op op_fdivW (pe_ix (r := rIxL K) ix_list (pv 0) (pe_int) (fun _ _ => rfl)) (pv 1)) (pg_sub (pv 0) (pe_int) set_list))
      (pss_one (ps_ret (pv 2))))) pss_nil)
      (pss_cons (ps_asg (pe_op op_add (pe_ix (r := rIxL K) ix_list (pv 0) (pe_int) (fun _ _ => rfl)) (pe_int)) (pg_sub (pv 0) (pe_int) set_list))
      (pss_cons (ps_set (i := 3) nd rfl (Or.inl rfl) (pe_op op_mod (pe_op op_pow (pe_op op_add (pe_ix (r := rIxL K) ix_list (pv 0) (pe_int) (fun _ _ => rfl)) (pe_op op_mul (pe_int) (pe_ix (r := rIxL K) ix_list (pv 0) (pe_int) (fun _ _ => rfl)))) (pe_int)) (pe_int)))
      (pss_one (ps_ret (pe_op op_mod (pe_op op_fdivW (pe_op op_mod (pe_op op_add (pe_op op_mul (pv 3) (pe_op op_add (pe_op op_mod (pv 3) (pe_int)) (pe_int))) (pe_op op_mul (pe_ix (r := rIxL K) ix_list (pv 0) (pe_int) (fun _ _ => rfl)) (pe_int))) (pe_int)) (pe_int)) (pv 1))))))), ?_⟩
    have hL : SqL K H b [.int x, .int y, .int z] := SqL.of hb
    have cw : ∀ i : Int, CDivW i top := fun i => ⟨ht, log2_lt60 ht ht2⟩
    have cw6 : ∀ i : Int, CDivW i 64 := fun i => ⟨by decide, by decide⟩
    have cw1 := cw x
    walk_at "ev"
    refine ite2 (fun e => ?_) (fun e => ?_)
    · have e1 : 0 < x := of_decide_eq_true e
      walk_at "ev"
      exact q _ _ (Int.emod_nonneg _ (by omega)) (Int.emod_lt_of_pos _ ht) (keep_upd (Keep.refl _ _)) ⟨_, _, _, upd_same, Int.ediv_nonneg hx (by omega), hy, hy2, hz, by omega⟩
    · walk_at "ev"
      exact q _ _ (Int.emod_nonneg _ (by omega)) (Int.emod_lt_of_pos _ ht) (keep_upd (Keep.refl _ _)) ⟨_, _, _, upd_same, hx, hy, hy2, by omega, by omega⟩
end
abbrev s__law_box : Stmt := top 8
abbrev N__law_box : List Str := ["_law_script", "_law_k", "_law_cell"]
abbrev P__law_box : List Str := ["_law_script", "_law_k"]
theorem sc__law_box : FnScope N__law_box P__law_box (defScope s__law_box) := ⟨rfl, rfl, rfl, by decide +kernel, rfl, by decide +kernel, by decide +kernel⟩
def spBox (K : PySem.W.Frag) : Sp := fun vs H Q _ => ∃ (a : Addr) (ns : List Int) (k : Int), vs = [.ref a, .int k] ∧ SqL K H a (ns.map V.int) ∧ 0 ≤ k ∧ k ≤ 100000 ∧ ∀ p H', H p = none → Same H H' → BoxAt H' p 0 → Q (.ref p) H'
section
variable {P : Program} {w : World} {K : PySem.W.Frag} {mg : Str → Option Value} {base : Heap}
theorem ok_box {f : Addr} {fd : FuncData} {k : Nat} (F : Fun K "_law_box" "_law_box" s__law_box f fd) (T : Blt mg) : FnOk P w K mg base CX0 (k + 1) f fd P__law_box (spBox K) := by
  have nd := sc__law_box.nd
  refine F.ok sc__law_box (fun vs H Q E h => ?_) (fun cdv A outer s H vs Q E hr h => ?_)
  · obtain ⟨b, top, n, rfl, _⟩ := h
    rfl
  · obtain ⟨a, ns, k, rfl, hL, h0, h1, q⟩ := h
    refine ⟨_, (pss_cons (ps_set (i := 2) nd rfl (Or.inl rfl) (pe_int))
      (pss_cons (ps_if (pt_cmpR op_lt (pv 1) (pe_callB (r := rLenQ K) call_len_seq (by rfl) T.b_len (by decide +kernel) (pa_cons (pv 0) pa_nil)) (nomark _)) (pss_one (ps_set (i := 2) nd rfl (Or.inl rfl) (pe_ix (r := rIxL K) ix_list (pv 0) (pv 1) (fun _ _ => rfl)))) pss_nil)
      (pss_one (ps_ret (pe_lst (pa_cons (pe_op op_mul (pe_callB call_abs (by rfl) T.b_abs (by decide +kernel) (pa_cons (pv 2) pa_nil)) (pe_callTy call_int1 (by rfl) T.b_int (by decide +kernel) (pa_cons (pe_cmpR op_ge (pe_callB call_abs (by rfl) T.b_abs (by decide +kernel) (pa_cons (pv 2) pa_nil)) (pe_op op_pow (pe_int) (pe_int)) (nomark _)) pa_nil))) (pa_cons (pe_op op_add (pe_op op_add (pe_op op_mod (pv 2) (pe_int)) (pe_op op_mul (pe_int) (pv 1))) (pe_int)) (pa_cons (pe_int) pa_nil)))))))), ?_⟩
    have fin : ∀ c : Int, ∀ p, H p = none → Q (.ref p) (upd H p (.lst [.int ((if c < 0 then -c else c) * (if decide ((10 : Int) ^ 18 ≤ if c < 0 then -c else c) then 1 else 0)), .int (c % 2147483629 + 7919 * k + 11), .int 0])) := by
      intro c p hp
      refine q p _ hp (same_new hp) ⟨_, _, _, upd_same, ?_, ?_, ?_, by omega, by omega⟩
      · refine Int.mul_nonneg ?_ ?_
        · split <;> omega
        · split <;> omega
      · have := Int.emod_nonneg c (show (2147483629 : Int) ≠ 0 by decide)
        omega
      · have := Int.emod_lt_of_pos c (show (0 : Int) < 2147483629 by decide)
        omega
    walk_at "ev"
    refine ite2 (fun e => ?_) (fun e => ?_)
    · have e1 : k < ((ns.map V.int).length : Int) := of_decide_eq_true e
      rw [List.length_map] at e1
      obtain ⟨c, hc, hat⟩ := at_ints h0 e1
      walk_at "ev"
      exact fin c
    · walk_at "ev"
      exact fin 0
end
/-! ### kinds of things -/
inductive Kd (K : PySem.W.Frag) (H : Hp) : V → String → Prop
  | non : Kd K H .non "NoneType"
  | bl (b : Bool) : Kd K H (.bl b) "bool"
  | int (i : Int) : Kd K H (.int i) "int"
  | str (x : Str) : Kd K H (.str x) "str"
  | lst {a : Addr} {xs : List V} : SqL K H a xs → Kd K H (.ref a) "list"
  | tup {a : Addr} {xs : List V} : SqT K H a xs → Kd K H (.ref a) "tuple"
theorem Kd.ty {K : PySem.W.Frag} {H : Hp} {x : V} {t : String} (h : Kd K H x t) : TyX K H x (.type t) := by
  cases h with
  | non => exact .base .non
  | bl b => exact .base (.bl b)
  | int i => exact .base (.int i)
  | str x => exact .base (.str x)
  | lst h =>
    rcases h with (h | ⟨o, h⟩) | ⟨o, its, n, h1, h2, _⟩
    · exact .base (.lst h)
    · exact .base (.frz h)
    · exact .kList h1 h2
  | tup h =>
    rcases h with (h | ⟨o, h⟩) | ⟨o, its, n, h1, h2, _⟩
    · exact .base (.tup h)
    · exact .fTuple h
    · exact .kTuple h1 h2
theorem Kd.same {K : PySem.W.Frag} {H H' : Hp} {x : V} {t : String} (h : Kd K H x t) (e : Same H H') : Kd K H' x t := by
  cases h with
  | non => exact .non
  | bl b => exact .bl b
  | int i => exact .int i
  | str x => exact .str x
  | lst h => exact .lst (e.seq h)
  | tup h => exact .tup (same_t e h)
def tis (t c : String) : Bool := t == c || (t == "bool" && c == "int")
theorem Kd.kit {K : PySem.W.Frag} {H : Hp} {x : V} {t : String} (h : Kd K H x t) : PySem.W.kitOne K (.type t) (.type "int") = some (tis t "int") ∧ PySem.W.kitOne K (.type t) (.type "bool") = some (tis t "bool") ∧ PySem.W.kitOne K (.type t) (.type "str") = some (tis t "str") ∧ PySem.W.kitOne K (.type t) (.type "list") = some (tis t "list") ∧ PySem.W.kitOne K (.type t) (.type "tuple") = some (tis t "tuple") := by
  cases h <;> exact ⟨kit_ty (by decide +kernel), kit_ty (by decide +kernel), kit_ty (by decide +kernel), kit_ty (by decide +kernel), kit_ty (by decide +kernel)⟩
theorem kit_lt {K : PySem.W.Frag} {t : String} {a b : Bool} (h1 : PySem.W.kitOne K (.type t) (.type "list") = some a) (h2 : PySem.W.kitOne K (.type t) (.type "tuple") = some b) : PySem.W.kitAny K (.type t) [.type "list", .type "tuple"] = some (a || b) := by
  refine kitAny_cons h1 (fun e => kitAny_cons h2 (fun e2 => ?_) (fun e2 => ?_)) (fun e => by rw [e]; rfl)
  · rw [e, e2]
    exact kitAny_nil
  · rw [e, e2]
    rfl
/-! ### == of lists of ints -/
theorem dp_ints {K : PySem.W.Frag} {H : Hp} : ∀ ns : List Int, DpAll K H (ns.map V.int) (ns.map PyData.int)
  | [] => .nil
  | n :: r => .cons (.int n) (dp_ints r)
theorem eqv_ints : ∀ ns ms : List Int, PyData.eqvAll (ns.map PyData.int) (ms.map PyData.int) = decide (ns = ms)
  | [], [] => by simp [PyData.eqvAll]
  | [], _ :: _ => by simp [PyData.eqvAll]
  | _ :: _, [] => by simp [PyData.eqvAll]
  | a :: r, b :: t => by
    simp only [List.map_cons, PyData.eqvAll, PyData.eqv, eqv_ints r t]
    by_cases h : a = b <;> by_cases h' : r = t <;> simp [h, h']
theorem eqd_ints {K : PySem.W.Frag} {H : Hp} {a b : Addr} {ns ms : List Int} {Q : VK} (ha : SqL K H a (ns.map V.int)) (hb : SqL K H b (ms.map V.int)) (q : Q (.bl (decide (ns = ms))) H) : rEqD K (.ref a) (.ref b) H Q := by
  refine ⟨_, _, .lst ha (dp_ints ns), .lst hb (dp_ints ms), PySem.W.ke_shaped_ints ns, PySem.W.ke_shaped_ints ms, ?_⟩
  have e : PyData.eqv (.list (ns.map PyData.int)) (.list (ms.map PyData.int)) = decide (ns = ms) := by
    rw [PyData.eqv]
    exact eqv_ints ns ms
  rw [e]
  exact q
/-! ### the law's own comparing, of like things -/
abbrev s__law_same : Stmt := top 12
abbrev N__law_same : List Str := ["_law_found", "_law_due", "_law_one", "_law_two"]
abbrev P__law_same : List Str := ["_law_found", "_law_due"]
theorem sc__law_same : FnScope N__law_same P__law_same (defScope s__law_same) := ⟨rfl, rfl, rfl, by decide +kernel, rfl, by decide +kernel, by decide +kernel⟩
def Fit : Nat → PyData → Prop
  | 0, .list _ => False
  | 0, .tuple _ => False
  | n + 1, .list ds => ds.length ≤ 4000 ∧ ∀ e ∈ ds, Fit n e
  | n + 1, .tuple ds => ds.length ≤ 4000 ∧ ∀ e ∈ ds, Fit n e
  | _, .dict _ => False
  | _, _ => True
theorem dpall_len {K : PySem.W.Frag} {H : Hp} : ∀ {xs : List V} {ds : List PyData}, DpAll K H xs ds → xs.length = ds.length
  | _, _, .nil => rfl
  | _, _, .cons _ h => by rw [List.length_cons, List.length_cons, dpall_len h]
theorem dpall_get {K : PySem.W.Frag} {H : Hp} : ∀ {xs : List V} {ds : List PyData} {i : Nat} {x : V}, DpAll K H xs ds → xs[i]? = some x → ∃ d, ds[i]? = some d ∧ Dp K H x d
  | _, _, _, _, .nil, h => by simp at h
  | _, _, 0, _, .cons (d := d) h1 h2, h => ⟨d, rfl, by
      have e := Option.some.inj h
      rw [← e]
      exact h1⟩
  | _, _, i + 1, _, .cons h1 h2, h => dpall_get (i := i) h2 h
mutual
theorem dp_same {K : PySem.W.Frag} {H H' : Hp} (e : Same H H') : ∀ {x : V} {d : PyData}, Dp K H x d → Dp K H' x d
  | _, _, .non => .non
  | _, _, .bl b => .bl b
  | _, _, .int i => .int i
  | _, _, .str x => .str x
  | _, _, .lst h a => .lst (e.seq h) (dpall_same e a)
  | _, _, .tup h a => .tup (same_t e h) (dpall_same e a)
theorem dpall_same {K : PySem.W.Frag} {H H' : Hp} (e : Same H H') : ∀ {xs : List V} {ds : List PyData}, DpAll K H xs ds → DpAll K H' xs ds
  | _, _, .nil => .nil
  | _, _, .cons h a => .cons (dp_same e h) (dpall_same e a)
end
def spSame (K : PySem.W.Frag) (n : Nat) : Sp := fun vs H Q _ => ∃ (x y : V) (d : PyData), vs = [x, y] ∧ Dp K H x d ∧ Dp K H y d ∧ Fit n d ∧ ∀ H', Same H H' → Q (.bl true) H'
/-- a comprehension over pairs -/
theorem lc_pairs {J : It} {xs ys : List V} {g : TG} {tt : TT} {te : TE} {vs : List Nat} {σ : L2.St} {H1 : Hp} {D : Addr} {Qd : Hp → Prop} (Pv : Nat → Hp → Prop) (h0 : Pv 0 (upd H1 D (.lst [])))
    (hgo : ∀ i H, Pv i H → i < xs.length → J.go i H) (hy : ∀ i H v H', Pv i H → i < xs.length → J.yld i H v H' → ∃ T x y, v = .ref T ∧ H T = none ∧ H' = upd H T (.tup [x, y]) ∧ xs[i]? = some x ∧ ys[i]? = some y)
    (hst : ∀ H, Pv xs.length H → J.stop xs.length H)
    (hs : ∀ i x y T H H', xs[i]? = some x → ys[i]? = some y → Pv i H → H T = none → H' = upd H T (.tup [x, y]) → g (.ref T) (wipe σ vs) H' fun σ2 H2 => wipe σ2 vs = wipe σ vs ∧ tt σ2 H2 fun b H3 =>
      if b = true then te σ2 H3 fun y H4 => ∃ acc, H4 D = some (.lst acc) ∧ acc.length < sizeLine ∧ Pv (i + 1) (upd H4 D (.lst (acc ++ [y]))) else Pv (i + 1) H3) (hd : ∀ H, Pv xs.length H → Qd H) :
    ∃ W : Nat → Nat → Hp → Prop, (∃ m, W 0 m (upd H1 D (.lst []))) ∧ ∀ i m H, W i m H →
      (J.stop i H ∧ Qd H) ∨ (J.go i H ∧ ∃ Nx : Hp → Prop, (∀ H', Nx H' → ∃ m', m' < m ∧ W (i + 1) m' H') ∧ ∀ x H', J.yld i H x H' → g x (wipe σ vs) H' fun σ2 H2 => wipe σ2 vs = wipe σ vs ∧ tt σ2 H2 fun b H3 =>
        if b = true then te σ2 H3 fun y H4 => ∃ acc, H4 D = some (.lst acc) ∧ acc.length < sizeLine ∧ Nx (upd H4 D (.lst (acc ++ [y]))) else Nx H3) := by
  refine ⟨fun i m H => m = xs.length - i ∧ i ≤ xs.length ∧ Pv i H, ⟨xs.length, by simp, Nat.zero_le _, h0⟩, ?_⟩
  rintro i m H ⟨rfl, hi, p⟩
  by_cases hlt : i < xs.length
  · refine .inr ⟨hgo i H p hlt, Pv (i + 1), fun H' p' => ⟨xs.length - (i + 1), by omega, rfl, hlt, p'⟩, fun v H' yl => ?_⟩
    obtain ⟨T, x, y, rfl, hT, e, f1, f2⟩ := hy i H v H' p hlt yl
    exact hs i x y T H H' f1 f2 p hT e
  · have e : i = xs.length := by omega
    subst e
    exact .inl ⟨hst H p, hd H p⟩
theorem q_dec {Q : VK} {x : V} {H : Hp} (h : Q (.bl true) H) : Q (.bl (decide (x = x))) H := by
  rw [decide_eq_true rfl]
  exact h
theorem all_true : ∀ n : Nat, (List.replicate n true).all id = true
  | 0 => rfl
  | n + 1 => by
    rw [List.replicate_succ, List.all_cons, all_true n]
    rfl
section
variable {P : Program} {w : World} {K : PySem.W.Frag} {mg : Str → Option Value} {base : Heap}
theorem same_step {f : Addr} {fd : FuncData} {n : Nat} {spI : Sp} (D__law_same : Df K mg "_law_same" s__law_same P__law_same f fd) (T : Blt mg) (G__law_same : FnOk P w K mg base CX0 n f fd P__law_same spI) (hG : ∀ m, n = m + 1 → spI = spSame K m) : FnOk P w K mg base CX0 (n + 1) f fd P__law_same (spSame K n) := by
  have nd := sc__law_same.nd
  refine D__law_same.F.ok sc__law_same (fun vs H Q E h => ?_) (fun cdv A outer s H vs Q E hr h => ?_)
  · obtain ⟨x, y, d, rfl, _⟩ := h
    rfl
  · obtain ⟨x, y, d, rfl, hx, hy, hf, q⟩ := h
    refine ⟨_, (pss_cons (ps_if (pt_val (pe_callB (r := rIsiT K) call_isiT (by rfl) T.b_isinstance (by decide +kernel) (pa_cons (pv 1) (pa_cons (pe_tup (pa_cons (pe_bltn (v := .ty "list") (by rfl) T.b_list (by decide +kernel) rfl) (pa_cons (pe_bltn (v := .ty "tuple") (by rfl) T.b_tuple (by decide +kernel) rfl) pa_nil))) pa_nil)))) (pss_cons (ps_if (PW.pt (pw_or (pt_cmpR op_ne (pe_callB (r := rIsi K) call_isi (by rfl) T.b_isinstance (by decide +kernel) (pa_cons (pv 0) (pa_cons (pe_bltn (v := .ty "list") (by rfl) T.b_list (by decide +kernel) rfl) pa_nil))) (pe_callB (r := rIsi K) call_isi (by rfl) T.b_isinstance (by decide +kernel) (pa_cons (pv 1) (pa_cons (pe_bltn (v := .ty "list") (by rfl) T.b_list (by decide +kernel) rfl) pa_nil))) (nomark _)) (pw_or1 (pt_cmpR op_ne (pe_callB (r := rIsi K) call_isi (by rfl) T.b_isinstance (by decide +kernel) (pa_cons (pv 0) (pa_cons (pe_bltn (v := .ty "tuple") (by rfl) T.b_tuple (by decide +kernel) rfl) pa_nil))) (pe_callB (r := rIsi K) call_isi (by rfl) T.b_isinstance (by decide +kernel) (pa_cons (pv 1) (pa_cons (pe_bltn (v := .ty "tuple") (by rfl) T.b_tuple (by decide +kernel) rfl) pa_nil))) (nomark _))))) (pss_one (ps_ret (pe_bl))) pss_nil)
      (pss_cons (ps_if (pt_cmpR op_ne (pe_callB (r := rLenQ K) call_len_seq (by rfl) T.b_len (by decide +kernel) (pa_cons (pv 0) pa_nil)) (pe_callB (r := rLenQ K) call_len_seq (by rfl) T.b_len (by decide +kernel) (pa_cons (pv 1) pa_nil)) (nomark _)) (pss_one (ps_ret (pe_bl))) pss_nil)
      (pss_one (ps_ret (pe_callB (r := rAll K) (cr_all rfl) (by rfl) T.b_all (by decide +kernel) (pa_cons (pe_lc (own := [("_law_one", 2), ("_law_two", 3)]) (g := gTup K 2 (gCons (gName 2) (gCons (gName 3) gNil))) (by rfl) nd (RZ.pi_zipA (by rfl) T.b_zip (pa_cons (pv 0) (pa_cons (pv 1) pa_nil))) (blkOk_by (own := [("_law_one", 2), ("_law_two", 3)]) (N := N__law_same) (sc := defScope s__law_same) (by decide +kernel)) (fun _ _ _ _ _ => (pg_tup (by rfl) (pgs_cons (pg_name (i := 2) nd rfl (Or.inl rfl)) (pgs_cons (pg_name (i := 3) nd rfl (Or.inl rfl)) pgs_nil)))) (fun _ _ _ _ _ => pts_nil) (fun _ _ _ _ _ => (pe_call G__law_same (hr.mono (by omega)) (by rfl) D__law_same.g D__law_same.F.kp D__law_same.b .nil pass0 (pa_cons (pv 2) (pa_cons (pv 3) pa_nil))))) pa_nil)))))) pss_nil)
      (pss_cons (ps_if (PW.pt (pw_or (pt_cmpR op_isN (pv 1) (pe_non) (nomark _)) (pw_or1 (pt_val (pe_callB (r := rIsi K) call_isi (by rfl) T.b_isinstance (by decide +kernel) (pa_cons (pv 1) (pa_cons (pe_bltn (v := .ty "str") (by rfl) T.b_str (by decide +kernel) rfl) pa_nil))))))) (pss_one (ps_ret (pe_and (pe_cmpR op_eq (pv 0) (pv 1) (nomark _)) (pe_one (pe_cmpR op_eq (pe_callB (r := rIsi K) call_isi (by rfl) T.b_isinstance (by decide +kernel) (pa_cons (pv 0) (pa_cons (pe_bltn (v := .ty "str") (by rfl) T.b_str (by decide +kernel) rfl) pa_nil))) (pe_callB (r := rIsi K) call_isi (by rfl) T.b_isinstance (by decide +kernel) (pa_cons (pv 1) (pa_cons (pe_bltn (v := .ty "str") (by rfl) T.b_str (by decide +kernel) rfl) pa_nil))) (nomark _)))))) pss_nil)
      (pss_one (ps_ret (pe_and (pe_callB (r := rIsi K) call_isi (by rfl) T.b_isinstance (by decide +kernel) (pa_cons (pv 0) (pa_cons (pe_bltn (v := .ty "int") (by rfl) T.b_int (by decide +kernel) rfl) pa_nil))) (pe_and (pe_cmpR op_eq (pe_callB (r := rIsi K) call_isi (by rfl) T.b_isinstance (by decide +kernel) (pa_cons (pv 0) (pa_cons (pe_bltn (v := .ty "bool") (by rfl) T.b_bool (by decide +kernel) rfl) pa_nil))) (pe_callB (r := rIsi K) call_isi (by rfl) T.b_isinstance (by decide +kernel) (pa_cons (pv 1) (pa_cons (pe_bltn (v := .ty "bool") (by rfl) T.b_bool (by decide +kernel) rfl) pa_nil))) (nomark _)) (pe_one (pe_cmpR op_eq (pv 0) (pv 1) (nomark _))))))))), ?_⟩
    cases hx with
    | non =>
      cases hy
      walk_at "ev"
      intro p hp
      generalize hH : upd _ p _ = H1
      obtain ⟨sm, hp1⟩ := newO hH hp
      have kd : Kd K H1 .non "NoneType" := .non
      have ty := kd.ty
      obtain ⟨k1, k2, k3, k4, k5⟩ := kd.kit
      have ka := kit_lt k4 k5
      walk_at "ev"
      exact q_dec (q _ sm)
    | bl b =>
      cases hy
      walk_at "ev"
      intro p hp
      generalize hH : upd _ p _ = H1
      obtain ⟨sm, hp1⟩ := newO hH hp
      have kd : Kd K H1 (.bl b) "bool" := .bl b
      have ty := kd.ty
      obtain ⟨k1, k2, k3, k4, k5⟩ := kd.kit
      have ka := kit_lt k4 k5
      walk_at "ev"
      exact q_dec (q _ sm)
    | int i =>
      cases hy
      walk_at "ev"
      intro p hp
      generalize hH : upd _ p _ = H1
      obtain ⟨sm, hp1⟩ := newO hH hp
      have kd : Kd K H1 (.int i) "int" := .int i
      have ty := kd.ty
      obtain ⟨k1, k2, k3, k4, k5⟩ := kd.kit
      have ka := kit_lt k4 k5
      walk_at "ev"
      exact q_dec (q _ sm)
    | str z =>
      cases hy
      walk_at "ev"
      intro p hp
      generalize hH : upd _ p _ = H1
      obtain ⟨sm, hp1⟩ := newO hH hp
      have kd : Kd K H1 (.str z) "str" := .str z
      have ty := kd.ty
      obtain ⟨k1, k2, k3, k4, k5⟩ := kd.kit
      have ka := kit_lt k4 k5
      walk_at "ev"
      exact q_dec (q _ sm)
    | lst hs ha =>
      rename_i a xs ds
      cases hy with
      | lst ht hb =>
      rename_i b ys
      have el : ys.length = xs.length := (dpall_len hb).trans (dpall_len ha).symm
      have el' : V.int (xs.length : Int) = V.int (ys.length : Int) := by rw [el]
      cases n with
      | zero => exact hf.elim
      | succ n =>
      have hf' : ds.length ≤ 4000 ∧ ∀ e ∈ ds, Fit n e := hf
      have hS := hG n rfl
      subst hS
      walk_at "ev"
      intro p hp
      generalize hH : upd _ p _ = H1
      obtain ⟨sm, hp1⟩ := newO hH hp
      have hs1 := sm.seq hs
      have ht1 := sm.seq ht
      have kd : Kd K H1 (.ref a) "list" := .lst hs1
      have ty := kd.ty
      have kd' : Kd K H1 (.ref b) "list" := .lst ht1
      have ty' := kd'.ty
      obtain ⟨k1, k2, k3, k4, k5⟩ := kd.kit
      have ka := kit_lt k4 k5
      walk_at "ev"
      refine .inl ⟨hs1, ht1, fun D hD => ?_⟩
      refine lc_pairs (xs := xs) (ys := ys) (fun i H' => Hold (Same H1 H' ∧ H' D = some (.lst ((List.replicate i true).map V.bl)))) (.mk ⟨same_new hD, upd_same⟩) ?_ ?_ ?_ ?_ ?_
      · intro i H' hP hi
        obtain ⟨sm2, hD2⟩ := hP.un
        have hi2 : i < ys.length := by omega
        exact ⟨xs, ys, _, _, sm2.seq hs1, sm2.seq ht1, List.getElem?_eq_getElem hi, List.getElem?_eq_getElem hi2⟩
      · intro i H' v H'' hP hi yl
        obtain ⟨sm2, hD2⟩ := hP.un
        obtain ⟨T, x, y, e1, e2, e3, f1, f2⟩ := yl
        exact ⟨T, x, y, e1, e2, e3, f1 _ (sm2.seq hs1), f2 _ (sm2.seq ht1)⟩
      · intro H' hP
        obtain ⟨sm2, hD2⟩ := hP.un
        exact ⟨xs, ys, sm2.seq hs1, sm2.seq ht1, .inl (Nat.le_refl _)⟩
      · intro i x y T' H' H'' hx hy hP hT e
        obtain ⟨sm2, hD2⟩ := hP.un
        obtain ⟨sm3, hT3⟩ := newO e.symm hT
        have hT4 : SqT K H'' T' [x, y] := SqT.of hT3
        obtain ⟨d, hd, hdx⟩ := dpall_get ha hx
        obtain ⟨d', hd', hdy⟩ := dpall_get hb hy
        have ed : d' = d := Option.some.inj (hd'.symm.trans hd)
        subst ed
        have sm4 : Same H H'' := (sm.trans sm2).trans sm3
        have dx := dp_same sm4 hdx
        have dy := dp_same sm4 hdy
        have ft := hf'.2 _ (List.mem_of_getElem? hd)
        have hil : i < xs.length := (List.getElem?_eq_some_iff.mp hx).1
        have hdl := dpall_len ha
        have hlen : i ≤ 4000 := by omega
        walk_at "ev"
        intro H5 sm5
        have hD5 := sm5 _ _ (sm3 _ _ hD2)
        refine ⟨_, hD5, szm (by simp; omega), .mk ⟨same_mut ((sm2.trans sm3).trans sm5) hD, ?_⟩⟩
        rw [upd_same, List.replicate_succ', List.map_append]
        rfl
      · intro H' hP
        obtain ⟨sm2, hD2⟩ := hP.un
        refine ⟨D, List.replicate xs.length true, rfl, SqL.of hD2, ?_⟩
        rw [all_true]
        exact q _ (sm.trans sm2)
    | tup hs ha =>
      rename_i a xs ds
      cases hy with
      | tup ht hb =>
      rename_i b ys
      have el : ys.length = xs.length := (dpall_len hb).trans (dpall_len ha).symm
      have el' : V.int (xs.length : Int) = V.int (ys.length : Int) := by rw [el]
      cases n with
      | zero => exact hf.elim
      | succ n =>
      have hf' : ds.length ≤ 4000 ∧ ∀ e ∈ ds, Fit n e := hf
      have hS := hG n rfl
      subst hS
      walk_at "ev"
      intro p hp
      generalize hH : upd _ p _ = H1
      obtain ⟨sm, hp1⟩ := newO hH hp
      have hs1 := same_t sm hs
      have ht1 := same_t sm ht
      have kd : Kd K H1 (.ref a) "tuple" := .tup hs1
      have ty := kd.ty
      have kd' : Kd K H1 (.ref b) "tuple" := .tup ht1
      have ty' := kd'.ty
      obtain ⟨k1, k2, k3, k4, k5⟩ := kd.kit
      have ka := kit_lt k4 k5
      walk_at "ev"
      refine .inr ⟨hs1, ht1, fun D hD => ?_⟩
      refine lc_pairs (xs := xs) (ys := ys) (fun i H' => Hold (Same H1 H' ∧ H' D = some (.lst ((List.replicate i true).map V.bl)))) (.mk ⟨same_new hD, upd_same⟩) ?_ ?_ ?_ ?_ ?_
      · intro i H' hP hi
        obtain ⟨sm2, hD2⟩ := hP.un
        have hi2 : i < ys.length := by omega
        exact ⟨xs, ys, _, _, same_t sm2 hs1, same_t sm2 ht1, List.getElem?_eq_getElem hi, List.getElem?_eq_getElem hi2⟩
      · intro i H' v H'' hP hi yl
        obtain ⟨sm2, hD2⟩ := hP.un
        obtain ⟨T, x, y, e1, e2, e3, f1, f2⟩ := yl
        exact ⟨T, x, y, e1, e2, e3, f1 _ (same_t sm2 hs1), f2 _ (same_t sm2 ht1)⟩
      · intro H' hP
        obtain ⟨sm2, hD2⟩ := hP.un
        exact ⟨xs, ys, same_t sm2 hs1, same_t sm2 ht1, .inl (Nat.le_refl _)⟩
      · intro i x y T' H' H'' hx hy hP hT e
        obtain ⟨sm2, hD2⟩ := hP.un
        obtain ⟨sm3, hT3⟩ := newO e.symm hT
        have hT4 : SqT K H'' T' [x, y] := SqT.of hT3
        obtain ⟨d, hd, hdx⟩ := dpall_get ha hx
        obtain ⟨d', hd', hdy⟩ := dpall_get hb hy
        have ed : d' = d := Option.some.inj (hd'.symm.trans hd)
        subst ed
        have sm4 : Same H H'' := (sm.trans sm2).trans sm3
        have dx := dp_same sm4 hdx
        have dy := dp_same sm4 hdy
        have ft := hf'.2 _ (List.mem_of_getElem? hd)
        have hil : i < xs.length := (List.getElem?_eq_some_iff.mp hx).1
        have hdl := dpall_len ha
        have hlen : i ≤ 4000 := by omega
        walk_at "ev"
        intro H5 sm5
        have hD5 := sm5 _ _ (sm3 _ _ hD2)
        refine ⟨_, hD5, szm (by simp; omega), .mk ⟨same_mut ((sm2.trans sm3).trans sm5) hD, ?_⟩⟩
        rw [upd_same, List.replicate_succ', List.map_append]
        rfl
      · intro H' hP
        obtain ⟨sm2, hD2⟩ := hP.un
        refine ⟨D, List.replicate xs.length true, rfl, SqL.of hD2, ?_⟩
        rw [all_true]
        exact q _ (sm.trans sm2)
theorem ok_same {f : Addr} {fd : FuncData} (D__law_same : Df K mg "_law_same" s__law_same P__law_same f fd) (T : Blt mg) : ∀ n : Nat, FnOk P w K mg base CX0 (n + 1) f fd P__law_same (spSame K n)
  | 0 => same_step (spI := fun _ _ _ _ => False) D__law_same T ⟨fun _ _ _ _ h => h.elim, fun _ _ _ _ _ _ _ _ _ _ _ _ _ h => h.elim⟩ (fun m h => by omega)
  | n + 1 => same_step D__law_same T (ok_same D__law_same T n) (fun m h => by cases h; rfl)
end
/-! ### a list or a tuple -/
section
open PySem.Spec PyProof.Rows
variable {X : Cx}
def rIxQ (K : PySem.W.Frag) : R2 := fun x y H Q => ∃ p xs i v, x = .ref p ∧ y = .int i ∧ (SqL K H p xs ∨ SqT K H p xs) ∧ atI xs i = some v ∧ Q v H
theorem ix_seq : IxR X (rIxQ X.K) := by
  intro value slice pins s σ H x y v u Q I rx ry h hs
  obtain ⟨p, xs, i, z, e1, e2, hq | hq, he, q⟩ := h
  · exact ix_list value slice pins s σ H x y v u Q I rx ry ⟨p, xs, i, z, e1, e2, hq, he, q⟩ hs
  · exact ix_tup value slice pins s σ H x y v u Q I rx ry ⟨p, xs, i, z, e1, e2, hq, he, q⟩ hs
end
theorem sq_same {K : PySem.W.Frag} {H H' : Hp} {a : Addr} {xs : List V} (e : Same H H') (h : SqL K H a xs ∨ SqT K H a xs) : SqL K H' a xs ∨ SqT K H' a xs := by
  rcases h with h | h
  · exact .inl (e.seq h)
  · exact .inr (same_t e h)
/-! ### a loop over enumerate -/
theorem for_enumL {K : PySem.W.Frag} {a : Addr} {xs : List V} {g : TG} {tb : TS} {D : Ends} {σ : L2.St} {H : Hp} (Pv : Nat → L2.St → Hp → Prop) (h0 : Pv 0 σ H) (hq : ∀ i σ H, Pv i σ H → SqL K H a xs)
    (hs : ∀ (i : Nat) (x : V) (T : Addr) (σ : L2.St) (H : Hp), xs[i]? = some x → Pv i σ H → H T = none → g (.ref T) σ (upd H T (.tup [.int (i : Nat), x])) fun σ2 H2 => tb { D with nx := Pv (i + 1), ct := Pv (i + 1), bk := D.nx } σ2 H2) (hd : ∀ σ H, Pv xs.length σ H → D.nx σ H) :
    ∃ W : Nat → Nat → L2.St → Hp → Prop, (∃ m, W 0 m σ H) ∧ ∀ i m σ H, W i m σ H →
      ((Ite K a).stop i H ∧ D.nx σ H) ∨ ((Ite K a).go i H ∧ ∃ N : L2.St → Hp → Prop, (∀ σ' H', N σ' H' → ∃ m', m' < m ∧ W (i + 1) m' σ' H') ∧ ∀ v H', (Ite K a).yld i H v H' → g v σ H' fun σ2 H2 => tb { D with nx := N, ct := N, bk := D.nx } σ2 H2) := by
  refine ⟨fun i m σ H => m = xs.length - i ∧ i ≤ xs.length ∧ Pv i σ H, ⟨xs.length, rfl, Nat.zero_le _, h0⟩, ?_⟩
  rintro i m σ H ⟨rfl, hi, p⟩
  have q := hq i σ H p
  by_cases hlt : i < xs.length
  · refine .inr ⟨⟨xs, xs[i], q, List.getElem?_eq_getElem hlt⟩, Pv (i + 1), fun σ' H' p' => ⟨xs.length - (i + 1), by omega, rfl, hlt, p'⟩, fun v H' y => ?_⟩
    obtain ⟨T, x', rfl, hT, rfl, f1⟩ := y
    exact hs i x' T σ H (f1 xs q) p hT
  · have e : i = xs.length := by omega
    subst e
    exact .inl ⟨⟨xs, q, Nat.le_refl _⟩, hd σ H p⟩
/-! ### enumerate of a tuple -/
section
open PySem.Spec PyProof.Rows
abbrev tIt (t : Addr) : Obj := { cls := .type "tuple_iterator", data := .fields #[.ref t, .int 0 0] }
abbrev tEn (i : Addr) : Obj := { cls := .type "enumerate", data := .fields #[.none, .bool false, .ref i, rawInt 0, .none, .none] }
theorem meets_enumT (l : Addr) (items : Array Value) (n : Nat) (dct : Option Addr) (sl : Array (Option Value)) :
    Meets (Builtin.«enumerate.__new__» ⟨[.type "enumerate", .ref l], []⟩) (fun _ R s => s.heap.get? l = some { cls := .type "tuple", dict := dct, data := .seq items n, slots := sl } ∧
      R (.ok (.ret (.ref (s.heap.push (tIt l)).objs.size))) { s with heap := (s.heap.push (tIt l)).push (tEn s.heap.objs.size) }) :=
  .of_wp fun prog w A R s h => by
    obtain ⟨hp, g, d, tk, os⟩ := s
    obtain ⟨hl, h⟩ := h
    have hsub := sub_enumerate
    have hT : Heap.IsTuple (Shared.heap ⟨hp, g, d, tk, os⟩) l items := ⟨_, hl, rfl, n, rfl⟩
    have q1 : ∀ {A' : Around} {E : Value → Shared → Prop} {Q : Value → Shared → Prop}, Q (.ref hp.objs.size) ⟨hp.push (tIt l), g, d, tk, os⟩ → wpAny (model prog w) A' (pyIter (.ref l)) Q E ⟨hp, g, d, tk, os⟩ := fun q => wpAny_pyIter_tuple hT q
    wp_walk using AutoSeq1.wpAny_loadPart' hl
    refine wpAny_stack_any fun st => wpAny_pure ?_
    split
    · rename_i c _ _ _ _ _
      cases (c == Value.type "enumerate")
      · wp_walk using AutoSeq1.wpAny_loadPart' hl, q1
        exact ⟨_, rfl, h⟩
      · wp_walk using AutoSeq1.wpAny_loadPart' hl, q1
        exact ⟨_, rfl, h⟩
    · wp_walk using AutoSeq1.wpAny_loadPart' hl, q1
      exact ⟨_, rfl, h⟩
theorem call_enumT {prog : Program} {w : World} {A : Around} {E : Value → Shared → Prop} {s : Shared} {l : Addr} {items : Array Value} {Q : Value → Shared → Prop} (hL : s.heap.IsTuple l items)
    (h : ∀ h', IsEnum h' (s.heap.objs.size + 1) s.heap.objs.size 0 .none → h'.IsTupleIter s.heap.objs.size l 0 → (∀ b o, s.heap.get? b = some o → h'.get? b = some o) → Q (.ref (s.heap.objs.size + 1)) { s with heap := h' }) :
    wpAny (model prog w) A (call (.type "enumerate") [.ref l]) Q E s := by
  obtain ⟨⟨c, dct, dt, sl⟩, hl, hc, n, hd⟩ := hL
  replace hc : c = .type "tuple" := hc
  replace hd : dt = .seq items n := hd
  subst hc hd
  refine callType_new F.called_enumerate (by decide) (F.typeCall_enumerate_1 _) (F.newCall_enumerate_1 _) (fun obj => F.args_object_init_2 obj _) F.entry_enumerate_new (meets_enumT l items n dct sl) ⟨hl, ?_⟩
  have hz : (s.heap.push (tIt l)).objs.size = s.heap.objs.size + 1 := Heap.size_push ..
  show _ ∧ _
  rw [hz]
  have he : IsEnum ((s.heap.push (tIt l)).push (tEn s.heap.objs.size)) (s.heap.objs.size + 1) s.heap.objs.size 0 .none := by
    have k := Heap.get?_push_size (s.heap.push (tIt l)) (o := tEn s.heap.objs.size) rfl
    rw [hz] at k
    exact k
  exact ⟨⟨_, he, rfl⟩, h _ he ⟨_, Heap.get?_push_of_some _ (Heap.get?_push_size _ rfl), rfl, rfl⟩ fun b o x => Heap.get?_push_of_some _ (Heap.get?_push_of_some _ x)⟩
/-- the tuple at a, each item in a new pair -/
def IteT (K : PySem.W.Frag) (a : Addr) : It :=
  ⟨fun i H => ∃ (xs : List V) (x : V), SqT K H a xs ∧ xs[i]? = some x, fun i H v H' => ∃ T x, v = .ref T ∧ H T = none ∧ H' = upd H T (.tup [.int (i : Nat), x]) ∧ ∀ xs, SqT K H a xs → xs[i]? = some x, fun i H => ∃ xs : List V, SqT K H a xs ∧ xs.length = i⟩
theorem turn_enumT {P : Program} {w : World} {K : PySem.W.Frag} {elts : List Expr} {kk : Nat} {tpos : Pos} (a e it : Addr) :
    Turn P w K (.Tuple elts kk tpos) (IteT K a) [e, it] e (fun i h => (∃ old, IsEnum h e it ((i : Nat) : Int) old) ∧ h.IsTupleIter it a i ∧ e ≠ it ∧ a ≠ it ∧ a ≠ e) where
  mem := by simp
  obj := fun i h st b hb => by
    obtain ⟨⟨old, he⟩, ⟨o, ho, hc, hd⟩, _⟩ := st
    have z : b = e ∨ b = it := by simpa using hb
    rcases z with z | z
    · rw [z]
      exact ⟨_, he, fun v q => nomatch q⟩
    · rw [z]
      exact ⟨o, ho, fun v q => by rw [hd] at q; cases q⟩
  keep := fun i h h' st k => by
    obtain ⟨⟨old, he⟩, hi, hne⟩ := st
    exact ⟨⟨old, k e (by simp) _ he⟩, hi.at fun o q => k it (by simp) o q, hne⟩
  item := by
    intro X hP hw hK hc i pins s σ H E I hf st hg
    subst hP hw hK
    obtain ⟨⟨old, he⟩, hit, hne, hna, hnb⟩ := st
    obtain ⟨xs, x, hq, hx⟩ := hg
    obtain ⟨its, rv, p, hz⟩ := I.tuple hq
    obtain ⟨u, hu, ru⟩ := rv.get hx
    have hel : e < s.heap.objs.size := Heap.lt_size he
    have hil : it < s.heap.objs.size := by
      obtain ⟨_, q, _⟩ := hit
      exact Heap.lt_size q
    have hlt : i < its.toArray.size := by
      rw [List.size_toArray]
      exact (List.getElem?_eq_some_iff.mp hu).1
    have dr : Draws X.prog X.w X.A.in1 it [it, a] its.toArray.size (fun i v => its.toArray[i]? = some v) (fun i h => h.IsTupleIter it a i ∧ h.IsTuple a its.toArray) := Draws.tuple (A := X.A.in1) (I.ok.hd hc) it a hna its.toArray
    refine wpAny_pyNext_enum_itemD dr he ⟨hit, p⟩ hlt hne (by simp [hne, hnb.symm]) fun y h' tk hy ho hst hT hsz hk => ?_
    have ey : y = u := by
      have h1 : its.toArray[i]? = some u := by simpa using hu
      rw [h1] at hy
      exact (Option.some.inj hy).symm
    subst ey
    refine ⟨_, rfl, wpAny_letOwnedTupleGo_enum (s := { s with heap := h', toks := tk + 1 }) ho fun h'' he' sb => ?_⟩
    have hT2 := (sb.2 _ (Nat.ne_of_gt hel)).trans hT
    have new : ObjOk X.prog X.w (upd H s.heap.objs.size (.tup [.int (i : Nat), x])) h'' s.heap.objs.size (.tup [.int (i : Nat), x]) := ⟨by show 2 ≤ sizeLine; decide, [.int i tk, y], .cons ⟨_, rfl⟩ (.cons ru .nil), ⟨_, hT2, rfl, _, rfl⟩⟩
    have I1 : Inv X pins σ (upd H s.heap.objs.size (.tup [.int (i : Nat), x])) { s with heap := h'', toks := tk + 1 } :=
      I.turnedNew (ch := [e, it]) (fun b ob hb q => (sb.2 b (fun z => hb (by simp [z]))).trans (hk b ob (fun z => hb (by simp [z])) (fun z => hb (by simp [z])) q)) hf (Nat.le_refl _) new
    refine ⟨.ref s.heap.objs.size, _, I1, rfl, ⟨_, x, rfl, I.hok.fresh (Nat.le_refl _), rfl, fun ys hy => by rw [I.tuple_inj hy hq]; exact hx⟩, ⟨⟨y, ?_⟩, hst.1.at fun o q => (sb.2 it hne.symm).trans q, hne, hna, hnb⟩, fun b hb => ?_⟩
    · rw [show ((i + 1 : Nat) : Int) = (i : Int) + 1 by omega]
      exact he'
    · have hb' : b < s.heap.objs.size := by
        have z : b = e ∨ b = it := by simpa using hb
        rcases z with z | z <;> rw [z]
        · exact hel
        · exact hil
      rw [upd_ne (Nat.ne_of_lt hb')]
      exact (hf b hb).1
  done := by
    intro X hP hw hK hc i pins s σ H E I hf st hg
    subst hP hw hK
    obtain ⟨⟨old, he⟩, hit, hne, hna, hnb⟩ := st
    obtain ⟨xs, hq, hx⟩ := hg
    obtain ⟨its, rv, p, hz⟩ := I.tuple hq
    obtain ⟨f0, f1, f2, f3, f4, f5⟩ := hf it (by simp)
    have hl : its.toArray.size = i := by
      rw [List.size_toArray, ← rv.length]
      exact hx
    have dr : Draws X.prog X.w X.A.in1 it [it, a] its.toArray.size (fun i v => its.toArray[i]? = some v) (fun i h => h.IsTupleIter it a i ∧ h.IsTuple a its.toArray) := Draws.tuple (A := X.A.in1) (I.ok.hd hc) it a hna its.toArray
    exact wpAny_pyNext_enum_endD dr he (by rw [hl]; exact ⟨hit, p⟩) fun h' eb => ⟨rfl, I.turned (t' := s.toks) (fun b o hb q => eb b o hb q) f0 f1 f3 f4 f5⟩
  self := fun A i s Q E st h => by
    obtain ⟨⟨_, he⟩, _⟩ := st
    exact wpAny_pyIter_enum he h
def iEnumT (K : PySem.W.Frag) (ta : TA) : TI := fun σ H R => ta σ H fun vs H1 => ∃ a xs, vs = [.ref a] ∧ SqT K H1 a xs ∧ R (IteT K a) H1
theorem pi_enumT {X : Cx} {e : Expr} {ta : TA} {p pos tpos : Pos} {elts : List Expr} {kk : Nat} (hg : Gl X "enumerate") (hm : X.mg "enumerate" = none) (ha : PA X [e] ta) (hs : starEach [e] X.env = [(false, eval e X.env)] := by rfl) :
    PI X (.Tuple elts kk tpos) (.Call (.Name "enumerate" p) [e] [] pos) (iEnumT X.K ta) := by
  refine ⟨fun pins s σ H R I h => ?_⟩
  refine Call_ (ld_blt I hg hm boot_enumerate (PyProof.Rows.callWith_type1 (thn (ha.run pos pins s σ H _ I h) fun us s1 ⟨vs, H1, I1, r1, q1⟩ => ?_) hs rfl))
  obtain ⟨a, xs, ex, hq, q⟩ := q1
  subst ex
  obtain ⟨u, rfl, ru⟩ := r1.one
  cases ru
  obtain ⟨its, rv, p', hz⟩ := I1.tuple hq
  have hal : a < s1.heap.objs.size := by
    obtain ⟨o, ho, _⟩ := p'
    exact Heap.lt_size ho
  refine call_enumT p' fun h' he hit hk => wpAny_pyIter_enum he ?_
  have I2 : Inv X pins σ H1 { s1 with heap := h' } := I1.kept (t' := s1.toks) hk
  refine ⟨s1.heap.objs.size + 1, [s1.heap.objs.size + 1, s1.heap.objs.size], _, _, H1, rfl, I2, turn_enumT a (s1.heap.objs.size + 1) s1.heap.objs.size, ⟨⟨.none, he⟩, hit, Nat.succ_ne_self _, Nat.ne_of_lt hal, Nat.ne_of_lt (Nat.lt_succ_of_lt hal)⟩, fun b hb => ?_, q⟩
  have hle : s1.heap.objs.size ≤ b := by
    have z : b = s1.heap.objs.size + 1 ∨ b = s1.heap.objs.size := by simpa using hb
    rcases z with z | z <;> rw [z]
    · exact Nat.le_add_right _ _
    · exact Nat.le_refl _
  exact I1.fpOk hle (I1.hok.fresh hle)
end
theorem for_enumT {K : PySem.W.Frag} {a : Addr} {xs : List V} {g : TG} {tb : TS} {D : Ends} {σ : L2.St} {H : Hp} (Pv : Nat → L2.St → Hp → Prop) (h0 : Pv 0 σ H) (hq : ∀ i σ H, Pv i σ H → SqT K H a xs)
    (hs : ∀ (i : Nat) (x : V) (T : Addr) (σ : L2.St) (H : Hp), xs[i]? = some x → Pv i σ H → H T = none → g (.ref T) σ (upd H T (.tup [.int (i : Nat), x])) fun σ2 H2 => tb { D with nx := Pv (i + 1), ct := Pv (i + 1), bk := D.nx } σ2 H2) (hd : ∀ σ H, Pv xs.length σ H → D.nx σ H) :
    ∃ W : Nat → Nat → L2.St → Hp → Prop, (∃ m, W 0 m σ H) ∧ ∀ i m σ H, W i m σ H →
      ((IteT K a).stop i H ∧ D.nx σ H) ∨ ((IteT K a).go i H ∧ ∃ N : L2.St → Hp → Prop, (∀ σ' H', N σ' H' → ∃ m', m' < m ∧ W (i + 1) m' σ' H') ∧ ∀ v H', (IteT K a).yld i H v H' → g v σ H' fun σ2 H2 => tb { D with nx := N, ct := N, bk := D.nx } σ2 H2) := by
  refine ⟨fun i m σ H => m = xs.length - i ∧ i ≤ xs.length ∧ Pv i σ H, ⟨xs.length, rfl, Nat.zero_le _, h0⟩, ?_⟩
  rintro i m σ H ⟨rfl, hi, p⟩
  have q := hq i σ H p
  by_cases hlt : i < xs.length
  · refine .inr ⟨⟨xs, xs[i], q, List.getElem?_eq_getElem hlt⟩, Pv (i + 1), fun σ' H' p' => ⟨xs.length - (i + 1), by omega, rfl, hlt, p'⟩, fun v H' y => ?_⟩
    obtain ⟨T, x', rfl, hT, rfl, f1⟩ := y
    exact hs i x' T σ H (f1 xs q) p hT
  · have e : i = xs.length := by omega
    subst e
    exact .inl ⟨⟨xs, q, rfl⟩, hd σ H p⟩
/-! ### orders -/
abbrev vN (n : Nat) : V := .int (n : Int)
def IsP (t : List Nat) : Prop := t.Nodup ∧ ∀ x ∈ t, x < t.length
theorem pigeon : ∀ (n : Nat) (l : List Nat), l.Nodup → (∀ x ∈ l, x < n) → l.length ≤ n
  | 0, l, _, h => by
    cases l with
    | nil => exact Nat.le_refl _
    | cons a r => exact absurd (h a List.mem_cons_self) (Nat.not_lt_zero a)
  | n + 1, l, d, h => by
    by_cases c : n ∈ l
    · have h1 := pigeon n (l.erase n) (d.erase n) fun x hx => by
        have h2 := h x (List.mem_of_mem_erase hx)
        have h3 : x ≠ n := fun z => by
          subst z
          exact (d.not_mem_erase) hx
        omega
      rw [List.length_erase_of_mem c] at h1
      omega
    · have h1 := pigeon n l d fun x hx => by
        have h2 := h x hx
        have h3 : x ≠ n := fun z => by
          subst z
          exact c hx
        omega
      omega
theorem IsP.sur {t : List Nat} (h : IsP t) {y : Nat} (hy : y < t.length) : y ∈ t := by
  apply Classical.byContradiction
  intro c
  have h1 := pigeon t.length (y :: t) (List.nodup_cons.mpr ⟨c, h.1⟩) fun x hx => by
    rcases List.mem_cons.mp hx with z | z
    · rw [z]
      exact hy
    · exact h.2 x z
  rw [List.length_cons] at h1
  omega
theorem IsP.of_perm {t : List Nat} {n : Nat} (h : t.Perm (List.range n)) : IsP t ∧ t.length = n := by
  have hl : t.length = n := h.length_eq.trans List.length_range
  refine ⟨⟨h.nodup_iff.mpr List.nodup_range, fun x hx => ?_⟩, hl⟩
  rw [hl]
  exact List.mem_range.mp (h.mem_iff.mp hx)
theorem IsP.inj {t : List Nat} (h : IsP t) {i j x : Nat} (hi : t[i]? = some x) (hj : t[j]? = some x) : i = j := by
  obtain ⟨hi1, hi2⟩ := List.getElem?_eq_some_iff.mp hi
  obtain ⟨hj1, hj2⟩ := List.getElem?_eq_some_iff.mp hj
  exact (List.getElem_inj h.1).mp (hi2.trans hj2.symm)
/-- u tells where each one stands in t -/
def InvOf (t u : List Nat) : Prop := u.length = t.length ∧ ∀ (i x : Nat), t[i]? = some x → u[x]? = some i
/-- ys is xs put in the order t -/
def PutOf (t : List Nat) (xs ys : List V) : Prop := ys.length = t.length ∧ ∀ (i x : Nat), t[i]? = some x → ys[x]? = xs[i]?
theorem PutOf.uniq {t : List Nat} {xs ys zs : List V} (h : IsP t) (a : PutOf t xs ys) (b : PutOf t xs zs) : ys = zs := by
  refine List.ext_getElem? fun k => ?_
  by_cases c : k < t.length
  · obtain ⟨i, hi⟩ := List.mem_iff_getElem?.mp (h.sur c)
    rw [a.2 i k hi, b.2 i k hi]
  · rw [List.getElem?_eq_none (by rw [a.1]; omega), List.getElem?_eq_none (by rw [b.1]; omega)]
theorem InvOf.isP {t u : List Nat} (h : IsP t) (a : InvOf t u) : IsP u := by
  have key : ∀ k < t.length, ∃ i, t[i]? = some k ∧ u[k]? = some i := fun k hk => by
    obtain ⟨i, hi⟩ := List.mem_iff_getElem?.mp (h.sur hk)
    exact ⟨i, hi, a.2 i k hi⟩
  refine ⟨?_, fun x hx => ?_⟩
  · refine List.pairwise_iff_getElem.mpr fun i j hi hj hij e => ?_
    have hi' : i < t.length := by
      rw [← a.1]
      exact hi
    have hj' : j < t.length := by
      rw [← a.1]
      exact hj
    obtain ⟨p, hp, hp2⟩ := key i hi'
    obtain ⟨q, hq, hq2⟩ := key j hj'
    rw [List.getElem?_eq_getElem hi] at hp2
    rw [List.getElem?_eq_getElem hj] at hq2
    have ep : p = q := by
      rw [← Option.some.inj hp2, ← Option.some.inj hq2]
      exact e
    subst ep
    rw [hp] at hq
    cases hq
    omega
  · obtain ⟨k, hk⟩ := List.mem_iff_getElem?.mp hx
    have hkl : k < u.length := (List.getElem?_eq_some_iff.mp hk).1
    rw [a.1] at hkl
    obtain ⟨i, hi, hi2⟩ := key k hkl
    rw [hk] at hi2
    cases hi2
    rw [a.1]
    exact (List.getElem?_eq_some_iff.mp hi).1
theorem rep_flat {n : Nat} {v : V} : (List.replicate n [v]).flatten = List.replicate n v := by
  induction n with
  | zero => rfl
  | succ n ih =>
    rw [List.replicate_succ, List.flatten_cons, ih]
    rfl
theorem ixn_of {n j : Nat} {i : Int} (h : j < n) (e : i = (j : Int)) : ixN n i = some j := by
  subst e
  unfold ixN
  simp [h]
abbrev s_inverse_order : Stmt := top 4
abbrev N_inverse_order : List Str := ["order", "told", "at", "place"]
abbrev P_inverse_order : List Str := ["order"]
theorem sc_inverse_order : FnScope N_inverse_order P_inverse_order (defScope s_inverse_order) := ⟨rfl, rfl, rfl, by decide +kernel, rfl, by decide +kernel, by decide +kernel⟩
section
variable {P : Program} {w : World} {K : PySem.W.Frag} {mg : Str → Option Value} {base : Heap}
def spInvOL (K : PySem.W.Frag) : Sp := fun vs H Q _ => ∃ (a : Addr) (t : List Nat), vs = [.ref a] ∧ SqL K H a (t.map vN) ∧ IsP t ∧ t.length ≤ 1000 ∧ ∀ p u H', InvOf t u → H p = none → Same H H' → H' p = some (.lst (u.map vN)) → Q (.ref p) H'
theorem ok_invOL {f : Addr} {fd : FuncData} {k : Nat} (F : Fun K "inverse_order" "inverse_order" s_inverse_order f fd) (T : Blt mg) : FnOk P w K mg base CX0 (k + 1) f fd P_inverse_order (spInvOL K) := by
  have nd := sc_inverse_order.nd
  refine F.ok sc_inverse_order (fun vs H Q E h => ?_) (fun cdv A outer s H vs Q E hr h => ?_)
  · obtain ⟨a, t, rfl, _⟩ := h
    rfl
  · obtain ⟨a, t, rfl, ha, ht, hlen, q⟩ := h
    refine ⟨_, (pss_cons (ps_set (i := 1) nd rfl (Or.inl rfl) (pe_op op_rep (pe_lst (pa_cons (pe_int) pa_nil)) (pe_callB (r := rLenQ K) call_len_seq (by rfl) T.b_len (by decide +kernel) (pa_cons (pv 0) pa_nil))))
      (pss_cons (ps_for PassesOwn.never rfl (pi_enum (by rfl) T.b_enumerate (pa_cons (pv 0) pa_nil)) (pg_tup (by rfl) (pgs_cons (pg_name (i := 2) nd rfl (Or.inl rfl)) (pgs_cons (pg_name (i := 3) nd rfl (Or.inl rfl)) pgs_nil)))
      (pss_one (ps_asg (pv 2) (pg_sub (pv 1) (pv 3) set_list))))
      (pss_one (ps_ret (pv 1))))), ?_⟩
    have z1 : ([V.int 0] : List V).length * ((t.map vN).length : Int).toNat ≤ sizeLine := szl (by rw [List.length_map]; show 1 * _ ≤ 60000; omega)
    have z2 : ((t.map vN).length : Int) < 2 ^ 63 := by rw [List.length_map]; omega
    walk_at "ev"
    w_cond _1
    have ha1 := Same.seq sm1 ha
    walk_at "ev"
    w_cond _2
    have ha2 := Same.seq sm2 ha1
    have f2 : H l2 = none := sm1.free hl2
    have hq2' : H2 l2 = some (.lst ((List.replicate t.length 0).map vN)) := by
      rw [hq2, rep_flat, List.map_replicate, List.length_map]
      rfl
    walk_at "ev"
    refine for_enumL (K := K) (a := a) (xs := t.map vN) (fun i σ H' => Hold (∃ (u : List Nat) (s2 s3 : Option V), σ = [some (.ref a), some (.ref l2), s2, s3] ∧ Same H H' ∧ H' l2 = some (.lst (u.map vN)) ∧ u.length = t.length ∧ ∀ (j x : Nat), j < i → t[j]? = some x → u[x]? = some j)) (.mk ⟨_, none, none, rfl, sm1.trans sm2, hq2', by simp, fun j x hj => absurd hj (Nat.not_lt_zero j)⟩) ?_ ?_ ?_
    · intro i σ H3 hP
      obtain ⟨u, s2, s3, rfl, sm3, hq3, hul, hu⟩ := hP.un
      exact Same.seq sm3 ha
    · intro i v T' σ H3 hv hP hT
      obtain ⟨u, s2, s3, rfl, sm3, hq3, hul, hu⟩ := hP.un
      rw [List.getElem?_map] at hv
      obtain ⟨x, hx, ev⟩ := Option.map_eq_some_iff.mp hv
      subst ev
      have hxl := ht.2 x (List.mem_of_getElem? hx)
      generalize hG : upd _ T' _ = H4
      obtain ⟨sm4, hq4⟩ := newO hG hT
      clear hG
      have hT4 : SqT K H4 T' [.int (i : Nat), .int (x : Nat)] := SqT.of hq4
      have h34 := sm4 _ _ hq3
      have hix : ixN (u.map vN).length (x : Nat) = some x := ixn_of (by rw [List.length_map]; omega) rfl
      walk_at "ev"
      refine .mk ⟨u.set x i, _, _, rfl, same_mut (sm3.trans sm4) f2, ?_, by rw [List.length_set]; exact hul, fun j y hj hy => ?_⟩
      · rw [upd_same, List.map_set]
      · by_cases c : j = i
        · subst c
          rw [hx] at hy
          cases hy
          rw [List.getElem?_set_self (by omega)]
        · have nxy : x ≠ y := fun z => by
            subst z
            exact c (ht.inj hy hx)
          rw [List.getElem?_set_ne nxy]
          exact hu j y (by omega) hy
    · intro σ H3 hP
      obtain ⟨u, s2, s3, rfl, sm3, hq3, hul, hu⟩ := hP.un
      walk_at "ev"
      refine q l2 u H3 ⟨hul, fun j x hj => hu j x ?_ hj⟩ f2 sm3 hq3
      rw [List.length_map]
      exact (List.getElem?_eq_some_iff.mp hj).1
end
section
variable {P : Program} {w : World} {K : PySem.W.Frag} {mg : Str → Option Value} {base : Heap}
def spInvOT (K : PySem.W.Frag) : Sp := fun vs H Q _ => ∃ (a : Addr) (t : List Nat), vs = [.ref a] ∧ SqT K H a (t.map vN) ∧ IsP t ∧ t.length ≤ 1000 ∧ ∀ p u H', InvOf t u → H p = none → Same H H' → H' p = some (.lst (u.map vN)) → Q (.ref p) H'
theorem ok_invOT {f : Addr} {fd : FuncData} {k : Nat} (F : Fun K "inverse_order" "inverse_order" s_inverse_order f fd) (T : Blt mg) : FnOk P w K mg base CX0 (k + 1) f fd P_inverse_order (spInvOT K) := by
  have nd := sc_inverse_order.nd
  refine F.ok sc_inverse_order (fun vs H Q E h => ?_) (fun cdv A outer s H vs Q E hr h => ?_)
  · obtain ⟨a, t, rfl, _⟩ := h
    rfl
  · obtain ⟨a, t, rfl, ha, ht, hlen, q⟩ := h
    refine ⟨_, (pss_cons (ps_set (i := 1) nd rfl (Or.inl rfl) (pe_op op_rep (pe_lst (pa_cons (pe_int) pa_nil)) (pe_callB (r := rLenQ K) call_len_seq (by rfl) T.b_len (by decide +kernel) (pa_cons (pv 0) pa_nil))))
      (pss_cons (ps_for PassesOwn.never rfl (pi_enumT (by rfl) T.b_enumerate (pa_cons (pv 0) pa_nil)) (pg_tup (by rfl) (pgs_cons (pg_name (i := 2) nd rfl (Or.inl rfl)) (pgs_cons (pg_name (i := 3) nd rfl (Or.inl rfl)) pgs_nil)))
      (pss_one (ps_asg (pv 2) (pg_sub (pv 1) (pv 3) set_list))))
      (pss_one (ps_ret (pv 1))))), ?_⟩
    have z1 : ([V.int 0] : List V).length * ((t.map vN).length : Int).toNat ≤ sizeLine := szl (by rw [List.length_map]; show 1 * _ ≤ 60000; omega)
    have z2 : ((t.map vN).length : Int) < 2 ^ 63 := by rw [List.length_map]; omega
    walk_at "ev"
    w_cond _1
    have ha1 := same_t sm1 ha
    walk_at "ev"
    w_cond _2
    have ha2 := same_t sm2 ha1
    have f2 : H l2 = none := sm1.free hl2
    have hq2' : H2 l2 = some (.lst ((List.replicate t.length 0).map vN)) := by
      rw [hq2, rep_flat, List.map_replicate, List.length_map]
      rfl
    walk_at "ev"
    refine for_enumT (K := K) (a := a) (xs := t.map vN) (fun i σ H' => Hold (∃ (u : List Nat) (s2 s3 : Option V), σ = [some (.ref a), some (.ref l2), s2, s3] ∧ Same H H' ∧ H' l2 = some (.lst (u.map vN)) ∧ u.length = t.length ∧ ∀ (j x : Nat), j < i → t[j]? = some x → u[x]? = some j)) (.mk ⟨_, none, none, rfl, sm1.trans sm2, hq2', by simp, fun j x hj => absurd hj (Nat.not_lt_zero j)⟩) ?_ ?_ ?_
    · intro i σ H3 hP
      obtain ⟨u, s2, s3, rfl, sm3, hq3, hul, hu⟩ := hP.un
      exact same_t sm3 ha
    · intro i v T' σ H3 hv hP hT
      obtain ⟨u, s2, s3, rfl, sm3, hq3, hul, hu⟩ := hP.un
      rw [List.getElem?_map] at hv
      obtain ⟨x, hx, ev⟩ := Option.map_eq_some_iff.mp hv
      subst ev
      have hxl := ht.2 x (List.mem_of_getElem? hx)
      generalize hG : upd _ T' _ = H4
      obtain ⟨sm4, hq4⟩ := newO hG hT
      clear hG
      have hT4 : SqT K H4 T' [.int (i : Nat), .int (x : Nat)] := SqT.of hq4
      have h34 := sm4 _ _ hq3
      have hix : ixN (u.map vN).length (x : Nat) = some x := ixn_of (by rw [List.length_map]; omega) rfl
      walk_at "ev"
      refine .mk ⟨u.set x i, _, _, rfl, same_mut (sm3.trans sm4) f2, ?_, by rw [List.length_set]; exact hul, fun j y hj hy => ?_⟩
      · rw [upd_same, List.map_set]
      · by_cases c : j = i
        · subst c
          rw [hx] at hy
          cases hy
          rw [List.getElem?_set_self (by omega)]
        · have nxy : x ≠ y := fun z => by
            subst z
            exact c (ht.inj hy hx)
          rw [List.getElem?_set_ne nxy]
          exact hu j y (by omega) hy
    · intro σ H3 hP
      obtain ⟨u, s2, s3, rfl, sm3, hq3, hul, hu⟩ := hP.un
      walk_at "ev"
      refine q l2 u H3 ⟨hul, fun j x hj => hu j x ?_ hj⟩ f2 sm3 hq3
      rw [List.length_map]
      exact (List.getElem?_eq_some_iff.mp hj).1
end
/-! ### rounds of an order -/
def itN (t : List Nat) (s : Nat) : Nat → Nat
  | 0 => s
  | i + 1 => t.getD (itN t s i) 0
theorem it_lt {t : List Nat} {s : Nat} (h : IsP t) (hs : s < t.length) : ∀ i : Nat, itN t s i < t.length
  | 0 => hs
  | i + 1 => by
    have ih := it_lt h hs i
    rw [itN, List.getD_eq_getElem?_getD, List.getElem?_eq_getElem ih]
    exact h.2 _ (List.getElem_mem ih)
theorem it_get {t : List Nat} {s : Nat} (h : IsP t) (hs : s < t.length) (i : Nat) : t[itN t s i]? = some (itN t s (i + 1)) := by
  rw [itN, List.getD_eq_getElem?_getD, List.getElem?_eq_getElem (it_lt h hs i)]
  rfl
theorem it_shift {t : List Nat} {s : Nat} (h : IsP t) (hs : s < t.length) : ∀ (i d : Nat), itN t s i = itN t s (i + d) → itN t s d = s
  | 0, d, e => by
    rw [Nat.zero_add] at e
    exact e.symm
  | i + 1, d, e => by
    refine it_shift h hs i d ?_
    have h1 := it_get h hs i
    have h2 := it_get h hs (i + d)
    rw [e, show i + 1 + d = i + d + 1 by omega] at h1
    exact h.inj h1 h2
theorem it_back {t : List Nat} {s : Nat} (h : IsP t) (hs : s < t.length) : ∃ r, 1 ≤ r ∧ r ≤ t.length ∧ itN t s r = s := by
  apply Classical.byContradiction
  intro c
  have hn : ((List.range (t.length + 1)).map (itN t s)).Nodup := by
    refine List.pairwise_iff_getElem.mpr fun i j hi hj hij e => ?_
    rw [List.getElem_map, List.getElem_map, List.getElem_range, List.getElem_range] at e
    rw [List.length_map, List.length_range] at hj
    exact c ⟨j - i, by omega, by omega, it_shift h hs i (j - i) (by rw [e, show i + (j - i) = j by omega])⟩
  have := pigeon t.length _ hn fun x hx => by
    obtain ⟨i, _, rfl⟩ := List.mem_map.mp hx
    exact it_lt h hs i
  rw [List.length_map, List.length_range] at this
  omega
/-- from s on it comes round behind m + 1 steps, no sooner -/
def Cyc (t : List Nat) (s m : Nat) : Prop := s < t.length ∧ itN t s (m + 1) = s ∧ ∀ j, 1 ≤ j → j ≤ m → itN t s j ≠ s
def CycL (t : List Nat) (H : Hp) (ps : List V) : Prop := ∀ v ∈ ps, ∃ (p : Addr) (s m : Nat), v = .ref p ∧ Cyc t s m ∧ m < t.length ∧ H p = some (.lst (((List.range (m + 1)).map (itN t s)).map vN))
theorem CycL.same {t : List Nat} {H H' : Hp} {ps : List V} (h : CycL t H ps) (e : Same H H') : CycL t H' ps := fun v hv => by
  obtain ⟨p, s, m, h1, h2, h3, h4⟩ := h v hv
  exact ⟨p, s, m, h1, h2, h3, e _ _ h4⟩
theorem CycL.mut {t : List Nat} {H : Hp} {ps : List V} {l : Addr} {o : HO} (h : CycL t H ps) (n : ∀ v ∈ ps, v ≠ .ref l) : CycL t (upd H l o) ps := fun v hv => by
  obtain ⟨p, s, m, h1, h2, h3, h4⟩ := h v hv
  have np : p ≠ l := fun z => n v hv (by rw [h1, z])
  exact ⟨p, s, m, h1, h2, h3, by rw [upd_ne np]; exact h4⟩
abbrev s_round_from : Stmt := top 5
abbrev N_round_from : List Str := ["order", "start", "told", "place"]
abbrev P_round_from : List Str := ["order", "start"]
theorem sc_round_from : FnScope N_round_from P_round_from (defScope s_round_from) := ⟨rfl, rfl, rfl, by decide +kernel, rfl, by decide +kernel, by decide +kernel⟩
section
variable {P : Program} {w : World} {K : PySem.W.Frag} {mg : Str → Option Value} {base : Heap}
def spRoundL (K : PySem.W.Frag) : Sp := fun vs H Q _ => ∃ (a : Addr) (t : List Nat) (s : Nat), vs = [.ref a, .int s] ∧ SqL K H a (t.map vN) ∧ IsP t ∧ t.length ≤ 60 ∧ s < t.length ∧ ∀ p m H', Cyc t s m → m < t.length → H p = none → Same H H' → H' p = some (.lst (((List.range (m + 1)).map (itN t s)).map vN)) → Q (.ref p) H'
theorem ok_roundL {f : Addr} {fd : FuncData} {k : Nat} (F : Fun K "round_from" "round_from" s_round_from f fd) (T : Blt mg) : FnOk P w K mg base CX0 (k + 1) f fd P_round_from (spRoundL K) := by
  have nd := sc_round_from.nd
  refine F.ok sc_round_from (fun vs H Q E h => ?_) (fun cdv A outer s H vs Q E hr h => ?_)
  · obtain ⟨a, t, s, rfl, _⟩ := h
    rfl
  · obtain ⟨a, t, st, rfl, ha, ht, hlen, hs, q⟩ := h
    refine ⟨_, (pss_cons (ps_set (i := 2) nd rfl (Or.inl rfl) (pe_lst (pa_cons (pv 1) pa_nil)))
      (pss_cons (ps_set (i := 3) nd rfl (Or.inl rfl) (pe_ix (r := rIxL K) ix_list (pv 0) (pv 1) (fun _ _ => rfl)))
      (pss_cons (ps_while PassesOwn.never (pt_cmpR op_ne (pv 3) (pv 1) (nomark _))
      (pss_cons (ps_expr (pe_bm PySem.F.plainAttrs_list PySem.F.slot_list_append PySem.F.type_list_append mt_append (pv 2) (pa_cons (pv 3) pa_nil)))
      (pss_one (ps_set (i := 3) nd rfl (Or.inl rfl) (pe_ix (r := rIxL K) ix_list (pv 0) (pv 3) (fun _ _ => rfl))))))
      (pss_one (ps_ret (pv 2)))))), ?_⟩
    obtain ⟨r, r1, r2, hret⟩ := it_back ht hs
    have atv : ∀ i : Nat, atI (t.map vN) ((itN t st i : Nat) : Int) = some (vN (itN t st (i + 1))) := fun i => by
      have hl := it_lt ht hs i
      refine at_of (j := itN t st i) rfl ?_
      rw [List.getElem?_map, itN, List.getD_eq_getElem?_getD, List.getElem?_eq_getElem hl]
      rfl
    have at0 := atv 0
    walk_at "ev"
    w_cond _1
    have ha1 := Same.seq sm1 ha
    have at0' : atI (t.map vN) ((st : Nat) : Int) = some (vN (itN t st 1)) := at0
    walk_at "ev"
    refine ⟨fun m σ H' => ∃ i : Nat, σ = [some (.ref a), some (.int st), some (.ref l1), some (vN (itN t st (i + 1)))] ∧ m = r - i ∧ i < r ∧ (∀ j, 1 ≤ j → j ≤ i → itN t st j ≠ st) ∧ Same H H' ∧ H' l1 = some (.lst (((List.range (i + 1)).map (itN t st)).map vN)), ⟨_, 0, rfl, rfl, by omega, fun j h1 h2 => by omega, sm1, hq1⟩, ?_⟩
    rintro m σ H2 ⟨i, rfl, rfl, hir, hno, sm2, hq2⟩
    walk_at "ev"
    by_cases c : itN t st (i + 1) = st
    · refine iteFe (by rw [c]; simp) ?_
      walk_at "ev"
      exact q l1 i H2 ⟨hs, c, hno⟩ (by omega) hl1 sm2 hq2
    · refine iteTe (by simp; omega) ?_
      refine ⟨_, holdN, ?_⟩
      have hir2 : i + 1 < r := by
        have : i + 1 ≠ r := fun z => c (by rw [z]; exact hret)
        omega
      have ty2 : tyV K "list" (.ref l1) H2 := .inl ⟨rfl, _, SqL.of hq2⟩
      have z2 : (((List.range (i + 1)).map (itN t st)).map vN).length < sizeLine := szm (by rw [List.length_map, List.length_map, List.length_range]; omega)
      have at2 := atv (i + 1)
      have nla : SqL K (upd H2 l1 (.lst (((List.range (i + 1)).map (itN t st)).map vN ++ [vN (itN t st (i + 1))]))) a (t.map vN) := Same.seq (same_mut sm2 hl1) ha
      walk_at "ev"
      refine .mk ⟨r - (i + 1), by omega, i + 1, rfl, rfl, hir2, fun j h1 h2 => ?_, same_mut sm2 hl1, ?_⟩
      · by_cases e : j = i + 1
        · rw [e]
          exact c
        · exact hno j h1 (by omega)
      · rw [upd_same, List.range_succ (n := i + 1), List.map_append, List.map_append]
        rfl
end
abbrev s_order_cycles : Stmt := top 6
abbrev N_order_cycles : List Str := ["order", "told", "seen", "start", "places", "place"]
abbrev P_order_cycles : List Str := ["order"]
theorem sc_order_cycles : FnScope N_order_cycles P_order_cycles (defScope s_order_cycles) := ⟨rfl, rfl, rfl, by decide +kernel, rfl, by decide +kernel, by decide +kernel⟩
section
variable {P : Program} {w : World} {K : PySem.W.Frag} {mg : Str → Option Value} {base : Heap}
def spCycL (K : PySem.W.Frag) : Sp := fun vs H Q _ => ∃ (a : Addr) (t : List Nat), vs = [.ref a] ∧ SqL K H a (t.map vN) ∧ IsP t ∧ t.length ≤ 60 ∧ ∀ l (ps : List V) H', ps.length ≤ t.length → CycL t H' ps → H l = none → Same H H' → H' l = some (.lst ps) → Q (.ref l) H'
theorem ok_cycL {f f1 : Addr} {fd d1 : FuncData} {k : Nat} (F : Fun K "order_cycles" "order_cycles" s_order_cycles f fd) (T : Blt mg) (D_round_from : Df K mg "round_from" s_round_from P_round_from f1 d1) : FnOk P w K mg base CX0 (k + 2) f fd P_order_cycles (spCycL K) := by
  have G_round_from : FnOk P w K mg base CX0 1 f1 d1 P_round_from (spRoundL K) := ok_roundL D_round_from.F T
  have nd := sc_order_cycles.nd
  refine F.ok sc_order_cycles (fun vs H Q E h => ?_) (fun cdv A outer s H vs Q E hr h => ?_)
  · obtain ⟨a, t, rfl, _⟩ := h
    rfl
  · obtain ⟨a, t, rfl, ha, ht, hlen, q⟩ := h
    refine ⟨_, (pss_cons (ps_set (i := 1) nd rfl (Or.inl rfl) (pe_lst pa_nil))
      (pss_cons (ps_set (i := 2) nd rfl (Or.inl rfl) (pe_callTy0 cr_set0 (by rfl) T.b_set (by decide +kernel)))
      (pss_cons (ps_for PassesOwn.never rfl (pi_range1 (by rfl) T.b_range (pa_cons (pe_callB (r := rLenQ K) call_len_seq (by rfl) T.b_len (by decide +kernel) (pa_cons (pv 0) pa_nil)) pa_nil)) (pg_name (i := 3) nd rfl (Or.inl rfl))
      (pss_cons (ps_if (PW.pt (pw_or (pt_cmpR or_sin (pv 3) (pv 2) (by rfl)) (pw_or1 (pt_cmpR op_eq (pe_ix (r := rIxL K) ix_list (pv 0) (pv 3) (fun _ _ => rfl)) (pv 3) (nomark _))))) (pss_one (ps_continue)) pss_nil)
      (pss_cons (ps_set (i := 4) nd rfl (Or.inl rfl) (pe_call G_round_from (hr.mono (by omega)) (by rfl) D_round_from.g D_round_from.F.kp D_round_from.b .nil pass0 (pa_cons (pv 0) (pa_cons (pv 3) pa_nil))))
      (pss_cons (ps_for PassesOwn.never rfl (pi_list (pv 4)) (pg_name (i := 5) nd rfl (Or.inl rfl))
      (pss_one (ps_expr (pe_sadd (pv 2) (pa_cons (pv 5) pa_nil)))))
      (pss_one (ps_expr (pe_bm PySem.F.plainAttrs_list PySem.F.slot_list_append PySem.F.type_list_append mt_append (pv 1) (pa_cons (pv 4) pa_nil))))))))
      (pss_one (ps_ret (pv 1)))))), ?_⟩
    walk_at "ev"
    w_cond _1
    walk_at "ev"
    w_cond _2
    have ha2 := Same.seq (sm1.trans sm2) ha
    have f2 : H l2 = none := sm1.free hl2
    have n12 : l1 ≠ l2 := ne_of_none hq1 hl2
    walk_at "ev"
    refine for_range (lo := 0) (n := _) (fun i σ H' => Hold (∃ (ps : List V) (S : Int → Bool) (n : Nat) (s3 s4 s5 : Option V), σ = [some (.ref a), some (.ref l1), some (.ref l2), s3, s4, s5] ∧ Same H H' ∧ ps.length ≤ i ∧ CycL t H' ps ∧ n ≤ 60 * i ∧ H' l1 = some (.lst ps) ∧ H' l2 = some (SetO w l2 S n) ∧ (∀ v ∈ ps, v ≠ .ref l1 ∧ v ≠ .ref l2))) (.mk ⟨[], _, 0, none, none, none, rfl, sm1.trans sm2, Nat.le_refl _, fun v hv => absurd hv (by simp), Nat.zero_le _, sm2 _ _ hq1, hq2, fun v hv => absurd hv (by simp)⟩) ?_ ?_
    · intro i σ H3 hi hP
      obtain ⟨ps, S, n, s3, s4, s5, rfl, sm3, hpl, hcy, hn, h13, h23, hpv⟩ := hP.un
      have hil : i < t.length := by
        rw [List.length_map] at hi
        omega
      have ha3 := Same.seq sm3 ha
      have hat : atI (t.map vN) (0 + (i : Int)) = some (vN (t.getD i 0)) := by
        refine at_of (j := i) (by omega) ?_
        rw [List.getElem?_map, List.getD_eq_getElem?_getD, List.getElem?_eq_getElem hil]
        rfl
      walk_at "ev"
      refine ite2 (fun c => ?_) (fun c => ?_)
      · walk_at "ev"
        exact .mk ⟨ps, S, n, _, _, _, rfl, sm3, by omega, hcy, by omega, h13, h23, hpv⟩
      · walk_at "ev"
        refine ite2 (fun c2 => ?_) (fun c2 => ?_)
        · walk_at "ev"
          exact .mk ⟨ps, S, n, _, _, _, rfl, sm3, by omega, hcy, by omega, h13, h23, hpv⟩
        · rw [show (0 : Int) + (i : Int) = ((i : Nat) : Int) by omega]
          walk_at "ev"
          intro p m H4 hc4 hm hp sm4 hq4
          have h14 := sm4 _ _ h13
          have h24 := sm4 _ _ h23
          have np1 : p ≠ l1 := (ne_of_none h13 hp).symm
          have np2 : p ≠ l2 := (ne_of_none h23 hp).symm
          have hcy4 : CycL t H4 ps := hcy.same sm4
          have hL4 := SqL.of (K := K) hq4
          have hll : (((List.range (m + 1)).map (itN t i)).map vN).length = m + 1 := by rw [List.length_map, List.length_map, List.length_range]
          walk_at "ev"
          refine ⟨⟨_, hL4⟩, ?_⟩
          refine for_list (K := K) (a := p) (xs := ((List.range (m + 1)).map (itN t i)).map vN) (fun j σ H' => Hold (∃ (S : Int → Bool) (n : Nat) (s5 : Option V), σ = [some (.ref a), some (.ref l1), some (.ref l2), some (.int (i : Nat)), some (.ref p), s5] ∧ Same H H' ∧ CycL t H' ps ∧ n ≤ 60 * i + j ∧ H' l1 = some (.lst ps) ∧ H' l2 = some (SetO w l2 S n) ∧ H' p = some (.lst (((List.range (m + 1)).map (itN t i)).map vN)))) (.mk ⟨S, n, _, rfl, sm3.trans sm4, hcy4, by omega, h14, h24, hq4⟩) ?_ ?_ ?_
          · intro j σ H5 hj hP5
            obtain ⟨S, n, t5, rfl, sm5, hc5, hn5, h15, h25, hp5⟩ := hP5.un
            exact SqL.of hp5
          · intro j v σ H5 hv hP5
            obtain ⟨S, n, t5, rfl, sm5, hc5, hn5, h15, h25, hp5⟩ := hP5.un
            have hjl := (List.getElem?_eq_some_iff.mp hv).1
            rw [hll] at hjl
            rw [List.getElem?_map] at hv
            obtain ⟨y, hy, ev⟩ := Option.map_eq_some_iff.mp hv
            subst ev
            have hsb : n + 1 < scanBound := by
              show n + 1 < 4096
              omega
            have hex : ∃ a S n, V.ref l2 = V.ref a ∧ H5 a = some (SetO w a S n) := ⟨l2, S, n, rfl, h25⟩
            walk_at "ev"
            refine .mk ⟨_, (if S ((y : Nat) : Int) = true then n else n + 1), _, rfl, same_mut sm5 f2, hc5.mut fun v hv => (hpv v hv).2, ?_, by rw [upd_ne n12]; exact h15, upd_same, by rw [upd_ne np2]; exact hp5⟩
            split <;> omega
          · intro σ H5 hP5
            obtain ⟨S, n, t5, rfl, sm5, hc5, hn5, h15, h25, hp5⟩ := hP5.un
            rw [hll] at hn5
            have ty5 : tyV K "list" (.ref l1) H5 := .inl ⟨rfl, _, SqL.of h15⟩
            have z5 : ps.length < sizeLine := szm (by omega)
            walk_at "ev"
            refine .mk ⟨ps ++ [.ref p], S, n, _, _, _, rfl, same_mut sm5 hl1, ?_, ?_, by omega, upd_same, by rw [upd_ne n12.symm]; exact h25, ?_⟩
            · rw [List.length_append]
              show ps.length + 1 ≤ i + 1
              omega
            · intro v hv
              rcases List.mem_append.mp hv with z | z
              · exact (hc5.mut fun v hv => (hpv v hv).1) v z
              · rw [List.mem_singleton.mp z]
                exact ⟨p, i, m, rfl, hc4, hm, by rw [upd_ne np1]; exact hp5⟩
            · intro v hv
              rcases List.mem_append.mp hv with z | z
              · exact hpv v z
              · rw [List.mem_singleton.mp z]
                exact ⟨fun e => np1 (V.ref.inj e), fun e => np2 (V.ref.inj e)⟩
    · intro σ H3 hP
      obtain ⟨ps, S, n, s3, s4, s5, rfl, sm3, hpl, hcy, hn, h13, h23, hpv⟩ := hP.un
      walk_at "ev"
      refine q l1 ps H3 ?_ hcy hl1 sm3 h13
      rw [List.length_map] at hpl
      omega
end
section
variable {P : Program} {w : World} {K : PySem.W.Frag} {mg : Str → Option Value} {base : Heap}
def spRoundT (K : PySem.W.Frag) : Sp := fun vs H Q _ => ∃ (a : Addr) (t : List Nat) (s : Nat), vs = [.ref a, .int s] ∧ SqT K H a (t.map vN) ∧ IsP t ∧ t.length ≤ 60 ∧ s < t.length ∧ ∀ p m H', Cyc t s m → m < t.length → H p = none → Same H H' → H' p = some (.lst (((List.range (m + 1)).map (itN t s)).map vN)) → Q (.ref p) H'
theorem ok_roundT {f : Addr} {fd : FuncData} {k : Nat} (F : Fun K "round_from" "round_from" s_round_from f fd) (T : Blt mg) : FnOk P w K mg base CX0 (k + 1) f fd P_round_from (spRoundT K) := by
  have nd := sc_round_from.nd
  refine F.ok sc_round_from (fun vs H Q E h => ?_) (fun cdv A outer s H vs Q E hr h => ?_)
  · obtain ⟨a, t, s, rfl, _⟩ := h
    rfl
  · obtain ⟨a, t, st, rfl, ha, ht, hlen, hs, q⟩ := h
    refine ⟨_, (pss_cons (ps_set (i := 2) nd rfl (Or.inl rfl) (pe_lst (pa_cons (pv 1) pa_nil)))
      (pss_cons (ps_set (i := 3) nd rfl (Or.inl rfl) (pe_ix (r := rIxT K) ix_tup (pv 0) (pv 1) (fun _ _ => rfl)))
      (pss_cons (ps_while PassesOwn.never (pt_cmpR op_ne (pv 3) (pv 1) (nomark _))
      (pss_cons (ps_expr (pe_bm PySem.F.plainAttrs_list PySem.F.slot_list_append PySem.F.type_list_append mt_append (pv 2) (pa_cons (pv 3) pa_nil)))
      (pss_one (ps_set (i := 3) nd rfl (Or.inl rfl) (pe_ix (r := rIxT K) ix_tup (pv 0) (pv 3) (fun _ _ => rfl))))))
      (pss_one (ps_ret (pv 2)))))), ?_⟩
    obtain ⟨r, r1, r2, hret⟩ := it_back ht hs
    have atv : ∀ i : Nat, atI (t.map vN) ((itN t st i : Nat) : Int) = some (vN (itN t st (i + 1))) := fun i => by
      have hl := it_lt ht hs i
      refine at_of (j := itN t st i) rfl ?_
      rw [List.getElem?_map, itN, List.getD_eq_getElem?_getD, List.getElem?_eq_getElem hl]
      rfl
    have at0 := atv 0
    walk_at "ev"
    w_cond _1
    have ha1 := same_t sm1 ha
    have at0' : atI (t.map vN) ((st : Nat) : Int) = some (vN (itN t st 1)) := at0
    walk_at "ev"
    refine ⟨fun m σ H' => ∃ i : Nat, σ = [some (.ref a), some (.int st), some (.ref l1), some (vN (itN t st (i + 1)))] ∧ m = r - i ∧ i < r ∧ (∀ j, 1 ≤ j → j ≤ i → itN t st j ≠ st) ∧ Same H H' ∧ H' l1 = some (.lst (((List.range (i + 1)).map (itN t st)).map vN)), ⟨_, 0, rfl, rfl, by omega, fun j h1 h2 => by omega, sm1, hq1⟩, ?_⟩
    rintro m σ H2 ⟨i, rfl, rfl, hir, hno, sm2, hq2⟩
    walk_at "ev"
    by_cases c : itN t st (i + 1) = st
    · refine iteFe (by rw [c]; simp) ?_
      walk_at "ev"
      exact q l1 i H2 ⟨hs, c, hno⟩ (by omega) hl1 sm2 hq2
    · refine iteTe (by simp; omega) ?_
      refine ⟨_, holdN, ?_⟩
      have hir2 : i + 1 < r := by
        have : i + 1 ≠ r := fun z => c (by rw [z]; exact hret)
        omega
      have ty2 : tyV K "list" (.ref l1) H2 := .inl ⟨rfl, _, SqL.of hq2⟩
      have z2 : (((List.range (i + 1)).map (itN t st)).map vN).length < sizeLine := szm (by rw [List.length_map, List.length_map, List.length_range]; omega)
      have at2 := atv (i + 1)
      have nla : SqT K (upd H2 l1 (.lst (((List.range (i + 1)).map (itN t st)).map vN ++ [vN (itN t st (i + 1))]))) a (t.map vN) := same_t (same_mut sm2 hl1) ha
      walk_at "ev"
      refine .mk ⟨r - (i + 1), by omega, i + 1, rfl, rfl, hir2, fun j h1 h2 => ?_, same_mut sm2 hl1, ?_⟩
      · by_cases e : j = i + 1
        · rw [e]
          exact c
        · exact hno j h1 (by omega)
      · rw [upd_same, List.range_succ (n := i + 1), List.map_append, List.map_append]
        rfl
end
section
variable {P : Program} {w : World} {K : PySem.W.Frag} {mg : Str → Option Value} {base : Heap}
def spCycT (K : PySem.W.Frag) : Sp := fun vs H Q _ => ∃ (a : Addr) (t : List Nat), vs = [.ref a] ∧ SqT K H a (t.map vN) ∧ IsP t ∧ t.length ≤ 60 ∧ ∀ l (ps : List V) H', ps.length ≤ t.length → CycL t H' ps → H l = none → Same H H' → H' l = some (.lst ps) → Q (.ref l) H'
theorem ok_cycT {f f1 : Addr} {fd d1 : FuncData} {k : Nat} (F : Fun K "order_cycles" "order_cycles" s_order_cycles f fd) (T : Blt mg) (D_round_from : Df K mg "round_from" s_round_from P_round_from f1 d1) : FnOk P w K mg base CX0 (k + 2) f fd P_order_cycles (spCycT K) := by
  have G_round_from : FnOk P w K mg base CX0 1 f1 d1 P_round_from (spRoundT K) := ok_roundT D_round_from.F T
  have nd := sc_order_cycles.nd
  refine F.ok sc_order_cycles (fun vs H Q E h => ?_) (fun cdv A outer s H vs Q E hr h => ?_)
  · obtain ⟨a, t, rfl, _⟩ := h
    rfl
  · obtain ⟨a, t, rfl, ha, ht, hlen, q⟩ := h
    refine ⟨_, (pss_cons (ps_set (i := 1) nd rfl (Or.inl rfl) (pe_lst pa_nil))
      (pss_cons (ps_set (i := 2) nd rfl (Or.inl rfl) (pe_callTy0 cr_set0 (by rfl) T.b_set (by decide +kernel)))
      (pss_cons (ps_for PassesOwn.never rfl (pi_range1 (by rfl) T.b_range (pa_cons (pe_callB (r := rLenQ K) call_len_seq (by rfl) T.b_len (by decide +kernel) (pa_cons (pv 0) pa_nil)) pa_nil)) (pg_name (i := 3) nd rfl (Or.inl rfl))
      (pss_cons (ps_if (PW.pt (pw_or (pt_cmpR or_sin (pv 3) (pv 2) (by rfl)) (pw_or1 (pt_cmpR op_eq (pe_ix (r := rIxT K) ix_tup (pv 0) (pv 3) (fun _ _ => rfl)) (pv 3) (nomark _))))) (pss_one (ps_continue)) pss_nil)
      (pss_cons (ps_set (i := 4) nd rfl (Or.inl rfl) (pe_call G_round_from (hr.mono (by omega)) (by rfl) D_round_from.g D_round_from.F.kp D_round_from.b .nil pass0 (pa_cons (pv 0) (pa_cons (pv 3) pa_nil))))
      (pss_cons (ps_for PassesOwn.never rfl (pi_list (pv 4)) (pg_name (i := 5) nd rfl (Or.inl rfl))
      (pss_one (ps_expr (pe_sadd (pv 2) (pa_cons (pv 5) pa_nil)))))
      (pss_one (ps_expr (pe_bm PySem.F.plainAttrs_list PySem.F.slot_list_append PySem.F.type_list_append mt_append (pv 1) (pa_cons (pv 4) pa_nil))))))))
      (pss_one (ps_ret (pv 1)))))), ?_⟩
    walk_at "ev"
    w_cond _1
    walk_at "ev"
    w_cond _2
    have ha2 := same_t (sm1.trans sm2) ha
    have f2 : H l2 = none := sm1.free hl2
    have n12 : l1 ≠ l2 := ne_of_none hq1 hl2
    walk_at "ev"
    refine for_range (lo := 0) (n := _) (fun i σ H' => Hold (∃ (ps : List V) (S : Int → Bool) (n : Nat) (s3 s4 s5 : Option V), σ = [some (.ref a), some (.ref l1), some (.ref l2), s3, s4, s5] ∧ Same H H' ∧ ps.length ≤ i ∧ CycL t H' ps ∧ n ≤ 60 * i ∧ H' l1 = some (.lst ps) ∧ H' l2 = some (SetO w l2 S n) ∧ (∀ v ∈ ps, v ≠ .ref l1 ∧ v ≠ .ref l2))) (.mk ⟨[], _, 0, none, none, none, rfl, sm1.trans sm2, Nat.le_refl _, fun v hv => absurd hv (by simp), Nat.zero_le _, sm2 _ _ hq1, hq2, fun v hv => absurd hv (by simp)⟩) ?_ ?_
    · intro i σ H3 hi hP
      obtain ⟨ps, S, n, s3, s4, s5, rfl, sm3, hpl, hcy, hn, h13, h23, hpv⟩ := hP.un
      have hil : i < t.length := by
        rw [List.length_map] at hi
        omega
      have ha3 := same_t sm3 ha
      have hat : atI (t.map vN) (0 + (i : Int)) = some (vN (t.getD i 0)) := by
        refine at_of (j := i) (by omega) ?_
        rw [List.getElem?_map, List.getD_eq_getElem?_getD, List.getElem?_eq_getElem hil]
        rfl
      walk_at "ev"
      refine ite2 (fun c => ?_) (fun c => ?_)
      · walk_at "ev"
        exact .mk ⟨ps, S, n, _, _, _, rfl, sm3, by omega, hcy, by omega, h13, h23, hpv⟩
      · walk_at "ev"
        refine ite2 (fun c2 => ?_) (fun c2 => ?_)
        · walk_at "ev"
          exact .mk ⟨ps, S, n, _, _, _, rfl, sm3, by omega, hcy, by omega, h13, h23, hpv⟩
        · rw [show (0 : Int) + (i : Int) = ((i : Nat) : Int) by omega]
          walk_at "ev"
          intro p m H4 hc4 hm hp sm4 hq4
          have h14 := sm4 _ _ h13
          have h24 := sm4 _ _ h23
          have np1 : p ≠ l1 := (ne_of_none h13 hp).symm
          have np2 : p ≠ l2 := (ne_of_none h23 hp).symm
          have hcy4 : CycL t H4 ps := hcy.same sm4
          have hL4 := SqL.of (K := K) hq4
          have hll : (((List.range (m + 1)).map (itN t i)).map vN).length = m + 1 := by rw [List.length_map, List.length_map, List.length_range]
          walk_at "ev"
          refine ⟨⟨_, hL4⟩, ?_⟩
          refine for_list (K := K) (a := p) (xs := ((List.range (m + 1)).map (itN t i)).map vN) (fun j σ H' => Hold (∃ (S : Int → Bool) (n : Nat) (s5 : Option V), σ = [some (.ref a), some (.ref l1), some (.ref l2), some (.int (i : Nat)), some (.ref p), s5] ∧ Same H H' ∧ CycL t H' ps ∧ n ≤ 60 * i + j ∧ H' l1 = some (.lst ps) ∧ H' l2 = some (SetO w l2 S n) ∧ H' p = some (.lst (((List.range (m + 1)).map (itN t i)).map vN)))) (.mk ⟨S, n, _, rfl, sm3.trans sm4, hcy4, by omega, h14, h24, hq4⟩) ?_ ?_ ?_
          · intro j σ H5 hj hP5
            obtain ⟨S, n, t5, rfl, sm5, hc5, hn5, h15, h25, hp5⟩ := hP5.un
            exact SqL.of hp5
          · intro j v σ H5 hv hP5
            obtain ⟨S, n, t5, rfl, sm5, hc5, hn5, h15, h25, hp5⟩ := hP5.un
            have hjl := (List.getElem?_eq_some_iff.mp hv).1
            rw [hll] at hjl
            rw [List.getElem?_map] at hv
            obtain ⟨y, hy, ev⟩ := Option.map_eq_some_iff.mp hv
            subst ev
            have hsb : n + 1 < scanBound := by
              show n + 1 < 4096
              omega
            have hex : ∃ a S n, V.ref l2 = V.ref a ∧ H5 a = some (SetO w a S n) := ⟨l2, S, n, rfl, h25⟩
            walk_at "ev"
            refine .mk ⟨_, (if S ((y : Nat) : Int) = true then n else n + 1), _, rfl, same_mut sm5 f2, hc5.mut fun v hv => (hpv v hv).2, ?_, by rw [upd_ne n12]; exact h15, upd_same, by rw [upd_ne np2]; exact hp5⟩
            split <;> omega
          · intro σ H5 hP5
            obtain ⟨S, n, t5, rfl, sm5, hc5, hn5, h15, h25, hp5⟩ := hP5.un
            rw [hll] at hn5
            have ty5 : tyV K "list" (.ref l1) H5 := .inl ⟨rfl, _, SqL.of h15⟩
            have z5 : ps.length < sizeLine := szm (by omega)
            walk_at "ev"
            refine .mk ⟨ps ++ [.ref p], S, n, _, _, _, rfl, same_mut sm5 hl1, ?_, ?_, by omega, upd_same, by rw [upd_ne n12.symm]; exact h25, ?_⟩
            · rw [List.length_append]
              show ps.length + 1 ≤ i + 1
              omega
            · intro v hv
              rcases List.mem_append.mp hv with z | z
              · exact (hc5.mut fun v hv => (hpv v hv).1) v z
              · rw [List.mem_singleton.mp z]
                exact ⟨p, i, m, rfl, hc4, hm, by rw [upd_ne np1]; exact hp5⟩
            · intro v hv
              rcases List.mem_append.mp hv with z | z
              · exact hpv v z
              · rw [List.mem_singleton.mp z]
                exact ⟨fun e => np1 (V.ref.inj e), fun e => np2 (V.ref.inj e)⟩
    · intro σ H3 hP
      obtain ⟨ps, S, n, s3, s4, s5, rfl, sm3, hpl, hcy, hn, h13, h23, hpv⟩ := hP.un
      walk_at "ev"
      refine q l1 ps H3 ?_ hcy hl1 sm3 h13
      rw [List.length_map] at hpl
      omega
end
theorem keep_fresh {b D : Addr} {H H' : Hp} {o : HO} (h : Keep b H H') (n : H D = none) : Keep b H (upd H' D o) := fun a u na e => by
  rw [upd_ne (ne_of_none e n)]
  exact h a u na e
theorem BoxAt.upd {H : Hp} {b D : Addr} {n : Int} {o : HO} (h : BoxAt H b n) (e : D ≠ b) : BoxAt (L2.upd H D o) b n := by
  obtain ⟨x, y, z, a1, a2⟩ := h
  exact ⟨x, y, z, by rw [upd_ne e.symm]; exact a1, a2⟩
theorem dpl {K : PySem.W.Frag} {H : Hp} {a : Addr} (ns : List Int) (h : SqL K H a (ns.map V.int)) : Dp K H (.ref a) (.list (ns.map PyData.int)) := .lst h (dp_ints ns)
theorem fitl (ns : List Int) (h : ns.length ≤ 4000) : Fit 1 (.list (ns.map PyData.int)) := by
  refine ⟨by rw [List.length_map]; exact h, fun e he => ?_⟩
  obtain ⟨c, _, rfl⟩ := List.mem_map.mp he
  exact True.intro
theorem fit_ni {x : Str} {a : Int} : Fit 1 (.tuple [.str x, .int a]) := by
  refine ⟨by simp, fun e he => ?_⟩
  simp only [List.mem_cons, List.not_mem_nil, or_false] at he
  rcases he with h | h <;> rw [h] <;> exact True.intro
abbrev s__law_shuffled : Stmt := top 13
abbrev N__law_shuffled : List Str := ["_law_box_here", "_law_count", "_law_some", "_law_way", "_law_found", "_law_turn", "_law_one"]
abbrev P__law_shuffled : List Str := ["_law_box_here", "_law_count"]
theorem sc__law_shuffled : FnScope N__law_shuffled P__law_shuffled (defScope s__law_shuffled) := ⟨rfl, rfl, rfl, by decide +kernel, rfl, by decide +kernel, by decide +kernel⟩
def spShuf : Sp := fun vs H Q _ => ∃ (b : Addr) (c : Nat) (n : Int), vs = [.ref b, .int c] ∧ BoxAt H b n ∧ n < 900000 ∧ 1 ≤ c ∧ c ≤ 60 ∧ ∀ p t H', IsP t → t.length = c → H p = none → Keep b H H' → BoxAt H' b (n + 70) → H' p = some (.lst (t.map vN)) → Q (.ref p) H'
theorem rg_vN (n : Nat) : rgV 0 (n : Int) = (List.range n).map vN := by
  unfold rgV
  rw [Int.sub_zero]
  refine List.map_congr_left fun i _ => ?_
  show V.int (0 + (i : Int)) = V.int (i : Int)
  rw [Int.zero_add]
def swp (c i : Nat) : Nat := if i + 1 < c ∨ i % 2 = 1 then i + 1 - 2 * (i % 2) else i
theorem swp_p (c : Nat) : IsP ((List.range c).map (swp c)) := by
  refine ⟨List.pairwise_iff_getElem.mpr fun i j hi hj hij e => ?_, fun x hx => ?_⟩
  · rw [List.length_map, List.length_range] at hi hj
    rw [List.getElem_map, List.getElem_map, List.getElem_range, List.getElem_range] at e
    unfold swp at e
    split at e <;> split at e <;> omega
  · obtain ⟨i, hi, rfl⟩ := List.mem_map.mp hx
    have := List.mem_range.mp hi
    rw [List.length_map, List.length_range]
    unfold swp
    split <;> omega
theorem er_map {f : Nat → V} : ∀ (l : List Nat) (k : Nat), (l.map f).eraseIdx k = (l.eraseIdx k).map f
  | [], _ => rfl
  | _ :: _, 0 => rfl
  | x :: l, k + 1 => by
    rw [List.map_cons, List.eraseIdx_cons_succ, List.eraseIdx_cons_succ, er_map l k, List.map_cons]
theorem er_perm : ∀ (l : List Nat) (k x : Nat), l[k]? = some x → (x :: l.eraseIdx k).Perm l
  | [], _, _, h => by simp at h
  | y :: l, 0, x, h => by
    cases Option.some.inj h
    exact List.Perm.refl _
  | y :: l, k + 1, x, h => by
    rw [List.eraseIdx_cons_succ]
    exact (List.Perm.swap y x _).trans ((er_perm l k x h).cons y)
section
variable {P : Program} {w : World} {K : PySem.W.Frag} {mg : Str → Option Value} {base : Heap}
theorem ok_shuf {f f1 : Addr} {fd d1 : FuncData} {k : Nat} (F : Fun K "_law_shuffled" "_law_shuffled" s__law_shuffled f fd) (T : Blt mg) (D__law_take : Df K mg "_law_take" s__law_take P__law_take f1 d1) : FnOk P w K mg base CX0 (k + 2) f fd P__law_shuffled spShuf := by
  have G__law_take : FnOk P w K mg base CX0 1 f1 d1 P__law_take spTake := ok_take D__law_take.F
  have nd := sc__law_shuffled.nd
  refine F.ok sc__law_shuffled (fun vs H Q E h => ?_) (fun cdv A outer s H vs Q E hr h => ?_)
  · obtain ⟨b, c, n, rfl, _⟩ := h
    rfl
  · obtain ⟨b, c, n, rfl, hb, hn, c1, c60, q⟩ := h
    refine ⟨_, (pss_cons (ps_par (i := 2) (j := 3) (by rfl) nd rfl rfl (by decide) rfl rfl (pa_cons (pe_listRg (by rfl) (by rfl) T.b_list (prg_1 (by rfl) T.b_range (pv 1))) (pa_cons (pe_call G__law_take (hr.mono (by omega)) (by rfl) D__law_take.g D__law_take.F.kp D__law_take.b .nil pass0 (pa_cons (pv 0) (pa_cons (pe_int) pa_nil))) pa_nil)) (by rfl))
      (pss_cons (ps_if (pt_cmpR op_eq (pv 3) (pe_int) (nomark _)) (pss_one (ps_ret (pv 2))) pss_nil)
      (pss_cons (ps_if (pt_cmpR op_eq (pv 3) (pe_int) (nomark _)) (pss_one (ps_ret (pe_op op_cat (pe_slice (r := rSlL K) sl_list (pv 2) (po_some (pe_int)) po_none) (pe_slice (r := rSlL K) sl_list (pv 2) po_none (po_some (pe_int)))))) pss_nil)
      (pss_cons (ps_if (pt_cmpR op_eq (pv 3) (pe_int) (nomark _)) (pss_one (ps_ret (pe_lc (own := [("_law_one", 6)]) (g := gName 6) (by rfl) nd (pi_list (pv 2)) (blkOk_by (own := [("_law_one", 6)]) (N := N__law_shuffled) (sc := defScope s__law_shuffled) (by decide +kernel)) (fun _ _ _ _ _ => (pg_name (i := 6) nd rfl (Or.inl rfl))) (fun _ _ _ _ _ => pts_nil) (fun _ _ _ _ _ => (pe_ifExp (PW.pt (pw_or (pt_cmpR op_lt (pe_op op_add (pv 6) (pe_int)) (pv 1) (nomark _)) (pw_or1 (pt_cmpR op_eq (pe_op op_mod (pv 6) (pe_int)) (pe_int) (nomark _))))) (pe_op op_sub (pe_op op_add (pv 6) (pe_int)) (pe_op op_mul (pe_int) (pe_op op_mod (pv 6) (pe_int)))) (pv 6)))))) pss_nil)
      (pss_cons (ps_set (i := 4) nd rfl (Or.inl rfl) (pe_lst pa_nil))
      (pss_cons (ps_for PassesOwn.never rfl (pi_range1 (by rfl) T.b_range (pa_cons (pv 1) pa_nil)) (pg_name (i := 5) nd rfl (Or.inl rfl))
      (pss_one (ps_expr (pe_bm PySem.F.plainAttrs_list PySem.F.slot_list_append PySem.F.type_list_append mt_append (pv 4) (pa_cons (pe_bm PySem.F.plainAttrs_list PySem.F.slot_list_pop PySem.F.type_list_pop mt_popAt (pv 2) (pa_cons (pe_call G__law_take (hr.mono (by omega)) (by rfl) D__law_take.g D__law_take.F.kp D__law_take.b .nil pass0 (pa_cons (pv 0) (pa_cons (pe_callB (r := rLenQ K) call_len_seq (by rfl) T.b_len (by decide +kernel) (pa_cons (pv 2) pa_nil)) pa_nil))) pa_nil)) pa_nil)))))
      (pss_one (ps_ret (pv 4))))))))), ?_⟩
    walk_at "ev"
    refine ⟨RgOk.of_le (by decide) (by omega) (by decide) (by omega), ?_⟩
    w_cond _1
    rw [rg_vN] at hq1
    have n1b := hb.ne hl1
    have hb1 := hb.same sm1
    walk_at "ev"
    intro r2 H2 r20 r21 k2 hb2
    have h12 := k2 _ _ n1b hq1
    have hL2 := SqL.of (K := K) h12
    have k02 : Keep b H H2 := (keepS sm1).trans k2
    walk_at "ev"
    refine ite2 (fun e => ?_) (fun e => ?_)
    · walk_at "ev"
      obtain ⟨p1, p2⟩ := IsP.of_perm (List.Perm.refl (List.range c))
      exact q l1 _ H2 p1 p2 hl1 k02 (hb2.mono (by omega)) h12
    walk_at "ev"
    refine ite2 (fun e => ?_) (fun e => ?_)
    · walk_at "ev"
      w_cond _3
      have hL3 := sm3.seq hL2
      walk_at "ev"
      w_cond _4
      have e1 : cutV ((List.range c).map vN) (some 1) none = ((List.range c).drop 1).map vN := by
        have z : cutV ((List.range c).map vN) (some 1) none = (((List.range c).map vN).drop (min 1 ((List.range c).map vN).length)).take (((List.range c).map vN).length - min 1 ((List.range c).map vN).length) := rfl
        rw [z, List.length_map, List.length_range, Nat.min_eq_left c1, List.take_of_length_le (by rw [List.length_drop, List.length_map, List.length_range]; omega), List.map_drop]
      have e2 : cutV ((List.range c).map vN) none (some 1) = ((List.range c).take 1).map vN := by
        have z : cutV ((List.range c).map vN) none (some 1) = ((List.range c).map vN).take (min 1 ((List.range c).map vN).length) := rfl
        rw [z, List.length_map, List.length_range, Nat.min_eq_left c1, List.map_take]
      rw [e1] at hq3
      rw [e2] at hq4
      have h34 := sm4 _ _ hq3
      have z4 : (((List.range c).drop 1).map vN).length + (((List.range c).take 1).map vN).length ≤ sizeLine := szl (by simp; omega)
      walk_at "ev"
      w_cond _5
      have hp : ((List.range c).drop 1 ++ (List.range c).take 1).Perm (List.range c) := by
        have := List.perm_append_comm (l₁ := (List.range c).drop 1) (l₂ := (List.range c).take 1)
        rw [List.take_append_drop] at this
        exact this
      obtain ⟨p1, p2⟩ := IsP.of_perm hp
      have s25 := sm3.trans (sm4.trans sm5)
      have n5 : H l5 = none := by
        cases z : H l5 with
        | none => rfl
        | some o =>
          have n5b : l5 ≠ b := (hb2.same (sm3.trans sm4)).ne hl5
          have z2 := (sm3.trans sm4) _ _ (k02 _ _ n5b z)
          rw [hl5] at z2
          cases z2
      exact q l5 _ H5 p1 p2 n5 (k02.trans (keepS s25)) ((hb2.same s25).mono (by omega)) (by rw [hq5, List.map_append])
    walk_at "ev"
    refine ite2 (fun e => ?_) (fun e => ?_)
    · walk_at "ev"
      refine ⟨⟨_, hL2⟩, fun D hD => ?_⟩
      refine lc_list (K := K) (a := l1) (xs := (List.range c).map vN) (fun j H' => Hold (Same H2 H' ∧ H' D = some (.lst (((List.range j).map (swp c)).map vN)))) (.mk ⟨same_new hD, upd_same⟩) ?_ ?_ ?_
      · intro j H3 hj hP
        obtain ⟨sm3, hD3⟩ := hP.un
        exact sm3.seq hL2
      · intro j v H3 hv hP
        obtain ⟨sm3, hD3⟩ := hP.un
        have hjl := (List.getElem?_eq_some_iff.mp hv).1
        rw [List.length_map, List.length_range] at hjl
        rw [List.getElem?_map, List.getElem?_range hjl] at hv
        cases Option.some.inj hv
        have hsz : (((List.range j).map (swp c)).map vN).length < sizeLine := szm (by rw [List.length_map, List.length_map, List.length_range]; omega)
        have fin : ∀ z : Int, z = ((swp c j : Nat) : Int) → Hold (Same H2 (upd H3 D (.lst (((List.range j).map (swp c)).map vN ++ [V.int z]))) ∧ upd H3 D (.lst (((List.range j).map (swp c)).map vN ++ [V.int z])) D = some (.lst (((List.range (j + 1)).map (swp c)).map vN))) := fun z hz => by
          refine .mk ⟨same_mut sm3 hD, ?_⟩
          rw [upd_same, List.range_succ, List.map_append, List.map_append, hz]
          rfl
        have cm : CMul 2 ((j : Int) % 2) := .inl ⟨by omega, by omega⟩
        walk_at "ev"
        refine ite2 (fun c2 => ?_) (fun c2 => ?_)
        · have c3 : j + 1 < c := by
            have := of_decide_eq_true c2
            omega
          walk_at "ev"
          refine fin _ ?_
          unfold swp
          rw [if_pos (.inl c3)]
          omega
        · have c3 : ¬ j + 1 < c := fun z => c2 (decide_eq_true (by omega))
          walk_at "ev"
          refine ite2 (fun c4 => ?_) (fun c4 => ?_)
          · have c5 : j % 2 = 1 := by
              have := V.int.inj (of_decide_eq_true c4)
              omega
            walk_at "ev"
            refine fin _ ?_
            unfold swp
            rw [if_pos (.inr c5)]
            omega
          · have c5 : ¬ j % 2 = 1 := fun z => c4 (decide_eq_true (congrArg V.int (by omega)))
            walk_at "ev"
            refine fin _ ?_
            unfold swp
            rw [if_neg (by omega)]
      intro H3 hP
      obtain ⟨sm3, hD3⟩ := hP.un
      rw [List.length_map, List.length_range] at hD3
      have nD : H D = none := by
        cases z : H D with
        | none => rfl
        | some o =>
          have z2 := k02 _ _ (hb2.ne hD) z
          rw [hD] at z2
          cases z2
      exact q D _ H3 (swp_p c) (by simp) nD (k02.trans (keepS sm3)) ((hb2.same sm3).mono (by omega)) hD3
    walk_at "ev"
    w_cond _3
    have n3b := hb2.ne hl3
    have n13 : l1 ≠ l3 := ne_of_none h12 hl3
    have f3 : H l3 = none := by
      cases z : H l3 with
      | none => rfl
      | some o =>
        have z2 := k02 _ _ n3b z
        rw [hl3] at z2
        cases z2
    walk_at "ev"
    refine for_range (lo := 0) (n := _) (fun i σ H' => Hold (∃ (fo re : List Nat) (s5 : Option V), σ = [some (.ref b), some (.int c), some (.ref l1), some (.int r2), some (.ref l3), s5, none] ∧ fo.length = i ∧ (fo ++ re).Perm (List.range c) ∧ Keep b H H' ∧ BoxAt H' b (n + 1 + (i : Int)) ∧ H' l1 = some (.lst (re.map vN)) ∧ H' l3 = some (.lst (fo.map vN)))) (.mk ⟨[], List.range c, _, rfl, rfl, List.Perm.refl _, k02.trans (keepS sm3), (hb2.same sm3).mono (by omega), sm3 _ _ h12, hq3⟩) ?_ ?_
    · intro i σ H4 hi hP
      obtain ⟨fo, re, s5, rfl, hfl, hper, k4, hb4, h14, h34⟩ := hP.un
      have hic : i < c := by omega
      have hrl : re.length = c - i := by
        have := hper.length_eq
        rw [List.length_append, List.length_range] at this
        omega
      have ty4 : tyV K "list" (.ref l3) H4 := .inl ⟨rfl, _, SqL.of h34⟩
      have ty4' : tyV K "list" (.ref l1) H4 := .inl ⟨rfl, _, SqL.of h14⟩
      have hL4 := SqL.of (K := K) h14
      have hl4 : ((re.map vN).length : Int) = ((c - i : Nat) : Int) := by rw [List.length_map, hrl]
      walk_at "ev"
      intro r H5 r0 r1 k5 hb5
      rw [hl4] at r1
      have h15 := k5 _ _ n1b h14
      have h35 := k5 _ _ n3b h34
      obtain ⟨x, hx⟩ : ∃ x, re[r.toNat]? = some x := ⟨_, List.getElem?_eq_getElem (by omega)⟩
      have hix : seqIndex? r (re.map vN).length = some r.toNat := by
        rw [List.length_map]
        exact seqIndex_of r0 (by omega)
      have hat : (re.map vN)[r.toNat]? = some (vN x) := by
        rw [List.getElem?_map, hx]
        rfl
      have h36 : upd H5 l1 (.lst ((re.map vN).eraseIdx r.toNat)) l3 = some (.lst (fo.map vN)) := by
        rw [upd_ne n13.symm]
        exact h35
      have zf : (fo.map vN).length < sizeLine := szm (by rw [List.length_map]; omega)
      walk_at "ev"
      refine .mk ⟨fo ++ [x], re.eraseIdx r.toNat, _, rfl, by simp [hfl], ?_, keep_fresh (keep_fresh (k4.trans k5) hl1) f3, ((hb5.upd n1b).upd n3b).mono (by omega), ?_, ?_⟩
      · rw [List.append_assoc]
        refine List.Perm.trans ?_ hper
        exact List.Perm.append_left fo (er_perm re r.toNat x hx)
      · rw [upd_ne n13, upd_same, er_map]
      · rw [upd_same, List.map_append]
        rfl
    · intro σ H4 hP
      obtain ⟨fo, re, s5, rfl, hfl, hper, k4, hb4, h14, h34⟩ := hP.un
      have hre : re = [] := by
        have := hper.length_eq
        rw [List.length_append, List.length_range] at this
        exact List.eq_nil_of_length_eq_zero (by omega)
      rw [hre, List.append_nil] at hper
      obtain ⟨p1, p2⟩ := IsP.of_perm hper
      walk_at "ev"
      exact q l3 fo H4 p1 p2 f3 k4 (hb4.mono (by omega)) h34
end
abbrev s__law_pick : Stmt := top 10
abbrev N__law_pick : List Str := ["_law_box_here", "_law_things"]
abbrev P__law_pick : List Str := ["_law_box_here", "_law_things"]
theorem sc__law_pick : FnScope N__law_pick P__law_pick (defScope s__law_pick) := ⟨rfl, rfl, rfl, by decide +kernel, rfl, by decide +kernel, by decide +kernel⟩
def spPick (K : PySem.W.Frag) : Sp := fun vs H Q _ => ∃ (b a : Addr) (xs : List V) (n : Int), vs = [.ref b, .ref a] ∧ BoxAt H b n ∧ SqL K H a xs ∧ a ≠ b ∧ 0 < (xs.length : Int) ∧ (xs.length : Int) < 1048576 ∧ n < 1048576 ∧ ∀ v H', v ∈ xs → Keep b H H' → BoxAt H' b (n + 1) → Q v H'
section
variable {P : Program} {w : World} {K : PySem.W.Frag} {mg : Str → Option Value} {base : Heap}
theorem ok_pick {f fT : Addr} {fd fdT : FuncData} {k : Nat} (F : Fun K "_law_pick" "_law_pick" s__law_pick f fd) (T : Blt mg) (D__law_take : Df K mg "_law_take" s__law_take P__law_take fT fdT) : FnOk P w K mg base CX0 (k + 2) f fd P__law_pick (spPick K) := by
  have G__law_take : FnOk P w K mg base CX0 (k + 1) fT fdT P__law_take spTake := ok_take D__law_take.F
  have nd := sc__law_pick.nd
  refine F.ok sc__law_pick (fun vs H Q E h => ?_) (fun cdv A outer s H vs Q E hr h => ?_)
  · obtain ⟨b, a, xs, n, rfl, _⟩ := h
    rfl
  · obtain ⟨b, a, xs, n, rfl, hb, hL, hne, h0, h1, hn, q⟩ := h
    refine ⟨_, (pss_one (ps_ret (pe_ix (r := rIxL K) ix_list (pv 1) (pe_call G__law_take (hr.mono (by omega)) (by rfl) D__law_take.g D__law_take.F.kp D__law_take.b .nil pass0 (pa_cons (pv 0) (pa_cons (pe_callB (r := rLenQ K) call_len_seq (by rfl) T.b_len (by decide +kernel) (pa_cons (pv 1) pa_nil)) pa_nil))) (fun _ _ => rfl)))), ?_⟩
    walk_at "ev"
    intro r H' hr0 hr1 hk hb'
    obtain ⟨v, hv, hat⟩ := at_some hr0 hr1
    have hL' := hk.seq hne hL
    walk_at "ev"
    exact q _ _ hv hk hb'
end
theorem srt_ext : ∀ {l m : List Int}, l.Pairwise (· < ·) → m.Pairwise (· < ·) → (∀ k, k ∈ l ↔ k ∈ m) → l = m
  | [], [], _, _, _ => rfl
  | [], y :: m, _, _, h => by
    have := (h y).mpr List.mem_cons_self
    simp at this
  | x :: l, [], _, _, h => by
    have := (h x).mp List.mem_cons_self
    simp at this
  | x :: l, y :: m, hl, hm, h => by
    obtain ⟨hx, hl'⟩ := List.pairwise_cons.mp hl
    obtain ⟨hy, hm'⟩ := List.pairwise_cons.mp hm
    have e : x = y := by
      have a1 := (h x).mp List.mem_cons_self
      have a2 := (h y).mpr List.mem_cons_self
      rcases List.mem_cons.mp a1 with e | e
      · exact e
      · rcases List.mem_cons.mp a2 with e2 | e2
        · exact e2.symm
        · have := hy x e
          have := hx y e2
          omega
    subst e
    rw [srt_ext hl' hm' fun k => ?_]
    constructor
    · intro hk
      rcases List.mem_cons.mp ((h k).mp (List.mem_cons_of_mem _ hk)) with e | e
      · have := hx k hk
        omega
      · exact e
    · intro hk
      rcases List.mem_cons.mp ((h k).mpr (List.mem_cons_of_mem _ hk)) with e | e
      · have := hy k hk
        omega
      · exact e
abbrev s_is_whole : Stmt := top 1
abbrev N_is_whole : List Str := ["thing"]
abbrev P_is_whole : List Str := ["thing"]
theorem sc_is_whole : FnScope N_is_whole P_is_whole (defScope s_is_whole) := ⟨rfl, rfl, rfl, by decide +kernel, rfl, by decide +kernel, by decide +kernel⟩
def spWhole (K : PySem.W.Frag) : Sp := fun vs H Q _ => ∃ (x : V) (t : String), vs = [x] ∧ Kd K H x t ∧ Q (.bl (t == "int")) H
section
variable {P : Program} {w : World} {K : PySem.W.Frag} {mg : Str → Option Value} {base : Heap}
theorem ok_whole {f : Addr} {fd : FuncData} {k : Nat} (F : Fun K "is_whole" "is_whole" s_is_whole f fd) (T : Blt mg) : FnOk P w K mg base CX0 (k + 1) f fd P_is_whole (spWhole K) := by
  have nd := sc_is_whole.nd
  refine F.ok sc_is_whole (fun vs H Q E h => ?_) (fun cdv A outer s H vs Q E hr h => ?_)
  · obtain ⟨x, t, rfl, _⟩ := h
    rfl
  · obtain ⟨x, t, rfl, kd, q⟩ := h
    refine ⟨_, (pss_one (ps_ret (pe_and (pe_callB (r := rIsi K) call_isi (by rfl) T.b_isinstance (by decide +kernel) (pa_cons (pv 0) (pa_cons (pe_bltn (v := .ty "int") (by rfl) T.b_int (by decide +kernel) rfl) pa_nil))) (pe_one (pe_not (pe_callB (r := rIsi K) call_isi (by rfl) T.b_isinstance (by decide +kernel) (pa_cons (pv 0) (pa_cons (pe_bltn (v := .ty "bool") (by rfl) T.b_bool (by decide +kernel) rfl) pa_nil)))))))), ?_⟩
    have ty := kd.ty
    obtain ⟨k1, k2, k3, k4, k5⟩ := kd.kit
    walk_at "ev"
    cases kd
    all_goals (walk_at "ev"; exact q)
end
/-! ### repr of lists and tuples in one another, whatever repr is under way around them -/
section
open PySem.Spec PyProof.Rows
/-- things with their addresses -/
inductive AT where
  | leaf (d : PyData)
  | lst (a : Addr) (l : List AT)
  | tup (a : Addr) (l : List AT)
mutual
inductive Ap (K : PySem.W.Frag) (H : Hp) : V → AT → Prop
  | non : Ap K H .non (.leaf .none)
  | bl (b : Bool) : Ap K H (.bl b) (.leaf (.bool b))
  | int (i : Int) : Ap K H (.int i) (.leaf (.int i))
  | str (x : Str) : Ap K H (.str x) (.leaf (.str x))
  | lst {a : Addr} {xs : List V} {l : List AT} : SqL K H a xs → ApAll K H xs l → Ap K H (.ref a) (.lst a l)
  | tup {a : Addr} {xs : List V} {l : List AT} : SqT K H a xs → ApAll K H xs l → Ap K H (.ref a) (.tup a l)
inductive ApAll (K : PySem.W.Frag) (H : Hp) : List V → List AT → Prop
  | nil : ApAll K H [] []
  | cons {v : V} {vs : List V} {t : AT} {l : List AT} : Ap K H v t → ApAll K H vs l → ApAll K H (v :: vs) (t :: l)
end
/-- list.__repr__'s loop over this very list is under way -/
def loopF (self : Value) : Code × Pos → Bool := fun
  | (.builtin "list.__repr__.loop" ⟨v :: _, _⟩, _) => Builtin.List.listSameRef v self
  | _ => false
theorem loopF_pos (self : Value) (c : Code) (p : Pos) : loopF self (c, p) = loopF self (c, default) := by
  unfold loopF
  split
  · next v r k q heq =>
    cases heq
    rfl
  · next h =>
    split
    · next v r k q heq =>
      cases heq
      exact absurd rfl (h v r k p)
    · rfl
theorem loopF_off (self : Value) (c : Code) (p : Pos) (h : c.isGuard = false) : loopF self (c, p) = false := by
  unfold loopF
  split
  · next v r k q heq =>
    cases heq
    simp [Code.isGuard, guardIds] at h
  · rfl
def blkL (g : List Code) (b : Addr) : Bool := g.any fun c => loopF (.ref b) (c, default)
def blkT (g : List Code) (b : Addr) : Bool := g.any fun c => tupGuardF (.ref b) (c, default)
mutual
def AT.data : AT → PyData
  | .leaf d => d
  | .lst _ l => .list (AT.dataAll l)
  | .tup _ l => .tuple (AT.dataAll l)
def AT.dataAll : List AT → List PyData
  | [] => []
  | t :: l => AT.data t :: AT.dataAll l
end
mutual
def AT.txt (g : List Code) : AT → Str
  | .leaf d => d.shown
  | .lst _ [] => "[]"
  | .lst a (t :: l) => if blkL g a then "[...]" else listText (AT.txt g t :: AT.txtAll g l)
  | .tup a l => if blkT g a then "(...)" else tupleText (AT.txtAll g l)
def AT.txtAll (g : List Code) : List AT → List Str
  | [] => []
  | t :: l => AT.txt g t :: AT.txtAll g l
end
/-! how long it may come to be -/
mutual
def AT.wid : AT → Nat
  | .leaf d => d.shown.length
  | .lst _ l => 6 + AT.widAll l
  | .tup _ l => 6 + AT.widAll l
def AT.widAll : List AT → Nat
  | [] => 0
  | t :: l => AT.wid t + 2 + AT.widAll l
end
theorem txtAll_sum (g : List Code) : ∀ (l : List AT), (∀ t ∈ l, (AT.txt g t).length ≤ AT.wid t) → ((AT.txtAll g l).map (·.length)).sum + 2 * (AT.txtAll g l).length ≤ AT.widAll l
  | [], _ => by simp [AT.txtAll, AT.widAll]
  | t :: l, h => by
    have h1 := h t List.mem_cons_self
    have h2 := txtAll_sum g l fun u hu => h u (List.mem_cons_of_mem _ hu)
    simp only [AT.txtAll, AT.widAll, List.map_cons, List.sum_cons, List.length_cons]
    omega
mutual
theorem txt_wid (g : List Code) : ∀ t : AT, (AT.txt g t).length ≤ AT.wid t
  | .leaf d => by rw [AT.txt, AT.wid]; exact Nat.le_refl _
  | .lst a [] => by
    rw [AT.txt, AT.wid]
    have : (("[]" : String) : Str).length = 2 := rfl
    omega
  | .lst a (t :: l) => by
    rw [AT.txt, AT.wid]
    split
    · have : (("[...]" : String) : Str).length = 5 := rfl
      omega
    · have h := listText_len_le (AT.txt g t :: AT.txtAll g l)
      have h2 := txtAll_sum g (t :: l) (txt_widAll g (t :: l))
      rw [AT.txtAll] at h2
      omega
  | .tup a l => by
    rw [AT.txt, AT.wid]
    split
    · have : (("(...)" : String) : Str).length = 5 := rfl
      omega
    · have h := tupleText_len_le (AT.txtAll g l)
      have h2 := txtAll_sum g l (txt_widAll g l)
      omega
theorem txt_widAll (g : List Code) : ∀ l : List AT, ∀ t ∈ l, (AT.txt g t).length ≤ AT.wid t
  | [], _, h => nomatch h
  | u :: l, t, h => by
    rcases List.mem_cons.mp h with e | h
    · rw [e]
      exact txt_wid g u
    · exact txt_widAll g l t h
end
def Agr (g0 g : List Code) (as : List Addr) : Prop := ∀ b ∈ as, blkL g b = blkL g0 b ∧ blkT g b = blkT g0 b
theorem Agr.refl (g : List Code) (as : List Addr) : Agr g g as := fun _ _ => ⟨rfl, rfl⟩
theorem ref_beq {a b : Addr} (n : a ≠ b) : (Value.ref a == Value.ref b) = false := beq_eq_false_iff_ne.mpr fun e => n (Value.ref.inj e)
theorem Agr.cons {g0 g : List Code} {as : List Addr} {a : Addr} {id : String} {rest : List Value} {kw : List (Str × Value)} (h : Agr g0 g as) (n : a ∉ as) : Agr g0 (.builtin id ⟨.ref a :: rest, kw⟩ :: g) as := by
  intro b hb
  have ne : a ≠ b := fun e => n (e ▸ hb)
  obtain ⟨h1, h2⟩ := h b hb
  constructor
  · rw [← h1]
    unfold blkL
    rw [List.any_cons]
    have : loopF (.ref b) (Code.builtin id ⟨.ref a :: rest, kw⟩, default) = false := by
      unfold loopF
      split
      · next v r k q heq =>
        cases heq
        exact listSameRef_of_ne fun e => ne (Value.ref.inj e)
      · rfl
    rw [this, Bool.false_or]
  · rw [← h2]
    unfold blkT
    rw [List.any_cons]
    have : tupGuardF (.ref b) (Code.builtin id ⟨.ref a :: rest, kw⟩, default) = false := by
      simp only [tupGuardF, ref_beq ne, Bool.false_and]
    rw [this, Bool.false_or]
end
section
open PySem.Spec PyProof.Rows
open Sem (wp)
open Builtin Builtin.List
variable {prog : Program} {w : World} {g0 : List Code}
def ReprD (prog : Program) (w : World) (g0 : List Code) (as : List Addr) (h0 : Heap) (d : Nat) (x : Value) (t : Str) : Prop :=
  ∀ (n : Nat), n + t.length ≤ sizeLine → ∀ (A : Around) (g : List Code) (E : Value → Shared → Prop) (s : Shared) (Q : Str → Shared → Prop), A.guards = some g → Agr g0 g as → A.units + d < cLine →
    (∀ b o, h0.get? b = some o → s.heap.get? b = some o) → (∀ h' tk, (∀ b o, s.heap.get? b = some o → h'.get? b = some o) → Q t { s with heap := h', toks := tk }) → wpAny (model prog w) A (pyReprUnder n x) Q E s
theorem ReprD.leaf {x : Value} {t : Str} (h : ReprIs prog w x t) (as : List Addr) (h0 : Heap) (d : Nat) : ReprD prog w g0 as h0 d x t :=
  fun n hn A _ E s Q _ _ _ _ q => h n hn A E s Q fun tk => q s.heap tk fun _ _ e => e
theorem ReprD.wide {as bs : List Addr} {h0 : Heap} {d e : Nat} {x : Value} {t : Str} (h : ReprD prog w g0 as h0 d x t) (i : ∀ b ∈ as, b ∈ bs) (l : d ≤ e) : ReprD prog w g0 bs h0 e x t :=
  fun n hn A g E s Q hg ha hu hk q => h n hn A g E s Q hg (fun b hb => ha b (i b hb)) (by omega) hk q
/-- the loop of list.__repr__ -/
theorem loopD {A : Around} {R : Result → Shared → Prop} {a P : Addr} (hne : a ≠ P) {items : Array Value} {ts : List Str} {as : List Addr} {h0 : Heap} {d n : Nat} {g : List Code} (hg : A.guards = some g) (hag : Agr g0 g as)
    (hu : A.units + (d + 1) < cLine) (hna : a ∉ as) (hPf : h0.get? P = none) (hlen : ts.length = items.size)
    (hT : ∀ (i : Nat) (x : Value), items[i]? = some x → ∃ t, ts[i]? = some t ∧ ReprD prog w g0 as h0 d x t) (hsz : n + (listText ts).length ≤ sizeLine) :
    ∀ (k i : Nat) (s : Shared) (oa : Obj) (na : Nat) (acc : Array Value) (c : Nat) (done : List (Str × Tok)), items.size - i = k → i ≤ items.size → (∀ b o, h0.get? b = some o → s.heap.get? b = some o) →
      s.heap.get? a = some oa → oa.data = .seq items na → s.heap.get? P = some { cls := .type "list", dict := none, data := .seq acc c, slots := #[] } → acc.toList = strValues done → done.map (·.1) = ts.take i →
      (∀ h' u tk, (∀ b o, b ≠ P → s.heap.get? b = some o → h'.get? b = some o) → R (.ok (.ret (.str (listText ts) u))) { s with heap := h', toks := tk }) →
      codeAny (model prog w) A (.builtin "list.__repr__.loop" ⟨[.ref a, rawInt i, .ref P, rawInt ((n + piled (ts.take i) : Nat) : Int)], []⟩) R s := by
  have hX : (listText ts).length = (textFrom 0 "[" ts).length + 1 := by
    show ((textFrom 0 "[" ts) ++ ("]" : Str)).length = _
    rw [strLen_append]
    rfl
  obtain ⟨hL1, hL2, _⟩ := textFrom_len ts 0 "["
  rw [if_neg (Nat.lt_irrefl 0)] at hL1
  have hsz1 : items.size ≤ sizeLine := by omega
  have hp3 := piled_le_listText ts
  intro k
  induction k with
  | zero =>
    intro i s oa na acc c done hk hi hk0 ha hda hP hacc hdone hR
    have hin : i = items.size := by omega
    refine codeAny_builtin F.entry_list_repr_loop ?_
    show wpAny _ _ («list.__repr__.loop» ⟨[.ref a, .int i 0, .ref P, .int ((n + piled (ts.take i) : Nat) : Int) 0], []⟩) _ _ s
    rw [repr_loop_tree]
    refine wpAny_bind (wpAny_listItems ha hda ?_)
    have e0 : items[(i : Int).toNat]? = none := by simp [hin]
    simp only [e0]
    unfold reprEnd
    refine wpAny_bind (wpAny_listItems hP rfl ?_)
    rw [hacc, repr_fold]
    refine wpAny_bind (wpAny_pure ?_)
    have e1 : done.map (·.1) = ts := by rw [hdone, hin, ← hlen, List.take_length]
    rw [e1]
    exact wpAny_bind (wpAny_mkStr (wpAny_pure (hR s.heap _ _ fun _ _ _ e => e)) (show (listText ts).length ≤ sizeLine by omega))
  | succ k ih =>
    intro i s oa na acc c done hk hi hk0 ha hda hP hacc hdone hR
    have hlt : i < items.size := by omega
    obtain ⟨t, ht, hrep⟩ := hT i items[i] (by simp [hlt])
    have hp1 := piled_take_succ ht
    have hp2 := piled_take_le ts (i + 1)
    have ht2 := hL2 t (List.mem_of_getElem? ht)
    refine codeAny_builtin F.entry_list_repr_loop ?_
    show wpAny _ _ («list.__repr__.loop» ⟨[.ref a, .int i 0, .ref P, .int ((n + piled (ts.take i) : Nat) : Int) 0], []⟩) _ _ s
    rw [repr_loop_tree]
    refine wpAny_bind (wpAny_listItems ha hda ?_)
    have e0 : items[(i : Int).toNat]? = some items[i] := by simp [hlt]
    simp only [e0]
    rw [Int.toNat_natCast]
    refine wpAny_bind (wpAny_holding (hrep (n + piled (ts.take i) + 1) (by omega) _ _ _ _ _ (guards_under_guard (isGuard_list_loop _) hg) (hag.cons (a := a) hna) (by rw [units_under_list_loop]; omega) hk0 fun h' tk hkp => ?_))
    refine wpAny_bind (wpAny_mkStr ?_ (by omega))
    refine wpAny_bind ?_
    show wpAny _ _ (updateSeq P _) _ _ _
    have hasz : acc.size ≤ sizeLine := by
      have e1 : acc.toList.length = acc.size := by simp
      have e2 : (strValues done).length = (done.map (·.1)).length := by simp [strValues]
      rw [hdone, List.length_take] at e2
      rw [hacc] at e1
      omega
    refine wpAny_updateSeq (hkp _ _ hP) rfl (wpAny_pure ⟨F.quiet_list_repr_loop _, ?_⟩) hasz
    have f1 : ((i : Int) + 1) = ((i + 1 : Nat) : Int) := by omega
    have f2 : n + piled (ts.take i) + (t.length + 2) = n + piled (ts.take (i + 1)) := by omega
    rw [f1, f2]
    have out : ∀ {b : Addr}, b ≠ P → P ≠ b := fun z e => z e.symm
    refine ih (i + 1) _ oa na (acc.push (.str t tk)) _ (done ++ [(t, tk)]) (by omega) hlt (fun b o e => (Heap.get?_update_other _ _ (out fun z => by rw [z, hPf] at e; cases e)).trans (hkp _ _ (hk0 _ _ e)))
      ((Heap.get?_update_other _ _ (out hne)).trans (hkp _ _ ha)) hda (Heap.get?_update_self _ (hkp _ _ hP) rfl) (by simp [hacc, strValues]) (by simp [List.take_add_one, ht, hdone]) fun h'' u tk' hh => ?_
    exact hR h'' u tk' fun b o hb e => hh b o hb ((Heap.get?_update_other _ _ (out hb)).trans (hkp _ _ e))
end
section
open PySem.Spec PyProof.Rows
open Sem (wp)
open Builtin Builtin.List
variable {prog : Program} {w : World} {g0 : List Code}
abbrev finE (prog : Program) (w : World) (A : Around) (R : Result → Shared → Prop) : Fin → Shared → Prop := fun f s => match f with
  | .done v => R (.ok v) s
  | .again c => c.quiet = true ∧ codeAny (model prog w) A c R s
/-- the list is being shown already -/
theorem list_way {A : Around} {g : List Code} {c : Code} {a : Addr} {o : Obj} {x : Value} {l : List Value} {m n : Nat} {s : Shared} {Q : Fin → Shared → Prop} {E : Value → Shared → Prop} (hg : A.guards = some g) (hb : blkL g a = true)
    (ha : s.heap.get? a = some o) (hd : o.data = .seq (x :: l).toArray m) (h : ∀ u tk, Q (.done (.ret (.str "[...]" u))) { s with toks := tk }) : wpOwn (model prog w) A c (listReprAt n ⟨[.ref a], []⟩) Q E s := by
  intro Γ p hc hΓ
  have k : wpAny (model prog w) (A.under c) (do rule "list.__repr__.in-itself"; retStr "[...]") Q E s :=
    wpAny_bind (wpAny_rule (wpAny_bind (wpAny_mkStr (wpAny_pure (h _ _)) (by decide +kernel))))
  have k1 := k Γ p (hc ▸ hΓ.in)
  unfold listReprAt
  simp [slotArgs, listItems, seqItems?, Sem.wp_load_of (h := ha), hd, stack]
  show wp _ Γ (if (Γ.below.any (loopF (.ref a))) = true then _ else _) _ _ p s
  rw [if_pos]
  · exact k1
  · rw [any_eq_guards (loopF_off _) (loopF_pos _), hΓ.2.2.2.1 g hg]
    exact hb
theorem list_no {g : List Code} {a : Addr} (h : blkL g a = false) (v : Value) (rest : List Value) (kw : List (Str × Value)) (hm : Code.builtin "list.__repr__.loop" ⟨v :: rest, kw⟩ ∈ g) : listSameRef v (.ref a) = false := by
  have := List.any_eq_false.mp h _ hm
  simpa [loopF] using this
theorem list_at {as : List Addr} {h0 : Heap} {d : Nat} {a : Addr} {oa : Obj} {x : Value} {l : List Value} {na : Nat} {ts : List Str} (ha : h0.get? a = some oa) (hda : oa.data = .seq (x :: l).toArray na) (hna : a ∉ as)
    (hlen : ts.length = (x :: l).toArray.size) (hT : ∀ (i : Nat) (y : Value), (x :: l).toArray[i]? = some y → ∃ t, ts[i]? = some t ∧ ReprD prog w g0 as h0 d y t) {A : Around} {g : List Code} {s : Shared} {R : Result → Shared → Prop} {n : Nat} {id : String} {rest : List Value}
    (hpl : plainId id = true) (hg : A.guards = some g) (hag : Agr g0 g (a :: as)) (hu : A.units + (d + 1) < cLine) (hk0 : ∀ b o, h0.get? b = some o → s.heap.get? b = some o)
    (hR : ∀ h' u tk, (∀ b o, s.heap.get? b = some o → h'.get? b = some o) → R (.ok (.ret (.str (if blkL g0 a then "[...]" else listText ts) u))) { s with heap := h', toks := tk })
    (hsz : blkL g0 a = false → n + (listText ts).length ≤ sizeLine) : wpOwn (model prog w) A (.builtin id ⟨.ref a :: rest, []⟩) (listReprAt n ⟨[.ref a], []⟩) (finE prog w A R) (fun e s' => R (.error e) s') s := by
  have e := (hag a List.mem_cons_self).1
  cases hB : blkL g0 a with
  | true =>
    rw [hB] at e
    simp only [hB] at hR
    exact list_way hg e (hk0 _ _ ha) hda fun u tk => hR s.heap u tk fun _ _ z => z
  | false =>
    rw [hB] at e
    simp only [hB] at hR
    have hPf : h0.get? s.heap.objs.size = none := by
      cases q : h0.get? s.heap.objs.size with
      | none => rfl
      | some o => exact absurd (Heap.lt_size (hk0 _ _ q)) (Nat.lt_irrefl _)
    refine wpOwn_of_wpAny ?_
    rw [Around.under_plainId hpl]
    refine wpAny_list_repr_head (A := A.in1) hg (list_no e) (hk0 _ _ ha) hda ?_
    refine wpAny_bind (m := newList []) (wpAny_newObj_type (wpAny_pure ⟨F.quiet_list_repr_loop _, ?_⟩))
    refine loopD (P := s.heap.objs.size) (g0 := g0) (Nat.ne_of_lt (Heap.lt_size (hk0 _ _ ha))) hg (fun b hb => hag b (List.mem_cons_of_mem _ hb)) hu hna hPf hlen hT (hsz hB) _ 0 _ oa na #[] _ [] rfl (Nat.zero_le _)
      (fun b o z => Heap.get?_push_of_some _ (hk0 _ _ z)) (Heap.get?_push_of_some _ (hk0 _ _ ha)) hda (Heap.get?_push_size _ rfl) rfl (by simp) fun h' u tk hk => ?_
    exact hR h' u tk fun b o z => hk b o (Nat.ne_of_lt (Heap.lt_size z)) (Heap.get?_push_of_some _ z)
inductive ReprDs (prog : Program) (w : World) (g0 : List Code) (as : List Addr) (h0 : Heap) (d : Nat) : List Value → List Str → Prop
  | nil : ReprDs prog w g0 as h0 d [] []
  | cons {x : Value} {t : Str} {l : List Value} {ts : List Str} : ReprD prog w g0 as h0 d x t → ReprDs prog w g0 as h0 d l ts → ReprDs prog w g0 as h0 d (x :: l) (t :: ts)
theorem ReprDs.len {as : List Addr} {h0 : Heap} {d : Nat} : ∀ {l : List Value} {ts : List Str}, ReprDs prog w g0 as h0 d l ts → ts.length = l.length
  | _, _, .nil => rfl
  | _, _, .cons _ h => by rw [List.length_cons, List.length_cons, h.len]
theorem ReprDs.item {as : List Addr} {h0 : Heap} {d : Nat} : ∀ {l : List Value} {ts : List Str}, ReprDs prog w g0 as h0 d l ts → ∀ (i : Nat) (y : Value), l[i]? = some y → ∃ t, ts[i]? = some t ∧ ReprD prog w g0 as h0 d y t
  | _, _, .nil, i, y, e => by simp at e
  | _, _, .cons hx _, 0, y, e => by
    cases Option.some.inj e
    exact ⟨_, rfl, hx⟩
  | _, _, .cons _ hl, i + 1, y, e => hl.item i y e
theorem ReprDs.wide {as bs : List Addr} {h0 : Heap} {d e : Nat} (i : ∀ b ∈ as, b ∈ bs) (l : d ≤ e) : ∀ {vs : List Value} {ts : List Str}, ReprDs prog w g0 as h0 d vs ts → ReprDs prog w g0 bs h0 e vs ts
  | _, _, .nil => .nil
  | _, _, .cons hx hl => .cons (hx.wide i l) (hl.wide i l)
theorem tup_fold {A : Around} {E : Value → Shared → Prop} {as : List Addr} {h0 : Heap} {d : Nat} {g : List Code} (hg : A.guards = some g) (hag : Agr g0 g as) (hu : A.units + d < cLine) :
    ∀ (l : List Value) (ts : List Str) (acc : Array Str) (n : Nat) (s : Shared) (Q : (Array Str × Nat) → Shared → Prop), ReprDs prog w g0 as h0 d l ts → n + piled ts ≤ sizeLine → (∀ b o, h0.get? b = some o → s.heap.get? b = some o) →
      (∀ h' tk, (∀ b o, s.heap.get? b = some o → h'.get? b = some o) → Q ⟨acc ++ ts.toArray, n + piled ts⟩ { s with heap := h', toks := tk }) → wpAny (model prog w) A (forIn l (⟨acc, n⟩ : (Array Str × Nat)) tupBody) Q E s := by
  intro l
  induction l with
  | nil =>
    intro ts acc n s Q hT _ _ q
    cases hT
    have q0 := q s.heap s.toks fun _ _ e => e
    simp only [List.forIn_nil]
    exact wpAny_pure (by simpa [piled] using q0)
  | cons x l ih =>
    intro ts acc n s Q hT hn hk0 q
    cases hT with
    | cons hx hl =>
      rename_i t ts'
      rw [piled_cons] at hn
      rw [List.forIn_cons]
      refine wpAny_bind (wpAny_bind (hx (n + 1) (by omega) _ _ _ _ _ hg hag hu hk0 fun h' tk hk1 => wpAny_pure ?_))
      refine ih ts' (acc.push t) (n + (t.length + 2)) _ Q hl (by omega) (fun b o z => hk1 _ _ (hk0 _ _ z)) fun h'' tk' hk2 => ?_
      have q1 := q h'' tk' fun b o z => hk2 _ _ (hk1 _ _ z)
      rw [show n + piled (t :: ts') = n + (t.length + 2) + piled ts' by rw [piled_cons]; omega] at q1
      simpa using q1
theorem tup_at {as : List Addr} {h0 : Heap} {d : Nat} {a : Addr} {o : Obj} {items : Array Value} {na : Nat} {ts : List Str} (ha : h0.get? a = some o) (hd : o.data = .seq items na) (hna : a ∉ as) (hT : ReprDs prog w g0 as h0 d items.toList ts)
    {A : Around} {g : List Code} {s : Shared} {R : Result → Shared → Prop} {n : Nat} {id : String} {rest : List Value} (hcg : (Code.builtin id ⟨.ref a :: rest, []⟩).isGuard = true) (hcu : (A.under (.builtin id ⟨.ref a :: rest, []⟩)).units = A.units + 1)
    (hg : A.guards = some g) (hag : Agr g0 g (a :: as)) (hu : A.units + (d + 1) < cLine) (hk0 : ∀ b o, h0.get? b = some o → s.heap.get? b = some o)
    (hR : ∀ h' u tk, (∀ b o, s.heap.get? b = some o → h'.get? b = some o) → R (.ok (.ret (.str (if blkT g0 a then "(...)" else tupleText ts) u))) { s with heap := h', toks := tk })
    (hsz : blkT g0 a = false → n + (tupleText ts).length ≤ sizeLine) : wpOwn (model prog w) A (.builtin id ⟨.ref a :: rest, []⟩) (tupleReprAt n ⟨[.ref a], []⟩) (finE prog w A R) (fun e s' => R (.error e) s') s := by
  have e := (hag a List.mem_cons_self).2
  unfold blkT at e
  have hlen : ts.length = items.size := by simpa using hT.len
  have hp := piled_le_tupleText ts
  rw [tuple_repr_tree, tupleReprUnderWay_eq]
  refine wpOwn_bind (wpOwn_stackTailAny hg (tupGuardF_off _) (tupGuardF_pos _) ?_)
  rw [e]
  show wpOwn _ _ _ (if blkT g0 a = true then _ else _) _ _ _
  refine wpOwn_of_wpAny ?_
  cases hB : blkT g0 a with
  | true =>
    simp only [hB] at hR
    refine PySem.W.KFB.if_so rfl ?_
    exact wpAny_bind (wpAny_rule (wpAny_bind (wpAny_mkStr (wpAny_pure (hR s.heap _ _ fun _ _ z => z)) (by decide +kernel))))
  | false =>
    simp only [hB] at hR
    have hz := hsz hB
    refine PySem.W.KFB.if_not rfl ?_
    unfold tupleReprRest Builtin.Tuple.tupleItemsOf
    refine wpAny_bind (wpAny_bind (wpAny_seqItems (hk0 _ _ ha) hd (wpAny_pure ?_)))
    rw [← Array.forIn_toList]
    refine wpAny_bind (tup_fold (g0 := g0) (guards_under_guard hcg hg) (Agr.cons (a := a) (fun b hb => hag b (List.mem_cons_of_mem _ hb)) hna) (by rw [hcu]; omega) _ ts _ _ _ _ hT (by omega) hk0 fun h' tk hk1 => ?_)
    refine wpAny_bind (wpAny_mkStr (wpAny_pure ?_) (by simpa [tupleText, hlen] using (show (tupleText ts).length ≤ sizeLine by omega)))
    have q := hR h' tk (tk + 1) hk1
    simpa [tupleText, hlen] using q
end
section
open PySem.Spec PyProof.Rows
open Sem (wp)
open Builtin Builtin.List
variable {prog : Program} {w : World} {g0 : List Code}
theorem ReprD.lst {as : List Addr} {h0 : Heap} {d : Nat} {a : Addr} {oa : Obj} {x : Value} {l : List Value} {na : Nat} {ts : List Str} (ha : h0.get? a = some oa) (hc : oa.cls = .type "list") (hda : oa.data = .seq (x :: l).toArray na) (hna : a ∉ as)
    (hT : ReprDs prog w g0 as h0 d (x :: l) ts) : ReprD prog w g0 (a :: as) h0 (d + 1) (.ref a) (if blkL g0 a then "[...]" else listText ts) := by
  intro n hn A g E s Q hg hag hu hk q
  have hl : ts.length = (x :: l).toArray.size := by simpa using hT.len
  refine wpAny_pyReprUnder_ref (by omega) (wpAny_pyReprObjUnder_twin (twin := "list.__repr__.under") ⟨oa, hk _ _ ha, hc⟩ F.slot_list_repr.toG rfl (by omega) ?_)
  refine call_twin_own (Code.quiet_builtin _ (by decide +kernel)) F.entry_list_repr_under F.check_list_repr_under ⟨oa, hk _ _ ha, hc⟩ F.slot_list_repr.toG (F.args_list_repr_1 _) ?_
  refine list_at (R := callEnd _ E) ha hda hna hl (fun i y e => hT.item i y (by simpa using e)) F.plain_list_repr_under hg hag hu hk (fun h' u tk hk1 => ⟨⟨_, _, rfl⟩, _, _, rfl, q h' tk hk1⟩) fun hB => ?_
  rw [hB] at hn
  exact hn
theorem ReprD.bare {as : List Addr} {h0 : Heap} {d : Nat} {a : Addr} {oa : Obj} {na : Nat} (ha : h0.get? a = some oa) (hc : oa.cls = .type "list") (hda : oa.data = .seq #[] na) : ReprD prog w g0 as h0 d (.ref a) "[]" := by
  intro n hn A g E s Q _ _ hu hk q
  exact wpAny_pyReprUnder_ref (by omega) (wpAny_pyReprObjUnder_list_empty ⟨oa, hk _ _ ha, hc⟩ (by omega) (hk _ _ ha) hda ⟨_, _, rfl, q s.heap _ fun _ _ e => e⟩)
theorem ReprD.tup {as : List Addr} {h0 : Heap} {d : Nat} {a : Addr} {oa : Obj} {items : Array Value} {na : Nat} {ts : List Str} (ha : h0.get? a = some oa) (hc : oa.cls = .type "tuple") (hda : oa.data = .seq items na) (hna : a ∉ as)
    (hT : ReprDs prog w g0 as h0 d items.toList ts) : ReprD prog w g0 (a :: as) h0 (d + 1) (.ref a) (if blkT g0 a then "(...)" else tupleText ts) := by
  intro n hn A g E s Q hg hag hu hk q
  refine wpAny_pyReprUnder_ref (by omega) (wpAny_pyReprObjUnder_twin (twin := "tuple.__repr__.under") ⟨oa, hk _ _ ha, hc⟩ F.slot_tuple_repr rfl (by omega) ?_)
  refine call_twin_own (F.quiet_tuple_repr_under _) F.entry_tuple_repr_under F.check_tuple_repr_under ⟨oa, hk _ _ ha, hc⟩ F.slot_tuple_repr (F.args_tuple_repr_1 _) ?_
  refine tup_at (R := callEnd _ E) ha hda hna hT (isGuard_tuple_repr_under _) (units_under_tuple_repr_under _ _) hg hag hu hk (fun h' u tk hk1 => ⟨⟨_, _, rfl⟩, _, _, rfl, q h' tk hk1⟩) fun hB => ?_
  rw [hB] at hn
  exact hn
mutual
theorem Ap.dp {K : PySem.W.Frag} {H : Hp} : ∀ {v : V} {t : AT}, Ap K H v t → Dp K H v t.data
  | _, _, .non => .non
  | _, _, .bl b => .bl b
  | _, _, .int i => .int i
  | _, _, .str x => .str x
  | _, _, .lst h a => by rw [AT.data]; exact .lst h a.dp
  | _, _, .tup h a => by rw [AT.data]; exact .tup h a.dp
theorem ApAll.dp {K : PySem.W.Frag} {H : Hp} : ∀ {vs : List V} {l : List AT}, ApAll K H vs l → DpAll K H vs (AT.dataAll l)
  | _, _, .nil => by rw [AT.dataAll]; exact .nil
  | _, _, .cons h a => by rw [AT.dataAll]; exact .cons h.dp a.dp
end
mutual
theorem Ap.same {K : PySem.W.Frag} {H H' : Hp} (e : Same H H') : ∀ {v : V} {t : AT}, Ap K H v t → Ap K H' v t
  | _, _, .non => .non
  | _, _, .bl b => .bl b
  | _, _, .int i => .int i
  | _, _, .str x => .str x
  | _, _, .lst h a => .lst (e.seq h) (ApAll.same e a)
  | _, _, .tup h a => .tup (same_t e h) (ApAll.same e a)
theorem ApAll.same {K : PySem.W.Frag} {H H' : Hp} (e : Same H H') : ∀ {vs : List V} {l : List AT}, ApAll K H vs l → ApAll K H' vs l
  | _, _, .nil => .nil
  | _, _, .cons h a => .cons (Ap.same e h) (ApAll.same e a)
end
section
variable {X : Cx} {pins : List (Addr × Obj)} {σ : L2.St} {H : Hp} {s : Shared}
mutual
theorem repr_of (I : Inv X pins σ H s) : ∀ (t : AT) (v : V) (u : Value), Ap X.K H v t → RelV v u → t.data.showable = true → t.wid ≤ sizeLine → ∃ bs, ReadAtMost s.heap t.data.depth bs ∧ ReprD X.prog X.w g0 bs s.heap t.data.depth u (t.txt g0)
  | .leaf d, v, u, h, r, hs, hw => by
    refine ⟨[], (fun _ z => nomatch z), ?_⟩
    rw [AT.txt]
    rw [AT.wid] at hw
    cases h with
    | non =>
      cases r
      exact .leaf ReprIs.none _ _ _
    | bl b =>
      cases r
      exact .leaf (ReprIs.bool b) _ _ _
    | int i =>
      obtain ⟨k, rfl⟩ := r
      exact .leaf (ReprIs.int k (by simpa [AT.data, PyData.showable] using hs)) _ _ _
    | str x =>
      obtain ⟨k, rfl⟩ := r
      exact .leaf (ReprIs.str x k (by simpa only [PyData.shown] using hw)) _ _ _
  | .lst a [], v, u, h, r, hs, hw => by
    cases h with
    | lst hq ha =>
      cases ha
      cases r
      obtain ⟨its, rv, ⟨o, n, ho, hc, _, hd⟩, _⟩ := I.list hq
      cases rv
      rw [AT.txt]
      exact ⟨[], (fun _ z => nomatch z), ReprD.bare ho hc hd⟩
  | .lst a (t :: l), v, u, h, r, hs, hw => by
    obtain ⟨as, hR⟩ := Dp.reads I _ v u h.dp r
    cases h with
    | lst hq ha =>
      cases r
      obtain ⟨its, rv, ⟨o, n, ho, hc, _, hd⟩, _⟩ := I.list hq
      rw [AT.data, PyData.showable] at hs
      rw [AT.wid] at hw
      obtain ⟨bs, hb, hk⟩ := repr_ofAll I (t :: l) _ its ha rv hs (by omega)
      rw [AT.data] at hR
      have hna : a ∉ bs := not_mem_of_deeper hR (by simp only [PyData.depth]; omega) hb
      refine ⟨a :: bs, ?_, ?_⟩
      · rw [AT.data]
        exact ReadAtMost.cons hR (by simp only [PyData.depth]; omega) hb
      · rw [AT.txt, AT.data, PyData.depth]
        cases ha with
        | cons h1 h2 =>
          cases rv with
          | cons r1 r2 =>
            rw [AT.txtAll] at hk
            exact .lst ho hc hd hna hk
  | .tup a l, v, u, h, r, hs, hw => by
    obtain ⟨as, hR⟩ := Dp.reads I _ v u h.dp r
    cases h with
    | tup hq ha =>
      cases r
      obtain ⟨its, rv, ⟨o, ho, hc, n, hd⟩, _⟩ := I.tuple hq
      rw [AT.data, PyData.showable] at hs
      rw [AT.wid] at hw
      obtain ⟨bs, hb, hk⟩ := repr_ofAll I l _ its ha rv hs (by omega)
      rw [AT.data] at hR
      have hna : a ∉ bs := not_mem_of_deeper hR (by simp only [PyData.depth]; omega) hb
      refine ⟨a :: bs, ?_, ?_⟩
      · rw [AT.data]
        exact ReadAtMost.cons hR (by simp only [PyData.depth]; omega) hb
      · rw [AT.txt, AT.data, PyData.depth]
        exact .tup ho hc hd hna (by simpa using hk)
theorem repr_ofAll (I : Inv X pins σ H s) : ∀ (l : List AT) (vs : List V) (us : List Value), ApAll X.K H vs l → Vals vs us → PyData.showableAll (AT.dataAll l) = true → AT.widAll l ≤ sizeLine → ∃ bs, ReadAtMost s.heap (PyData.depthAll (AT.dataAll l)) bs ∧ ReprDs X.prog X.w g0 bs s.heap (PyData.depthAll (AT.dataAll l)) us (AT.txtAll g0 l)
  | [], _, _, h, r, _, _ => by
    cases h
    cases r
    exact ⟨[], (fun _ z => nomatch z), by rw [AT.txtAll]; exact .nil⟩
  | t :: l, _, _, h, r, hs, hw => by
    cases h with
    | cons h1 h2 =>
      cases r with
      | cons r1 r2 =>
        have hs' : t.data.showable = true ∧ PyData.showableAll (AT.dataAll l) = true := by simpa [AT.dataAll, PyData.showableAll] using hs
        rw [AT.widAll] at hw
        obtain ⟨b1, k1, m1⟩ := repr_of I t _ _ h1 r1 hs'.1 (by omega)
        obtain ⟨b2, k2, m2⟩ := repr_ofAll I l _ _ h2 r2 hs'.2 (by omega)
        rw [AT.dataAll, AT.txtAll, PyData.depthAll]
        exact ⟨b1 ++ b2, (k1.mono (Nat.le_max_left _ _)).append (k2.mono (Nat.le_max_right _ _)), .cons (m1.wide (fun b hb => List.mem_append_left _ hb) (Nat.le_max_left _ _)) (m2.wide (fun b hb => List.mem_append_right _ hb) (Nat.le_max_right _ _))⟩
end
end
end
section
open PySem.Spec PyProof.Rows
variable {X : Cx}
def gdX (X : Cx) (g : List Code) : Cx := { X with A := { X.A with guards := some g } }
theorem gd_inv {pins : List (Addr × Obj)} {σ : L2.St} {H : Hp} {s : Shared} {g : List Code} (I : Inv X pins σ H s) : Inv (gdX X g) pins σ H s :=
  ⟨⟨I.ok.mod, I.ok.kind, I.ok.glob, I.ok.blt, I.ok.above, I.ok.inj, I.ok.has, I.ok.cab, I.ok.hd, I.ok.frames, I.ok.stk, I.ok.exf, I.ok.bs, I.ok.bsz, I.ok.noex, I.ok.exfs, I.ok.funs, I.ok.frf⟩, I.os, I.bare, I.base, I.loc, I.cell, I.free, I.freeC, I.pin, I.hok, I.len⟩
theorem ungd_inv {pins : List (Addr × Obj)} {σ : L2.St} {H : Hp} {s : Shared} {g : List Code} (I : Inv (gdX X g) pins σ H s) : Inv X pins σ H s :=
  ⟨⟨I.ok.mod, I.ok.kind, I.ok.glob, I.ok.blt, I.ok.above, I.ok.inj, I.ok.has, I.ok.cab, I.ok.hd, I.ok.frames, I.ok.stk, I.ok.exf, I.ok.bs, I.ok.bsz, I.ok.noex, I.ok.exfs, I.ok.funs, I.ok.frf⟩, I.os, I.bare, I.base, I.loc, I.cell, I.free, I.freeC, I.pin, I.hok, I.len⟩
theorem gd_in {Γ : PySem.Ctx} {A : Around} (h : Γ.In A) : Γ.In { A with guards := some (Γ.code.guards ++ guardsOf Γ.below) } :=
  ⟨h.1, h.2.1, h.2.2.1, fun g hg => Option.some.inj hg, h.2.2.2.2⟩
theorem gd_room {k : Nat} {g : List Code} {A : Around} (h : Room k A) : Room k { A with guards := some g } := ⟨h.hd, h.dp, h.un⟩
/-- a block, for each list of what is being shown around it -/
theorem pss_gd {b : List Stmt} {t : List Code → TS} (h : ∀ g, PSs (gdX X g) b (t g)) : PSs X b (fun D σ H => ∀ g, t g D σ H) := by
  refine ⟨fun pins s σ H D I q Γ p hΓ => ?_⟩
  have k := (h (Γ.code.guards ++ guardsOf Γ.below)).run pins s σ H D (gd_inv I) (q _)
  refine (wpAny_mono k (fun f s' z => ?_) fun e s' z => z) Γ p (gd_in hΓ)
  cases f with
  | next =>
    obtain ⟨σ', H', J, z⟩ := z
    exact ⟨σ', H', ungd_inv J, z⟩
  | brk =>
    obtain ⟨σ', H', J, z⟩ := z
    exact ⟨σ', H', ungd_inv J, z⟩
  | cont =>
    obtain ⟨σ', H', J, z⟩ := z
    exact ⟨σ', H', ungd_inv J, z⟩
  | ret u =>
    obtain ⟨v, σ', H', J, r, z⟩ := z
    exact ⟨v, σ', H', ungd_inv J, r, z⟩
def rRepr (K : PySem.W.Frag) (g : List Code) : List V → Hp → VK → Prop := fun xs H Q => ∃ (v : V) (t : AT), xs = [v] ∧ Ap K H v t ∧ t.data.showable = true ∧ t.wid ≤ sizeLine ∧ t.data.depth ≤ 40 ∧ Q (.str (t.txt g)) H
theorem call_reprA {g : List Code} (hg : X.A.guards = some g) (hu : X.A.units + 64 < cLine) : CallR X (.builtin "repr") (rRepr X.K g) := by
  intro pins s σ H xs us Q I r h
  obtain ⟨v, t, rfl, ha, hs, hw, hd, q⟩ := h
  obtain ⟨u, rfl, ru⟩ := r.one
  have fin : ∀ (h' : Heap) (k tk : Tok), (∀ b o, s.heap.get? b = some o → h'.get? b = some o) → EP X pins σ Q (.str (t.txt g) k) { s with heap := h', toks := tk } := fun h' k tk hk => ⟨.str _, H, I.kept hk, ⟨_, rfl⟩, q⟩
  have fin0 : EP X pins σ Q (.str (t.txt g) s.toks) { s with toks := s.toks + 1 } := fin s.heap _ _ fun _ _ e => e
  cases t with
  | leaf d =>
    rw [AT.txt] at fin0
    rw [AT.wid] at hw
    cases ha with
    | non =>
      cases ru
      exact PySem.P.repr_of_none fin0
    | bl b =>
      cases ru
      exact PySem.P.repr_of_bool fin0
    | int i =>
      obtain ⟨k, rfl⟩ := ru
      exact PySem.P.repr_of_int (by simpa [AT.data, PyData.showable] using hs) fin0
    | str x =>
      obtain ⟨k, rfl⟩ := ru
      exact PySem.P.repr_of_str fin0 (by simpa only [PyData.shown] using hw)
  | lst a l =>
    have ha0 := ha
    obtain ⟨as, hR⟩ := Dp.reads I _ v u ha.dp ru
    cases ha with
    | lst hq hl =>
      cases ru
      obtain ⟨its, rv, ⟨o, n, ho, hc, _, hdt⟩, _⟩ := I.list hq
      refine call_repr_slot (by omega) ⟨o, ho, hc⟩ F.slot_list_repr.toG ?_
      cases l with
      | nil =>
        cases hl
        cases rv
        rw [AT.txt] at fin
        exact call_list_repr_empty ⟨o, ho, hc⟩ ho hdt ⟨_, _, rfl, fin s.heap _ _ fun _ _ e => e⟩
      | cons t l =>
        rw [AT.data, PyData.showable] at hs
        rw [AT.wid] at hw
        rw [AT.data, PyData.depth] at hd
        obtain ⟨bs, hb, hk⟩ := repr_ofAll (g0 := g) I (t :: l) _ its hl rv hs (by omega)
        rw [AT.data] at hR
        have hna : a ∉ bs := not_mem_of_deeper hR (by simp only [PyData.depth]; omega) hb
        cases hl with
        | cons h1 h2 =>
          cases rv with
          | cons r1 r2 =>
            rw [AT.txtAll] at hk
            rw [AT.txt] at fin
            have hz := txt_wid g (AT.lst a (t :: l))
            rw [AT.txt, AT.wid] at hz
            refine wpAny_call (codeAny_call_builtin_own (Code.quiet_builtin _ (by decide +kernel)) F.entry_list_repr (F.slot_list_repr.toG.check _ _ _ _ _ _ _ _ ⟨o, ho, hc⟩ (F.args_list_repr_1 _) ?_))
            refine list_at (R := callEnd _ _) (n := 0) ho hdt hna (by simpa using hk.len) (fun i y e => hk.item i y (by simpa using e)) F.slot_list_repr.plain hg (Agr.refl _ _) (by show X.A.units + 1 + _ < _; omega) (fun _ _ e => e) (fun h' u tk hk1 => ⟨_, _, rfl, fin h' u tk hk1⟩) fun hB => ?_
            rw [hB] at hz
            have hz2 : (listText (AT.txt g t :: AT.txtAll g l)).length ≤ 6 + AT.widAll (t :: l) := hz
            omega
  | tup a l =>
    obtain ⟨as, hR⟩ := Dp.reads I _ v u ha.dp ru
    cases ha with
    | tup hq hl =>
      cases ru
      obtain ⟨its, rv, ⟨o, ho, hc, n, hdt⟩, _⟩ := I.tuple hq
      refine call_repr_slot (by omega) ⟨o, ho, hc⟩ F.slot_tuple_repr ?_
      rw [AT.data, PyData.showable] at hs
      rw [AT.wid] at hw
      rw [AT.data, PyData.depth] at hd
      obtain ⟨bs, hb, hk⟩ := repr_ofAll (g0 := g) I l _ its hl rv hs (by omega)
      rw [AT.data] at hR
      have hna : a ∉ bs := not_mem_of_deeper hR (by simp only [PyData.depth]; omega) hb
      rw [AT.txt] at fin
      have hz := txt_wid g (AT.tup a l)
      rw [AT.txt, AT.wid] at hz
      refine wpAny_call (codeAny_call_builtin_own (Code.quiet_builtin _ (by decide +kernel)) F.entry_tuple_repr (F.slot_tuple_repr.check _ _ _ _ _ _ _ _ ⟨o, ho, hc⟩ (F.args_tuple_repr_1 _) ?_))
      refine tup_at (R := callEnd _ _) (n := 0) ho hdt hna (by simpa using hk) (isGuard_tuple_repr _) (units_under_tuple_repr _ _) hg (Agr.refl _ _) (by show X.A.units + 1 + _ < _; omega) (fun _ _ e => e) (fun h' u tk hk1 => ⟨_, _, rfl, fin h' u tk hk1⟩) fun hB => ?_
      rw [hB] at hz
      have hz2 : (tupleText (AT.txtAll g l)).length ≤ 6 + AT.widAll l := hz
      omega
end
/-! ### repr, where none is under way: by what the thing is -/
mutual
def dw : PyData → Nat
  | .list xs => 6 + dwAll xs
  | .tuple xs => 6 + dwAll xs
  | d => d.shown.length
def dwAll : List PyData → Nat
  | [] => 0
  | x :: xs => dw x + 2 + dwAll xs
end
section
open PySem.Spec PyProof.Rows
mutual
theorem dp_ap {K : PySem.W.Frag} {H : Hp} : ∀ {v : V} {d : PyData}, Dp K H v d → ∃ t : AT, Ap K H v t ∧ t.data = d ∧ t.wid = dw d ∧ t.txt [] = d.shown
  | _, _, .non => ⟨.leaf .none, .non, by rw [AT.data], by rw [AT.wid, dw] <;> nofun, by rw [AT.txt]⟩
  | _, _, .bl b => ⟨.leaf (.bool b), .bl b, by rw [AT.data], by rw [AT.wid, dw] <;> nofun, by rw [AT.txt]⟩
  | _, _, .int i => ⟨.leaf (.int i), .int i, by rw [AT.data], by rw [AT.wid, dw] <;> nofun, by rw [AT.txt]⟩
  | _, _, .str x => ⟨.leaf (.str x), .str x, by rw [AT.data], by rw [AT.wid, dw] <;> nofun, by rw [AT.txt]⟩
  | _, _, .lst (a := a) h q => by
    obtain ⟨l, h1, h2, h3, h4⟩ := dp_apAll q
    refine ⟨.lst a l, .lst h h1, by rw [AT.data, h2], by rw [AT.wid, dw, h3], ?_⟩
    rw [PyData.shown, ← h4]
    cases l with
    | nil =>
      rw [AT.txt, AT.txtAll]
      exact listText_nil.symm
    | cons t l =>
      rw [AT.txt, AT.txtAll]
      rfl
  | _, _, .tup (a := a) h q => by
    obtain ⟨l, h1, h2, h3, h4⟩ := dp_apAll q
    refine ⟨.tup a l, .tup h h1, by rw [AT.data, h2], by rw [AT.wid, dw, h3], ?_⟩
    rw [PyData.shown, ← h4, AT.txt]
    rfl
theorem dp_apAll {K : PySem.W.Frag} {H : Hp} : ∀ {vs : List V} {ds : List PyData}, DpAll K H vs ds → ∃ l : List AT, ApAll K H vs l ∧ AT.dataAll l = ds ∧ AT.widAll l = dwAll ds ∧ AT.txtAll [] l = PyData.shownAll ds
  | _, _, .nil => ⟨[], .nil, by rw [AT.dataAll], by rw [AT.widAll, dwAll], by rw [AT.txtAll, PyData.shownAll]⟩
  | _, _, .cons h q => by
    obtain ⟨t, a1, a2, a3, a4⟩ := dp_ap h
    obtain ⟨l, b1, b2, b3, b4⟩ := dp_apAll q
    exact ⟨t :: l, .cons a1 b1, by rw [AT.dataAll, a2, b2], by rw [AT.widAll, dwAll, a3, b3], by rw [AT.txtAll, PyData.shownAll, a4, b4]⟩
end
structure Shn (d : PyData) : Prop where
  s : d.showable = true
  w : dw d ≤ sizeLine
  d : d.depth ≤ 40
def rRepG (K : PySem.W.Frag) : List V → Hp → VK → Prop := fun xs H Q => ∃ (v : V) (d : PyData), xs = [v] ∧ Dp K H v d ∧ Shn d ∧ Q (.str d.shown) H
theorem call_reprG {X : Cx} (hg : X.A.guards = some []) (hu : X.A.units + 64 < cLine) : CallR X (.builtin "repr") (rRepG X.K) := by
  intro pins s σ H xs us Q I r h
  obtain ⟨v, d, rfl, hd, hs, q⟩ := h
  obtain ⟨t, h1, h2, h3, h4⟩ := dp_ap hd
  refine call_reprA hg hu pins s σ H _ us Q I r ⟨v, t, rfl, h1, by rw [h2]; exact hs.s, by rw [h3]; exact hs.w, by rw [h2]; exact hs.d, ?_⟩
  rw [h4]
  exact q
end
theorem dw_ints : ∀ {ns : List Int}, (∀ x ∈ ns, -1000000 ≤ x ∧ x ≤ 1000000) → PyData.showableAll (ns.map PyData.int) = true ∧ dwAll (ns.map PyData.int) ≤ 15 * ns.length ∧ PyData.depthAll (ns.map PyData.int) = 0
  | [], _ => ⟨by rw [List.map_nil, PyData.showableAll], by rw [List.map_nil, dwAll]; exact Nat.le_refl _, by rw [List.map_nil, PyData.depthAll]⟩
  | x :: r, h => by
    obtain ⟨a, b, c⟩ := dw_ints fun y hy => h y (List.mem_cons_of_mem _ hy)
    have hx := h x List.mem_cons_self
    have h1 : PyData.showable (.int x) = true := by
      rw [PyData.showable]
      refine decide_eq_true ?_
      have h1 : x.natAbs < 2 ^ 20 := by
        have : (2 : Nat) ^ 20 = 1048576 := by decide
        omega
      by_cases c : x.natAbs = 0
      · rw [c]
        decide
      · exact Nat.lt_trans ((Nat.log2_lt c).mpr h1) (by decide)
    have h2 : (PyData.shown (.int x)).length ≤ 13 := PyData.shown_int_le2 (by omega) (by omega)
    refine ⟨?_, ?_, ?_⟩
    · rw [List.map_cons, PyData.showableAll, h1, a]
      rfl
    · rw [List.map_cons, dwAll, List.length_cons]
      have : dw (.int x) = (PyData.shown (.int x)).length := by rw [dw] <;> nofun
      omega
    · rw [List.map_cons, PyData.depthAll, c, PyData.depth]
      rfl
theorem dw_rows : ∀ {ls : List (List Int)}, (∀ l ∈ ls, l.length ≤ 1000 ∧ ∀ x ∈ l, -1000000 ≤ x ∧ x ≤ 1000000) → PyData.showableAll (ls.map fun l => .list (l.map PyData.int)) = true ∧ dwAll (ls.map fun l => .list (l.map PyData.int)) ≤ 15100 * ls.length ∧ PyData.depthAll (ls.map fun l => .list (l.map PyData.int)) ≤ 1
  | [], _ => ⟨by rw [List.map_nil, PyData.showableAll], by rw [List.map_nil, dwAll]; exact Nat.le_refl _, by rw [List.map_nil, PyData.depthAll]; exact Nat.zero_le _⟩
  | x :: r, h => by
    obtain ⟨a, b, c⟩ := dw_rows fun y hy => h y (List.mem_cons_of_mem _ hy)
    obtain ⟨hl, hx⟩ := h x List.mem_cons_self
    obtain ⟨a1, b1, c1⟩ := dw_ints hx
    refine ⟨?_, ?_, ?_⟩
    · rw [List.map_cons, PyData.showableAll, PyData.showable, a1, a]
      rfl
    · rw [List.map_cons, dwAll, dw, List.length_cons]
      omega
    · rw [List.map_cons, PyData.depthAll, PyData.depth, c1]
      exact Nat.max_le.mpr ⟨by omega, c⟩
theorem shn_rows {ls : List (List Int)} (h : ∀ l ∈ ls, l.length ≤ 1000 ∧ ∀ x ∈ l, -1000000 ≤ x ∧ x ≤ 1000000) (k : ls.length ≤ 100) : Shn (.list (ls.map fun l => .list (l.map PyData.int))) := by
  obtain ⟨a, b, c⟩ := dw_rows h
  have hz : sizeLine = 16777216 := by decide
  refine ⟨?_, ?_, ?_⟩
  · rw [PyData.showable]
    exact a
  · rw [dw]
    omega
  · rw [PyData.depth]
    omega
/-! ### defs that are called while nothing is being shown -/
section
open PySem.Spec PyProof.Rows
/-- a def's promise where no repr is under way -/
structure FnG (P : Program) (w : World) (K : PySem.W.Frag) (mg : Str → Option Value) (base : Heap) (CX : CXT) (k : Nat) (f : Addr) (fd : FuncData) (ps : List Str) (sp : Sp) : Prop where
  len : ∀ vs H Q E, sp vs H Q E → vs.length = ps.length
  run : ∀ (A : Around) (outer : List Env) (s : Shared) (H : Hp) (args : Args) (us : List Value) (vs : List V) (Q : VK) (E : XK), A.guards = some [] → Room k A → Env0 P w K mg base A outer s H → BindsTo s fd args (ps.zip us) → Vals vs us → sp vs H Q E →
    codeAny (model P w) A (.call (.ref f) args) (CR CX outer P w H s Q E) s
variable {P : Program} {w : World} {K : PySem.W.Frag} {mg : Str → Option Value} {base : Heap} {CX : CXT} {k : Nat} {f : Addr} {fd : FuncData} {N ps : List Str} {sp : Sp}
theorem FnG.of (F : FnOk P w K mg base CX k f fd ps sp) : FnG P w K mg base CX k f fd ps sp := ⟨F.len, fun A outer s H args us vs Q E _ => F.run A outer s H args us vs Q E⟩
theorem okG {x qual : Str} {st : Stmt} (F : Fun K x qual st f fd) (S : FnScope N ps (defScope st)) (len : ∀ vs H Q E, sp vs H Q E → vs.length = ps.length)
    (body : ∀ (cdv : Value) (A : Around) (outer : List Env) (s : Shared) (H : Hp) (vs : List V) (Q : VK) (E : XK), A.guards = some [] → Room k (A.deeper (envOfC qual (defScope st) s.heap.objs.size f cdv)) → sp vs H Q E →
      ∃ t, PSs (cxOf CX0 P w K mg base N qual (defScope st) f cdv A outer s H E).nox (defBody st) t ∧ t { nx := fun _ H' => Q .non H', rt := Q } (L2.start N vs) H) : FnG P w K mg base CX0 (k + 1) f fd ps sp := by
  obtain ⟨oc, od, kV, doc, pm, an, cdv, ct, osl, rfl, lk, hcd⟩ := F.ex
  refine ⟨len, fun A outer s H args us vs Q E hgd hr e0 hb r hsp => ?_⟩
  have keeps : ∀ b o, base.get? b = some o → s.heap.get? b = some o := fun b o e => (e0.bs b o e).1
  have KX : K.In s.heap := e0.mod.kin.keeps keeps
  have kinds : ∀ y ∈ ps.zip us, (defScope st).names.lookup y.1 = some .local ∨ ((defScope st).names.lookup y.1 = some .cell ∧ ((cellsFrom (s.heap.objs.size + 1) (defScope st).names []).lookup y.1).isSome = true) := by
    rintro ⟨n, v⟩ hy
    rcases S.par n (List.of_mem_zip hy).1 with q | q
    · exact .inl q
    · exact .inr ⟨q, PySem.W.cellsFrom_some _ _ _ (.inl q)⟩
  refine codeAny_call_function hr.depth (KX _ _ lk) rfl S.co S.gen rfl (PySem.W.codeRec_of KX hcd) (hb _ _ _ _ (wpAny_newFunctionEnv_cells S.kind kinds fun env he s1 x => ?_))
  subst he
  refine ⟨(e0.mod.nolimit.keeps keeps).keeps x.toInCall.keep, codeAny_func ?_⟩
  obtain ⟨t, ht, hq⟩ := body cdv A outer s H vs Q E hgd (hr.deeper _) hsp
  have I := inv_start (CX := CX0) (E := E) S hr.hd e0 (len _ _ _ _ hsp) r x
  refine wpAny_mono (ht.nox.run [] s1 (L2.start N vs) H _ I hq) (fun fl s' z => ?_) fun e s' z => z
  cases fl with
  | ret u =>
    obtain ⟨v, σ', H', J, rv, z⟩ := z
    exact ⟨v, H', J.os, J.bare, J.base, J.hok, rv, z⟩
  | next =>
    obtain ⟨σ', H', J, z⟩ := z
    exact ⟨V.non, H', J.os, J.bare, J.base, J.hok, rfl, z⟩
  | brk =>
    obtain ⟨_, _, _, z⟩ := z
    exact z.elim
  | cont =>
    obtain ⟨_, _, _, z⟩ := z
    exact z.elim
variable {X : Cx} {dvs : List V} {ds : List Value} {E : XK} {x : Str} {p pos : Pos} {e : Expr} {es : List Expr} {t : TA}
theorem pe_callG (F : FnG X.prog X.w X.K X.mg X.base CX k f fd ps sp) (gd : X.A.guards = some []) (hr : Room k X.A) (hg : Gl X x) (hm : X.mg x = some (.ref f)) (hk : PySem.W.keepIn X.K (.ref f) = true) (hb : Binds X.K fd ps ds) (hd : Vals dvs ds) (hx : Passes CX X E) (ha : PA X (e :: es) t)
    (hdb : (x == ("__debug__" : Str)) = false := by decide) (he : starEach (e :: es) X.env = (false, eval e X.env) :: starEach es X.env := by rfl) (hpl : (backTo pos (starEach es X.env)).any (·.1) = false := by rfl) : PE X (.Call (.Name x p) (e :: es) [] pos) (tCall sp dvs E t) := by
  refine ⟨fun pins s σ H Q I h => wpAny_Call_Name_kw (ld_glob I hg hm ?_ hdb)⟩
  refine PySem.W.callWith_K (h₀ := X.base) I.ok.mod.kin hk (thn (ha.run pos pins s σ H _ I h) fun us s1 ⟨vs, H1, J, r, q⟩ => ⟨J.kIn, ?_⟩) he hpl
  have r2 : Vals (vs ++ dvs) (us ++ ds) := r.append hd
  refine wpAny_call (codeAny_mono (F.run X.A X.stack s1 H1 ⟨us, []⟩ (us ++ ds) (vs ++ dvs) Q E gd hr J.env0 (hb s1 us J.kIn (by rw [← r2.length]; exact F.len _ _ _ _ q)) r2 q) fun z s' hz => ?_)
  cases z with
  | error u => exact hx pins σ H1 s1 u s' J hz
  | ok fl =>
    cases fl with
    | ret u => exact J.after hz
    | next => exact hz.elim
    | brk => exact hz.elim
    | cont => exact hz.elim
end
section
open PySem.Spec PyProof.Rows
/-- the law's own call: nothing is being shown around it -/
theorem law_callG {P : Program} {w : World} {K : PySem.W.Frag} {mg mb : Str → Option Value} {k : Nat} {fa a : Addr} {fd : FuncData} {x : Str} {sp : Sp} {s1 : Shared} {vs : List Value} {ns : List Int} (KX : K.In s1.heap) (hns : s1.heap.Ns mainGlobals mg) (hb : s1.heap.Ns builtinsNs mb)
    (hbb : ∀ x : Str, x ≠ "__name__" → mb x = bootBuiltins x) (hlim : s1.heap.NoLimit) (hg : s1.gens = #[]) (ha : s1.heap.get? a = some { cls := .type "list", data := .seq vs.toArray }) (hi : IntsAre vs ns) (hl : ns.length ≤ sizeLine) (hr : Room k callerA)
    (F : ∀ base : Heap, K.In base → base.Ns mainGlobals mg → FnG P w K mg base CX0 k fa fd [x] sp) (hbind : ∀ (s : Shared) (u : Value), BindsTo s fd ⟨[u], []⟩ [(x, u)]) (hsp : ∀ H : Hp, Only H → SqL K H a (ns.map V.int) → sp [.ref a] H (fun v _ => v = .bl true) fun _ _ _ => False)
    : codeAny (model P w) callerA (.call (.ref fa) ⟨[.ref a], []⟩) (fun r s' => r = .ok (.ret (.bool true)) ∧ OldK s1.heap s'.heap ∧ s'.os = s1.os ∧ AllBare s'.gens) s1 := by
  have rv := vals_ints hi
  have lv := hi.length
  have main : ∀ H : Hp, Only H → SqL K H a (ns.map V.int) → HOk P w H s1.heap → (∀ b u, H b = some u → b = a) → (∀ u, H a = some u → K.lookup a = none) →
      codeAny (model P w) callerA (.call (.ref fa) ⟨[.ref a], []⟩) (fun r s' => r = .ok (.ret (.bool true)) ∧ OldK s1.heap s'.heap ∧ s'.os = s1.os ∧ AllBare s'.gens) s1 := by
    intro H hO hS hok hA hK
    have isn : ∀ {b : Addr}, b ≠ a → H b = none := fun {b} n => by
      cases q : H b with
      | none => rfl
      | some u => exact absurd (hA b u q) n
    have bn : ∀ {b : Addr} {m : Str → Option Value}, s1.heap.Ns b m → (hidT s1.heap H).Ns b m := by
      rintro b m ⟨o, es, ep, e, d, r⟩
      refine ⟨o, es, ep, hidT_get e (isn fun z => ?_), d, r⟩
      rw [z, ha] at e
      cases e
      cases d
    have bK : K.In (hidT s1.heap H) := fun b o e => hidT_get (KX b o e) (by
      cases q : H b with
      | none => rfl
      | some u =>
        have z := hA b u q
        subst z
        rw [hK u q] at e
        cases e)
    have lm : (hidT s1.heap H).NoLimit := by
      obtain ⟨mc, h1, h2⟩ := hlim
      exact ⟨mc, bn h1, h2⟩
    have e0 : Env0 P w K mg (hidT s1.heap H) callerA [] s1 H := ⟨rfl, ⟨bK, bn hns, ⟨mb, bn hb, hbb⟩, lm⟩, fun b o e => of_hidT e, Nat.le_of_eq (hidT_size _ _), trivial, (fun b z => nomatch z), hok, .of_eq hg⟩
    refine codeAny_mono ((F _ bK (bn hns)).run callerA [] s1 H ⟨[.ref a], []⟩ [.ref a] [.ref a] _ _ rfl hr e0 (hbind s1 (.ref a)) (.cons rfl .nil) (hsp H hO hS)) fun r s' h => ?_
    cases r with
    | error e => exact False.elim h
    | ok fl =>
      cases fl with
      | next => exact False.elim h
      | brk => exact False.elim h
      | cont => exact False.elim h
      | ret u =>
        obtain ⟨v, H', os, bare, un, hok', r', q⟩ := h
        have qv : v = .bl true := q
        subst qv
        obtain rfl : u = Value.bool true := r'
        refine ⟨rfl, OldK.of_keep fun b o e => ?_, os, bare⟩
        cases q : H b with
        | none => exact un.keep b o e q (fun z => nomatch z) (fun z => nomatch z)
        | some u =>
          rcases hO b with z | ⟨ob, xs, z⟩
          · rw [z] at q
            cases q
          · obtain ⟨e1, _⟩ := hok b _ z
            obtain ⟨e2, _⟩ := hok' b _ (un.frzs b ob _ z)
            rw [e1] at e
            cases e
            exact e2
  cases hk : K.lookup a with
  | some o =>
    have e := (KX a o hk).symm.trans ha
    cases e
    exact main (fun _ => none) (fun _ => .inl rfl) (.inr ⟨_, vs.toArray, _, hk, rfl, rfl, rfl, by rw [List.size_toArray, lv]; exact hl, by simpa using rv⟩) (fun b u z => nomatch z) (fun b u z => nomatch z) fun u z => nomatch z
  | none =>
    have gA : ∀ b u, (if b = a then some (HO.frz { cls := .type "list", data := .seq vs.toArray } (.lst (ns.map V.int))) else none) = some u → b = a ∧ u = HO.frz { cls := .type "list", data := .seq vs.toArray } (.lst (ns.map V.int)) := by
      intro b u z
      by_cases c : b = a
      · rw [if_pos c] at z
        exact ⟨c, (Option.some.inj z).symm⟩
      · rw [if_neg c] at z
        cases z
    refine main (fun b => if b = a then some (.frz { cls := .type "list", data := .seq vs.toArray } (.lst (ns.map V.int))) else none) (fun b => ?_) (.inl (.inr ⟨{ cls := .type "list", data := .seq vs.toArray }, if_pos rfl⟩)) (fun b u z => ?_) (fun b u z => (gA b u z).1) fun _ _ => hk
    · by_cases c : b = a
      · exact .inr ⟨_, _, if_pos c⟩
      · exact .inl (if_neg c)
    · obtain ⟨rfl, rfl⟩ := gA b u z
      exact ⟨ha, by rw [List.length_map]; exact hl, vs, _, rv, ha⟩
theorem walk_ofG {l : PySem.W.OpenLaw} {n k : Nat} {q : Program} {loose : List Str} {XP : (Str → Option Value) → Heap → Prop} {YP : World → Heap → Prop} {d : DefRec} {K : Params → PySem.W.Frag} {sp : World → Sp} {x : Str} (hn : l.most = some n) (hn2 : n ≤ sizeLine) (hdf : d.params.defaults = []) (hr : Room k callerA)
    (hY : ∀ (w : World) (h : Heap), YP w h → (K w.params).In h)
    (F : ∀ (w : World) (mg : Str → Option Value) (fa : Addr) (h : Heap), (K w.params).In h → h.Ns mainGlobals mg → mg d.name = some (.ref fa) → ∃ fd : FuncData, (∀ (s : Shared) (u : Value), BindsTo s fd ⟨[u], []⟩ [(x, u)]) ∧ ∀ base : Heap, (K w.params).In base → base.Ns mainGlobals mg → FnG l.prog w (K w.params) mg base CX0 k fa fd [x] (sp w))
    (hsp : ∀ (w : World) (H : Hp) (a : Addr) (ns : List Int), ns.length ≤ n → Only H → SqL (K w.params) H a (ns.map V.int) → sp w [.ref a] H (fun v _ => v = .bl true) fun _ _ _ => False) : PySem.W.WalkO q loose XP YP l.row.toRowW d [] (fun f vs => PySem.call f vs) := by
  refine Att.attach_call hn hdf fun w s₀ s1 mg mb fa o pm cd doc a vs ns G Y ho hd hcd hmg hobj hints hlen hg => ?_
  obtain ⟨fd, hb, hF⟩ := F w mg fa _ (hY w _ Y) G.T.g hmg
  exact law_callG (hY w _ Y) G.T.g G.T.b G.T.builtins G.T.nolimit hg hobj hints (Nat.le_trans hlen hn2) hr hF hb fun H hO hS => hsp w H a ns hlen hO hS
end
theorem ned_ints {K : PySem.W.Frag} {H : Hp} {a b : Addr} {ns ms : List Int} {Q : VK} (ha : SqL K H a (ns.map V.int)) (hb : SqL K H b (ms.map V.int)) (q : Q (.bl (!decide (ns = ms))) H) : rNeD K (.ref a) (.ref b) H Q := by
  refine ⟨_, _, .lst ha (dp_ints ns), .lst hb (dp_ints ms), PySem.W.ke_shaped_ints ns, PySem.W.ke_shaped_ints ms, ?_⟩
  have e : PyData.eqv (.list (ns.map PyData.int)) (.list (ms.map PyData.int)) = decide (ns = ms) := by
    rw [PyData.eqv]
    exact eqv_ints ns ms
  rw [e]
  exact q
abbrev s__law_folded : Stmt := top 11
abbrev N__law_folded : List Str := ["_law_script", "_law_count", "_law_cells", "_law_k", "_law_cell"]
abbrev P__law_folded : List Str := ["_law_script", "_law_count"]
theorem sc__law_folded : FnScope N__law_folded P__law_folded (defScope s__law_folded) := ⟨rfl, rfl, rfl, by decide +kernel, rfl, by decide +kernel, by decide +kernel⟩
def spFold (K : PySem.W.Frag) : Sp := fun vs H Q _ => ∃ (a : Addr) (ns : List Int), vs = [.ref a, .int 4] ∧ SqL K H a (ns.map V.int) ∧ ns.length ≤ 63 ∧ ∀ p (cs : List Int) H', 1 ≤ cs.length → cs.length ≤ 4 → H p = none → Same H H' → H' p = some (.lst (cs.map V.int)) → Q (.ref p) H'
section
variable {P : Program} {w : World} {K : PySem.W.Frag} {mg : Str → Option Value} {base : Heap}
theorem ok_fold {f : Addr} {fd : FuncData} {k : Nat} (F : Fun K "_law_folded" "_law_folded" s__law_folded f fd) (T : Blt mg) : FnOk P w K mg base CX0 (k + 1) f fd P__law_folded (spFold K) := by
  have nd := sc__law_folded.nd
  refine F.ok sc__law_folded (fun vs H Q E h => ?_) (fun cdv A outer s H vs Q E hr h => ?_)
  · obtain ⟨a, ns, rfl, _⟩ := h
    rfl
  · obtain ⟨a, ns, rfl, hL, hlen, q⟩ := h
    refine ⟨_, (pss_cons (ps_set (i := 2) nd rfl (Or.inl rfl) (pe_callTy call_list_of (by rfl) T.b_list (by decide +kernel) (pa_cons (pe_slice (r := rSlL K) sl_list (pv 0) po_none (po_some (pv 1))) pa_nil)))
      (pss_cons (ps_for PassesOwn.never rfl (pi_enum (by rfl) T.b_enumerate (pa_cons (pe_slice (r := rSlL K) sl_list (pv 0) (po_some (pv 1)) (po_some (pe_int))) pa_nil)) (pg_tup (by rfl) (pgs_cons (pg_name (i := 3) nd rfl (Or.inl rfl)) (pgs_cons (pg_name (i := 4) nd rfl (Or.inl rfl)) pgs_nil)))
      (pss_one (ps_asg (pe_op op_add (pe_ix (r := rIxL K) ix_list (pv 2) (pe_op op_mod (pv 3) (pv 1)) (fun _ _ => rfl)) (pe_op op_mul (pv 4) (pe_op op_add (pv 3) (pe_int)))) (pg_sub (pv 2) (pe_op op_mod (pv 3) (pv 1)) set_list))))
      (pss_one (ps_ret (pe_ifExp (pt_cmpR (r := rNeD K) (op_neD hr.units) (pv 2) (pe_lst pa_nil) (nomark _)) (pv 2) (pe_lst (pa_cons (pe_int) pa_nil))))))), ?_⟩
    have e1 : cutV (ns.map V.int) none (some 4) = (ns.take (min 4 ns.length)).map V.int := by
      rw [List.map_take]
      have : cutV (ns.map V.int) none (some 4) = (ns.map V.int).take (min 4 (ns.map V.int).length) := rfl
      rw [this, List.length_map]
    have e2 : cutV (ns.map V.int) (some 4) (some 63) = ((ns.drop (min 4 ns.length)).take (min 63 ns.length - min 4 ns.length)).map V.int := by
      rw [List.map_take, List.map_drop]
      have : cutV (ns.map V.int) (some 4) (some 63) = ((ns.map V.int).drop (min 4 (ns.map V.int).length)).take (min 63 (ns.map V.int).length - min 4 (ns.map V.int).length) := rfl
      rw [this, List.length_map]
    have hl0 : (ns.take (min 4 ns.length)).length = min 4 ns.length := by rw [List.length_take]; omega
    have hl9 : ((ns.drop (min 4 ns.length)).take (min 63 ns.length - min 4 ns.length)).length = ns.length - min 4 ns.length := by
      rw [List.length_take, List.length_drop]
      omega
    generalize (ns.drop (min 4 ns.length)).take (min 63 ns.length - min 4 ns.length) = ms at *
    generalize ns.take (min 4 ns.length) = c0 at *
    walk_at "ev"
    intro p1 hp1
    generalize hG : upd _ p1 _ = H1
    obtain ⟨sm1, hq1⟩ := newO hG hp1
    clear hG
    rw [e1] at hq1
    have hl1 : SqL K H1 p1 (c0.map V.int) ∨ SqT K H1 p1 (c0.map V.int) := .inl (SqL.of hq1)
    walk_at "ev"
    intro p2 hp2
    generalize hG : upd _ p2 _ = H2
    obtain ⟨sm2, hq2⟩ := newO hG hp2
    clear hG
    have sm02 := sm1.trans sm2
    have hL2 := sm02.seq hL
    have hp20 : H p2 = none := sm1.free hp2
    walk_at "ev"
    intro p3 hp3
    generalize hG : upd _ p3 _ = H3
    obtain ⟨sm3, hq3⟩ := newO hG hp3
    clear hG
    rw [e2] at hq3
    have hL3 : SqL K H3 p3 (ms.map V.int) := SqL.of hq3
    have n32 : p3 ≠ p2 := (ne_of_none hq2 hp3).symm
    refine ⟨p3, _, rfl, hL3, for_enumL (K := K) (a := p3) (xs := ms.map V.int) (fun i σ H' => Hold (∃ (cs : List Int) (s3 s4 : Option V), σ = [some (.ref a), some (.int 4), some (.ref p2), s3, s4] ∧ cs.length = min 4 ns.length ∧ Same H H' ∧ H' p3 = some (.lst (ms.map V.int)) ∧ H' p2 = some (.lst (cs.map V.int)))) (.mk ⟨c0, none, none, rfl, hl0, sm02.trans sm3, hq3, sm3 _ _ hq2⟩) ?_ ?_ ?_⟩
    · intro i σ H4 hP
      obtain ⟨cs, s3, s4, rfl, hcl, sm4, h3, h2⟩ := hP.un
      exact SqL.of h3
    · intro i v T' σ H4 hv hP hT
      obtain ⟨cs, s3, s4, rfl, hcl, sm4, h3, h2⟩ := hP.un
      rw [List.getElem?_map] at hv
      obtain ⟨x, hx, ev⟩ := Option.map_eq_some_iff.mp hv
      subst ev
      have hil : i < ms.length := (List.getElem?_eq_some_iff.mp hx).1
      have hc4 : cs.length = 4 := by omega
      generalize hG : upd _ T' _ = H5
      obtain ⟨sm5, hq5⟩ := newO hG hT
      clear hG
      have hT5 : SqT K H5 T' [.int (i : Nat), .int x] := SqT.of hq5
      have h25 := sm5 _ _ h2
      have hL25 : SqL K H5 p2 (cs.map V.int) := SqL.of h25
      have hi4 : i % 4 < cs.length := by omega
      have hat : atI (cs.map V.int) ((i : Int) % 4) = some (.int cs[i % 4]) := at_of (j := i % 4) (by omega) (by rw [List.getElem?_map, List.getElem?_eq_getElem hi4]; rfl)
      have cm : CMul x ((i : Int) + 2) := .inr ⟨by omega, by omega⟩
      have hix : ixN (cs.map V.int).length ((i : Int) % 4) = some (i % 4) := ixn_of (by rw [List.length_map]; exact hi4) (by omega)
      walk_at "ev"
      refine .mk ⟨cs.set (i % 4) (cs[i % 4] + x * ((i : Int) + 2)), _, _, rfl, by rw [List.length_set]; exact hcl, same_mut (sm4.trans sm5) hp20, ?_, ?_⟩
      · rw [upd_ne n32]
        exact sm5 _ _ h3
      · rw [upd_same, List.map_set]
    · intro σ H4 hP
      obtain ⟨cs, s3, s4, rfl, hcl, sm4, h3, h2⟩ := hP.un
      walk_at "ev"
      intro p5 hp5
      generalize hG : upd _ p5 _ = H5
      obtain ⟨sm5, hq5⟩ := newO hG hp5
      clear hG
      have h25 := sm5 _ _ h2
      refine ned_ints (ns := cs) (ms := []) (SqL.of h25) (SqL.of hq5) ?_
      by_cases c : cs = []
      · rw [decide_eq_true c]
        walk_at "ev"
        intro p6 hp6
        generalize hG : upd _ p6 _ = H6
        obtain ⟨sm6, hq6⟩ := newO hG hp6
        exact q p6 [0] _ (by decide) (by decide) ((sm4.trans sm5).free hp6) (sm4.trans (sm5.trans sm6)) hq6
      · rw [decide_eq_false c]
        have hc1 : 0 < cs.length := List.length_pos_iff.mpr c
        walk_at "ev"
        exact q p2 cs _ (by omega) (by omega) hp20 (sm4.trans sm5) h25
end
section
variable {X : Cx} {T : String} {name : Str} {id : String} {r : V → List V → Hp → VK → Prop} {o e : Expr} {es : List Expr} {to : TE} {t : TA} {apos cpos : Pos}
theorem pe_bmK {K : PySem.W.Frag} (hK : X.K = K) (pa : PlainAttrs T) (slot : Slot T name id) (hty : typeOf (.builtin id) = pure (.type "method_descriptor")) (hm : MtR X id r) (ho : PE X o to) (ha : PA X (e :: es) t)
    (hbase : attributeBase o name X.env (eval o X.env) = eval o X.env := by rfl)
    (hfew : ((backTo cpos (starEach (e :: es) X.env)).all (fun x => !x.1) && (backToKw cpos (keywordEach [] X.env)).all (fun x => x.1.isSome)
      && decide ((e :: es).length + ([] : List Keyword).length + (if ([] : List Keyword).isEmpty then 0 else 1) < 30)) = true := by rfl)
    (hline : (apos.endLine == cpos.line) = true := by rfl) (hs : starEach (e :: es) X.env = (false, eval e X.env) :: starEach es X.env := by rfl) (hplain : (backTo cpos (starEach es X.env)).any (·.1) = false := by rfl) :
    PE X (.Call (.Attribute o name apos) (e :: es) [] cpos) (tBM K T r to t) := by
  subst hK
  exact pe_bm pa slot hty hm ho ha hbase hfew hline hs hplain
end
def IsOrd (ns : List Int) : Prop := ns ≠ [] ∧ ns.Nodup ∧ ∀ k, k ∈ ns ↔ 0 ≤ k ∧ k < (ns.length : Int)
theorem rgV_eq (n : Nat) : rgV 0 (n : Int) = ((List.range n).map Int.ofNat).map V.int := by
  unfold rgV
  rw [List.map_map, Int.sub_zero]
  show List.map _ (List.range n) = _
  refine List.map_congr_left fun i _ => ?_
  show V.int (0 + (i : Int)) = V.int (i : Int)
  rw [Int.zero_add]
theorem rng_mem {n : Nat} {k : Int} : k ∈ (List.range n).map Int.ofNat ↔ 0 ≤ k ∧ k < (n : Int) := by
  rw [List.mem_map]
  constructor
  · rintro ⟨j, hj, e⟩
    have := List.mem_range.mp hj
    rw [← e]
    exact ⟨Int.natCast_nonneg j, by show (j : Int) < n; omega⟩
  · rintro ⟨h0, h1⟩
    exact ⟨k.toNat, List.mem_range.mpr (by omega), Int.toNat_of_nonneg h0⟩
theorem rng_srt (n : Nat) : ((List.range n).map Int.ofNat).Pairwise (· < ·) := by
  rw [List.pairwise_map]
  refine List.pairwise_lt_range.imp fun {a b} h => ?_
  show (a : Int) < (b : Int)
  omega
theorem srt_strict : ∀ {l : List Int}, l.Pairwise (· ≤ ·) → l.Nodup → l.Pairwise (· < ·)
  | [], _, _ => .nil
  | a :: r, h, d => by
    rw [List.pairwise_cons] at h ⊢
    rw [List.nodup_cons] at d
    exact ⟨fun b hb => Int.lt_iff_le_and_ne.mpr ⟨h.1 b hb, fun e => d.1 (e ▸ hb)⟩, srt_strict h.2 d.2⟩
theorem IsOrd.sorted {ns ms : List Int} (h : IsOrd ns) (p : ms.Perm ns) (s : ms.Pairwise (· ≤ ·)) : ms = (List.range ns.length).map Int.ofNat :=
  srt_ext (srt_strict s (p.nodup_iff.mpr h.2.1)) (rng_srt _) fun k => (p.mem_iff.trans (h.2.2 k)).trans rng_mem.symm
theorem rng_nodup (n : Nat) : ((List.range n).map Int.ofNat).Nodup := (rng_srt n).imp fun {a b} h e => by omega
theorem IsOrd.of_perm {ns : List Int} (h0 : ns ≠ []) (p : ns.Perm ((List.range ns.length).map Int.ofNat)) : IsOrd ns := ⟨h0, p.nodup_iff.mpr (rng_nodup _), fun _ => p.mem_iff.trans rng_mem⟩
theorem cover : ∀ (n : Nat) (l : List Int), l.length = n → (∀ k : Nat, k < n → l.count (k : Int) = 1) → l.Perm ((List.range n).map Int.ofNat)
  | 0, l, h, _ => by
    rw [List.length_eq_zero_iff.mp h]
    exact .refl _
  | n + 1, l, h, c => by
    have hm : (n : Int) ∈ l := List.count_pos_iff.mp (by rw [c n (by omega)]; exact Nat.zero_lt_one)
    have ih := cover n (l.erase (n : Int)) (by rw [List.length_erase_of_mem hm, h]; rfl) fun k hk => by
      rw [List.count_erase_of_ne (by omega)]
      exact c k (by omega)
    rw [List.range_succ, List.map_append]
    exact (List.perm_cons_erase hm).trans ((ih.cons _).trans (List.perm_append_comm (l₁ := [(n : Int)])))
theorem IsOrd.iff {ns : List Int} (h0 : ns ≠ []) : IsOrd ns ↔ ∀ k : Nat, k < ns.length → ns.count (k : Int) = 1 := by
  constructor
  · intro h k hk
    rw [h.2.1.count, if_pos ((h.2.2 k).mpr ⟨by omega, by omega⟩)]
  · exact fun h => .of_perm h0 (cover _ ns rfl h)
theorem isord_p {t : List Nat} (h : IsP t) (h0 : t ≠ []) : IsOrd (t.map Int.ofNat) := by
  refine ⟨fun z => h0 (List.map_eq_nil_iff.mp z), ?_, fun k => ?_⟩
  · rw [List.Nodup, List.pairwise_map]
    exact h.1.imp fun {a b} hne e => hne (Int.ofNat.inj e)
  · rw [List.length_map, List.mem_map]
    constructor
    · rintro ⟨j, hj, e⟩
      rw [← e]
      exact ⟨Int.natCast_nonneg j, by show (j : Int) < _; have := h.2 j hj; omega⟩
    · rintro ⟨k0, k1⟩
      exact ⟨k.toNat, h.sur (by omega), Int.toNat_of_nonneg k0⟩
/-! ### things, by what they are -/
open Classical in
noncomputable def ordD (d : PyData) : Bool := decide (∃ ns : List Int, d = .list (ns.map PyData.int) ∧ IsOrd ns)
def intD : PyData → Bool
  | .int _ => true
  | _ => false
def unD : PyData → Int
  | .int i => i
  | _ => 0
theorem map_un : ∀ ns : List Int, (ns.map PyData.int).map unD = ns
  | [] => rfl
  | x :: r => by
    rw [List.map_cons, List.map_cons, map_un r]
    rfl
open Classical in
theorem ordD_ints {ns : List Int} {b : Bool} (h : b = true ↔ IsOrd ns) : ordD (.list (ns.map PyData.int)) = b := by
  unfold ordD
  by_cases c : b = true
  · rw [c]
    exact decide_eq_true ⟨ns, rfl, h.mp c⟩
  · rw [Bool.not_eq_true] at c
    rw [c]
    refine decide_eq_false ?_
    rintro ⟨ms, e, ho⟩
    have e2 := congrArg (List.map unD) (PyData.list.inj e)
    rw [map_un, map_un] at e2
    subst e2
    rw [h.mpr ho] at c
    cases c
open Classical in
theorem ordD_not {d : PyData} (h : ∀ ns : List Int, d = .list (ns.map PyData.int) → ns = []) : ordD d = false := by
  unfold ordD
  refine decide_eq_false ?_
  rintro ⟨ms, e, ho⟩
  exact ho.1 (h ms e)
theorem all_intD : ∀ ns : List Int, (ns.map PyData.int).all intD = true
  | [] => rfl
  | x :: r => by
    rw [List.map_cons, List.all_cons, all_intD r]
    rfl
theorem ordD_mix {ds : List PyData} (h : ds.all intD = false) : ordD (.list ds) = false := ordD_not fun ns e => by
  rw [PyData.list.inj e, all_intD] at h
  cases h
theorem ints_of {K : PySem.W.Frag} {H : Hp} : ∀ {xs : List V} {ds : List PyData}, DpAll K H xs ds → ds.all intD = true → ∃ ns : List Int, ds = ns.map PyData.int ∧ xs = ns.map V.int
  | _, _, .nil, _ => ⟨[], rfl, rfl⟩
  | _, _, .cons (d := d) h q, e => by
    rw [List.all_cons, Bool.and_eq_true] at e
    obtain ⟨ns, e1, e2⟩ := ints_of q e.2
    cases h with
    | int i => exact ⟨i :: ns, by rw [e1]; rfl, by rw [e2]; rfl⟩
    | _ => cases e.1
def tyD : PyData → String
  | .none => "NoneType"
  | .bool _ => "bool"
  | .int _ => "int"
  | .str _ => "str"
  | .list _ => "list"
  | .tuple _ => "tuple"
  | .dict _ => "dict"
theorem kdD {K : PySem.W.Frag} {H : Hp} {v : V} {d : PyData} (h : Dp K H v d) : Kd K H v (tyD d) := by
  cases h with
  | non => exact .non
  | bl b => exact .bl b
  | int i => exact .int i
  | str x => exact .str x
  | lst h _ => exact .lst h
  | tup h _ => exact .tup h
theorem tyD_int (d : PyData) : (tyD d == "int") = intD d := by
  cases d <;> rfl
theorem ordD_kind {d : PyData} (h : tyD d ≠ "list") : ordD d = false := ordD_not fun ns e => absurd (by rw [e]; rfl) h
abbrev s_is_order : Stmt := top 3
abbrev N_is_order : List Str := ["thing", "part"]
abbrev P_is_order : List Str := ["thing"]
theorem sc_is_order : FnScope N_is_order P_is_order (defScope s_is_order) := ⟨rfl, rfl, rfl, by decide +kernel, rfl, by decide +kernel, by decide +kernel⟩
def spIsO (K : PySem.W.Frag) : Sp := fun vs H Q _ => ∃ (v : V) (d : PyData), vs = [v] ∧ Dp K H v d ∧ (∀ ds, d = .list ds → ds.length ≤ 100) ∧ ∀ H', Same H H' → Q (.bl (ordD d)) H'
section
variable {P : Program} {w : World} {K : PySem.W.Frag} {mg : Str → Option Value} {base : Heap}
theorem ok_isO {f f1 : Addr} {fd d1 : FuncData} {k : Nat} (F : Fun K "is_order" "is_order" s_is_order f fd) (T : Blt mg) (D_is_whole : Df K mg "is_whole" s_is_whole P_is_whole f1 d1) : FnOk P w K mg base CX0 (k + 2) f fd P_is_order (spIsO K) := by
  have G_is_whole : FnOk P w K mg base CX0 (k + 1) f1 d1 P_is_whole (spWhole K) := ok_whole D_is_whole.F T
  have nd := sc_is_order.nd
  refine F.ok sc_is_order (fun vs H Q E h => ?_) (fun cdv A outer s H vs Q E hr h => ?_)
  · obtain ⟨v, d, rfl, _⟩ := h
    rfl
  · obtain ⟨v, d, rfl, hd, hl, q⟩ := h
    refine ⟨_, (pss_cons (ps_if (PW.pt (pw_or (pt_not (pt_val (pe_callB (r := rIsi K) call_isi (by rfl) T.b_isinstance (by decide +kernel) (pa_cons (pv 0) (pa_cons (pe_bltn (v := .ty "list") (by rfl) T.b_list (by decide +kernel) rfl) pa_nil))))) (pw_or (pt_not (pt_truth (pv 0) (by intro _; rfl))) (pw_or1 (pt_not (pt_val (pe_callB (r := rAll K) (cr_all rfl) (by rfl) T.b_all (by decide +kernel) (pa_cons (pe_lc (own := [("part", 1)]) (g := gName 1) (by rfl) nd (pi_list (pv 0)) (blkOk_by (own := [("part", 1)]) (N := N_is_order) (sc := defScope s_is_order) (by decide +kernel)) (fun _ _ _ _ _ => (pg_name (i := 1) nd rfl (Or.inl rfl))) (fun _ _ _ _ _ => pts_nil) (fun _ _ _ _ _ => (pe_call G_is_whole (hr.mono (by omega)) (by rfl) D_is_whole.g D_is_whole.F.kp D_is_whole.b .nil pass0 (pa_cons (pv 1) pa_nil)))) pa_nil)))))))) (pss_one (ps_ret (pe_bl))) pss_nil)
      (pss_one (ps_ret (pe_cmpR (r := rEqD K) (op_eqD hr.units) (pe_callB (r := rSortedI K) cr_sortedI (by rfl) T.b_sorted (by decide +kernel) (pa_cons (pv 0) pa_nil)) (pe_listRg (by rfl) (by rfl) T.b_list (prg_1 (by rfl) T.b_range (pe_callB (r := rLenQ K) call_len_seq (by rfl) T.b_len (by decide +kernel) (pa_cons (pv 0) pa_nil)))) (nomark _))))), ?_⟩
    have kd := kdD hd
    have ty := kd.ty
    obtain ⟨k1, k2, k3, k4, k5⟩ := kd.kit
    have q0 := q H (Same.refl _)
    cases hd with
    | non =>
      rw [ordD_kind (by simp [tyD])] at q0
      walk_at "ev"
      exact q0
    | bl b =>
      rw [ordD_kind (by simp [tyD])] at q0
      walk_at "ev"
      exact q0
    | int i =>
      rw [ordD_kind (by simp [tyD])] at q0
      walk_at "ev"
      exact q0
    | str z =>
      rw [ordD_kind (by simp [tyD])] at q0
      walk_at "ev"
      exact q0
    | tup hs ha =>
      rw [ordD_kind (by simp [tyD])] at q0
      walk_at "ev"
      exact q0
    | lst hs ha =>
      rename_i a xs ds
      have hlen := hl ds rfl
      have hdl := dpall_len ha
      have htru : TruV K (.ref a) H (!xs.isEmpty) := .inl ⟨_, hs, rfl⟩
      cases ha with
      | nil =>
        rw [ordD_not (fun ns e => by cases ns with | nil => rfl | cons x r => cases e)] at q0
        walk_at "ev"
        exact q0
      | cons h1 h2 =>
      rename_i v1 vs1 dd1 ds1
      have ha := DpAll.cons h1 h2
      generalize hx : v1 :: vs1 = xs at *
      generalize hy : dd1 :: ds1 = ds at *
      have hne : (!xs.isEmpty) = true := by rw [← hx]; rfl
      have hdn : ds ≠ [] := by rw [← hy]; exact List.cons_ne_nil _ _
      clear hx hy h1 h2
      rw [hne] at htru
      have hL' : ∃ xs, SqL K H a xs := ⟨_, hs⟩
      walk_at "ev"
      intro D hD
      refine lc_list (K := K) (a := a) (xs := xs) (fun i H' => Hold (Same H H' ∧ H' D = some (.lst (((ds.take i).map intD).map V.bl)))) (.mk ⟨same_new hD, upd_same⟩) ?_ ?_ ?_
      · intro i H1 hi hP
        obtain ⟨sm1, hD1⟩ := hP.un
        exact sm1.seq hs
      · intro i v H1 hv hP
        obtain ⟨sm1, hD1⟩ := hP.un
        obtain ⟨d, hdi, hdv⟩ := dpall_get ha hv
        have hil : i < ds.length := (List.getElem?_eq_some_iff.mp hdi).1
        have kdx := kdD (dp_same sm1 hdv)
        have hsz : (((ds.take i).map intD).map V.bl).length < sizeLine := szm (by rw [List.length_map, List.length_map, List.length_take]; omega)
        walk_at "ev"
        refine .mk ⟨same_mut sm1 hD, ?_⟩
        rw [upd_same, List.take_add_one, hdi, List.map_append, List.map_append, tyD_int]
        rfl
      · intro H1 hP
        obtain ⟨sm1, hD1⟩ := hP.un
        rw [hdl, List.take_length] at hD1
        have hLD : SqL K H1 D ((ds.map intD).map V.bl) := SqL.of hD1
        have hL1 := sm1.seq hs
        refine ⟨D, _, rfl, hLD, ?_⟩
        have hal : (ds.map intD).all id = ds.all intD := by rw [List.all_map]; rfl
        rw [hal]
        cases hb : ds.all intD with
        | false =>
          have q1 := q H1 sm1
          rw [ordD_mix hb] at q1
          walk_at "ev"
          exact q1
        | true =>
          obtain ⟨ns, rfl, rfl⟩ := ints_of ha hb
          rw [List.length_map] at hlen
          have hnn : ns ≠ [] := fun z => hdn (by rw [z]; rfl)
          walk_at "ev"
          intro ms p pm ps hp
          generalize hG : upd _ p _ = H2
          obtain ⟨sm2, hq2⟩ := newO hG hp
          clear hG
          have hL2 := sm2.seq hL1
          have rg : RgOk 0 ((ns.map V.int).length : Int) := RgOk.of_le (by decide) (by rw [List.length_map]; omega) (by decide) (by omega)
          walk_at "ev"
          intro p3 hp3
          generalize hG : upd _ p3 _ = H3
          obtain ⟨sm3, hq3⟩ := newO hG hp3
          clear hG
          rw [List.length_map, rgV_eq] at hq3
          refine eqd_ints (SqL.of (sm3 _ _ hq2)) (SqL.of hq3) ?_
          have q3 := q H3 (sm1.trans (sm2.trans sm3))
          rw [ordD_ints (b := decide (ms = (List.range ns.length).map Int.ofNat))] at q3
          · exact q3
          · rw [decide_eq_true_iff]
            exact ⟨fun e => .of_perm hnn (e ▸ pm.symm), fun h => h.sorted pm ps⟩
end
abbrev s__law_is_it : Stmt := top 14
abbrev N__law_is_it : List Str := ["_law_thing", "_law_k", "_law_one"]
abbrev P__law_is_it : List Str := ["_law_thing"]
theorem sc__law_is_it : FnScope N__law_is_it P__law_is_it (defScope s__law_is_it) := ⟨rfl, rfl, rfl, by decide +kernel, rfl, by decide +kernel, by decide +kernel⟩
def spIsIt (K : PySem.W.Frag) : Sp := fun vs H Q _ => ∃ (v : V) (d : PyData), vs = [v] ∧ Dp K H v d ∧ SeqAt.shaped d = true ∧ (∀ ds, d = .list ds → ds.length ≤ 100) ∧ ∀ H', Same H H' → Q (.bl (ordD d)) H'
section
variable {P : Program} {w : World} {K : PySem.W.Frag} {mg : Str → Option Value} {base : Heap}
theorem ok_isIt {f : Addr} {fd : FuncData} {k : Nat} (F : Fun K "_law_is_it" "_law_is_it" s__law_is_it f fd) (T : Blt mg) : FnOk P w K mg base CX0 (k + 1) f fd P__law_is_it (spIsIt K) := by
  have nd := sc__law_is_it.nd
  refine F.ok sc__law_is_it (fun vs H Q E h => ?_) (fun cdv A outer s H vs Q E hr h => ?_)
  · obtain ⟨v, d, rfl, _⟩ := h
    rfl
  · obtain ⟨v, d, rfl, hd, hsh, hl, q⟩ := h
    refine ⟨_, (pss_cons (ps_if (PW.pt (pw_or (pt_not (pt_val (pe_callB (r := rIsi K) call_isi (by rfl) T.b_isinstance (by decide +kernel) (pa_cons (pv 0) (pa_cons (pe_bltn (v := .ty "list") (by rfl) T.b_list (by decide +kernel) rfl) pa_nil))))) (pw_or1 (pt_cmpR (r := rEqD K) (op_eqD hr.units) (pv 0) (pe_lst pa_nil) (nomark _))))) (pss_one (ps_ret (pe_bl))) pss_nil)
      (pss_cons (ps_if (pt_not (pt_val (pe_callB (r := rAll K) (cr_all rfl) (by rfl) T.b_all (by decide +kernel) (pa_cons (pe_lc (own := [("_law_one", 2)]) (g := gName 2) (by rfl) nd (pi_list (pv 0)) (blkOk_by (own := [("_law_one", 2)]) (N := N__law_is_it) (sc := defScope s__law_is_it) (by decide +kernel)) (fun _ _ _ _ _ => (pg_name (i := 2) nd rfl (Or.inl rfl))) (fun _ _ _ _ _ => pts_nil) (fun _ _ _ _ _ => (pe_and (pe_callB (r := rIsi K) call_isi (by rfl) T.b_isinstance (by decide +kernel) (pa_cons (pv 2) (pa_cons (pe_bltn (v := .ty "int") (by rfl) T.b_int (by decide +kernel) rfl) pa_nil))) (pe_one (pe_not (pe_callB (r := rIsi K) call_isi (by rfl) T.b_isinstance (by decide +kernel) (pa_cons (pv 2) (pa_cons (pe_bltn (v := .ty "bool") (by rfl) T.b_bool (by decide +kernel) rfl) pa_nil)))))))) pa_nil)))) (pss_one (ps_ret (pe_bl))) pss_nil)
      (pss_one (ps_ret (pe_callB (r := rAll K) (cr_all rfl) (by rfl) T.b_all (by decide +kernel) (pa_cons (pe_lc (own := [("_law_k", 1)]) (g := gName 1) (by rfl) nd (pi_range1 (by rfl) T.b_range (pa_cons (pe_callB (r := rLenQ K) call_len_seq (by rfl) T.b_len (by decide +kernel) (pa_cons (pv 0) pa_nil)) pa_nil)) (blkOk_by (own := [("_law_k", 1)]) (N := N__law_is_it) (sc := defScope s__law_is_it) (by decide +kernel)) (fun _ _ _ _ _ => (pg_name (i := 1) nd rfl (Or.inl rfl))) (fun _ _ _ _ _ => pts_nil) (fun _ _ _ _ _ => (pe_cmpR op_eq (pe_bmK (K := K) (r := rCntI K) rfl PySem.F.plainAttrs_list PySem.F.slot_list_count PySem.F.type_list_count mt_lcount (pv 0) (pa_cons (pv 1) pa_nil)) (pe_int) (nomark _)))) pa_nil)))))), ?_⟩
    have kd := kdD hd
    have ty := kd.ty
    obtain ⟨k1, k2, k3, k4, k5⟩ := kd.kit
    have q0 := q H (Same.refl _)
    have hd0 := hd
    cases hd with
    | non =>
      rw [ordD_kind (by simp [tyD])] at q0
      walk_at "ev"
      exact q0
    | bl b =>
      rw [ordD_kind (by simp [tyD])] at q0
      walk_at "ev"
      exact q0
    | int i =>
      rw [ordD_kind (by simp [tyD])] at q0
      walk_at "ev"
      exact q0
    | str z =>
      rw [ordD_kind (by simp [tyD])] at q0
      walk_at "ev"
      exact q0
    | tup hs ha =>
      rw [ordD_kind (by simp [tyD])] at q0
      walk_at "ev"
      exact q0
    | lst hs ha =>
      rename_i a xs ds
      have hlen := hl ds rfl
      have hdl := dpall_len ha
      clear q0
      walk_at "ev"
      w_cond _1
      have hd1 := dp_same sm1 hd0
      have hn1 : Dp K H1 (.ref l1) (.list []) := .lst (SqL.of hq1) .nil
      have hsn : SeqAt.shaped (.list []) = true := by decide +kernel
      walk_at "ev"
      cases hde : ds with
      | nil =>
        subst hde
        have q1 := q H1 sm1
        rw [ordD_not (fun ns e => by cases ns with | nil => rfl | cons x r => cases e)] at q1
        refine iteTe rfl ?_
        walk_at "ev"
        exact q1
      | cons dd1 ds1 =>
      have hdn : ds ≠ [] := by rw [hde]; exact List.cons_ne_nil _ _
      rw [← hde]
      have heq : PyData.eqv (.list ds) (.list []) = false := by rw [hde]; rfl
      clear hde
      refine iteFe heq ?_
      have hs1 := sm1.seq hs
      have hL' : ∃ xs, SqL K H1 a xs := ⟨_, hs1⟩
      walk_at "ev"
      intro D hD
      refine lc_list (K := K) (a := a) (xs := xs) (fun i H' => Hold (Same H1 H' ∧ H' D = some (.lst (((ds.take i).map intD).map V.bl)))) (.mk ⟨same_new hD, upd_same⟩) ?_ ?_ ?_
      · intro i H2 hi hP
        obtain ⟨sm2, hD2⟩ := hP.un
        exact sm2.seq hs1
      · intro i v H2 hv hP
        obtain ⟨sm2, hD2⟩ := hP.un
        obtain ⟨d, hdi, hdv⟩ := dpall_get ha hv
        have hil : i < ds.length := (List.getElem?_eq_some_iff.mp hdi).1
        have hdx := dp_same (sm1.trans sm2) hdv
        have kdx := kdD hdx
        have tyx := kdx.ty
        obtain ⟨j1, j2, j3, j4, j5⟩ := kdx.kit
        have hsz : (((ds.take i).map intD).map V.bl).length < sizeLine := szm (by rw [List.length_map, List.length_map, List.length_take]; omega)
        cases hdx
        all_goals (walk_at "ev"; refine .mk ⟨same_mut sm2 hD, ?_⟩; rw [upd_same, List.take_add_one, hdi, List.map_append, List.map_append]; rfl)
      · intro H2 hP
        obtain ⟨sm2, hD2⟩ := hP.un
        rw [hdl, List.take_length] at hD2
        have hLD : SqL K H2 D ((ds.map intD).map V.bl) := SqL.of hD2
        have hL2 := sm2.seq hs1
        refine ⟨D, _, rfl, hLD, ?_⟩
        have hal : (ds.map intD).all id = ds.all intD := by rw [List.all_map]; rfl
        rw [hal]
        cases hb : ds.all intD with
        | false =>
          have q1 := q H2 (sm1.trans sm2)
          rw [ordD_mix hb] at q1
          walk_at "ev"
          exact q1
        | true =>
          obtain ⟨ns, rfl, rfl⟩ := ints_of ha hb
          rw [List.length_map] at hlen
          have hnn : ns ≠ [] := fun z => hdn (by rw [z]; rfl)
          walk_at "ev"
          intro D2 hD2'
          refine lc_range (lo := 0) (n := _) (fun j H' => Hold (Same H2 H' ∧ H' D2 = some (.lst (((List.range j).map fun k : Nat => decide (ns.count (k : Int) = 1)).map V.bl)))) (.mk ⟨same_new hD2', upd_same⟩) ?_ ?_
          · intro j H3 hj hP3
            obtain ⟨sm3, hD3⟩ := hP3.un
            have hL3 := sm3.seq hL2
            have hj2 : j < 100 := by
              have : j < ns.length := by
                rw [List.length_map] at hj
                omega
              omega
            have hsz : (((List.range j).map fun k : Nat => decide (ns.count (k : Int) = 1)).map V.bl).length < sizeLine := szm (by rw [List.length_map, List.length_map, List.length_range]; omega)
            have tyv : tyV K "list" (.ref a) H3 := .inl ⟨rfl, _, hL3⟩
            walk_at "ev"
            refine .mk ⟨same_mut sm3 hD2', ?_⟩
            rw [upd_same, List.range_succ, List.map_append, List.map_append]
            have e : decide (V.int ((ns.count (0 + (j : Int)) : Nat) : Int) = V.int 1) = decide (ns.count (j : Int) = 1) := by
              rw [Int.zero_add]
              by_cases c : ns.count (j : Int) = 1
              · rw [c]
                rfl
              · rw [decide_eq_false c, decide_eq_false fun z => c (by have := V.int.inj z; omega)]
            rw [e]
            rfl
          · intro H3 hP3
            obtain ⟨sm3, hD3⟩ := hP3.un
            refine ⟨D2, _, rfl, SqL.of hD3, ?_⟩
            have q3 := q H3 (sm1.trans (sm2.trans sm3))
            rw [ordD_ints (b := ((List.range (((ns.map V.int).length : Int) - 0).toNat).map fun k : Nat => decide (ns.count (k : Int) = 1)).all id)] at q3
            · exact q3
            · rw [IsOrd.iff hnn, List.all_map, List.all_eq_true, List.length_map, Int.sub_zero]
              constructor
              · intro h k hk
                have := h k (List.mem_range.mpr hk)
                exact of_decide_eq_true this
              · intro h k hk
                exact decide_eq_true (h k (List.mem_range.mp hk))
end
/-! ### the rounds, just so -/
theorem Cyc.uniq {t : List Nat} {s m n : Nat} (a : Cyc t s m) (b : Cyc t s n) : m = n := by
  rcases Nat.lt_trichotomy m n with z | z | z
  · exact absurd a.2.1 (b.2.2 (m + 1) (by omega) (by omega))
  · exact z
  · exact absurd b.2.1 (a.2.2 (n + 1) (by omega) (by omega))
theorem Cyc.ex {t : List Nat} {s : Nat} (h : IsP t) (hs : s < t.length) : ∃ m, Cyc t s m ∧ m < t.length := by
  obtain ⟨r, r1, r2, hr⟩ := it_back h hs
  have key : ∀ n r, r ≤ n → 1 ≤ r → r ≤ t.length → itN t s r = s → ∃ m, Cyc t s m ∧ m < t.length := by
    intro n
    induction n with
    | zero => intro r h0 h1; omega
    | succ n ih =>
      intro r h0 h1 h2 h3
      by_cases c : ∃ j, 1 ≤ j ∧ j < r ∧ itN t s j = s
      · obtain ⟨j, j1, j2, j3⟩ := c
        exact ih j (by omega) j1 (by omega) j3
      · refine ⟨r - 1, ⟨hs, by rw [show r - 1 + 1 = r by omega]; exact h3, fun j j1 j2 e => c ⟨j, j1, by omega, e⟩⟩, by omega⟩
  exact key r r (Nat.le_refl _) r1 r2 hr
open Classical in
noncomputable def cycN (t : List Nat) (s : Nat) : List Nat := if h : ∃ m, Cyc t s m then (List.range (h.choose + 1)).map (itN t s) else []
theorem cycN_eq {t : List Nat} {s m : Nat} (h : Cyc t s m) : cycN t s = (List.range (m + 1)).map (itN t s) := by
  have hx : ∃ m, Cyc t s m := ⟨m, h⟩
  unfold cycN
  rw [dif_pos hx, hx.choose_spec.uniq h]
noncomputable def snR (t : List Nat) : Nat → List Nat × List (List Nat)
  | 0 => ([], [])
  | i + 1 => if i ∈ (snR t i).1 ∨ t.getD i 0 = i then snR t i else ((snR t i).1 ++ cycN t i, (snR t i).2 ++ [cycN t i])
noncomputable def mtR (t : List Nat) : Nat → List Nat × List (List Nat)
  | 0 => ([], [])
  | i + 1 => if i ∈ (mtR t i).1 then mtR t i else ((mtR t i).1 ++ cycN t i, (mtR t i).2 ++ if 1 < (cycN t i).length then [cycN t i] else [])
theorem sn_mt {t : List Nat} (h : IsP t) : ∀ i : Nat, i ≤ t.length → (∀ x, t.getD x 0 ≠ x → (x ∈ (mtR t i).1 ↔ x ∈ (snR t i).1)) ∧ (mtR t i).2 = (snR t i).2
  | 0, _ => ⟨fun x _ => Iff.rfl, rfl⟩
  | i + 1, hi => by
    obtain ⟨ih1, ih2⟩ := sn_mt h i (by omega)
    obtain ⟨m, hc, hm⟩ := Cyc.ex h (show i < t.length by omega)
    have he := cycN_eq hc
    have hl : (cycN t i).length = m + 1 := by rw [he, List.length_map, List.length_range]
    by_cases c : t.getD i 0 = i
    · have m0 : m = 0 := by
        apply Classical.byContradiction
        intro z
        exact hc.2.2 1 (by omega) (by omega) c
      subst m0
      have hs : snR t (i + 1) = snR t i := by
        rw [snR, if_pos (.inr c)]
      rw [hs, mtR]
      by_cases c2 : i ∈ (mtR t i).1
      · rw [if_pos c2]
        exact ⟨ih1, ih2⟩
      · rw [if_neg c2, hl, if_neg (by omega), he]
        refine ⟨fun x hx => ?_, by rw [List.append_nil]; exact ih2⟩
        rw [← ih1 x hx]
        show x ∈ (mtR t i).1 ++ _ ↔ _
        rw [List.mem_append]
        constructor
        · rintro (z | z)
          · exact z
          · have : x = i := by simpa [itN] using z
            exact absurd (this ▸ c) hx
        · exact .inl
    · have m1 : 1 ≤ m := by
        apply Classical.byContradiction
        intro z
        have : m = 0 := by omega
        subst this
        exact c hc.2.1
      by_cases c2 : i ∈ (mtR t i).1
      · have c3 := (ih1 i c).mp c2
        rw [mtR, if_pos c2, snR, if_pos (.inl c3)]
        exact ⟨ih1, ih2⟩
      · have c3 : ¬ (i ∈ (snR t i).1 ∨ t.getD i 0 = i) := by
          rintro (z | z)
          · exact c2 ((ih1 i c).mpr z)
          · exact c z
        rw [mtR, if_neg c2, snR, if_neg c3, hl, if_pos (by omega)]
        refine ⟨fun x hx => ?_, by rw [ih2]⟩
        show x ∈ (mtR t i).1 ++ _ ↔ x ∈ (snR t i).1 ++ _
        rw [List.mem_append, List.mem_append, ih1 x hx]
theorem cyc_lt {t : List Nat} {s : Nat} (h : IsP t) (hs : s < t.length) : (∀ x ∈ cycN t s, x < t.length) ∧ (cycN t s).length ≤ t.length := by
  obtain ⟨m, hc, hm⟩ := Cyc.ex h hs
  rw [cycN_eq hc]
  refine ⟨fun x hx => ?_, by rw [List.length_map, List.length_range]; omega⟩
  obtain ⟨j, _, rfl⟩ := List.mem_map.mp hx
  exact it_lt h hs j
/-- what the rounds are, all of them -/
noncomputable def rds (t : List Nat) : List (List Nat) := (snR t t.length).2
theorem snR_len {t : List Nat} : ∀ i : Nat, (snR t i).2.length ≤ i
  | 0 => Nat.le_refl _
  | i + 1 => by
    have ih := snR_len (t := t) i
    rw [snR]
    split
    · omega
    · rw [List.length_append]
      show _ + 1 ≤ _
      omega
theorem snR_all {t : List Nat} (h : IsP t) : ∀ i : Nat, i ≤ t.length → ∀ l ∈ (snR t i).2, (∀ x ∈ l, x < t.length) ∧ l.length ≤ t.length
  | 0, _ => fun l hl => by cases hl
  | i + 1, hi => by
    have ih := snR_all h i (by omega)
    rw [snR]
    split
    · exact ih
    · intro l hl
      rcases List.mem_append.mp hl with z | z
      · exact ih l z
      · rw [List.mem_singleton.mp z]
        exact cyc_lt h (by omega)
/-- new lists, and what stands in them -/
def Rw (H H' : Hp) (qs : List (Addr × List Nat)) : Prop := ∀ q ∈ qs, H q.1 = none ∧ H' q.1 = some (.lst (q.2.map vN))
theorem Rw.same {H H1 H2 : Hp} {qs : List (Addr × List Nat)} (h : Rw H H1 qs) (e : Same H1 H2) : Rw H H2 qs := fun q hq => ⟨(h q hq).1, e _ _ (h q hq).2⟩
theorem Rw.mut {H H1 : Hp} {qs : List (Addr × List Nat)} {l : Addr} {o : HO} (h : Rw H H1 qs) (n : ∀ q ∈ qs, q.1 ≠ l) : Rw H (upd H1 l o) qs := fun q hq => ⟨(h q hq).1, by rw [upd_ne (n q hq)]; exact (h q hq).2⟩
theorem Rw.snoc {H H1 : Hp} {qs : List (Addr × List Nat)} {p : Addr} {l : List Nat} (h : Rw H H1 qs) (h1 : H p = none) (h2 : H1 p = some (.lst (l.map vN))) : Rw H H1 (qs ++ [(p, l)]) := fun q hq => by
  rcases List.mem_append.mp hq with z | z
  · exact h q z
  · rw [List.mem_singleton.mp z]
    exact ⟨h1, h2⟩
abbrev refs (qs : List (Addr × List Nat)) : List V := qs.map fun q => V.ref q.1
abbrev rowD (l : List Nat) : PyData := .list ((l.map Int.ofNat).map PyData.int)
theorem Rw.dp {K : PySem.W.Frag} {H H' : Hp} : ∀ {qs : List (Addr × List Nat)}, Rw H H' qs → DpAll K H' (refs qs) ((qs.map (·.2)).map rowD)
  | [], _ => .nil
  | q :: r, h => .cons (by
      have h2 := (h q List.mem_cons_self).2
      have e : q.2.map vN = (q.2.map Int.ofNat).map V.int := by rw [List.map_map]; rfl
      rw [e] at h2
      exact .lst (SqL.of h2) (dp_ints _)) (Rw.dp fun x hx => h x (List.mem_cons_of_mem _ hx))
section
variable {P : Program} {w : World} {K : PySem.W.Frag} {mg : Str → Option Value} {base : Heap}
def spRdsL (K : PySem.W.Frag) : Sp := fun vs H Q _ => ∃ (a : Addr) (t : List Nat), vs = [.ref a] ∧ SqL K H a (t.map vN) ∧ IsP t ∧ t.length ≤ 60 ∧ ∀ l (qs : List (Addr × List Nat)) H', qs.map (·.2) = rds t → Rw H H' qs → H l = none → Same H H' → H' l = some (.lst (refs qs)) → Q (.ref l) H'
theorem ok_rdsL {f f1 : Addr} {fd d1 : FuncData} {k : Nat} (F : Fun K "order_cycles" "order_cycles" s_order_cycles f fd) (T : Blt mg) (D_round_from : Df K mg "round_from" s_round_from P_round_from f1 d1) : FnOk P w K mg base CX0 (k + 2) f fd P_order_cycles (spRdsL K) := by
  have G_round_from : FnOk P w K mg base CX0 1 f1 d1 P_round_from (spRoundL K) := ok_roundL D_round_from.F T
  have nd := sc_order_cycles.nd
  refine F.ok sc_order_cycles (fun vs H Q E h => ?_) (fun cdv A outer s H vs Q E hr h => ?_)
  · obtain ⟨a, t, rfl, _⟩ := h
    rfl
  · obtain ⟨a, t, rfl, ha, ht, hlen, q⟩ := h
    refine ⟨_, (pss_cons (ps_set (i := 1) nd rfl (Or.inl rfl) (pe_lst pa_nil))
      (pss_cons (ps_set (i := 2) nd rfl (Or.inl rfl) (pe_callTy0 cr_set0 (by rfl) T.b_set (by decide +kernel)))
      (pss_cons (ps_for PassesOwn.never rfl (pi_range1 (by rfl) T.b_range (pa_cons (pe_callB (r := rLenQ K) call_len_seq (by rfl) T.b_len (by decide +kernel) (pa_cons (pv 0) pa_nil)) pa_nil)) (pg_name (i := 3) nd rfl (Or.inl rfl))
      (pss_cons (ps_if (PW.pt (pw_or (pt_cmpR or_sin (pv 3) (pv 2) (by rfl)) (pw_or1 (pt_cmpR op_eq (pe_ix (r := rIxL K) ix_list (pv 0) (pv 3) (fun _ _ => rfl)) (pv 3) (nomark _))))) (pss_one (ps_continue)) pss_nil)
      (pss_cons (ps_set (i := 4) nd rfl (Or.inl rfl) (pe_call G_round_from (hr.mono (by omega)) (by rfl) D_round_from.g D_round_from.F.kp D_round_from.b .nil pass0 (pa_cons (pv 0) (pa_cons (pv 3) pa_nil))))
      (pss_cons (ps_for PassesOwn.never rfl (pi_list (pv 4)) (pg_name (i := 5) nd rfl (Or.inl rfl))
      (pss_one (ps_expr (pe_sadd (pv 2) (pa_cons (pv 5) pa_nil)))))
      (pss_one (ps_expr (pe_bm PySem.F.plainAttrs_list PySem.F.slot_list_append PySem.F.type_list_append mt_append (pv 1) (pa_cons (pv 4) pa_nil))))))))
      (pss_one (ps_ret (pv 1)))))), ?_⟩
    walk_at "ev"
    w_cond _1
    walk_at "ev"
    w_cond _2
    have ha2 := Same.seq (sm1.trans sm2) ha
    have f2 : H l2 = none := sm1.free hl2
    have n12 : l1 ≠ l2 := ne_of_none hq1 hl2
    walk_at "ev"
    refine for_range (lo := 0) (n := _) (fun i σ H' => Hold (∃ (qs : List (Addr × List Nat)) (S : Int → Bool) (n : Nat) (s3 s4 s5 : Option V), σ = [some (.ref a), some (.ref l1), some (.ref l2), s3, s4, s5] ∧ Same H H' ∧ qs.map (·.2) = (snR t i).2 ∧ Rw H H' qs ∧ n ≤ 60 * i ∧ H' l1 = some (.lst (refs qs)) ∧ H' l2 = some (SetO w l2 S n) ∧ (∀ q ∈ qs, q.1 ≠ l1 ∧ q.1 ≠ l2) ∧ ∀ x : Nat, S (x : Int) = decide (x ∈ (snR t i).1))) (.mk ⟨[], _, 0, none, none, none, rfl, sm1.trans sm2, rfl, (fun q hq => by cases hq), Nat.zero_le _, sm2 _ _ hq1, hq2, (fun q hq => by cases hq), fun x => rfl⟩) ?_ ?_
    · intro i σ H3 hi hP
      obtain ⟨qs, S, n, s3, s4, s5, rfl, sm3, hql, hrw, hn, h13, h23, hpv, hS⟩ := hP.un
      have hil : i < t.length := by
        rw [List.length_map] at hi
        omega
      have ha3 := Same.seq sm3 ha
      have hat : atI (t.map vN) (0 + (i : Int)) = some (vN (t.getD i 0)) := by
        refine at_of (j := i) (by omega) ?_
        rw [List.getElem?_map, List.getD_eq_getElem?_getD, List.getElem?_eq_getElem hil]
        rfl
      have hSi := hS i
      rw [show (i : Int) = 0 + (i : Int) by omega] at hSi
      have hsn : snR t (i + 1) = if i ∈ (snR t i).1 ∨ t.getD i 0 = i then snR t i else ((snR t i).1 ++ cycN t i, (snR t i).2 ++ [cycN t i]) := rfl
      walk_at "ev"
      by_cases c : i ∈ (snR t i).1
      · refine iteTe (by rw [hSi]; exact decide_eq_true c) ?_
        walk_at "ev"
        rw [if_pos (.inl c)] at hsn
        exact .mk ⟨qs, S, n, _, _, _, rfl, sm3, by rw [hsn]; exact hql, hrw, by omega, h13, h23, hpv, by rw [hsn]; exact hS⟩
      · refine iteFe (by rw [hSi]; exact decide_eq_false c) ?_
        walk_at "ev"
        by_cases c2 : t.getD i 0 = i
        · refine iteTe (by rw [c2]; simp) ?_
          walk_at "ev"
          rw [if_pos (.inr c2)] at hsn
          exact .mk ⟨qs, S, n, _, _, _, rfl, sm3, by rw [hsn]; exact hql, hrw, by omega, h13, h23, hpv, by rw [hsn]; exact hS⟩
        · refine iteFe (decide_eq_false fun z => c2 (by have := V.int.inj (show V.int ((t.getD i 0 : Nat) : Int) = V.int (0 + (i : Int)) from z); omega)) ?_
          have hsn2 : snR t (i + 1) = ((snR t i).1 ++ cycN t i, (snR t i).2 ++ [cycN t i]) := by rw [hsn, if_neg (fun z => z.elim c c2)]
          clear hsn
          have hsn := hsn2
          rw [show (0 : Int) + (i : Int) = ((i : Nat) : Int) by omega]
          walk_at "ev"
          intro p m H4 hc4 hm hp sm4 hq4
          have hce := cycN_eq hc4
          rw [← hce] at hq4
          have h14 := sm4 _ _ h13
          have h24 := sm4 _ _ h23
          have np1 : p ≠ l1 := (ne_of_none h13 hp).symm
          have np2 : p ≠ l2 := (ne_of_none h23 hp).symm
          have hrw4 := hrw.same sm4
          have hp0 : H p = none := sm3.free hp
          have hL4 := SqL.of (K := K) hq4
          have hll : ((cycN t i).map vN).length = m + 1 := by rw [hce, List.length_map, List.length_map, List.length_range]
          walk_at "ev"
          refine ⟨⟨_, hL4⟩, ?_⟩
          refine for_list (K := K) (a := p) (xs := (cycN t i).map vN) (fun j σ H' => Hold (∃ (S : Int → Bool) (n : Nat) (s5 : Option V), σ = [some (.ref a), some (.ref l1), some (.ref l2), some (.int (i : Nat)), some (.ref p), s5] ∧ Same H H' ∧ Rw H H' qs ∧ n ≤ 60 * i + j ∧ H' l1 = some (.lst (refs qs)) ∧ H' l2 = some (SetO w l2 S n) ∧ H' p = some (.lst ((cycN t i).map vN)) ∧ ∀ x : Nat, S (x : Int) = decide (x ∈ (snR t i).1 ++ (cycN t i).take j))) (.mk ⟨S, n, _, rfl, sm3.trans sm4, hrw4, by omega, h14, h24, hq4, by rw [List.take_zero, List.append_nil]; exact hS⟩) ?_ ?_ ?_
          · intro j σ H5 hj hP5
            obtain ⟨S, n, t5, rfl, sm5, hc5, hn5, h15, h25, hp5, hS5⟩ := hP5.un
            exact SqL.of hp5
          · intro j v σ H5 hv hP5
            obtain ⟨S, n, t5, rfl, sm5, hc5, hn5, h15, h25, hp5, hS5⟩ := hP5.un
            have hjl := (List.getElem?_eq_some_iff.mp hv).1
            rw [hll] at hjl
            rw [List.getElem?_map] at hv
            obtain ⟨y, hy, ev⟩ := Option.map_eq_some_iff.mp hv
            subst ev
            have hsb : n + 1 < scanBound := by
              show n + 1 < 4096
              omega
            have hex : ∃ a S n, V.ref l2 = V.ref a ∧ H5 a = some (SetO w a S n) := ⟨l2, S, n, rfl, h25⟩
            walk_at "ev"
            refine .mk ⟨_, (if S ((y : Nat) : Int) = true then n else n + 1), _, rfl, same_mut sm5 f2, hc5.mut fun q hq => (hpv q hq).2, ?_, by rw [upd_ne n12]; exact h15, upd_same, by rw [upd_ne np2]; exact hp5, ?_⟩
            · split <;> omega
            · intro x
              rw [List.take_add_one, hy, ← List.append_assoc]
              show (S (x : Int) || decide ((x : Int) = (y : Int))) = decide (x ∈ (snR t i).1 ++ (cycN t i).take j ++ [y])
              rw [hS5 x]
              by_cases e : x = y
              · subst e
                simp
              · have e2 : ¬ ((x : Int) = (y : Int)) := by omega
                simp [e, e2]
          · intro σ H5 hP5
            obtain ⟨S, n, t5, rfl, sm5, hc5, hn5, h15, h25, hp5, hS5⟩ := hP5.un
            rw [hll] at hn5
            rw [List.take_of_length_le (by rw [List.length_map]; exact Nat.le_refl _)] at hS5
            have hql2 : qs.length ≤ i := by
              have := congrArg List.length hql
              rw [List.length_map] at this
              have := snR_len (t := t) i
              omega
            have ty5 : tyV K "list" (.ref l1) H5 := .inl ⟨rfl, _, SqL.of h15⟩
            have z5 : (refs qs).length < sizeLine := szm (by rw [List.length_map]; omega)
            walk_at "ev"
            refine .mk ⟨qs ++ [(p, cycN t i)], S, n, _, _, _, rfl, same_mut sm5 hl1, ?_, ?_, by omega, ?_, by rw [upd_ne n12.symm]; exact h25, ?_, ?_⟩
            · rw [hsn, List.map_append, hql]
              rfl
            · exact Rw.mut (hc5.snoc hp0 hp5) fun q hq => by
                rcases List.mem_append.mp hq with z | z
                · exact (hpv q z).1
                · rw [List.mem_singleton.mp z]
                  exact np1
            · rw [upd_same]
              show _ = some (HO.lst (List.map _ (qs ++ [(p, cycN t i)])))
              rw [List.map_append]
              rfl
            · intro q hq
              rcases List.mem_append.mp hq with z | z
              · exact hpv q z
              · rw [List.mem_singleton.mp z]
                exact ⟨np1, np2⟩
            · rw [hsn]
              exact hS5
    · intro σ H3 hP
      obtain ⟨qs, S, n, s3, s4, s5, rfl, sm3, hql, hrw, hn, h13, h23, hpv, hS⟩ := hP.un
      walk_at "ev"
      refine q l1 qs H3 ?_ hrw hl1 sm3 h13
      rw [hql]
      show (snR t (((t.map vN).length : Int) - 0).toNat).2 = _
      rw [List.length_map, Int.sub_zero]
      rfl
end
section
variable {P : Program} {w : World} {K : PySem.W.Frag} {mg : Str → Option Value} {base : Heap}
def spRdsT (K : PySem.W.Frag) : Sp := fun vs H Q _ => ∃ (a : Addr) (t : List Nat), vs = [.ref a] ∧ SqT K H a (t.map vN) ∧ IsP t ∧ t.length ≤ 60 ∧ ∀ l (qs : List (Addr × List Nat)) H', qs.map (·.2) = rds t → Rw H H' qs → H l = none → Same H H' → H' l = some (.lst (refs qs)) → Q (.ref l) H'
theorem ok_rdsT {f f1 : Addr} {fd d1 : FuncData} {k : Nat} (F : Fun K "order_cycles" "order_cycles" s_order_cycles f fd) (T : Blt mg) (D_round_from : Df K mg "round_from" s_round_from P_round_from f1 d1) : FnOk P w K mg base CX0 (k + 2) f fd P_order_cycles (spRdsT K) := by
  have G_round_from : FnOk P w K mg base CX0 1 f1 d1 P_round_from (spRoundT K) := ok_roundT D_round_from.F T
  have nd := sc_order_cycles.nd
  refine F.ok sc_order_cycles (fun vs H Q E h => ?_) (fun cdv A outer s H vs Q E hr h => ?_)
  · obtain ⟨a, t, rfl, _⟩ := h
    rfl
  · obtain ⟨a, t, rfl, ha, ht, hlen, q⟩ := h
    refine ⟨_, (pss_cons (ps_set (i := 1) nd rfl (Or.inl rfl) (pe_lst pa_nil))
      (pss_cons (ps_set (i := 2) nd rfl (Or.inl rfl) (pe_callTy0 cr_set0 (by rfl) T.b_set (by decide +kernel)))
      (pss_cons (ps_for PassesOwn.never rfl (pi_range1 (by rfl) T.b_range (pa_cons (pe_callB (r := rLenQ K) call_len_seq (by rfl) T.b_len (by decide +kernel) (pa_cons (pv 0) pa_nil)) pa_nil)) (pg_name (i := 3) nd rfl (Or.inl rfl))
      (pss_cons (ps_if (PW.pt (pw_or (pt_cmpR or_sin (pv 3) (pv 2) (by rfl)) (pw_or1 (pt_cmpR op_eq (pe_ix (r := rIxT K) ix_tup (pv 0) (pv 3) (fun _ _ => rfl)) (pv 3) (nomark _))))) (pss_one (ps_continue)) pss_nil)
      (pss_cons (ps_set (i := 4) nd rfl (Or.inl rfl) (pe_call G_round_from (hr.mono (by omega)) (by rfl) D_round_from.g D_round_from.F.kp D_round_from.b .nil pass0 (pa_cons (pv 0) (pa_cons (pv 3) pa_nil))))
      (pss_cons (ps_for PassesOwn.never rfl (pi_list (pv 4)) (pg_name (i := 5) nd rfl (Or.inl rfl))
      (pss_one (ps_expr (pe_sadd (pv 2) (pa_cons (pv 5) pa_nil)))))
      (pss_one (ps_expr (pe_bm PySem.F.plainAttrs_list PySem.F.slot_list_append PySem.F.type_list_append mt_append (pv 1) (pa_cons (pv 4) pa_nil))))))))
      (pss_one (ps_ret (pv 1)))))), ?_⟩
    walk_at "ev"
    w_cond _1
    walk_at "ev"
    w_cond _2
    have ha2 := same_t (sm1.trans sm2) ha
    have f2 : H l2 = none := sm1.free hl2
    have n12 : l1 ≠ l2 := ne_of_none hq1 hl2
    walk_at "ev"
    refine for_range (lo := 0) (n := _) (fun i σ H' => Hold (∃ (qs : List (Addr × List Nat)) (S : Int → Bool) (n : Nat) (s3 s4 s5 : Option V), σ = [some (.ref a), some (.ref l1), some (.ref l2), s3, s4, s5] ∧ Same H H' ∧ qs.map (·.2) = (snR t i).2 ∧ Rw H H' qs ∧ n ≤ 60 * i ∧ H' l1 = some (.lst (refs qs)) ∧ H' l2 = some (SetO w l2 S n) ∧ (∀ q ∈ qs, q.1 ≠ l1 ∧ q.1 ≠ l2) ∧ ∀ x : Nat, S (x : Int) = decide (x ∈ (snR t i).1))) (.mk ⟨[], _, 0, none, none, none, rfl, sm1.trans sm2, rfl, (fun q hq => by cases hq), Nat.zero_le _, sm2 _ _ hq1, hq2, (fun q hq => by cases hq), fun x => rfl⟩) ?_ ?_
    · intro i σ H3 hi hP
      obtain ⟨qs, S, n, s3, s4, s5, rfl, sm3, hql, hrw, hn, h13, h23, hpv, hS⟩ := hP.un
      have hil : i < t.length := by
        rw [List.length_map] at hi
        omega
      have ha3 := same_t sm3 ha
      have hat : atI (t.map vN) (0 + (i : Int)) = some (vN (t.getD i 0)) := by
        refine at_of (j := i) (by omega) ?_
        rw [List.getElem?_map, List.getD_eq_getElem?_getD, List.getElem?_eq_getElem hil]
        rfl
      have hSi := hS i
      rw [show (i : Int) = 0 + (i : Int) by omega] at hSi
      have hsn : snR t (i + 1) = if i ∈ (snR t i).1 ∨ t.getD i 0 = i then snR t i else ((snR t i).1 ++ cycN t i, (snR t i).2 ++ [cycN t i]) := rfl
      walk_at "ev"
      by_cases c : i ∈ (snR t i).1
      · refine iteTe (by rw [hSi]; exact decide_eq_true c) ?_
        walk_at "ev"
        rw [if_pos (.inl c)] at hsn
        exact .mk ⟨qs, S, n, _, _, _, rfl, sm3, by rw [hsn]; exact hql, hrw, by omega, h13, h23, hpv, by rw [hsn]; exact hS⟩
      · refine iteFe (by rw [hSi]; exact decide_eq_false c) ?_
        walk_at "ev"
        by_cases c2 : t.getD i 0 = i
        · refine iteTe (by rw [c2]; simp) ?_
          walk_at "ev"
          rw [if_pos (.inr c2)] at hsn
          exact .mk ⟨qs, S, n, _, _, _, rfl, sm3, by rw [hsn]; exact hql, hrw, by omega, h13, h23, hpv, by rw [hsn]; exact hS⟩
        · refine iteFe (decide_eq_false fun z => c2 (by have := V.int.inj (show V.int ((t.getD i 0 : Nat) : Int) = V.int (0 + (i : Int)) from z); omega)) ?_
          have hsn2 : snR t (i + 1) = ((snR t i).1 ++ cycN t i, (snR t i).2 ++ [cycN t i]) := by rw [hsn, if_neg (fun z => z.elim c c2)]
          clear hsn
          have hsn := hsn2
          rw [show (0 : Int) + (i : Int) = ((i : Nat) : Int) by omega]
          walk_at "ev"
          intro p m H4 hc4 hm hp sm4 hq4
          have hce := cycN_eq hc4
          rw [← hce] at hq4
          have h14 := sm4 _ _ h13
          have h24 := sm4 _ _ h23
          have np1 : p ≠ l1 := (ne_of_none h13 hp).symm
          have np2 : p ≠ l2 := (ne_of_none h23 hp).symm
          have hrw4 := hrw.same sm4
          have hp0 : H p = none := sm3.free hp
          have hL4 := SqL.of (K := K) hq4
          have hll : ((cycN t i).map vN).length = m + 1 := by rw [hce, List.length_map, List.length_map, List.length_range]
          walk_at "ev"
          refine ⟨⟨_, hL4⟩, ?_⟩
          refine for_list (K := K) (a := p) (xs := (cycN t i).map vN) (fun j σ H' => Hold (∃ (S : Int → Bool) (n : Nat) (s5 : Option V), σ = [some (.ref a), some (.ref l1), some (.ref l2), some (.int (i : Nat)), some (.ref p), s5] ∧ Same H H' ∧ Rw H H' qs ∧ n ≤ 60 * i + j ∧ H' l1 = some (.lst (refs qs)) ∧ H' l2 = some (SetO w l2 S n) ∧ H' p = some (.lst ((cycN t i).map vN)) ∧ ∀ x : Nat, S (x : Int) = decide (x ∈ (snR t i).1 ++ (cycN t i).take j))) (.mk ⟨S, n, _, rfl, sm3.trans sm4, hrw4, by omega, h14, h24, hq4, by rw [List.take_zero, List.append_nil]; exact hS⟩) ?_ ?_ ?_
          · intro j σ H5 hj hP5
            obtain ⟨S, n, t5, rfl, sm5, hc5, hn5, h15, h25, hp5, hS5⟩ := hP5.un
            exact SqL.of hp5
          · intro j v σ H5 hv hP5
            obtain ⟨S, n, t5, rfl, sm5, hc5, hn5, h15, h25, hp5, hS5⟩ := hP5.un
            have hjl := (List.getElem?_eq_some_iff.mp hv).1
            rw [hll] at hjl
            rw [List.getElem?_map] at hv
            obtain ⟨y, hy, ev⟩ := Option.map_eq_some_iff.mp hv
            subst ev
            have hsb : n + 1 < scanBound := by
              show n + 1 < 4096
              omega
            have hex : ∃ a S n, V.ref l2 = V.ref a ∧ H5 a = some (SetO w a S n) := ⟨l2, S, n, rfl, h25⟩
            walk_at "ev"
            refine .mk ⟨_, (if S ((y : Nat) : Int) = true then n else n + 1), _, rfl, same_mut sm5 f2, hc5.mut fun q hq => (hpv q hq).2, ?_, by rw [upd_ne n12]; exact h15, upd_same, by rw [upd_ne np2]; exact hp5, ?_⟩
            · split <;> omega
            · intro x
              rw [List.take_add_one, hy, ← List.append_assoc]
              show (S (x : Int) || decide ((x : Int) = (y : Int))) = decide (x ∈ (snR t i).1 ++ (cycN t i).take j ++ [y])
              rw [hS5 x]
              by_cases e : x = y
              · subst e
                simp
              · have e2 : ¬ ((x : Int) = (y : Int)) := by omega
                simp [e, e2]
          · intro σ H5 hP5
            obtain ⟨S, n, t5, rfl, sm5, hc5, hn5, h15, h25, hp5, hS5⟩ := hP5.un
            rw [hll] at hn5
            rw [List.take_of_length_le (by rw [List.length_map]; exact Nat.le_refl _)] at hS5
            have hql2 : qs.length ≤ i := by
              have := congrArg List.length hql
              rw [List.length_map] at this
              have := snR_len (t := t) i
              omega
            have ty5 : tyV K "list" (.ref l1) H5 := .inl ⟨rfl, _, SqL.of h15⟩
            have z5 : (refs qs).length < sizeLine := szm (by rw [List.length_map]; omega)
            walk_at "ev"
            refine .mk ⟨qs ++ [(p, cycN t i)], S, n, _, _, _, rfl, same_mut sm5 hl1, ?_, ?_, by omega, ?_, by rw [upd_ne n12.symm]; exact h25, ?_, ?_⟩
            · rw [hsn, List.map_append, hql]
              rfl
            · exact Rw.mut (hc5.snoc hp0 hp5) fun q hq => by
                rcases List.mem_append.mp hq with z | z
                · exact (hpv q z).1
                · rw [List.mem_singleton.mp z]
                  exact np1
            · rw [upd_same]
              show _ = some (HO.lst (List.map _ (qs ++ [(p, cycN t i)])))
              rw [List.map_append]
              rfl
            · intro q hq
              rcases List.mem_append.mp hq with z | z
              · exact hpv q z
              · rw [List.mem_singleton.mp z]
                exact ⟨np1, np2⟩
            · rw [hsn]
              exact hS5
    · intro σ H3 hP
      obtain ⟨qs, S, n, s3, s4, s5, rfl, sm3, hql, hrw, hn, h13, h23, hpv, hS⟩ := hP.un
      walk_at "ev"
      refine q l1 qs H3 ?_ hrw hl1 sm3 h13
      rw [hql]
      show (snR t (((t.map vN).length : Int) - 0).toNat).2 = _
      rw [List.length_map, Int.sub_zero]
      rfl
end
theorem inV_nat (x : Nat) : ∀ l : List Nat, inV (.int (x : Int)) (l.map vN) = decide (x ∈ l)
  | [] => rfl
  | y :: r => by
    have ih := inV_nat x r
    unfold inV at *
    rw [List.map_cons, List.any_cons, ih]
    show (((y : Int) == (x : Int)) || decide (x ∈ r)) = decide (x ∈ y :: r)
    by_cases c : x = y
    · subst c
      simp
    · have c2 : ((y : Int) == (x : Int)) = false := by
        rw [beq_eq_false_iff_ne]
        omega
      rw [c2]
      simp [c]
theorem flat_nat : ∀ l : List Nat, (l.map vN).all flatV = true
  | [] => rfl
  | y :: r => by
    rw [List.map_cons, List.all_cons, flat_nat r]
    rfl
theorem mtR_len {t : List Nat} (h : IsP t) : ∀ i : Nat, i ≤ t.length → (mtR t i).1.length ≤ t.length * i ∧ (mtR t i).2.length ≤ i
  | 0, _ => ⟨Nat.le_refl _, Nat.le_refl _⟩
  | i + 1, hi => by
    obtain ⟨a, b⟩ := mtR_len h i (by omega)
    have c := (cyc_lt h (show i < t.length by omega)).2
    have e : t.length * (i + 1) = t.length * i + t.length := Nat.mul_succ _ _
    rw [mtR]
    split
    · exact ⟨by omega, by omega⟩
    · refine ⟨?_, ?_⟩
      · rw [List.length_append]
        omega
      · show (_ ++ if 1 < (cycN t i).length then [cycN t i] else []).length ≤ i + 1
        rw [List.length_append]
        split
        · show _ + 1 ≤ _
          omega
        · show _ + 0 ≤ _
          omega
abbrev s__law_rounds : Stmt := top 16
abbrev N__law_rounds : List Str := ["_law_row", "_law_found", "_law_met", "_law_begin", "_law_here", "_law_going", "_law_turn"]
abbrev P__law_rounds : List Str := ["_law_row"]
theorem sc__law_rounds : FnScope N__law_rounds P__law_rounds (defScope s__law_rounds) := ⟨rfl, rfl, rfl, by decide +kernel, rfl, by decide +kernel, by decide +kernel⟩
section
variable {P : Program} {w : World} {K : PySem.W.Frag} {mg : Str → Option Value} {base : Heap}
theorem ok_rnds {f : Addr} {fd : FuncData} {k : Nat} (F : Fun K "_law_rounds" "_law_rounds" s__law_rounds f fd) (T : Blt mg) : FnOk P w K mg base CX0 (k + 1) f fd P__law_rounds (spRdsL K) := by
  have nd := sc__law_rounds.nd
  refine F.ok sc__law_rounds (fun vs H Q E h => ?_) (fun cdv A outer s H vs Q E hr h => ?_)
  · obtain ⟨a, t, rfl, _⟩ := h
    rfl
  · obtain ⟨a, t, rfl, ha, ht, hlen, q⟩ := h
    refine ⟨_, (pss_cons (ps_par (i := 1) (j := 2) (by rfl) nd rfl rfl (by decide) rfl rfl (pa_cons (pe_lst pa_nil) (pa_cons (pe_lst pa_nil) pa_nil)) (by rfl))
      (pss_cons (ps_for PassesOwn.never rfl (pi_range1 (by rfl) T.b_range (pa_cons (pe_callB (r := rLenQ K) call_len_seq (by rfl) T.b_len (by decide +kernel) (pa_cons (pv 0) pa_nil)) pa_nil)) (pg_name (i := 3) nd rfl (Or.inl rfl))
      (pss_one (ps_if (pt_cmpR (r := rIn K true) op_notIn_seq (pv 3) (pv 2) (by rfl)) (pss_cons (ps_par (i := 4) (j := 5) (by rfl) nd rfl rfl (by decide) rfl rfl (pa_cons (pv 3) (pa_cons (pe_lst pa_nil) pa_nil)) (by rfl))
      (pss_cons (ps_for PassesOwn.never rfl (pi_range1 (by rfl) T.b_range (pa_cons (pe_callB (r := rLenQ K) call_len_seq (by rfl) T.b_len (by decide +kernel) (pa_cons (pv 0) pa_nil)) pa_nil)) (pg_name (i := 6) nd rfl (Or.inl rfl))
      (pss_one (ps_if (pt_cmpR (r := rIn K true) op_notIn_seq (pv 4) (pv 5) (by rfl)) (pss_cons (ps_expr (pe_bm PySem.F.plainAttrs_list PySem.F.slot_list_append PySem.F.type_list_append mt_append (pv 5) (pa_cons (pv 4) pa_nil)))
      (pss_one (ps_set (i := 4) nd rfl (Or.inl rfl) (pe_ix (r := rIxL K) ix_list (pv 0) (pv 4) (fun _ _ => rfl))))) pss_nil)))
      (pss_cons (ps_set (i := 2) nd rfl (Or.inl rfl) (pe_op op_cat (pv 2) (pv 5)))
      (pss_one (ps_set (i := 1) nd rfl (Or.inl rfl) (pe_op op_cat (pv 1) (pe_op op_rep (pe_lst (pa_cons (pv 5) pa_nil)) (pe_callTy call_int1 (by rfl) T.b_int (by decide +kernel) (pa_cons (pe_cmpR op_gt (pe_callB (r := rLenQ K) call_len_seq (by rfl) T.b_len (by decide +kernel) (pa_cons (pv 5) pa_nil)) (pe_int) (nomark _)) pa_nil))))))))) pss_nil)))
      (pss_one (ps_ret (pv 1))))), ?_⟩
    walk_at "ev"
    w_cond _1
    walk_at "ev"
    w_cond _2
    have ha2 := Same.seq (sm1.trans sm2) ha
    walk_at "ev"
    refine for_range (lo := 0) (n := _) (fun i σ H' => Hold (∃ (lf lm : Addr) (qs : List (Addr × List Nat)) (s3 s4 s5 s6 : Option V), σ = [some (.ref a), some (.ref lf), some (.ref lm), s3, s4, s5, s6] ∧ Same H H' ∧ qs.map (·.2) = (mtR t i).2 ∧ Rw H H' qs ∧ H lf = none ∧ H' lf = some (.lst (refs qs)) ∧ H' lm = some (.lst ((mtR t i).1.map vN)))) (.mk ⟨l1, l2, [], none, none, none, none, rfl, sm1.trans sm2, rfl, (fun q hq => by cases hq), hl1, sm2 _ _ hq1, hq2⟩) ?_ ?_
    · intro i σ H3 hi hP
      obtain ⟨lf, lm, qs, s3, s4, s5, s6, rfl, sm3, hql, hrw, hlf0, hlf, hlm⟩ := hP.un
      have hil : i < t.length := by
        rw [List.length_map] at hi
        omega
      have ha3 := Same.seq sm3 ha
      have hLm := SqL.of (K := K) hlm
      have hfl := flat_nat (mtR t i).1
      have hinv := inV_nat i (mtR t i).1
      rw [show (i : Int) = 0 + (i : Int) by omega] at hinv
      have hmt : mtR t (i + 1) = if i ∈ (mtR t i).1 then mtR t i else ((mtR t i).1 ++ cycN t i, (mtR t i).2 ++ if 1 < (cycN t i).length then [cycN t i] else []) := rfl
      obtain ⟨hml1, hml2⟩ := mtR_len ht i (by omega)
      have hbnd : t.length * i ≤ 3600 := Nat.le_trans (Nat.mul_le_mul hlen (show i ≤ 60 by omega)) (by decide)
      walk_at "ev"
      by_cases c : i ∈ (mtR t i).1
      · refine iteFe (by rw [hinv, decide_eq_true c]; rfl) ?_
        walk_at "ev"
        rw [if_pos c] at hmt
        exact .mk ⟨lf, lm, qs, _, _, _, _, rfl, sm3, by rw [hmt]; exact hql, hrw, hlf0, hlf, by rw [hmt]; exact hlm⟩
      · refine iteTe (by rw [hinv, decide_eq_false c]; rfl) ?_
        rw [if_neg c] at hmt
        obtain ⟨m, hc, hm⟩ := Cyc.ex ht hil
        have hce := cycN_eq hc
        have hcl : (cycN t i).length = m + 1 := by rw [hce, List.length_map, List.length_range]
        walk_at "ev"
        w_cond _4
        have ha4 := Same.seq sm4 ha3
        have hg0 : H l4 = none := sm3.free hl4
        walk_at "ev"
        have nq : ∀ q ∈ qs, q.1 ≠ l4 := fun q hq => ne_of_none (hrw q hq).2 hl4
        have nf : lf ≠ l4 := ne_of_none hlf hl4
        have nm : lm ≠ l4 := ne_of_none hlm hl4
        refine for_range (lo := 0) (n := _) (fun j σ H' => Hold (∃ s6 : Option V, σ = [some (.ref a), some (.ref lf), some (.ref lm), some (.int (0 + (i : Int))), some (.int ((itN t i (min j (m + 1)) : Nat) : Int)), some (.ref l4), s6] ∧ Same H H' ∧ Rw H H' qs ∧ H' lf = some (.lst (refs qs)) ∧ H' lm = some (.lst ((mtR t i).1.map vN)) ∧ H' l4 = some (.lst (((List.range (min j (m + 1))).map (itN t i)).map vN)))) (.mk ⟨s6, by rw [Nat.zero_min]; simp [itN], sm3.trans sm4, hrw.same sm4, sm4 _ _ hlf, sm4 _ _ hlm, by rw [Nat.zero_min]; exact hq4⟩) ?_ ?_
        · intro j σ H5 hj hP5
          obtain ⟨s6, rfl, sm5, hrw5, hlf5, hlm5, hg5⟩ := hP5.un
          have ha5 := Same.seq sm5 ha
          have hLg := SqL.of (K := K) hg5
          have hfl5 := flat_nat ((List.range (min j (m + 1))).map (itN t i))
          have hin5 := inV_nat (itN t i (min j (m + 1))) ((List.range (min j (m + 1))).map (itN t i))
          walk_at "ev"
          by_cases c5 : j < m + 1
          · have hmin : min j (m + 1) = j := by omega
            have hmin1 : min (j + 1) (m + 1) = j + 1 := by omega
            rw [hmin] at hg5 hin5 hfl5 hLg ⊢
            have hnin : itN t i j ∉ (List.range j).map (itN t i) := by
              intro z
              obtain ⟨r, hr, e⟩ := List.mem_map.mp z
              have hrj := List.mem_range.mp hr
              have := it_shift ht hil r (j - r) (by rw [show r + (j - r) = j by omega]; exact e)
              exact hc.2.2 (j - r) (by omega) (by omega) this
            refine iteTe (by rw [hin5, decide_eq_false hnin]; rfl) ?_
            have ty5 : tyV K "list" (.ref l4) H5 := .inl ⟨rfl, _, hLg⟩
            have z5 : (((List.range j).map (itN t i)).map vN).length < sizeLine := szm (by rw [List.length_map, List.length_map, List.length_range]; omega)
            have nla : SqL K (upd H5 l4 (.lst (((List.range j).map (itN t i)).map vN ++ [vN (itN t i j)]))) a (t.map vN) := Same.seq (same_mut sm5 hg0) ha
            have hat : atI (t.map vN) ((itN t i j : Nat) : Int) = some (vN (itN t i (j + 1))) := by
              have hl := it_lt ht hil j
              refine at_of (j := itN t i j) rfl ?_
              rw [List.getElem?_map, itN, List.getD_eq_getElem?_getD, List.getElem?_eq_getElem hl]
              rfl
            walk_at "ev"
            refine .mk ⟨_, by rw [hmin1]; rfl, same_mut sm5 hg0, hrw5.mut nq, by rw [upd_ne nf]; exact hlf5, by rw [upd_ne nm]; exact hlm5, ?_⟩
            rw [upd_same, hmin1, List.range_succ, List.map_append, List.map_append]
            rfl
          · have hmin : min j (m + 1) = m + 1 := by omega
            have hmin1 : min (j + 1) (m + 1) = m + 1 := by omega
            rw [hmin] at hg5 hin5 hfl5 hLg ⊢
            have hnin : itN t i (m + 1) ∈ (List.range (m + 1)).map (itN t i) := List.mem_map.mpr ⟨0, List.mem_range.mpr (by omega), by rw [hc.2.1]; rfl⟩
            refine iteFe (by rw [hin5, decide_eq_true hnin]; rfl) ?_
            walk_at "ev"
            exact .mk ⟨_, by rw [hmin1]; rfl, sm5, hrw5, hlf5, hlm5, by rw [hmin1]; exact hg5⟩
        · intro σ H5 hP5
          obtain ⟨s6, rfl, sm5, hrw5, hlf5, hlm5, hg5⟩ := hP5.un
          have hmin : min ((t.map vN).length : Int).toNat (m + 1) = m + 1 := by
            rw [List.length_map]
            omega
          rw [hmin, ← hce] at hg5
          have hLm5 := SqL.of (K := K) hlm5
          have hLg5 := SqL.of (K := K) hg5
          have z1 : ((mtR t i).1.map vN).length + ((cycN t i).map vN).length ≤ sizeLine := szl (by rw [List.length_map, List.length_map]; omega)
          walk_at "ev"
          w_cond _6
          have hLf6 := SqL.of (K := K) (sm6 _ _ hlf5)
          walk_at "ev"
          w_cond _7
          have hLg7 := SqL.of (K := K) ((sm6.trans sm7) _ _ hg5)
          have hlt : decide ((1 : Int) < (((cycN t i).map vN).length : Int)) = decide (1 < (cycN t i).length) := by
            rw [List.length_map]
            by_cases c7 : 1 < (cycN t i).length
            · rw [decide_eq_true c7, decide_eq_true (by omega)]
            · rw [decide_eq_false c7, decide_eq_false (by omega)]
          walk_at "ev"
          rw [hlt]
          have z2 : ([V.ref l4] : List V).length * (if decide (1 < (cycN t i).length) = true then 1 else 0 : Int).toNat ≤ sizeLine := szl (by split <;> (show 1 * _ ≤ 60000; decide))
          walk_at "ev"
          w_cond _8
          have hLf8 := (sm6.trans (sm7.trans sm8)) _ _ hlf5
          have z3 : (refs qs).length + (List.replicate (if decide (1 < (cycN t i).length) = true then 1 else 0 : Int).toNat [V.ref l4]).flatten.length ≤ sizeLine := szl (by
            have := congrArg List.length hql
            rw [List.length_map] at this
            rw [rep_flat, List.length_map, List.length_replicate]
            split
            · show qs.length + 1 ≤ 60000
              omega
            · show qs.length + 0 ≤ 60000
              omega)
          walk_at "ev"
          w_cond _9
          have s59 := sm6.trans (sm7.trans (sm8.trans sm9))
          have hrw9 := hrw5.same s59
          have hq69 := (sm7.trans (sm8.trans sm9)) _ _ hq6
          refine .mk ⟨l9, l6, qs ++ (if 1 < (cycN t i).length then [(l4, cycN t i)] else []), _, _, _, _, rfl, sm5.trans s59, ?_, ?_, (sm5.trans (sm6.trans (sm7.trans sm8))).free hl9, ?_, ?_⟩
          · rw [hmt, List.map_append, hql]
            show _ = (mtR t i).2 ++ _
            split <;> rfl
          · by_cases c7 : 1 < (cycN t i).length
            · rw [if_pos c7]
              exact hrw9.snoc hg0 (s59 _ _ hg5)
            · rw [if_neg c7, List.append_nil]
              exact hrw9
          · rw [hq9, rep_flat]
            show _ = some (HO.lst (List.map _ (qs ++ _)))
            rw [List.map_append]
            by_cases c7 : 1 < (cycN t i).length
            · rw [if_pos c7, decide_eq_true c7]
              rfl
            · rw [if_neg c7, decide_eq_false c7]
              rfl
          · rw [hq69, hmt, List.map_append]
    · intro σ H3 hP
      obtain ⟨lf, lm, qs, s3, s4, s5, s6, rfl, sm3, hql, hrw, hlf0, hlf, hlm⟩ := hP.un
      walk_at "ev"
      refine q lf qs H3 ?_ hrw hlf0 sm3 hlf
      rw [hql]
      show (mtR t (((t.map vN).length : Int) - 0).toNat).2 = _
      rw [List.length_map, Int.sub_zero]
      exact (sn_mt ht _ (Nat.le_refl _)).2
end
/-! ### small things -/
structure Sm (B k : Nat) (d : PyData) : Prop where
  l : d.canLay0 = true
  s : d.showable = true
  w : dw d ≤ B
  p : d.depth ≤ k
theorem Sm.up {B k B' k' : Nat} {d : PyData} (h : Sm B k d) (e : B ≤ B') (f : k ≤ k') : Sm B' k' d := ⟨h.l, h.s, Nat.le_trans h.w e, Nat.le_trans h.p f⟩
theorem sm_all {B k : Nat} : ∀ {ds : List PyData}, (∀ d ∈ ds, Sm B k d) → PyData.canLayAll0 ds = true ∧ PyData.showableAll ds = true ∧ dwAll ds ≤ (B + 2) * ds.length ∧ PyData.depthAll ds ≤ k
  | [], _ => ⟨by rw [PyData.canLayAll0], by rw [PyData.showableAll], by rw [dwAll]; exact Nat.zero_le _, by rw [PyData.depthAll]; exact Nat.zero_le _⟩
  | d :: r, h => by
    obtain ⟨a, b, c, e⟩ := sm_all fun x hx => h x (List.mem_cons_of_mem _ hx)
    have hd := h d List.mem_cons_self
    refine ⟨by rw [PyData.canLayAll0, hd.l, a]; rfl, by rw [PyData.showableAll, hd.s, b]; rfl, ?_, by rw [PyData.depthAll]; exact Nat.max_le.mpr ⟨hd.p, e⟩⟩
    have := hd.w
    rw [dwAll, List.length_cons, Nat.mul_succ]
    omega
theorem Sm.lst {B k n : Nat} {ds : List PyData} (hn : ds.length ≤ n) (h : ∀ d ∈ ds, Sm B k d) : Sm (6 + (B + 2) * n) (k + 1) (.list ds) := by
  obtain ⟨a, b, c, e⟩ := sm_all h
  have := Nat.mul_le_mul_left (B + 2) hn
  exact ⟨by rw [PyData.canLay0]; exact a, by rw [PyData.showable]; exact b, by rw [dw]; omega, by rw [PyData.depth]; omega⟩
theorem Sm.tup {B k n : Nat} {ds : List PyData} (hn : ds.length ≤ n) (h : ∀ d ∈ ds, Sm B k d) : Sm (6 + (B + 2) * n) (k + 1) (.tuple ds) := by
  obtain ⟨a, b, c, e⟩ := sm_all h
  have := Nat.mul_le_mul_left (B + 2) hn
  exact ⟨by rw [PyData.canLay0]; exact a, by rw [PyData.showable]; exact b, by rw [dw]; omega, by rw [PyData.depth]; omega⟩
theorem Sm.shn {B k : Nat} {d : PyData} (h : Sm B k d) (e : B ≤ 16777216) (f : k ≤ 40) : Shn d := by
  have hz : sizeLine = 16777216 := by decide
  exact ⟨h.s, by have := h.w; omega, Nat.le_trans h.p f⟩
theorem Sm.shaped {B k : Nat} {d : PyData} (h : Sm B k d) (f : k ≤ 64) : SeqAt.shaped d = true := by
  unfold SeqAt.shaped
  rw [h.l, decide_eq_true (Nat.le_trans h.p f)]
  rfl
theorem sm_int {i : Int} (h : -1000000 ≤ i ∧ i ≤ 1000000) : Sm 13 0 (.int i) := by
  obtain ⟨a, b, c⟩ := dw_ints (ns := [i]) fun x hx => by rw [List.mem_singleton.mp hx]; exact h
  rw [List.map_cons, List.map_nil, PyData.showableAll, PyData.showableAll, Bool.and_true] at a
  rw [List.map_cons, List.map_nil, dwAll, dwAll, List.length_singleton] at b
  exact ⟨by rw [PyData.canLay0], a, by omega, by rw [PyData.depth]; exact Nat.le_refl _⟩
theorem sm_non : Sm 13 0 .none := ⟨by rw [PyData.canLay0], by rw [PyData.showable], by decide +kernel, by rw [PyData.depth]; exact Nat.le_refl _⟩
theorem sm_bl (b : Bool) : Sm 13 0 (.bool b) := ⟨by rw [PyData.canLay0], by rw [PyData.showable], by cases b <;> decide +kernel, by rw [PyData.depth]; exact Nat.le_refl _⟩
theorem sm_e : Sm 13 0 (.str "") := ⟨by decide +kernel, by rw [PyData.showable], by decide +kernel, by rw [PyData.depth]; exact Nat.le_refl _⟩
theorem sm_0 : Sm 13 0 (.str "0") := ⟨by decide +kernel, by rw [PyData.showable], by decide +kernel, by rw [PyData.depth]; exact Nat.le_refl _⟩
/-- the heap without two of its objects -/
def d2 (H : Hp) (b t : Addr) : Hp := fun a => if a = b ∨ a = t then none else H a
theorem d2_le {H : Hp} {b t : Addr} : Same (d2 H b t) H := fun a o h => by
  unfold d2 at h
  split at h
  · cases h
  · exact h
theorem d2_of {H : Hp} {b t a : Addr} {o : HO} (n1 : a ≠ b) (n2 : a ≠ t) (h : H a = some o) : d2 H b t a = some o := by
  unfold d2
  rw [if_neg (fun z => z.elim n1 n2)]
  exact h
theorem d2_keep {H H' : Hp} {b t : Addr} (h : ∀ a o, a ≠ b → a ≠ t → H a = some o → H' a = some o) : Same (d2 H b t) (d2 H' b t) := fun a o e => by
  unfold d2 at *
  split at e
  · cases e
  · rename_i c
    rw [if_neg c]
    exact h a o (fun z => c (.inl z)) (fun z => c (.inr z)) e
theorem d2_k {H H' : Hp} {b t : Addr} (h : Keep b H H') : Same (d2 H b t) (d2 H' b t) := d2_keep fun a o n1 _ e => h a o n1 e
theorem d2_t {H : Hp} {b t : Addr} {o : HO} : Same (d2 H b t) (d2 (upd H t o) b t) := d2_keep fun a u _ n2 e => by rw [upd_ne n2]; exact e
/-- an element of a bent thing -/
def Od (M : Int) (d : PyData) : Prop := Sm 30 1 d ∧ ∀ i, d = .int i → -M ≤ i ∧ i ≤ M
theorem Od.up {M M' : Int} {d : PyData} (h : Od M d) (e : M ≤ M') : Od M' d := ⟨h.1, fun i hi => by have := h.2 i hi; omega⟩
theorem od_int {M i : Int} (h : -M ≤ i ∧ i ≤ M) (hM : M ≤ 1000000) : Od M (.int i) := ⟨(sm_int (by omega)).up (by omega) (by omega), fun j e => by cases e; exact h⟩
theorem od_tup {M : Int} : Od M (.tuple [.int 0]) := ⟨(Sm.tup (n := 1) (k := 0) (B := 13) (by decide) (fun d hd => by rw [List.mem_singleton.mp hd]; exact sm_int (by decide))).up (by omega) (by omega), fun j e => by cases e⟩
theorem od_lst {M : Int} : Od M (.list [.int 0]) := ⟨(Sm.lst (n := 1) (k := 0) (B := 13) (by decide) (fun d hd => by rw [List.mem_singleton.mp hd]; exact sm_int (by decide))).up (by omega) (by omega), fun j e => by cases e⟩
def oddL (q1 q2 : Addr) (n : Int) : List V := [.non, .bl true, .bl false, .int (-1), .int n, .str "0", .ref q1, .ref q2, .int 0, .int (0 - n), .str ""]
theorem odd_dp {K : PySem.W.Frag} {H : Hp} {q1 q2 : Addr} {n M : Int} {v : V} (h1 : H q1 = some (.tup [.int 0])) (h2 : H q2 = some (.lst [.int 0])) (hn : 1 ≤ n ∧ n ≤ M) (hM : M ≤ 1000000) (hv : v ∈ oddL q1 q2 n) : ∃ d, Dp K H v d ∧ Od M d := by
  unfold oddL at hv
  simp only [List.mem_cons, List.not_mem_nil, or_false] at hv
  rcases hv with z | z | z | z | z | z | z | z | z | z | z <;> subst z
  · exact ⟨_, .non, sm_non.up (by omega) (by omega), fun i e => by cases e⟩
  · exact ⟨_, .bl _, (sm_bl _).up (by omega) (by omega), fun i e => by cases e⟩
  · exact ⟨_, .bl _, (sm_bl _).up (by omega) (by omega), fun i e => by cases e⟩
  · exact ⟨_, .int _, od_int (by omega) hM⟩
  · exact ⟨_, .int _, od_int (by omega) hM⟩
  · exact ⟨_, .str _, sm_0.up (by omega) (by omega), fun i e => by cases e⟩
  · exact ⟨_, .tup (SqT.of h1) (.cons (.int 0) .nil), od_tup⟩
  · exact ⟨_, .lst (SqL.of h2) (.cons (.int 0) .nil), od_lst⟩
  · exact ⟨_, .int _, od_int (by omega) hM⟩
  · exact ⟨_, .int _, od_int (by omega) hM⟩
  · exact ⟨_, .str _, sm_e.up (by omega) (by omega), fun i e => by cases e⟩
theorem dp_es {K : PySem.W.Frag} {H : Hp} : ∀ {es : List (V × PyData)}, (∀ e ∈ es, Dp K H e.1 e.2) → DpAll K H (es.map (·.1)) (es.map (·.2))
  | [], _ => .nil
  | e :: r, h => .cons (h e List.mem_cons_self) (dp_es fun x hx => h x (List.mem_cons_of_mem _ hx))
/-- a truth or a whole number, and a whole number -/
def nI : V → Option Int
  | .int i => some i
  | .bl b => some (if b = true then 1 else 0)
  | _ => none
open PySem.Spec PyProof.Rows in
theorem op_addNI {X : Cx} : OpR X (binaryOp .Add) (fun x y H Q => ∃ i j, nI x = some i ∧ y = .int j ∧ Q (.int (i + j)) H) := by
  intro pins s σ H x y v u Q I rx ry h
  obtain ⟨i, j, hx, rfl, q⟩ := h
  cases x with
  | int k =>
    cases hx
    exact op_add pins s σ H _ _ v u Q I rx ry ⟨_, _, rfl, rfl, q⟩
  | bl b =>
    cases hx
    cases rx
    obtain ⟨t', rfl⟩ := ry
    exact PySem.IntBool.add_bool_int ⟨.int ((if b = true then 1 else 0) + j), H, I.tok _, ⟨_, rfl⟩, q⟩
  | _ => cases hx
theorem erm {f : V × PyData → V} : ∀ (l : List (V × PyData)) (k : Nat), (l.map f).eraseIdx k = (l.eraseIdx k).map f
  | [], _ => rfl
  | _ :: _, 0 => rfl
  | x :: r, k + 1 => by
    show f x :: (r.map f).eraseIdx k = f x :: (r.eraseIdx k).map f
    rw [erm r k]
theorem sqx_of {n i : Nat} (h : i < n) : seqIndex? (i : Int) n = some i := by
  have h0 : ¬ ((i : Int) < 0) := by omega
  unfold seqIndex?
  simp [h, h0]
abbrev s__law_bent : Stmt := top 15
abbrev N__law_bent : List Str := ["_law_box_here", "_law_thing", "_law_some", "_law_at", "_law_way", "_law_odd", "_law_to"]
abbrev P__law_bent : List Str := ["_law_box_here", "_law_thing"]
theorem sc__law_bent : FnScope N__law_bent P__law_bent (defScope s__law_bent) := ⟨rfl, rfl, rfl, by decide +kernel, rfl, by decide +kernel, by decide +kernel⟩
section
variable {P : Program} {w : World} {K : PySem.W.Frag} {mg : Str → Option Value} {base : Heap}
theorem bent_tl {f : Addr} {A : Around} {outer : List Env} {s : Shared} {H : Hp} {Q : VK} {E : XK} {cdv : Value} {k : Nat} (T : Blt mg) (hr : Room k (A.deeper (PyProof.Rows.envOfC "_law_bent" (defScope s__law_bent) s.heap.objs.size f cdv))) :
    ∃ tl, PSs (cxOf CX0 P w K mg base N__law_bent "_law_bent" (defScope s__law_bent) f cdv A outer s H E).nox ((defBody s__law_bent).drop 3) tl ∧
      ∀ (p : Addr) (es : List (V × PyData)) (H3 : Hp) (x0 x1 x3 x4 x5 x6 : Option V), H3 p = some (.lst (es.map (·.1))) → (∀ e ∈ es, Dp K H3 e.1 e.2 ∧ Sm 30 1 e.2) → es.length ≤ 200 → (es ≠ [] → ∀ H4, Same H3 H4 → Q (.ref p) H4) → (∀ z H4, H3 z = none → Same H3 H4 → H4 z = some (.lst [.int 0]) → Q (.ref z) H4) →
        tl { nx := fun _ H' => Q .non H', rt := Q } [x0, x1, some (.ref p), x3, x4, x5, x6] H3 := by
  have nd := sc__law_bent.nd
  refine ⟨_, (pss_one (ps_ret (pe_ifExp (pt_cmpR (r := rNeD K) (op_neD hr.units) (pv 2) (pe_lst pa_nil) (nomark _)) (pv 2) (pe_lst (pa_cons (pe_int) pa_nil))))), ?_⟩
  intro p es H3 x0 x1 x3 x4 x5 x6 hp he hel q1 q2
  have hda := dp_es fun e h => (he e h).1
  have hsm : Sm (6 + (30 + 2) * 200) (1 + 1) (.list (es.map (·.2))) := Sm.lst (by rw [List.length_map]; exact hel) fun d hd => by
    obtain ⟨e, h, rfl⟩ := List.mem_map.mp hd
    exact (he e h).2
  have hsh := hsm.shaped (by omega)
  have hsn : SeqAt.shaped (.list []) = true := by decide +kernel
  walk_at "ev"
  w_cond _4
  have hd4 : Dp K H4 (.ref p) (.list (es.map (·.2))) := .lst (SqL.of (sm4 _ _ hp)) (dpall_same sm4 hda)
  have hn4 : Dp K H4 (.ref l4) (.list []) := .lst (SqL.of hq4) .nil
  walk_at "ev"
  cases es with
  | nil =>
    refine iteFe rfl ?_
    walk_at "ev"
    w_cond _5
    exact q2 _ _ (sm4.free hl5) (sm4.trans sm5) hq5
  | cons e r =>
    refine iteTe rfl ?_
    walk_at "ev"
    exact q1 (List.cons_ne_nil _ _) _ sm4
def spBent (K : PySem.W.Frag) : Sp := fun vs H Q _ => ∃ (b t a : Addr) (n M : Int) (es : List (V × PyData)), vs = [.ref b, .ref a] ∧ BoxAt H b n ∧ n < 900000 ∧ H t ≠ none ∧ t ≠ b ∧ a ≠ b ∧ H a = some (.lst (es.map (·.1))) ∧ es ≠ [] ∧ (es.length : Int) ≤ M ∧ M ≤ 199 ∧ (∀ e ∈ es, Dp K (d2 H b t) e.1 e.2 ∧ Od M e.2) ∧
  ∀ (p : Addr) (es' : List (V × PyData)) (H' : Hp), Keep b H H' → BoxAt H' b (n + 8) → H p = none → es' ≠ [] → es'.length ≤ es.length + 1 → (∀ e ∈ es', Dp K (d2 H' b t) e.1 e.2 ∧ Od (M + 1) e.2) → (H' p = some (.lst (es'.map (·.1))) ∨ H' p = some (.tup (es'.map (·.1)))) → Q (.ref p) H'
theorem ok_bent {f f1 f2 : Addr} {fd d1 d2' : FuncData} {k : Nat} (F : Fun K "_law_bent" "_law_bent" s__law_bent f fd) (T : Blt mg) (D__law_take : Df K mg "_law_take" s__law_take P__law_take f1 d1) (D__law_pick : Df K mg "_law_pick" s__law_pick P__law_pick f2 d2') : FnOk P w K mg base CX0 (k + 3) f fd P__law_bent (spBent K) := by
  have G__law_take : FnOk P w K mg base CX0 1 f1 d1 P__law_take spTake := ok_take D__law_take.F
  have G__law_pick : FnOk P w K mg base CX0 2 f2 d2' P__law_pick (spPick K) := ok_pick (k := 0) D__law_pick.F T D__law_take
  have nd := sc__law_bent.nd
  refine F.ok sc__law_bent (fun vs H Q E h => ?_) (fun cdv A outer s H vs Q E hr h => ?_)
  · obtain ⟨b, t, a, n, M, es, rfl, _⟩ := h
    rfl
  · obtain ⟨b, t, a, n, M, es, rfl, hb, hn, ht, htb, hab, ha, hne, hel, hM, hes, q⟩ := h
    obtain ⟨tl, htl, fin⟩ := bent_tl (P := P) (w := w) (base := base) (outer := outer) (H := H) (Q := Q) (E := E) T hr
    refine ⟨_, (pss_cons (ps_par3 (i := 2) (j := 3) (l := 4) (by rfl) nd rfl rfl rfl (by decide) (by decide) (by decide) rfl rfl rfl (pa_cons (pe_callTy call_list_of (by rfl) T.b_list (by decide +kernel) (pa_cons (pv 1) pa_nil)) (pa_cons (pe_call G__law_take (hr.mono (by omega)) (by rfl) D__law_take.g D__law_take.F.kp D__law_take.b .nil pass0 (pa_cons (pv 0) (pa_cons (pe_callB (r := rLenQ K) call_len_seq (by rfl) T.b_len (by decide +kernel) (pa_cons (pv 1) pa_nil)) pa_nil))) (pa_cons (pe_call G__law_take (hr.mono (by omega)) (by rfl) D__law_take.g D__law_take.F.kp D__law_take.b .nil pass0 (pa_cons (pv 0) (pa_cons (pe_int) pa_nil))) pa_nil))) (by rfl))
      (pss_cons (ps_set (i := 5) nd rfl (Or.inl rfl) (pe_lst (pa_cons (pe_non) (pa_cons (pe_bl) (pa_cons (pe_bl) (pa_cons (pe_un un_neg (pe_int)) (pa_cons (pe_callB (r := rLenQ K) call_len_seq (by rfl) T.b_len (by decide +kernel) (pa_cons (pv 2) pa_nil)) (pa_cons (pe_str) (pa_cons (pe_tup (pa_cons (pe_int) pa_nil)) (pa_cons (pe_lst (pa_cons (pe_int) pa_nil)) (pa_cons (pe_int) (pa_cons (pe_op op_sub (pe_int) (pe_callB (r := rLenQ K) call_len_seq (by rfl) T.b_len (by decide +kernel) (pa_cons (pv 2) pa_nil))) (pa_cons (pe_str) pa_nil)))))))))))))
      (pss_cons (ps_if (pt_cmpR op_lt (pv 4) (pe_int) (nomark _)) (pss_one (ps_asg (pe_call G__law_pick (hr.mono (by omega)) (by rfl) D__law_pick.g D__law_pick.F.kp D__law_pick.b .nil pass0 (pa_cons (pv 0) (pa_cons (pv 5) pa_nil))) (pg_sub (pv 2) (pv 3) set_list))) (pss_one (ps_if (pt_cmpR op_eq (pv 4) (pe_int) (nomark _)) (pss_one (ps_asg (pe_ifExp (pt_val (pe_callB (r := rIsi K) call_isi (by rfl) T.b_isinstance (by decide +kernel) (pa_cons (pe_ix (r := rIxL K) ix_list (pv 2) (pv 3) (fun _ _ => rfl)) (pa_cons (pe_bltn (v := .ty "int") (by rfl) T.b_int (by decide +kernel) rfl) pa_nil)))) (pe_op op_addNI (pe_ix (r := rIxL K) ix_list (pv 2) (pv 3) (fun _ _ => rfl)) (pe_ix (r := rIxL K) ix_list (pe_lst (pa_cons (pe_int) (pa_cons (pe_un un_neg (pe_int)) pa_nil))) (pe_call G__law_take (hr.mono (by omega)) (by rfl) D__law_take.g D__law_take.F.kp D__law_take.b .nil pass0 (pa_cons (pv 0) (pa_cons (pe_int) pa_nil))) (fun _ _ => rfl))) (pe_int)) (pg_sub (pv 2) (pv 3) set_list))) (pss_one (ps_if (pt_cmpR op_eq (pv 4) (pe_int) (nomark _)) (pss_one (ps_expr (pe_bm PySem.F.plainAttrs_list PySem.F.slot_list_insert PySem.F.type_list_insert mt_insert (pv 2) (pa_cons (pe_call G__law_take (hr.mono (by omega)) (by rfl) D__law_take.g D__law_take.F.kp D__law_take.b .nil pass0 (pa_cons (pv 0) (pa_cons (pe_op op_add (pe_callB (r := rLenQ K) call_len_seq (by rfl) T.b_len (by decide +kernel) (pa_cons (pv 2) pa_nil)) (pe_int)) pa_nil))) (pa_cons (pe_call G__law_pick (hr.mono (by omega)) (by rfl) D__law_pick.g D__law_pick.F.kp D__law_pick.b .nil pass0 (pa_cons (pv 0) (pa_cons (pe_op op_cat (pv 5) (pe_lst (pa_cons (pe_ix (r := rIxL K) ix_list (pv 2) (pv 3) (fun _ _ => rfl)) pa_nil))) pa_nil))) pa_nil))))) (pss_one (ps_if (pt_cmpR op_eq (pv 4) (pe_int) (nomark _)) (pss_one (ps_expr (pe_bm PySem.F.plainAttrs_list PySem.F.slot_list_pop PySem.F.type_list_pop mt_popAt (pv 2) (pa_cons (pv 3) pa_nil)))) (pss_one (ps_if (pt_cmpR op_eq (pv 4) (pe_int) (nomark _)) (pss_cons (ps_set (i := 6) nd rfl (Or.inl rfl) (pe_call G__law_take (hr.mono (by omega)) (by rfl) D__law_take.g D__law_take.F.kp D__law_take.b .nil pass0 (pa_cons (pv 0) (pa_cons (pe_callB (r := rLenQ K) call_len_seq (by rfl) T.b_len (by decide +kernel) (pa_cons (pv 2) pa_nil)) pa_nil))))
      (pss_one (ps_asg (pe_tup (pa_cons (pe_ix (r := rIxL K) ix_list (pv 2) (pv 6) (fun _ _ => rfl)) (pa_cons (pe_ix (r := rIxL K) ix_list (pv 2) (pv 3) (fun _ _ => rfl)) pa_nil))) (pg_tup (by rfl) (pgs_cons (pg_sub (pv 2) (pv 3) set_list) (pgs_cons (pg_sub (pv 2) (pv 6) set_list) pgs_nil)))))) (pss_one (ps_if (pt_cmpR op_eq (pv 4) (pe_int) (nomark _)) (pss_one (ps_asg (pe_ix (r := rIxL K) ix_list (pv 2) (pe_call G__law_take (hr.mono (by omega)) (by rfl) D__law_take.g D__law_take.F.kp D__law_take.b .nil pass0 (pa_cons (pv 0) (pa_cons (pe_callB (r := rLenQ K) call_len_seq (by rfl) T.b_len (by decide +kernel) (pa_cons (pv 2) pa_nil)) pa_nil))) (fun _ _ => rfl)) (pg_sub (pv 2) (pv 3) set_list))) (pss_one (ps_ret (pe_callTy call_tuple_of (by rfl) T.b_tuple (by decide +kernel) (pa_cons (pv 2) pa_nil)))))))))))))))
      htl))), ?_⟩
    have hL := SqL.of (K := K) ha
    walk_at "ev"
    w_cond _1
    have hb1 := hb.same sm1
    have hL1 := sm1.seq hL
    have n1b : l1 ≠ b := hb.ne hl1
    have hlen : ((es.map (·.1)).length : Int) = es.length := by rw [List.length_map]
    have hpos : 1 ≤ es.length := by
      cases es with
      | nil => exact absurd rfl hne
      | cons e r => exact Nat.succ_le_succ (Nat.zero_le _)
    walk_at "ev"
    intro at' H2 r0 r1 k2 hb2
    walk_at "ev"
    intro wy H3 w0 w1 k3 hb3
    have hp3 := k3 _ _ n1b (k2 _ _ n1b hq1)
    have hL3 := SqL.of (K := K) hp3
    walk_at "ev"
    w_cond _4
    walk_at "ev"
    w_cond _5
    have hL5 := (sm4.trans sm5).seq hL3
    walk_at "ev"
    w_cond _6
    have sm36 := sm4.trans (sm5.trans sm6)
    have hp6 := sm36 _ _ hp3
    have hL6 := SqL.of (K := K) hp6
    have hb6 := hb3.same sm36
    have hq4' := (sm5.trans sm6) _ _ hq4
    have hq5' := sm6 _ _ hq5
    have k16 : Keep b H H6 := (keepS sm1).trans (k2.trans (k3.trans (keepS sm36)))
    have hlM : 1 ≤ (es.length : Int) ∧ (es.length : Int) ≤ M := ⟨by omega, hel⟩
    have hod : (V.non :: V.bl true :: V.bl false :: V.int (-1) :: V.int ((es.map (·.1)).length : Int) :: V.str "0" :: V.ref l4 :: V.ref l5 :: V.int 0 :: V.int (0 - ((es.map (·.1)).length : Int)) :: V.str "" :: []) = oddL l4 l5 (es.length : Int) := by
      unfold oddL
      rw [List.length_map]
    have hq6' : H6 l6 = some (.lst (oddL l4 l5 (es.length : Int))) := by
      rw [← hod]
      exact hq6
    have hL66 := SqL.of (K := K) hq6'
    obtain ⟨i, rfl⟩ := Int.eq_ofNat_of_zero_le r0
    have hil : i < es.length := by rw [List.length_map] at r1; omega
    obtain ⟨⟨ev, ed⟩, hei⟩ : ∃ e, es[i]? = some e := ⟨_, List.getElem?_eq_getElem hil⟩
    have hem : (ev, ed) ∈ es := List.mem_of_getElem? hei
    have hat : atI (es.map (·.1)) ((i : Nat) : Int) = some ev := at_of (j := i) rfl (by rw [List.getElem?_map, hei]; rfl)
    have hix : ixN (es.map (·.1)).length ((i : Nat) : Int) = some i := ixn_of (by rw [List.length_map]; exact hil) rfl
    obtain ⟨ot, hto⟩ : ∃ o, H t = some o := by
      cases z : H t with
      | none => exact absurd z ht
      | some o => exact ⟨o, rfl⟩
    have k13 : Keep b H H3 := (keepS sm1).trans (k2.trans k3)
    have ht3 := k13 _ _ htb hto
    have n4t : l4 ≠ t := (ne_of_none ht3 hl4).symm
    have n5t : l5 ≠ t := (ne_of_none (sm4 _ _ ht3) hl5).symm
    have n4b : l4 ≠ b := hb3.ne hl4
    have n5b : l5 ≠ b := (hb3.same sm4).ne hl5
    have n41 : l4 ≠ l1 := (ne_of_none hp3 hl4).symm
    have n51 : l5 ≠ l1 := (ne_of_none (sm4 _ _ hp3) hl5).symm
    have n6b : l6 ≠ b := (hb3.same (sm4.trans sm5)).ne hl6
    have hold : ∀ Hx : Hp, Keep b H Hx → ∀ e ∈ es, Dp K (d2 Hx b t) e.1 e.2 ∧ Od (M + 1) e.2 := fun Hx kx e he => ⟨dp_same (d2_k kx) (hes e he).1, (hes e he).2.up (by omega)⟩
    have key : ∀ (Hx : Hp) (c : Int) (xs : List V) (es' : List (V × PyData)) (x3 x4 x5 x6 : Option V), Keep b H Hx → BoxAt Hx b (n + c) → c ≤ 8 → Hx l1 = some (.lst xs) → xs = es'.map (·.1) → (∀ e ∈ es', Dp K (d2 Hx b t) e.1 e.2 ∧ Od (M + 1) e.2) → es'.length ≤ es.length + 1 → tl { nx := fun _ H' => Q .non H', rt := Q } [some (.ref b), some (.ref a), some (.ref l1), x3, x4, x5, x6] Hx := by
      intro Hx c xs es' x3 x4 x5 x6 kx hbx hc hlx exs hE hl'
      subst exs
      refine fin l1 es' Hx _ _ _ _ _ _ hlx (fun e he => ⟨dp_same d2_le (hE e he).1, (hE e he).2.1⟩) (by omega) (fun hne' H4 sm => ?_) (fun z H4 hz sm hz4 => ?_)
      · exact q l1 es' H4 (kx.trans (keepS sm)) ((hbx.same sm).mono (by omega)) hl1 hne' hl' (fun e he => ⟨dp_same (d2_k (keepS sm)) (hE e he).1, (hE e he).2⟩) (.inl (sm _ _ hlx))
      · have hz0 : H z = none := by
          cases u : H z with
          | none => rfl
          | some o =>
            rw [kx z o (hbx.ne hz) u] at hz
            cases hz
        refine q z [(.int 0, .int 0)] H4 (kx.trans (keepS sm)) ((hbx.same sm).mono (by omega)) hz0 (by simp) (by show 1 ≤ _; omega) (fun e he => ?_) (.inl hz4)
        rw [List.mem_singleton.mp he]
        exact ⟨.int 0, od_int (by omega) (by omega)⟩
    have hodd : ∀ (Hx : Hp) (v : V), Hx l4 = some (.tup [.int 0]) → Hx l5 = some (.lst [.int 0]) → v ∈ oddL l4 l5 (es.length : Int) → ∃ d, Dp K (d2 Hx b t) v d ∧ Od (M + 1) d := by
      intro Hx v h4 h5 hv
      obtain ⟨d, hd, ho⟩ := odd_dp (K := K) (M := M) (d2_of n4b n4t h4) (d2_of n5b n5t h5) hlM (by omega) hv
      exact ⟨d, hd, ho.up (by omega)⟩
    walk_at "ev"
    refine ite2 (fun c => ?_) (fun c => ?_)
    · have o1 : (0 : Int) < ((oddL l4 l5 (es.length : Int)).length : Int) := by show (0 : Int) < 11; decide
      have o2 : ((oddL l4 l5 (es.length : Int)).length : Int) < 1048576 := by show (11 : Int) < 1048576; decide
      walk_at "ev"
      intro v H7 hv k7 hb7
      have hp7 := k7 _ _ n1b hp6
      walk_at "ev"
      have hL7 : ((upd H7 l1 (.lst ((es.map (·.1)).set i v))) l4 = some (.tup [.int 0])) ∧ ((upd H7 l1 (.lst ((es.map (·.1)).set i v))) l5 = some (.lst [.int 0])) := ⟨by rw [upd_ne n41]; exact k7 _ _ n4b hq4', by rw [upd_ne n51]; exact k7 _ _ n5b hq5'⟩
      obtain ⟨d, hd, ho⟩ := hodd _ v hL7.1 hL7.2 hv
      have kx : Keep b H (upd H7 l1 (.lst ((es.map (·.1)).set i v))) := keep_fresh (k16.trans k7) hl1
      refine key _ 3 _ (es.set i (v, d)) _ _ _ _ kx ((hb7.upd n1b).mono (by omega)) (by omega) upd_same (by rw [List.map_set]) (fun e he => ?_) (by rw [List.length_set]; omega)
      rcases List.mem_or_eq_of_mem_set he with z | z
      · exact hold _ kx e z
      · rw [z]
        exact ⟨hd, ho⟩
    walk_at "ev"
    refine ite2 (fun c2 => ?_) (fun c2 => ?_)
    · have hdE : Dp K H6 ev ed := dp_same d2_le (hold H6 k16 _ hem).1
      have hoE : Od M ed := (hes _ hem).2
      have kd := kdD hdE
      have ty := kd.ty
      obtain ⟨j1, j2, j3, j4, j5⟩ := kd.kit
      have zero : ∀ (x3 x4 x5 x6 : Option V), tl { nx := fun _ H' => Q .non H', rt := Q } [some (.ref b), some (.ref a), some (.ref l1), x3, x4, x5, x6] (upd H6 l1 (.lst ((es.map (·.1)).set i (.int 0)))) := by
        intro x3 x4 x5 x6
        have kx : Keep b H (upd H6 l1 (.lst ((es.map (·.1)).set i (.int 0)))) := keep_fresh k16 hl1
        refine key _ 3 _ (es.set i (.int 0, .int 0)) _ _ _ _ kx ((hb6.upd n1b).mono (by omega)) (by omega) upd_same (by rw [List.map_set]) (fun e he => ?_) (by rw [List.length_set]; omega)
        rcases List.mem_or_eq_of_mem_set he with z | z
        · exact hold _ kx e z
        · rw [z]
          exact ⟨.int 0, od_int (by omega) (by omega)⟩
      have add : ∀ (H7 : Hp) (z : Int) (x3 x4 x5 x6 : Option V), Keep b H6 H7 → BoxAt H7 b (n + 1 + 1 + 1) → -(M + 1) ≤ z ∧ z ≤ M + 1 → tl { nx := fun _ H' => Q .non H', rt := Q } [some (.ref b), some (.ref a), some (.ref l1), x3, x4, x5, x6] (upd H7 l1 (.lst ((es.map (·.1)).set i (.int z)))) := by
        intro H7 z x3 x4 x5 x6 k7 hb7 hz
        have kx : Keep b H (upd H7 l1 (.lst ((es.map (·.1)).set i (.int z)))) := keep_fresh (k16.trans k7) hl1
        refine key _ 3 _ (es.set i (.int z, .int z)) _ _ _ _ kx ((hb7.upd n1b).mono (by omega)) (by omega) upd_same (by rw [List.map_set]) (fun e he => ?_) (by rw [List.length_set]; omega)
        rcases List.mem_or_eq_of_mem_set he with y | y
        · exact hold _ kx e y
        · rw [y]
          exact ⟨.int z, od_int hz (by omega)⟩
      cases hdE with
      | non =>
        walk_at "ev"
        exact zero _ _ _ _
      | str x =>
        walk_at "ev"
        exact zero _ _ _ _
      | lst h1 h2 =>
        walk_at "ev"
        exact zero _ _ _ _
      | tup h1 h2 =>
        walk_at "ev"
        exact zero _ _ _ _
      | bl bb =>
        have hnI : nI (.bl bb) = some (if bb = true then 1 else 0) := rfl
        walk_at "ev"
        w_cond _7
        have hb7 := hb6.same sm7
        have n7b := hb6.ne hl7
        walk_at "ev"
        intro r H8 s0 s1 k8 hb8
        have hL8 := SqL.of (K := K) (k8 _ _ n7b hq7)
        have hp8 := k8 _ _ n1b (sm7 _ _ hp6)
        obtain ⟨y, hy, hyat⟩ : ∃ y : Int, (-1 ≤ y ∧ y ≤ 1) ∧ atI [V.int 1, V.int (-1)] r = some (.int y) := by
          have : r = 0 ∨ r = 1 := by omega
          rcases this with z | z <;> subst z
          · exact ⟨1, by omega, rfl⟩
          · exact ⟨-1, by omega, rfl⟩
        walk_at "ev"
        refine add H8 _ _ _ _ _ ((keepS sm7).trans k8) hb8 ?_
        split <;> omega
      | int ii =>
        have hnI : nI (.int ii) = some ii := rfl
        have hbI := hoE.2 ii rfl
        walk_at "ev"
        w_cond _7
        have hb7 := hb6.same sm7
        have n7b := hb6.ne hl7
        walk_at "ev"
        intro r H8 s0 s1 k8 hb8
        have hL8 := SqL.of (K := K) (k8 _ _ n7b hq7)
        have hp8 := k8 _ _ n1b (sm7 _ _ hp6)
        obtain ⟨y, hy, hyat⟩ : ∃ y : Int, (-1 ≤ y ∧ y ≤ 1) ∧ atI [V.int 1, V.int (-1)] r = some (.int y) := by
          have : r = 0 ∨ r = 1 := by omega
          rcases this with z | z <;> subst z
          · exact ⟨1, by omega, rfl⟩
          · exact ⟨-1, by omega, rfl⟩
        walk_at "ev"
        refine add H8 _ _ _ _ _ ((keepS sm7).trans k8) hb8 ?_
        omega
    walk_at "ev"
    refine ite2 (fun c3 => ?_) (fun c3 => ?_)
    · walk_at "ev"
      intro r H7 s0 s1 k7 hb7
      have hL7 := SqL.of (K := K) (k7 _ _ n1b hp6)
      have hL67 := SqL.of (K := K) (k7 _ _ n6b hq6')
      walk_at "ev"
      w_cond _8
      have hL68 := sm8 _ _ (k7 _ _ n6b hq6')
      have z1 : (oddL l4 l5 (es.length : Int)).length + ([ev] : List V).length ≤ sizeLine := szl (by show 11 + 1 ≤ 60000; decide)
      walk_at "ev"
      w_cond _9
      have hb9 := (hb7.same sm8).same sm9
      have n9b : l9 ≠ b := (hb7.same sm8).ne hl9
      have hL9 := SqL.of (K := K) hq9
      have o1 : (0 : Int) < ((oddL l4 l5 (es.length : Int) ++ [ev]).length : Int) := by show (0 : Int) < 12; decide
      have o2 : ((oddL l4 l5 (es.length : Int) ++ [ev]).length : Int) < 1048576 := by show (12 : Int) < 1048576; decide
      walk_at "ev"
      intro v H10 hv k10 hb10
      have hp10 := k10 _ _ n1b ((sm8.trans sm9) _ _ (k7 _ _ n1b hp6))
      have hsz : (es.map (·.1)).length < sizeLine := szm (by rw [List.length_map]; omega)
      have hr63 : r < 2 ^ 63 := by rw [hlen] at s1; omega
      walk_at "ev"
      generalize hG : upd H10 l1 _ = H11
      have hq11 : H11 l1 = some (.lst ((es.map (·.1)).take r.toNat ++ [v] ++ (es.map (·.1)).drop r.toNat)) := by rw [← hG]; exact upd_same
      have k11 : ∀ a o, a ≠ l1 → H10 a = some o → H11 a = some o := fun a o na e => by rw [← hG, upd_ne na]; exact e
      have hb11 : BoxAt H11 b (n + 1 + 1 + 1 + 1) := by rw [← hG]; exact hb10.upd n1b
      have k611 : Keep b H6 H10 := k7.trans ((keepS sm8).trans ((keepS sm9).trans k10))
      have kx : Keep b H H11 := by rw [← hG]; exact keep_fresh (k16.trans k611) hl1
      clear hG
      obtain ⟨d, hd, ho⟩ : ∃ d, Dp K (d2 H11 b t) v d ∧ Od (M + 1) d := by
        rcases List.mem_append.mp hv with z | z
        · exact hodd H11 v (k11 _ _ n41 (k611 _ _ n4b hq4')) (k11 _ _ n51 (k611 _ _ n5b hq5')) z
        · rw [List.mem_singleton.mp z]
          exact ⟨ed, hold H11 kx _ hem⟩
      refine key _ 4 _ (es.take r.toNat ++ [(v, d)] ++ es.drop r.toNat) _ _ _ _ kx (hb11.mono (by omega)) (by omega) hq11 (by rw [List.map_append, List.map_append, List.map_take, List.map_drop]; rfl) (fun e he => ?_) ?_
      · rcases List.mem_append.mp he with z | z
        · rcases List.mem_append.mp z with z | z
          · exact hold _ kx e (List.mem_of_mem_take z)
          · rw [List.mem_singleton.mp z]
            exact ⟨hd, ho⟩
        · exact hold _ kx e (List.mem_of_mem_drop z)
      · rw [List.length_append, List.length_append, List.length_take, List.length_drop]
        show min _ _ + 1 + _ ≤ _
        omega
    walk_at "ev"
    refine ite2 (fun c4 => ?_) (fun c4 => ?_)
    · walk_at "ev"
      refine ⟨sqx_of (by rw [List.length_map]; exact hil), by rw [List.getElem?_map, hei]; rfl, ?_⟩
      walk_at "ev"
      have kx : Keep b H (upd H6 l1 (.lst ((es.map (·.1)).eraseIdx i))) := keep_fresh k16 hl1
      refine key _ 2 _ (es.eraseIdx i) _ _ _ _ kx ((hb6.upd n1b).mono (by omega)) (by omega) upd_same (by rw [erm]) (fun e he => hold _ kx e (List.mem_of_mem_eraseIdx he)) (by have := List.length_eraseIdx_le es i; omega)
    walk_at "ev"
    refine ite2 (fun c5 => ?_) (fun c5 => ?_)
    · walk_at "ev"
      intro r H7 s0 s1 k7 hb7
      obtain ⟨j, rfl⟩ := Int.eq_ofNat_of_zero_le s0
      have hjl : j < es.length := by rw [List.length_map] at s1; omega
      obtain ⟨⟨fv, fd'⟩, hfj⟩ : ∃ e, es[j]? = some e := ⟨_, List.getElem?_eq_getElem hjl⟩
      have hfm : (fv, fd') ∈ es := List.mem_of_getElem? hfj
      have hatj : atI (es.map (·.1)) ((j : Nat) : Int) = some fv := at_of (j := j) rfl (by rw [List.getElem?_map, hfj]; rfl)
      have hp7 := k7 _ _ n1b hp6
      have hL7 := SqL.of (K := K) hp7
      walk_at "ev"
      w_cond _8
      have hT8 := SqT.of (K := K) hq8
      have hp8 := sm8 _ _ hp7
      have hixj : ixN ((es.map (·.1)).set i fv).length ((j : Nat) : Int) = some j := ixn_of (by rw [List.length_set, List.length_map]; exact hjl) rfl
      walk_at "ev"
      rw [upd_upd]
      have kx : Keep b H (upd H8 l1 (.lst (((es.map (·.1)).set i fv).set j ev))) := keep_fresh (k16.trans (k7.trans (keepS sm8))) hl1
      refine key _ 3 _ ((es.set i (fv, fd')).set j (ev, ed)) _ _ _ _ kx (((hb7.same sm8).upd n1b).mono (by omega)) (by omega) upd_same (by rw [List.map_set, List.map_set]) (fun e he => ?_) (by rw [List.length_set, List.length_set]; omega)
      rcases List.mem_or_eq_of_mem_set he with z | z
      · rcases List.mem_or_eq_of_mem_set z with z | z
        · exact hold _ kx e z
        · rw [z]
          exact hold _ kx _ hfm
      · rw [z]
        exact hold _ kx _ hem
    walk_at "ev"
    refine ite2 (fun c6 => ?_) (fun c6 => ?_)
    · walk_at "ev"
      intro r H7 s0 s1 k7 hb7
      obtain ⟨j, rfl⟩ := Int.eq_ofNat_of_zero_le s0
      have hjl : j < es.length := by rw [List.length_map] at s1; omega
      obtain ⟨⟨fv, fd'⟩, hfj⟩ : ∃ e, es[j]? = some e := ⟨_, List.getElem?_eq_getElem hjl⟩
      have hfm : (fv, fd') ∈ es := List.mem_of_getElem? hfj
      have hatj : atI (es.map (·.1)) ((j : Nat) : Int) = some fv := at_of (j := j) rfl (by rw [List.getElem?_map, hfj]; rfl)
      have hp7 := k7 _ _ n1b hp6
      have hL7 := SqL.of (K := K) hp7
      walk_at "ev"
      have kx : Keep b H (upd H7 l1 (.lst ((es.map (·.1)).set i fv))) := keep_fresh (k16.trans k7) hl1
      refine key _ 3 _ (es.set i (fv, fd')) _ _ _ _ kx ((hb7.upd n1b).mono (by omega)) (by omega) upd_same (by rw [List.map_set]) (fun e he => ?_) (by rw [List.length_set]; omega)
      rcases List.mem_or_eq_of_mem_set he with z | z
      · exact hold _ kx e z
      · rw [z]
        exact hold _ kx _ hfm
    · walk_at "ev"
      refine .inl ⟨hL6, ?_⟩
      w_cond _7
      exact q l7 es H7 (k16.trans (keepS sm7)) ((hb6.same sm7).mono (by omega)) (by
        cases u : H l7 with
        | none => rfl
        | some o =>
          rw [k16 _ o (hb6.ne hl7) u] at hl7
          cases hl7) hne (by omega) (fun e he => hold _ (k16.trans (keepS sm7)) e he) (.inr hq7)
end
section
open PySem.Spec PyProof.Rows
variable {P : Program} {w : World} {K : PySem.W.Frag} {mg : Str → Option Value} {base : Heap}
theorem fnor {CX : CXT} {k : Nat} {f : Addr} {fd : FuncData} {ps : List Str} {sp sp1 sp2 : Sp} (G1 : FnOk P w K mg base CX k f fd ps sp1) (G2 : FnOk P w K mg base CX k f fd ps sp2) (h : ∀ vs H Q E, sp vs H Q E → sp1 vs H Q E ∨ sp2 vs H Q E) : FnOk P w K mg base CX k f fd ps sp :=
  ⟨fun vs H Q E x => (h vs H Q E x).elim (G1.len vs H Q E) (G2.len vs H Q E), fun A outer s H args us vs Q E hr e0 hb r x => (h vs H Q E x).elim (G1.run A outer s H args us vs Q E hr e0 hb r) (G2.run A outer s H args us vs Q E hr e0 hb r)⟩
end
def spInvS (K : PySem.W.Frag) : Sp := fun vs H Q _ => ∃ (a : Addr) (t : List Nat), vs = [.ref a] ∧ (SqL K H a (t.map vN) ∨ SqT K H a (t.map vN)) ∧ IsP t ∧ t.length ≤ 1000 ∧ ∀ p u H', InvOf t u → H p = none → Same H H' → H' p = some (.lst (u.map vN)) → Q (.ref p) H'
def spRdsS (K : PySem.W.Frag) : Sp := fun vs H Q _ => ∃ (a : Addr) (t : List Nat), vs = [.ref a] ∧ (SqL K H a (t.map vN) ∨ SqT K H a (t.map vN)) ∧ IsP t ∧ t.length ≤ 60 ∧ ∀ l (qs : List (Addr × List Nat)) H', qs.map (·.2) = rds t → Rw H H' qs → H l = none → Same H H' → H' l = some (.lst (refs qs)) → Q (.ref l) H'
theorem InvOf.uniq {t u v : List Nat} (h : IsP t) (a : InvOf t u) (b : InvOf t v) : u = v := by
  refine List.ext_getElem? fun k => ?_
  by_cases c : k < t.length
  · obtain ⟨i, hi⟩ := List.mem_iff_getElem?.mp (h.sur c)
    rw [a.2 i k hi, b.2 i k hi]
  · rw [List.getElem?_eq_none (by have := a.1; omega), List.getElem?_eq_none (by have := b.1; omega)]
theorem InvOf.sym {t u : List Nat} (h : IsP t) (a : InvOf t u) : InvOf u t := by
  refine ⟨a.1.symm, fun k i hk => ?_⟩
  have hkl : k < t.length := by have := (List.getElem?_eq_some_iff.mp hk).1; have := a.1; omega
  obtain ⟨j, hj⟩ := List.mem_iff_getElem?.mp (h.sur hkl)
  have := a.2 j k hj
  rw [hk] at this
  cases this
  exact hj
theorem vNi (L : List Nat) : L.map vN = (L.map Int.ofNat).map V.int := by
  rw [List.map_map]
  rfl
theorem dpN {K : PySem.W.Frag} {H : Hp} {a : Addr} {L : List Nat} (h : H a = some (.lst (L.map vN))) : Dp K H (.ref a) (rowD L) := by
  rw [vNi] at h
  exact .lst (SqL.of h) (dp_ints _)
theorem fitR {l : List Nat} (h : l.length ≤ 60) : Fit 1 (rowD l) := by
  refine ⟨by rw [List.length_map, List.length_map]; omega, fun e he => ?_⟩
  obtain ⟨c, _, rfl⟩ := List.mem_map.mp he
  exact True.intro
theorem fitRs {ls : List (List Nat)} (h : ∀ l ∈ ls, l.length ≤ 60) (k : ls.length ≤ 60) : Fit 2 (.list (ls.map rowD)) := by
  refine ⟨by rw [List.length_map]; omega, fun e he => ?_⟩
  obtain ⟨l, hl, rfl⟩ := List.mem_map.mp he
  exact fitR (h l hl)
theorem fit_up : ∀ {n : Nat} {d : PyData}, Fit n d → Fit (n + 1) d
  | 0, .list _, h => h.elim
  | 0, .tuple _, h => h.elim
  | n + 1, .list ds, h => ⟨h.1, fun e he => fit_up (h.2 e he)⟩
  | n + 1, .tuple ds, h => ⟨h.1, fun e he => fit_up (h.2 e he)⟩
  | 0, .dict _, h => h.elim
  | _ + 1, .dict _, h => h.elim
  | 0, .none, _ => True.intro
  | _ + 1, .none, _ => True.intro
  | 0, .bool _, _ => True.intro
  | _ + 1, .bool _, _ => True.intro
  | 0, .int _, _ => True.intro
  | _ + 1, .int _, _ => True.intro
  | 0, .str _, _ => True.intro
  | _ + 1, .str _, _ => True.intro
theorem fit_nil2 {n : Nat} {ds : List PyData} (h : ds.length ≤ 4000) (k : ∀ e ∈ ds, Fit n e) : Fit (n + 1) (.list ds) := ⟨h, k⟩
abbrev s__law_right : Stmt := top 17
abbrev N__law_right : List Str := ["_law_box_here", "_law_row", "_law_stays", "_law_things", "_law_turn", "_law_thing", "_law_ahead", "_law_due", "_law_given", "_law_told", "_law_rounds_here", "_law_one", "_law_k"]
abbrev P__law_right : List Str := ["_law_box_here"]
theorem sc__law_right : FnScope N__law_right P__law_right (defScope s__law_right) := ⟨rfl, rfl, rfl, by decide +kernel, rfl, by decide +kernel, by decide +kernel⟩
section
variable {P : Program} {w : World} {K : PySem.W.Frag} {mg : Str → Option Value} {base : Heap}
theorem right_W {f f1 f2 f3 f4 f5 : Addr} {d1 d2 d3 d4 d5 : FuncData} {A : Around} {outer : List Env} {s : Shared} {H : Hp} {Q : VK} {E : XK} {cdv : Value} (T : Blt mg) (hr : Room 5 (A.deeper (PyProof.Rows.envOfC "_law_right" (defScope s__law_right) s.heap.objs.size f cdv)))
    (D__law_same : Df K mg "_law_same" s__law_same P__law_same f1 d1) (D_inverse_order : Df K mg "inverse_order" s_inverse_order P_inverse_order f2 d2) (D_order_cycles : Df K mg "order_cycles" s_order_cycles P_order_cycles f3 d3) (D_round_from : Df K mg "round_from" s_round_from P_round_from f4 d4) (D__law_rounds : Df K mg "_law_rounds" s__law_rounds P__law_rounds f5 d5) :
    ∃ tl, PSs (cxOf CX0 P w K mg base N__law_right "_law_right" (defScope s__law_right) f cdv A outer s H E).nox ((defBody s__law_right).drop 4) tl ∧
      ∀ (t : List Nat) (lr ls : Addr) (H3 : Hp) (x0 x3 x4 x5 x6 x7 : Option V), IsP t → 1 ≤ t.length → t.length ≤ 60 → H3 lr = some (.lst (t.map vN)) → H3 ls = some (.lst (t.map vN)) → (∀ H', Same H3 H' → Q (.bl true) H') →
        tl { nx := fun _ H' => Q .non H', rt := Q } [x0, some (.ref lr), some (.ref ls), x3, x4, x5, x6, x7, none, none, none, none, none] H3 := by
  have G__law_same : FnOk P w K mg base CX0 4 f1 d1 P__law_same (spSame K 3) := ok_same D__law_same T 3
  have G_inverse_order : FnOk P w K mg base CX0 1 f2 d2 P_inverse_order (spInvS K) := fnor (ok_invOL D_inverse_order.F T) (ok_invOT D_inverse_order.F T) fun vs H Q E ⟨a, t, h1, h2, h3⟩ => h2.elim (fun h => .inl ⟨a, t, h1, h, h3⟩) (fun h => .inr ⟨a, t, h1, h, h3⟩)
  have G_order_cycles : FnOk P w K mg base CX0 2 f3 d3 P_order_cycles (spRdsS K) := fnor (ok_rdsL (k := 0) D_order_cycles.F T D_round_from) (ok_rdsT (k := 0) D_order_cycles.F T D_round_from) fun vs H Q E ⟨a, t, h1, h2, h3⟩ => h2.elim (fun h => .inl ⟨a, t, h1, h, h3⟩) (fun h => .inr ⟨a, t, h1, h, h3⟩)
  have G__law_rounds : FnOk P w K mg base CX0 1 f5 d5 P__law_rounds (spRdsL K) := ok_rnds D__law_rounds.F T
  have nd := sc__law_right.nd
  refine ⟨_, (pss_cons (ps_setLc (i := 7) (own := [("_law_k", 12)]) (g := gName 12) (by rfl) nd rfl rfl (sw_true rfl rfl rfl (by decide +kernel)) (pi_range1 (by rfl) T.b_range (pa_cons (pe_callB (r := rLenQ K) call_len_seq (by rfl) T.b_len (by decide +kernel) (pa_cons (pv 1) pa_nil)) pa_nil)) (blkOk_by (own := [("_law_k", 12)]) (N := N__law_right) (sc := defScope s__law_right) (by decide +kernel)) (fun _ _ _ _ _ => (pg_name (i := 12) nd rfl (Or.inl rfl))) (fun _ _ _ _ _ => pts_nil) (fun _ _ _ _ _ => (pe_bmK (K := K) (r := rIndex K) rfl PySem.F.plainAttrs_list PySem.F.slot_list_index PySem.F.type_list_index mt_index (pv 1) (pa_cons (pv 12) pa_nil))))
      (pss_cons (ps_for PassesOwn.never rfl (pi_tup (pe_tup (pa_cons (pv 1) (pa_cons (pe_callTy call_tuple_of (by rfl) T.b_tuple (by decide +kernel) (pa_cons (pv 1) pa_nil)) pa_nil)))) (pg_name (i := 8) nd rfl (Or.inl rfl))
      (pss_cons (ps_set (i := 9) nd rfl (Or.inl rfl) (pe_lst (pa_cons (pe_call G_inverse_order (hr.mono (by omega)) (by rfl) D_inverse_order.g D_inverse_order.F.kp D_inverse_order.b .nil pass0 (pa_cons (pv 8) pa_nil)) (pa_cons (pe_call G_inverse_order (hr.mono (by omega)) (by rfl) D_inverse_order.g D_inverse_order.F.kp D_inverse_order.b .nil pass0 (pa_cons (pv 8) pa_nil)) (pa_cons (pe_call G_inverse_order (hr.mono (by omega)) (by rfl) D_inverse_order.g D_inverse_order.F.kp D_inverse_order.b .nil pass0 (pa_cons (pv 7) pa_nil)) pa_nil)))))
      (pss_cons (ps_if (pt_not (pt_val (pe_call G__law_same (hr.mono (by omega)) (by rfl) D__law_same.g D__law_same.F.kp D__law_same.b .nil pass0 (pa_cons (pv 9) (pa_cons (pe_lst (pa_cons (pv 7) (pa_cons (pv 7) (pa_cons (pv 1) pa_nil)))) pa_nil))))) (pss_one (ps_ret (pe_bl))) pss_nil)
      (pss_cons (ps_expr (pe_bm0 PySem.F.plainAttrs_list PySem.F.slot_list_reverse PySem.F.type_list_reverse mt_reverse (pe_ix (r := rIxL K) ix_list (pv 9) (pe_int) (fun _ _ => rfl))))
      (pss_cons (ps_expr (pe_bm PySem.F.plainAttrs_list PySem.F.slot_list_append PySem.F.type_list_append mt_append (pe_ix (r := rIxL K) ix_list (pv 9) (pe_int) (fun _ _ => rfl)) (pa_cons (pe_un un_neg (pe_int)) pa_nil)))
      (pss_cons (ps_set (i := 10) nd rfl (Or.inl rfl) (pe_call G_order_cycles (hr.mono (by omega)) (by rfl) D_order_cycles.g D_order_cycles.F.kp D_order_cycles.b .nil pass0 (pa_cons (pv 8) pa_nil)))
      (pss_cons (ps_if (pt_not (pt_val (pe_call G__law_same (hr.mono (by omega)) (by rfl) D__law_same.g D__law_same.F.kp D__law_same.b .nil pass0 (pa_cons (pv 10) (pa_cons (pe_call G__law_rounds (hr.mono (by omega)) (by rfl) D__law_rounds.g D__law_rounds.F.kp D__law_rounds.b .nil pass0 (pa_cons (pv 1) pa_nil)) pa_nil))))) (pss_one (ps_ret (pe_bl))) pss_nil)
      (pss_cons (ps_for PassesOwn.never rfl (pi_list (pv 10)) (pg_name (i := 11) nd rfl (Or.inl rfl))
      (pss_one (ps_expr (pe_bm0 PySem.F.plainAttrs_list PySem.F.slot_list_clear PySem.F.type_list_clear mt_clear (pv 11)))))
      (pss_cons (ps_expr (pe_bm PySem.F.plainAttrs_list PySem.F.slot_list_append PySem.F.type_list_append mt_append (pv 10) (pa_cons (pe_str) pa_nil)))
      (pss_one (ps_if (pt_not (pt_val (pe_call G__law_same (hr.mono (by omega)) (by rfl) D__law_same.g D__law_same.F.kp D__law_same.b .nil pass0 (pa_cons (pe_lst (pa_cons (pe_call G_inverse_order (hr.mono (by omega)) (by rfl) D_inverse_order.g D_inverse_order.F.kp D_inverse_order.b .nil pass0 (pa_cons (pv 8) pa_nil)) (pa_cons (pe_call G_order_cycles (hr.mono (by omega)) (by rfl) D_order_cycles.g D_order_cycles.F.kp D_order_cycles.b .nil pass0 (pa_cons (pv 8) pa_nil)) pa_nil))) (pa_cons (pe_lst (pa_cons (pv 7) (pa_cons (pe_call G__law_rounds (hr.mono (by omega)) (by rfl) D__law_rounds.g D__law_rounds.F.kp D__law_rounds.b .nil pass0 (pa_cons (pv 1) pa_nil)) pa_nil))) pa_nil))))) (pss_one (ps_ret (pe_bl))) pss_nil)))))))))))
      (pss_one (ps_ret (pe_cmpR (r := rEqD K) (op_eqD hr.units) (pv 1) (pv 2) (nomark _)))))), ?_⟩
  intro t lr ls H3 x0 x3 x4 x5 x6 x7 htp n1 n60 hlr hls q
  have hLr := SqL.of (K := K) hlr
  have ht1000 : t.length ≤ 1000 := by omega
  walk_at "ev"
  intro D hD
  refine lc_range (lo := 0) (n := _) (fun j H' => Hold (∃ us : List Nat, us.length = j ∧ (∀ k x : Nat, us[k]? = some x → t[x]? = some k) ∧ Same H3 H' ∧ H' D = some (.lst (us.map vN)))) (.mk ⟨[], rfl, (fun k x h => by simp at h), same_new hD, upd_same⟩) ?_ ?_
  · intro j H4 hj hP
    obtain ⟨us, hul, hu, sm4, hD4⟩ := hP.un
    have hjl : j < t.length := by
      rw [List.length_map] at hj
      omega
    have hL4 := sm4.seq hLr
    obtain ⟨i, hi⟩ := List.mem_iff_getElem?.mp (htp.sur hjl)
    have tyv : tyV K "list" (.ref lr) H4 := .inl ⟨rfl, _, hL4⟩
    have i1 : (t.map vN)[i]? = some (vN j) := by rw [List.getElem?_map, hi]; rfl
    have i2 : eqV (vN j) (.int (0 + (j : Int))) = true := by
      show ((j : Int) == 0 + (j : Int)) = true
      rw [Int.zero_add]
      exact beq_self_eq_true _
    have i3 : ∀ (m : Nat) (z : V), m < i → (t.map vN)[m]? = some z → eqV z (.int (0 + (j : Int))) = false := by
      intro m z hm hz
      rw [List.getElem?_map] at hz
      obtain ⟨y, hy, rfl⟩ := Option.map_eq_some_iff.mp hz
      show ((y : Int) == 0 + (j : Int)) = false
      rw [beq_eq_false_iff_ne]
      intro e
      have e2 : y = j := by omega
      subst e2
      have := htp.inj hy hi
      omega
    have hfl := flat_nat t
    have hsz : (us.map vN).length < sizeLine := szm (by rw [List.length_map]; omega)
    walk_at "ev"
    refine .mk ⟨us ++ [i], by rw [List.length_append, hul]; rfl, fun k x hk => ?_, same_mut sm4 hD, ?_⟩
    · by_cases c : k < us.length
      · rw [List.getElem?_append_left c] at hk
        exact hu k x hk
      · have hk2 := (List.getElem?_eq_some_iff.mp hk).1
        rw [List.length_append, List.length_singleton] at hk2
        have ek : k = j := by omega
        subst ek
        rw [List.getElem?_append_right (by omega), hul, Nat.sub_self] at hk
        cases hk
        exact hi
    · rw [upd_same, List.map_append]
      rfl
  · intro H4 hP
    obtain ⟨us, hul, hu, sm4, hD4⟩ := hP.un
    have hul2 : us.length = t.length := by
      rw [hul, List.length_map]
      omega
    have hinv : InvOf t us := ⟨hul2, fun i x hi => by
      have hxl := htp.2 x (List.mem_of_getElem? hi)
      have hx : us[x]? = some us[x] := List.getElem?_eq_getElem (by omega)
      rw [hx, htp.inj (hu x _ hx) hi]⟩
    clear hul hu
    have hus := hinv.isP htp
    walk_at "ev"
    refine .inl ⟨SqL.of (sm4 _ _ hlr), ?_⟩
    w_cond _5
    walk_at "ev"
    w_cond _6
    have sm36 := sm4.trans (sm5.trans sm6)
    have hLp6 := SqT.of (K := K) hq6
    have hD6 := (sm5.trans sm6) _ _ hD4
    have hlr6 := sm36 _ _ hlr
    have hlt6 := sm6 _ _ hq5
    refine ⟨l6, rfl, ⟨_, hLp6⟩, ?_⟩
    refine for_tup (K := K) (a := l6) (xs := [.ref lr, .ref l5]) (fun i σ H' => Hold (∃ y8 y9 y10 y11, σ = [x0, some (.ref lr), some (.ref ls), x3, x4, x5, x6, some (.ref D), y8, y9, y10, y11, none] ∧ Same H6 H')) (.mk ⟨_, _, _, _, rfl, Same.refl _⟩) ?_ ?_ ?_
    · intro i σ H7 hi hP7
      obtain ⟨y8, y9, y10, y11, rfl, sm7⟩ := hP7.un
      exact same_t sm7 hLp6
    · intro i v σ H7 hv hP7
      obtain ⟨y8, y9, y10, y11, rfl, sm7⟩ := hP7.un
      have hlr7 := sm7 _ _ hlr6
      have hD7 := sm7 _ _ hD6
      obtain ⟨g, rfl, hg⟩ : ∃ g : Addr, v = .ref g ∧ (SqL K H7 g (t.map vN) ∨ SqT K H7 g (t.map vN)) := by
        have hvm := List.mem_of_getElem? hv
        simp only [List.mem_cons, List.not_mem_nil, or_false] at hvm
        rcases hvm with z | z
        · exact ⟨lr, z, .inl (SqL.of hlr7)⟩
        · exact ⟨l5, z, .inr (SqT.of (sm7 _ _ hlt6))⟩
      have hgs : ∀ Hx, Same H7 Hx → (SqL K Hx g (t.map vN) ∨ SqT K Hx g (t.map vN)) := fun Hx sm => hg.elim (fun h => .inl (sm.seq h)) (fun h => .inr (same_t sm h))
      walk_at "ev"
      intro p1 u1 H8 hu1 hp1 sm8 hq8
      have hg8 := hgs H8 sm8
      rw [InvOf.uniq htp hu1 hinv] at hq8
      walk_at "ev"
      intro p2 u2 H9 hu2 hp2 sm9 hq9
      rw [InvOf.uniq htp hu2 hinv] at hq9
      have hD9 : SqL K H9 D (us.map vN) ∨ SqT K H9 D (us.map vN) := .inl (SqL.of ((sm8.trans sm9) _ _ hD7))
      have hul1000 : us.length ≤ 1000 := by rw [hul2]; omega
      clear hg8
      walk_at "ev"
      intro p3 u3 H10 hu3 hp3 sm10 hq10
      rw [InvOf.uniq hus hu3 (hinv.sym htp)] at hq10
      walk_at "ev"
      w_cond _11
      walk_at "ev"
      w_cond _12
      have s712 := sm8.trans (sm9.trans (sm10.trans (sm11.trans sm12)))
      have g1 := (sm9.trans (sm10.trans (sm11.trans sm12))) _ _ hq8
      have g2 := (sm10.trans (sm11.trans sm12)) _ _ hq9
      have g3 := (sm11.trans sm12) _ _ hq10
      have gT := sm12 _ _ hq11
      have gD := s712 _ _ hD7
      have gr := s712 _ _ hlr7
      have hd1 : Dp K H12 (.ref l11) (.list [rowD us, rowD us, rowD t]) := .lst (SqL.of gT) (.cons (dpN g1) (.cons (dpN g2) (.cons (dpN g3) .nil)))
      have hd2 : Dp K H12 (.ref l12) (.list [rowD us, rowD us, rowD t]) := .lst (SqL.of hq12) (.cons (dpN gD) (.cons (dpN gD) (.cons (dpN gr) .nil)))
      have hft : Fit 3 (.list [rowD us, rowD us, rowD t]) := fit_up (fitRs (ls := [us, us, t]) (by intro l hl; simp only [List.mem_cons, List.not_mem_nil, or_false] at hl; rcases hl with z | z | z <;> rw [z] <;> omega) (by show 3 ≤ 60; decide))
      walk_at "ev"
      intro H13 sm13
      have s713 := s712.trans sm13
      have a1 := sm13 _ _ g1
      have a3 := sm13 _ _ g3
      have aT := sm13 _ _ gT
      have hLT := SqL.of (K := K) aT
      have f1 : H7 p1 = none := hp1
      have f3 : H7 p3 = none := (sm8.trans sm9).free hp3
      have n13 : p3 ≠ p1 := (ne_of_none (sm9 _ _ hq8) hp3).symm
      have n1T : l11 ≠ p1 := (ne_of_none ((sm9.trans sm10) _ _ hq8) hl11).symm
      have at0 : atI [V.ref p1, V.ref p2, V.ref p3] 0 = some (.ref p1) := rfl
      have at2 : atI [V.ref p1, V.ref p2, V.ref p3] 2 = some (.ref p3) := rfl
      have ty1 : tyV K "list" (.ref p1) H13 := .inl ⟨rfl, _, SqL.of a1⟩
      walk_at "ev"
      generalize hG : upd H13 p1 _ = H14
      have k14 := (mutO hG).1
      have s714 : Same H7 H14 := by rw [← hG]; exact same_mut s713 f1
      clear hG
      have b3 := k14 _ _ n13 a3
      have bT := k14 _ _ n1T aT
      have hLT2 := SqL.of (K := K) bT
      have ty3 : tyV K "list" (.ref p3) H14 := .inl ⟨rfl, _, SqL.of b3⟩
      have z3 : (t.map vN).length < sizeLine := szm (by rw [List.length_map]; omega)
      walk_at "ev"
      generalize hG : upd H14 p3 _ = H15
      have s715 : Same H7 H15 := by rw [← hG]; exact same_mut s714 f3
      clear hG
      have hg15 := hgs H15 s715
      walk_at "ev"
      intro lc qs H16 hqs hrw16 hlc sm16 hq16
      have hr16 := SqL.of (K := K) ((s715.trans sm16) _ _ hlr7)
      walk_at "ev"
      intro lc2 qs2 H17 hqs2 hrw17 hlc2 sm17 hq17
      have hrd := hrw16.same sm17
      have hd3 : Dp K H17 (.ref lc) (.list ((rds t).map rowD)) := by
        rw [← hqs]
        exact .lst (SqL.of (sm17 _ _ hq16)) hrd.dp
      have hd4 : Dp K H17 (.ref lc2) (.list ((rds t).map rowD)) := by
        rw [← hqs2]
        exact .lst (SqL.of hq17) hrw17.dp
      have hfr : Fit 2 (.list ((rds t).map rowD)) := fitRs (fun l hl => by have := (snR_all htp t.length (Nat.le_refl _) l hl).2; omega) (by have := snR_len (t := t) t.length; exact Nat.le_trans this n60)
      have hfr3 := fit_up hfr
      walk_at "ev"
      intro H18 sm18
      have s718 := s715.trans (sm16.trans (sm17.trans sm18))
      have hc18 := (sm17.trans sm18) _ _ hq16
      have hrw18 := hrd.same sm18
      have hLc18 := SqL.of (K := K) hc18
      have hqf : ∀ q ∈ qs, H7 q.1 = none := fun q hq => s715.free (hrw16 q hq).1
      have hlcf : H7 lc = none := s715.free hlc
      have hqn : ∀ q ∈ qs, q.1 ≠ lc := fun q hq e => by
        have h1 := (hrw16 q hq).2
        rw [e, hq16] at h1
        have h2 := HO.lst.inj (Option.some.inj h1)
        cases qs with
        | nil => cases hq
        | cons q0 r =>
          cases hz : q.2 with
          | nil =>
            rw [hz] at h2
            cases h2
          | cons y ys =>
            rw [hz] at h2
            have := (List.cons.inj h2).1
            cases this
      have hqlen : qs.length ≤ 60 := by
        have h1 := congrArg List.length hqs
        rw [List.length_map] at h1
        have h2 := snR_len (t := t) t.length
        have h3 : (rds t).length ≤ t.length := h2
        omega
      walk_at "ev"
      refine ⟨⟨_, hLc18⟩, ?_⟩
      refine for_list (K := K) (a := lc) (xs := refs qs) (fun j σ H' => Hold (∃ z11, σ = [x0, some (.ref lr), some (.ref ls), x3, x4, x5, x6, some (.ref D), some (.ref g), some (.ref l11), some (.ref lc), z11, none] ∧ Same H7 H' ∧ H' lc = some (.lst (refs qs)) ∧ ∀ q ∈ qs, ∃ xs, H' q.1 = some (.lst xs))) (.mk ⟨_, rfl, s718, hc18, fun q hq => ⟨_, (hrw18 q hq).2⟩⟩) ?_ ?_ ?_
      · intro j σ H19 hj hP19
        obtain ⟨z11, rfl, sm19, hc19, hq19⟩ := hP19.un
        exact SqL.of hc19
      · intro j v σ H19 hv hP19
        obtain ⟨z11, rfl, sm19, hc19, hq19⟩ := hP19.un
        obtain ⟨q0, hq0, rfl⟩ := List.mem_map.mp (List.mem_of_getElem? hv)
        obtain ⟨xs0, hx0⟩ := hq19 q0 hq0
        have ty0 : tyV K "list" (.ref q0.1) H19 := .inl ⟨rfl, _, SqL.of hx0⟩
        walk_at "ev"
        refine .mk ⟨_, rfl, same_mut sm19 (hqf q0 hq0), by rw [upd_ne (hqn q0 hq0).symm]; exact hc19, fun q hq => ?_⟩
        by_cases e : q.1 = q0.1
        · rw [e]
          exact ⟨_, upd_same⟩
        · obtain ⟨ys, hy⟩ := hq19 q hq
          exact ⟨ys, by rw [upd_ne e]; exact hy⟩
      · intro σ H19 hP19
        obtain ⟨z11, rfl, sm19, hc19, hq19⟩ := hP19.un
        have tyc : tyV K "list" (.ref lc) H19 := .inl ⟨rfl, _, SqL.of hc19⟩
        have zc : (refs qs).length < sizeLine := szm (by rw [List.length_map]; omega)
        walk_at "ev"
        generalize hG : upd H19 lc _ = H20
        have s720 : Same H7 H20 := by rw [← hG]; exact same_mut sm19 hlcf
        clear hG
        have hg20 := hgs H20 s720
        walk_at "ev"
        intro p4 u4 H21 hu4 hp4 sm21 hq21
        rw [InvOf.uniq htp hu4 hinv] at hq21
        have hg21 := hgs H21 (s720.trans sm21)
        walk_at "ev"
        intro lc3 qs3 H22 hqs3 hrw22 hlc3 sm22 hq22
        walk_at "ev"
        w_cond _23
        have hr23 := SqL.of (K := K) ((s720.trans (sm21.trans (sm22.trans sm23))) _ _ hlr7)
        walk_at "ev"
        intro lc4 qs4 H24 hqs4 hrw24 hlc4 sm24 hq24
        walk_at "ev"
        w_cond _25
        have s725 := s720.trans (sm21.trans (sm22.trans (sm23.trans (sm24.trans sm25))))
        have hdA : Dp K H25 (.ref lc3) (.list ((rds t).map rowD)) := by
          rw [← hqs3]
          exact .lst (SqL.of ((sm23.trans (sm24.trans sm25)) _ _ hq22)) (hrw22.same (sm23.trans (sm24.trans sm25))).dp
        have hdB : Dp K H25 (.ref lc4) (.list ((rds t).map rowD)) := by
          rw [← hqs4]
          exact .lst (SqL.of (sm25 _ _ hq24)) (hrw24.same sm25).dp
        have hd5 : Dp K H25 (.ref l23) (.list [rowD us, .list ((rds t).map rowD)]) := .lst (SqL.of ((sm24.trans sm25) _ _ hq23)) (.cons (dpN ((sm22.trans (sm23.trans (sm24.trans sm25))) _ _ hq21)) (.cons hdA .nil))
        have hd6 : Dp K H25 (.ref l25) (.list [rowD us, .list ((rds t).map rowD)]) := .lst (SqL.of hq25) (.cons (dpN (s725 _ _ hD7)) (.cons hdB .nil))
        have hf5 : Fit 3 (.list [rowD us, .list ((rds t).map rowD)]) := fit_nil2 (by show 2 ≤ 4000; decide) fun e he => by
          simp only [List.mem_cons, List.not_mem_nil, or_false] at he
          rcases he with z | z <;> rw [z]
          · exact fit_up (fitR (by omega))
          · exact hfr
        walk_at "ev"
        intro H26 sm26
        walk_at "ev"
        exact .mk ⟨_, _, _, _, rfl, sm7.trans (s725.trans sm26)⟩
    · intro σ H7 hP7
      obtain ⟨y8, y9, y10, y11, rfl, sm7⟩ := hP7.un
      have hdr := dpN (K := K) ((sm36.trans sm7) _ _ hlr)
      have hds := dpN (K := K) ((sm36.trans sm7) _ _ hls)
      have hsh := PySem.W.ke_shaped_ints (t.map Int.ofNat)
      walk_at "ev"
      have heq : PyData.eqv (rowD t) (rowD t) = true := by
        rw [PyData.eqv, eqv_ints, decide_eq_true rfl]
      rw [heq]
      exact q _ (sm36.trans sm7)
end
/-- a thing that is asked about -/
def Th (d : PyData) : Prop := Sm 10000 5 d ∧ ∀ ds, d = .list ds → ds.length ≤ 100
section
variable {P : Program} {w : World} {K : PySem.W.Frag} {mg : Str → Option Value} {base : Heap}
theorem right_V {f f1 f2 f3 f4 f5 f6 f7 f8 : Addr} {d1 d2 d3 d4 d5 d6 d7 d8 : FuncData} {A : Around} {outer : List Env} {s : Shared} {H : Hp} {Q : VK} {E : XK} {cdv : Value} (T : Blt mg) (hgd : A.guards = some []) (hr : Room 5 (A.deeper (PyProof.Rows.envOfC "_law_right" (defScope s__law_right) s.heap.objs.size f cdv)))
    (D__law_same : Df K mg "_law_same" s__law_same P__law_same f1 d1) (D_inverse_order : Df K mg "inverse_order" s_inverse_order P_inverse_order f2 d2) (D_order_cycles : Df K mg "order_cycles" s_order_cycles P_order_cycles f3 d3) (D_round_from : Df K mg "round_from" s_round_from P_round_from f4 d4) (D__law_rounds : Df K mg "_law_rounds" s__law_rounds P__law_rounds f5 d5)
    (D_is_order : Df K mg "is_order" s_is_order P_is_order f6 d6) (D_is_whole : Df K mg "is_whole" s_is_whole P_is_whole f7 d7) (D__law_is_it : Df K mg "_law_is_it" s__law_is_it P__law_is_it f8 d8) :
    ∃ tl, PSs (cxOf CX0 P w K mg base N__law_right "_law_right" (defScope s__law_right) f cdv A outer s H E).nox ((defBody s__law_right).drop 3) tl ∧
      ∀ (t : List Nat) (lr ls lT : Addr) (xs : List V) (H3 : Hp) (x0 x4 x5 : Option V), IsP t → 1 ≤ t.length → t.length ≤ 60 → H3 lr = some (.lst (t.map vN)) → H3 ls = some (.lst (t.map vN)) → H3 lT = some (.lst xs) → (∀ v ∈ xs, ∃ d, Dp K H3 v d ∧ Th d) → (∀ H', Same H3 H' → Q (.bl true) H') →
        tl { nx := fun _ H' => Q .non H', rt := Q } [x0, some (.ref lr), some (.ref ls), some (.ref lT), x4, x5, none, none, none, none, none, none, none] H3 := by
  have G__law_same : FnOk P w K mg base CX0 4 f1 d1 P__law_same (spSame K 3) := ok_same D__law_same T 3
  have G_is_order : FnOk P w K mg base CX0 2 f6 d6 P_is_order (spIsO K) := ok_isO (k := 0) D_is_order.F T D_is_whole
  have G__law_is_it : FnOk P w K mg base CX0 1 f8 d8 P__law_is_it (spIsIt K) := ok_isIt D__law_is_it.F T
  obtain ⟨tl, htl, fin⟩ := right_W (P := P) (w := w) (base := base) (outer := outer) (H := H) (Q := Q) (E := E) T hr D__law_same D_inverse_order D_order_cycles D_round_from D__law_rounds
  have nd := sc__law_right.nd
  refine ⟨_, (pss_cons (ps_for PassesOwn.never rfl (pi_list (pv 3)) (pg_name (i := 5) nd rfl (Or.inl rfl))
      (pss_cons (ps_par (i := 6) (j := 7) (by rfl) nd rfl rfl (by decide) rfl rfl (pa_cons (pe_callB (r := rRepG K) (call_reprG hgd hr.units) (by rfl) T.b_repr (by decide +kernel) (pa_cons (pv 5) pa_nil)) (pa_cons (pe_call G__law_is_it (hr.mono (by omega)) (by rfl) D__law_is_it.g D__law_is_it.F.kp D__law_is_it.b .nil pass0 (pa_cons (pv 5) pa_nil)) pa_nil)) (by rfl))
      (pss_one (ps_if (PW.pt (pw_or (pt_not (pt_val (pe_call G__law_same (hr.mono (by omega)) (by rfl) D__law_same.g D__law_same.F.kp D__law_same.b .nil pass0 (pa_cons (pe_lst (pa_cons (pe_call G_is_order (hr.mono (by omega)) (by rfl) D_is_order.g D_is_order.F.kp D_is_order.b .nil pass0 (pa_cons (pv 5) pa_nil)) (pa_cons (pe_call G_is_order (hr.mono (by omega)) (by rfl) D_is_order.g D_is_order.F.kp D_is_order.b .nil pass0 (pa_cons (pv 5) pa_nil)) pa_nil))) (pa_cons (pe_lst (pa_cons (pv 7) (pa_cons (pv 7) pa_nil))) pa_nil))))) (pw_or1 (pt_cmpR op_ne (pe_callB (r := rRepG K) (call_reprG hgd hr.units) (by rfl) T.b_repr (by decide +kernel) (pa_cons (pv 5) pa_nil)) (pv 6) (nomark _))))) (pss_one (ps_ret (pe_bl))) pss_nil))))
      htl), ?_⟩
  intro t lr ls lT xs H3 x0 x4 x5 htp n1 n60 hlr hls hlT hth q
  have hLT := SqL.of (K := K) hlT
  walk_at "ev"
  refine ⟨⟨_, hLT⟩, ?_⟩
  refine for_list (K := K) (a := lT) (xs := xs) (fun i σ H' => Hold (∃ y5 y6 y7, σ = [x0, some (.ref lr), some (.ref ls), some (.ref lT), x4, y5, y6, y7, none, none, none, none, none] ∧ Same H3 H')) (.mk ⟨_, _, _, rfl, Same.refl _⟩) ?_ ?_ ?_
  · intro i σ H4 hi hP
    obtain ⟨y5, y6, y7, rfl, sm4⟩ := hP.un
    exact sm4.seq hLT
  · intro i v σ H4 hv hP
    obtain ⟨y5, y6, y7, rfl, sm4⟩ := hP.un
    obtain ⟨d, hd3, hth3⟩ := hth v (List.mem_of_getElem? hv)
    have hd4 := dp_same sm4 hd3
    have hsn := hth3.1.shn (by omega) (by omega)
    have hsh := hth3.1.shaped (by omega)
    have hl100 := hth3.2
    walk_at "ev"
    intro H5 sm5
    have hd5 := dp_same sm5 hd4
    walk_at "ev"
    intro H6 sm6
    have hd6 := dp_same sm6 hd5
    walk_at "ev"
    intro H7 sm7
    have hd7 := dp_same sm7 hd6
    walk_at "ev"
    w_cond _8
    walk_at "ev"
    w_cond _9
    have hdA : Dp K H9 (.ref l8) (.list [.bool (ordD d), .bool (ordD d)]) := .lst (SqL.of (sm9 _ _ hq8)) (.cons (.bl _) (.cons (.bl _) .nil))
    have hdB : Dp K H9 (.ref l9) (.list [.bool (ordD d), .bool (ordD d)]) := .lst (SqL.of hq9) (.cons (.bl _) (.cons (.bl _) .nil))
    have hft : Fit 3 (.list [.bool (ordD d), .bool (ordD d)]) := fit_nil2 (by show 2 ≤ 4000; decide) fun e he => by
      simp only [List.mem_cons, List.not_mem_nil, or_false] at he
      rcases he with z | z <;> rw [z] <;> exact True.intro
    clear hd4 hd5 hd6
    walk_at "ev"
    intro H10 sm10
    have hd10 := dp_same (sm8.trans (sm9.trans sm10)) hd7
    walk_at "ev"
    exact .mk ⟨_, _, _, rfl, sm4.trans (sm5.trans (sm6.trans (sm7.trans (sm8.trans (sm9.trans sm10)))))⟩
  · intro σ H4 hP
    obtain ⟨y5, y6, y7, rfl, sm4⟩ := hP.un
    exact fin t lr ls H4 _ _ _ _ _ _ htp n1 n60 (sm4 _ _ hlr) (sm4 _ _ hls) fun H' sm' => q _ (sm4.trans sm')
end
theorem th_int (i : Int) (h : -1000000 ≤ i ∧ i ≤ 1000000) : Th (.int i) := ⟨(sm_int h).up (by omega) (by omega), fun ds e => by cases e⟩
theorem th_es {es : List (V × PyData)} {M : Int} (h : es.length ≤ 62) (k : ∀ e ∈ es, Od M e.2) : Th (.list (es.map (·.2))) ∧ Th (.tuple (es.map (·.2))) := by
  have hs : ∀ d ∈ es.map (·.2), Sm 30 1 d := fun d hd => by
    obtain ⟨e, he, rfl⟩ := List.mem_map.mp hd
    exact (k e he).1
  refine ⟨⟨(Sm.lst (n := 62) (by rw [List.length_map]; exact h) hs).up (by omega) (by omega), fun ds e => ?_⟩, ⟨(Sm.tup (n := 62) (by rw [List.length_map]; exact h) hs).up (by omega) (by omega), fun ds e => by cases e⟩⟩
  rw [← PyData.list.inj e, List.length_map]
  omega
theorem th_row {t : List Nat} (h : IsP t) (k : t.length ≤ 60) : Sm 2000 1 (rowD t) ∧ Sm 2000 1 (.tuple ((t.map Int.ofNat).map PyData.int)) := by
  have hs : ∀ d ∈ (t.map Int.ofNat).map PyData.int, Sm 13 0 d := fun d hd => by
    obtain ⟨i, hi, rfl⟩ := List.mem_map.mp hd
    obtain ⟨x, hx, rfl⟩ := List.mem_map.mp hi
    have := h.2 x hx
    exact sm_int ⟨by show -1000000 ≤ (x : Int); omega, by show (x : Int) ≤ 1000000; omega⟩
  exact ⟨(Sm.lst (n := 60) (by rw [List.length_map, List.length_map]; exact k) hs).up (by omega) (by omega), (Sm.tup (n := 60) (by rw [List.length_map, List.length_map]; exact k) hs).up (by omega) (by omega)⟩
theorem th_lst {ds : List PyData} (h : ds.length ≤ 2) (k : ∀ d ∈ ds, Sm 2000 2 d) : Th (.list ds) := ⟨(Sm.lst (n := 2) h k).up (by omega) (by omega), fun es e => by rw [← PyData.list.inj e]; omega⟩
def spRt2 : Sp := fun vs H Q _ => ∃ (b : Addr) (n : Int), vs = [.ref b] ∧ BoxAt H b n ∧ n < 800000 ∧ ∀ H', Keep b H H' → BoxAt H' b (n + 400) → Q (.bl true) H'
section
variable {P : Program} {w : World} {K : PySem.W.Frag} {mg : Str → Option Value} {base : Heap}
theorem ok_rt {f f1 f2 f3 f4 f5 f6 f7 f8 f9 f10 f11 f12 : Addr} {fd d1 d2' d3 d4 d5 d6 d7 d8 d9 d10 d11 d12 : FuncData} (F : Fun K "_law_right" "_law_right" s__law_right f fd) (T : Blt mg)
    (D__law_same : Df K mg "_law_same" s__law_same P__law_same f1 d1) (D_inverse_order : Df K mg "inverse_order" s_inverse_order P_inverse_order f2 d2') (D_order_cycles : Df K mg "order_cycles" s_order_cycles P_order_cycles f3 d3) (D_round_from : Df K mg "round_from" s_round_from P_round_from f4 d4) (D__law_rounds : Df K mg "_law_rounds" s__law_rounds P__law_rounds f5 d5)
    (D_is_order : Df K mg "is_order" s_is_order P_is_order f6 d6) (D_is_whole : Df K mg "is_whole" s_is_whole P_is_whole f7 d7) (D__law_is_it : Df K mg "_law_is_it" s__law_is_it P__law_is_it f8 d8)
    (D__law_take : Df K mg "_law_take" s__law_take P__law_take f9 d9) (D__law_shuffled : Df K mg "_law_shuffled" s__law_shuffled P__law_shuffled f10 d10) (D__law_bent : Df K mg "_law_bent" s__law_bent P__law_bent f11 d11) (D__law_pick : Df K mg "_law_pick" s__law_pick P__law_pick f12 d12) : FnG P w K mg base CX0 6 f fd P__law_right spRt2 := by
  have G__law_take : FnOk P w K mg base CX0 1 f9 d9 P__law_take spTake := ok_take D__law_take.F
  have G__law_shuffled : FnOk P w K mg base CX0 2 f10 d10 P__law_shuffled spShuf := ok_shuf (k := 0) D__law_shuffled.F T D__law_take
  have G__law_bent : FnOk P w K mg base CX0 3 f11 d11 P__law_bent (spBent K) := ok_bent (k := 0) D__law_bent.F T D__law_take D__law_pick
  have nd := sc__law_right.nd
  refine okG F sc__law_right (fun vs H Q E h => ?_) (fun cdv A outer s H vs Q E hgd hr h => ?_)
  · obtain ⟨b, n, rfl, _⟩ := h
    rfl
  · obtain ⟨b, n, rfl, hb, hn, q⟩ := h
    obtain ⟨tl, htl, fin⟩ := right_V (P := P) (w := w) (base := base) (outer := outer) (H := H) (Q := Q) (E := E) T hgd hr D__law_same D_inverse_order D_order_cycles D_round_from D__law_rounds D_is_order D_is_whole D__law_is_it
    refine ⟨_, (pss_cons (ps_set (i := 1) nd rfl (Or.inr rfl) (pe_call G__law_shuffled (hr.mono (by omega)) (by rfl) D__law_shuffled.g D__law_shuffled.F.kp D__law_shuffled.b .nil pass0 (pa_cons (pv 0) (pa_cons (pe_ix (r := rIxL K) ix_list (pe_lst (pa_cons (pe_int) (pa_cons (pe_int) (pa_cons (pe_op op_add (pe_int) (pe_call G__law_take (hr.mono (by omega)) (by rfl) D__law_take.g D__law_take.F.kp D__law_take.b .nil pass0 (pa_cons (pv 0) (pa_cons (pe_int) pa_nil)))) (pa_cons (pe_op op_add (pe_int) (pe_call G__law_take (hr.mono (by omega)) (by rfl) D__law_take.g D__law_take.F.kp D__law_take.b .nil pass0 (pa_cons (pv 0) (pa_cons (pe_int) pa_nil)))) pa_nil))))) (pe_call G__law_take (hr.mono (by omega)) (by rfl) D__law_take.g D__law_take.F.kp D__law_take.b .nil pass0 (pa_cons (pv 0) (pa_cons (pe_int) pa_nil))) (fun _ _ => rfl)) pa_nil))))
      (pss_cons (ps_par (i := 2) (j := 3) (by rfl) nd rfl rfl (by decide) rfl rfl (pa_cons (pe_callTy call_list_of (by rfl) T.b_list (by decide +kernel) (pa_cons (pv 1) pa_nil)) (pa_cons (pe_lst (pa_cons (pv 1) (pa_cons (pe_callTy call_tuple_of (by rfl) T.b_tuple (by decide +kernel) (pa_cons (pv 1) pa_nil)) (pa_cons (pe_non) (pa_cons (pe_int) (pa_cons (pe_str) (pa_cons (pe_tup pa_nil) (pa_cons (pe_lst pa_nil) (pa_cons (pe_lst (pa_cons (pe_lst pa_nil) pa_nil)) (pa_cons (pe_lst (pa_cons (pe_int) pa_nil)) (pa_cons (pe_lst (pa_cons (pe_int) pa_nil)) (pa_cons (pe_lst (pa_cons (pe_bl) pa_nil)) (pa_cons (pe_lst (pa_cons (pe_bl) pa_nil)) (pa_cons (pe_lst (pa_cons (pe_int) (pa_cons (pe_int) pa_nil))) (pa_cons (pe_lst (pa_cons (pv 1) pa_nil)) pa_nil))))))))))))))) pa_nil)) (by rfl))
      (pss_cons (ps_for PassesOwn.never rfl (pi_range1 (by rfl) T.b_range (pa_cons (pe_int) pa_nil)) (pg_name (i := 4) nd rfl (Or.inl rfl))
      (pss_cons (ps_set (i := 5) nd rfl (Or.inl rfl) (pe_call G__law_bent (hr.mono (by omega)) (by rfl) D__law_bent.g D__law_bent.F.kp D__law_bent.b .nil pass0 (pa_cons (pv 0) (pa_cons (pv 1) pa_nil))))
      (pss_one (ps_expr (pe_bm PySem.F.plainAttrs_list PySem.F.slot_list_append PySem.F.type_list_append mt_append (pv 3) (pa_cons (pe_ifExp (PW.pt (pw_and (pt_cmpR op_eq (pe_call G__law_take (hr.mono (by omega)) (by rfl) D__law_take.g D__law_take.F.kp D__law_take.b .nil pass0 (pa_cons (pv 0) (pa_cons (pe_int) pa_nil))) (pe_int) (nomark _)) (pw_and1 (pt_val (pe_callB (r := rIsi K) call_isi (by rfl) T.b_isinstance (by decide +kernel) (pa_cons (pv 5) (pa_cons (pe_bltn (v := .ty "list") (by rfl) T.b_list (by decide +kernel) rfl) pa_nil))))))) (pe_call G__law_bent (hr.mono (by omega)) (by rfl) D__law_bent.g D__law_bent.F.kp D__law_bent.b .nil pass0 (pa_cons (pv 0) (pa_cons (pv 5) pa_nil))) (pv 5)) pa_nil))))))
      htl))), ?_⟩
    walk_at "ev"
    intro r1 H1 r10 r11 k1 hb1
    walk_at "ev"
    intro r2 H2 r20 r21 k2 hb2
    walk_at "ev"
    w_cond _3
    have hb3 := hb2.same sm3
    have n3b := hb2.ne hl3
    walk_at "ev"
    intro r4 H4 r40 r41 k4 hb4
    have hL4 := SqL.of (K := K) (k4 _ _ n3b hq3)
    obtain ⟨N, hN, hat⟩ : ∃ N : Nat, (1 ≤ N ∧ N ≤ 60) ∧ atI [V.int 1, V.int 2, V.int (1 + r1), V.int (1 + r2)] r4 = some (.int (N : Int)) := by
      have : r4 = 0 ∨ r4 = 1 ∨ r4 = 2 ∨ r4 = 3 := by omega
      rcases this with z | z | z | z <;> subst z
      · exact ⟨1, by decide, rfl⟩
      · exact ⟨2, by decide, rfl⟩
      · obtain ⟨m, hm⟩ := Int.eq_ofNat_of_zero_le (show 0 ≤ 1 + r1 by omega)
        exact ⟨m, by omega, by rw [← hm]; rfl⟩
      · obtain ⟨m, hm⟩ := Int.eq_ofNat_of_zero_le (show 0 ≤ 1 + r2 by omega)
        exact ⟨m, by omega, by rw [← hm]; rfl⟩
    obtain ⟨N1, N60⟩ := hN
    walk_at "ev"
    intro lr t H5 htp htl0 hlr0 k5 hb5 hlr
    have k05 : Keep b H H5 := k1.trans (k2.trans ((keepS sm3).trans (k4.trans k5)))
    have nrb : lr ≠ b := hb4.ne hlr0
    have hLr := SqL.of (K := K) hlr
    walk_at "ev"
    w_cond _6
    walk_at "ev"
    refine .inl ⟨sm6.seq hLr, ?_⟩
    w_cond _7
    walk_at "ev"
    w_cond _8
    walk_at "ev"
    w_cond _9
    walk_at "ev"
    w_cond _10
    walk_at "ev"
    w_cond _11
    walk_at "ev"
    w_cond _12
    walk_at "ev"
    w_cond _13
    walk_at "ev"
    w_cond _14
    walk_at "ev"
    w_cond _15
    walk_at "ev"
    w_cond _16
    walk_at "ev"
    w_cond _17
    walk_at "ev"
    w_cond _18
    have nb : ∀ (Hi : Hp) (l : Addr), Same H5 Hi → Hi l = none → l ≠ b := fun Hi l sm hl => (hb5.same sm).ne hl
    have s518 : Same H5 H18 := (sm6.trans (sm7.trans (sm8.trans (sm9.trans (sm10.trans (sm11.trans (sm12.trans (sm13.trans (sm14.trans (sm15.trans (sm16.trans (sm17.trans sm18))))))))))))
    have s517 : Same H5 H17 := (sm6.trans (sm7.trans (sm8.trans (sm9.trans (sm10.trans (sm11.trans (sm12.trans (sm13.trans (sm14.trans (sm15.trans (sm16.trans sm17)))))))))))
    have hlT0 : H5 l18 = none := s517.free hl18
    have nTb : l18 ≠ b := nb H17 _ s517 hl18
    have nrT : lr ≠ l18 := ne_of_none (s517 _ _ hlr) hl18
    have nsT : l6 ≠ l18 := ne_of_none ((sm7.trans (sm8.trans (sm9.trans (sm10.trans (sm11.trans (sm12.trans (sm13.trans (sm14.trans (sm15.trans (sm16.trans sm17)))))))))) _ _ hq6) hl18
    have nsb : l6 ≠ b := nb H5 _ (Same.refl _) hl6
    have g7 := d2_of (nb H6 _ sm6 hl7) (ne_of_none ((sm8.trans (sm9.trans (sm10.trans (sm11.trans (sm12.trans (sm13.trans (sm14.trans (sm15.trans (sm16.trans sm17))))))))) _ _ hq7) hl18) ((sm8.trans (sm9.trans (sm10.trans (sm11.trans (sm12.trans (sm13.trans (sm14.trans (sm15.trans (sm16.trans (sm17.trans sm18)))))))))) _ _ hq7)
    have g8 := d2_of (nb H7 _ (sm6.trans sm7) hl8) (ne_of_none ((sm9.trans (sm10.trans (sm11.trans (sm12.trans (sm13.trans (sm14.trans (sm15.trans (sm16.trans sm17)))))))) _ _ hq8) hl18) ((sm9.trans (sm10.trans (sm11.trans (sm12.trans (sm13.trans (sm14.trans (sm15.trans (sm16.trans (sm17.trans sm18))))))))) _ _ hq8)
    have g9 := d2_of (nb H8 _ (sm6.trans (sm7.trans sm8)) hl9) (ne_of_none ((sm10.trans (sm11.trans (sm12.trans (sm13.trans (sm14.trans (sm15.trans (sm16.trans sm17))))))) _ _ hq9) hl18) ((sm10.trans (sm11.trans (sm12.trans (sm13.trans (sm14.trans (sm15.trans (sm16.trans (sm17.trans sm18)))))))) _ _ hq9)
    have g10 := d2_of (nb H9 _ (sm6.trans (sm7.trans (sm8.trans sm9))) hl10) (ne_of_none ((sm11.trans (sm12.trans (sm13.trans (sm14.trans (sm15.trans (sm16.trans sm17)))))) _ _ hq10) hl18) ((sm11.trans (sm12.trans (sm13.trans (sm14.trans (sm15.trans (sm16.trans (sm17.trans sm18))))))) _ _ hq10)
    have g11 := d2_of (nb H10 _ (sm6.trans (sm7.trans (sm8.trans (sm9.trans sm10)))) hl11) (ne_of_none ((sm12.trans (sm13.trans (sm14.trans (sm15.trans (sm16.trans sm17))))) _ _ hq11) hl18) ((sm12.trans (sm13.trans (sm14.trans (sm15.trans (sm16.trans (sm17.trans sm18)))))) _ _ hq11)
    have g12 := d2_of (nb H11 _ (sm6.trans (sm7.trans (sm8.trans (sm9.trans (sm10.trans sm11))))) hl12) (ne_of_none ((sm13.trans (sm14.trans (sm15.trans (sm16.trans sm17)))) _ _ hq12) hl18) ((sm13.trans (sm14.trans (sm15.trans (sm16.trans (sm17.trans sm18))))) _ _ hq12)
    have g13 := d2_of (nb H12 _ (sm6.trans (sm7.trans (sm8.trans (sm9.trans (sm10.trans (sm11.trans sm12)))))) hl13) (ne_of_none ((sm14.trans (sm15.trans (sm16.trans sm17))) _ _ hq13) hl18) ((sm14.trans (sm15.trans (sm16.trans (sm17.trans sm18)))) _ _ hq13)
    have g14 := d2_of (nb H13 _ (sm6.trans (sm7.trans (sm8.trans (sm9.trans (sm10.trans (sm11.trans (sm12.trans sm13))))))) hl14) (ne_of_none ((sm15.trans (sm16.trans sm17)) _ _ hq14) hl18) ((sm15.trans (sm16.trans (sm17.trans sm18))) _ _ hq14)
    have g15 := d2_of (nb H14 _ (sm6.trans (sm7.trans (sm8.trans (sm9.trans (sm10.trans (sm11.trans (sm12.trans (sm13.trans sm14)))))))) hl15) (ne_of_none ((sm16.trans sm17) _ _ hq15) hl18) ((sm16.trans (sm17.trans sm18)) _ _ hq15)
    have g16 := d2_of (nb H15 _ (sm6.trans (sm7.trans (sm8.trans (sm9.trans (sm10.trans (sm11.trans (sm12.trans (sm13.trans (sm14.trans sm15))))))))) hl16) (ne_of_none (sm17 _ _ hq16) hl18) ((sm17.trans sm18) _ _ hq16)
    have g17 := d2_of (nb H16 _ (sm6.trans (sm7.trans (sm8.trans (sm9.trans (sm10.trans (sm11.trans (sm12.trans (sm13.trans (sm14.trans (sm15.trans sm16)))))))))) hl17) (ne_of_none ((Same.refl _) _ _ hq17) hl18) (sm18 _ _ hq17)
    have gr := d2_of nrb nrT (s518 _ _ hlr)
    obtain ⟨hrow1, hrow2⟩ := th_row htp (by omega)
    have hxs : ∀ v ∈ [V.ref lr, V.ref l7, V.non, V.int 0, V.str "", V.ref l8, V.ref l9, V.ref l11, V.ref l12, V.ref l13, V.ref l14, V.ref l15, V.ref l16, V.ref l17], ∃ d, Dp K (d2 H18 b l18) v d ∧ Th d := by
      have hint : ∀ i : Int, -1000000 ≤ i ∧ i ≤ 1000000 → Sm 2000 2 (.int i) := fun i h => (sm_int h).up (by omega) (by omega)
      have e7 : t.map vN = (t.map Int.ofNat).map V.int := vNi t
      intro v hv
      simp only [List.mem_cons, List.not_mem_nil, or_false] at hv
      rcases hv with z | z | z | z | z | z | z | z | z | z | z | z | z | z <;> subst z
      · exact ⟨_, dpN gr, hrow1.up (by omega) (by omega), fun ds e => by rw [← PyData.list.inj e, List.length_map, List.length_map]; omega⟩
      · rw [e7] at g7
        exact ⟨_, .tup (SqT.of g7) (dp_ints _), hrow2.up (by omega) (by omega), fun ds e => by cases e⟩
      · exact ⟨_, .non, sm_non.up (by omega) (by omega), fun ds e => by cases e⟩
      · exact ⟨_, .int 0, th_int 0 (by omega)⟩
      · exact ⟨_, .str _, sm_e.up (by omega) (by omega), fun ds e => by cases e⟩
      · exact ⟨_, .tup (SqT.of g8) .nil, (Sm.tup (n := 0) (B := 0) (k := 0) (by simp) (fun d hd => by cases hd)).up (by omega) (by omega), fun ds e => by cases e⟩
      · exact ⟨_, .lst (SqL.of g9) .nil, th_lst (by simp) (fun d hd => by cases hd)⟩
      · exact ⟨_, .lst (SqL.of g11) (.cons (.lst (SqL.of g10) .nil) .nil), th_lst (by simp) (fun d hd => by rw [List.mem_singleton.mp hd]; exact (Sm.lst (n := 0) (B := 0) (k := 0) (by simp) (fun d hd => by cases hd)).up (by omega) (by omega))⟩
      · exact ⟨_, .lst (SqL.of g12) (.cons (.int 0) .nil), th_lst (by simp) (fun d hd => by rw [List.mem_singleton.mp hd]; exact hint 0 (by omega))⟩
      · exact ⟨_, .lst (SqL.of g13) (.cons (.int 1) .nil), th_lst (by simp) (fun d hd => by rw [List.mem_singleton.mp hd]; exact hint 1 (by omega))⟩
      · exact ⟨_, .lst (SqL.of g14) (.cons (.bl true) .nil), th_lst (by simp) (fun d hd => by rw [List.mem_singleton.mp hd]; exact (sm_bl _).up (by omega) (by omega))⟩
      · exact ⟨_, .lst (SqL.of g15) (.cons (.bl false) .nil), th_lst (by simp) (fun d hd => by rw [List.mem_singleton.mp hd]; exact (sm_bl _).up (by omega) (by omega))⟩
      · refine ⟨_, .lst (SqL.of g16) (.cons (.int 0) (.cons (.int 2) .nil)), th_lst (by simp) (fun d hd => ?_)⟩
        simp only [List.mem_cons, List.not_mem_nil, or_false] at hd
        rcases hd with z | z <;> rw [z]
        · exact hint 0 (by omega)
        · exact hint 2 (by omega)
      · exact ⟨_, .lst (SqL.of g17) (.cons (dpN gr) .nil), th_lst (by simp) (fun d hd => by rw [List.mem_singleton.mp hd]; exact hrow1.up (by omega) (by omega))⟩
    generalize hX : [V.ref lr, V.ref l7, V.non, V.int 0, V.str "", V.ref l8, V.ref l9, V.ref l11, V.ref l12, V.ref l13, V.ref l14, V.ref l15, V.ref l16, V.ref l17] = XS at hxs hq18
    have hXl : XS.length = 14 := by rw [← hX]; rfl
    clear hX
    have hT0 : H l18 = none := by
      cases u : H l18 with
      | none => rfl
      | some o => rw [k05 _ o nTb u] at hlT0; cases hlT0
    have hes : (t.map fun x => ((vN x, PyData.int (x : Int)) : V × PyData)).map (·.1) = t.map vN := by
      rw [List.map_map]
      rfl
    walk_at "ev"
    refine for_range (lo := 0) (n := _) (fun i σ H' => Hold (∃ (xs : List V) (y4 y5 : Option V), σ = [some (.ref b), some (.ref lr), some (.ref l6), some (.ref l18), y4, y5, none, none, none, none, none, none, none] ∧ Keep b H H' ∧ BoxAt H' b (n + 143 + 17 * (i : Int)) ∧ H' lr = some (.lst (t.map vN)) ∧ H' l6 = some (.lst (t.map vN)) ∧ H' l18 = some (.lst xs) ∧ xs.length = 14 + i ∧ ∀ v ∈ xs, ∃ d, Dp K (d2 H' b l18) v d ∧ Th d)) (.mk ⟨XS, none, none, rfl, k05.trans (keepS s518), (hb5.same s518).mono (by omega), s518 _ _ hlr, (sm7.trans (sm8.trans (sm9.trans (sm10.trans (sm11.trans (sm12.trans (sm13.trans (sm14.trans (sm15.trans (sm16.trans (sm17.trans sm18))))))))))) _ _ hq6, hq18, by omega, hxs⟩) ?_ ?_
    · intro i σ H20 hi hP
      obtain ⟨xs, y4, y5, rfl, k20, hb20, hr20, hs20, hT20, hxl, hx20⟩ := hP.un
      have hi12 : i < 12 := by
        have : i < (12 : Int).toNat := hi
        omega
      have hTn : H20 l18 ≠ none := by rw [hT20]; simp
      have hr20' : H20 lr = some (.lst ((t.map fun x => ((vN x, PyData.int (x : Int)) : V × PyData)).map (·.1))) := by rw [hes]; exact hr20
      have hesE : ∀ e ∈ (t.map fun x => ((vN x, PyData.int (x : Int)) : V × PyData)), Dp K (d2 H20 b l18) e.1 e.2 ∧ Od 100 e.2 := by
        intro e he
        obtain ⟨x, hx, rfl⟩ := List.mem_map.mp he
        have := htp.2 x hx
        exact ⟨.int _, od_int (by omega) (by omega)⟩
      have hne : (t.map fun x => ((vN x, PyData.int (x : Int)) : V × PyData)) ≠ [] := by
        intro z
        have := congrArg List.length z
        rw [List.length_map, List.length_nil] at this
        omega
      have hll : (((t.map fun x => ((vN x, PyData.int (x : Int)) : V × PyData)).length : Nat) : Int) ≤ 100 := by rw [List.length_map]; omega
      walk_at "ev"
      intro p es' H21 k21 hb21 hp hne' hl' hE hpc
      rw [List.length_map] at hl'
      have hT21 := k21 _ _ nTb hT20
      have tyT : tyV K "list" (.ref l18) H21 := .inl ⟨rfl, _, SqL.of hT21⟩
      have npb : p ≠ b := hb20.ne hp
      have npT : p ≠ l18 := (ne_of_none hT20 hp).symm
      have app : ∀ (v : V) (H22 : Hp) (d : PyData), Keep b H21 H22 → BoxAt H22 b (n + 143 + 17 * (i : Int) + 17) → Dp K (d2 H22 b l18) v d → Th d → ∀ y4 y5 : Option V, Hold (∃ (xs' : List V) (z4 z5 : Option V), [some (.ref b), some (.ref lr), some (.ref l6), some (.ref l18), y4, y5, none, none, none, none, none, none, none] = [some (.ref b), some (.ref lr), some (.ref l6), some (.ref l18), z4, z5, none, none, none, none, none, none, none] ∧ Keep b H (upd H22 l18 (.lst (xs ++ [v]))) ∧ BoxAt (upd H22 l18 (.lst (xs ++ [v]))) b (n + 143 + 17 * ((i + 1 : Nat) : Int)) ∧ (upd H22 l18 (.lst (xs ++ [v]))) lr = some (.lst (t.map vN)) ∧ (upd H22 l18 (.lst (xs ++ [v]))) l6 = some (.lst (t.map vN)) ∧ (upd H22 l18 (.lst (xs ++ [v]))) l18 = some (.lst xs') ∧ xs'.length = 14 + (i + 1) ∧ ∀ u ∈ xs', ∃ d, Dp K (d2 (upd H22 l18 (.lst (xs ++ [v]))) b l18) u d ∧ Th d) := by
        intro v H22 d k22 hb22 hd hth y4 y5
        refine .mk ⟨xs ++ [v], _, _, rfl, keep_fresh (k20.trans (k21.trans k22)) hT0, (hb22.upd nTb).mono (by omega), by rw [upd_ne nrT]; exact k22 _ _ nrb (k21 _ _ nrb hr20), by rw [upd_ne nsT]; exact k22 _ _ nsb (k21 _ _ nsb hs20), upd_same, by rw [List.length_append, hxl]; rfl, fun u hu => ?_⟩
        rcases List.mem_append.mp hu with z | z
        · obtain ⟨d', h1, h2⟩ := hx20 u z
          exact ⟨d', dp_same ((d2_k (k21.trans k22)).trans d2_t) h1, h2⟩
        · rw [List.mem_singleton.mp z]
          exact ⟨d, dp_same d2_t hd, hth⟩
      have thing : ∀ H22, Keep b H21 H22 → ∃ d, Dp K (d2 H22 b l18) (.ref p) d ∧ Th d := by
        intro H22 k22
        obtain ⟨ta, tb⟩ := th_es (M := 101) (es := es') (by omega) fun e he => (hE e he).2
        have hda := dp_es (K := K) (H := d2 H22 b l18) fun e he => dp_same (d2_k k22) (hE e he).1
        rcases hpc with z | z
        · exact ⟨_, .lst (SqL.of (d2_of npb npT (k22 _ _ npb z))) hda, ta⟩
        · exact ⟨_, .tup (SqT.of (d2_of npb npT (k22 _ _ npb z))) hda, tb⟩
      walk_at "ev"
      intro r H22 r0 r1 k22 hb22
      have hT22 := k22 _ _ nTb hT21
      have zT : xs.length < sizeLine := szm (by omega)
      walk_at "ev"
      obtain ⟨d0, hd0, hth0⟩ := thing H22 k22
      have plain := app (.ref p) H22 d0 k22 (hb22.mono (by omega)) hd0 hth0
      refine ite2 (fun c => ?_) (fun c => ?_)
      · rcases hpc with hpl | hpt
        · have hp22 := k22 _ _ npb hpl
          have kd : Kd K H22 (.ref p) "list" := .lst (SqL.of hp22)
          have ty := kd.ty
          obtain ⟨j1, j2, j3, j4, j5⟩ := kd.kit
          have hTn2 : H22 l18 ≠ none := by rw [hT22]; simp
          have hel : ((es'.length : Nat) : Int) ≤ 101 := by omega
          have hE2 : ∀ e ∈ es', Dp K (d2 H22 b l18) e.1 e.2 ∧ Od 101 e.2 := fun e he => ⟨dp_same (d2_k k22) (hE e he).1, (hE e he).2⟩
          walk_at "ev"
          intro p2 es2 H23 k23 hb23 hp2 hne2 hl2 hF hpc2
          have hT23 := k23 _ _ nTb hT22
          have np2b : p2 ≠ b := hb22.ne hp2
          have np2T : p2 ≠ l18 := (ne_of_none hT22 hp2).symm
          obtain ⟨ta, tb⟩ := th_es (M := 102) (es := es2) (by omega) fun e he => (hF e he).2
          have hda := dp_es (K := K) (H := d2 H23 b l18) fun e he => (hF e he).1
          obtain ⟨d2', hd2', hth2'⟩ : ∃ d, Dp K (d2 H23 b l18) (.ref p2) d ∧ Th d := by
            rcases hpc2 with z | z
            · exact ⟨_, .lst (SqL.of (d2_of np2b np2T z)) hda, ta⟩
            · exact ⟨_, .tup (SqT.of (d2_of np2b np2T z)) hda, tb⟩
          walk_at "ev"
          exact app (.ref p2) H23 d2' (k22.trans k23) (hb23.mono (by omega)) hd2' hth2' _ _
        · have kd : Kd K H22 (.ref p) "tuple" := .tup (SqT.of (k22 _ _ npb hpt))
          have ty := kd.ty
          obtain ⟨j1, j2, j3, j4, j5⟩ := kd.kit
          walk_at "ev"
          exact plain _ _
      · walk_at "ev"
        exact plain _ _
    · intro σ H20 hP
      obtain ⟨xs, y4, y5, rfl, k20, hb20, hr20, hs20, hT20, hxl, hx20⟩ := hP.un
      walk_at "ev"
      refine fin t lr l6 l18 xs H20 _ _ _ htp (by omega) (by omega) hr20 hs20 hT20 (fun v hv => ?_) (fun H' sm' => ?_)
      · obtain ⟨d, h1, h2⟩ := hx20 v hv
        exact ⟨d, dp_same d2_le h1, h2⟩
      · exact q _ (k20.trans (keepS sm')) ((hb20.same sm').mono (by show n + 143 + 17 * ((12 : Nat) : Int) ≤ _; omega))
end
abbrev s_law : Stmt := top 18
abbrev N_law : List Str := ["_law_script", "_law_cells", "_law_k", "_law_box_here", "_law_turn"]
abbrev P_law : List Str := ["_law_script"]
theorem sc_law : FnScope N_law P_law (defScope s_law) := ⟨rfl, rfl, rfl, by decide +kernel, rfl, by decide +kernel, by decide +kernel⟩
def spLaw (K : PySem.W.Frag) : Sp := fun vs H Q _ => ∃ (a : Addr) (ns : List Int), vs = [.ref a] ∧ SqL K H a (ns.map V.int) ∧ ns.length ≤ 63 ∧ ∀ H', Q (.bl true) H'
structure Fns (P : Program) (w : World) (K : PySem.W.Frag) (mg : Str → Option Value) (base : Heap) : Prop where
  x0 : ∃ f fd, Df K mg "is_whole" s_is_whole P_is_whole f fd
  x1 : ∃ f fd, Df K mg "is_order" s_is_order P_is_order f fd
  x2 : ∃ f fd, Df K mg "inverse_order" s_inverse_order P_inverse_order f fd
  x3 : ∃ f fd, Df K mg "round_from" s_round_from P_round_from f fd
  x4 : ∃ f fd, Df K mg "order_cycles" s_order_cycles P_order_cycles f fd
  x5 : ∃ f fd, Df K mg "_law_box" s__law_box P__law_box f fd
  x6 : ∃ f fd, Df K mg "_law_take" s__law_take P__law_take f fd
  x7 : ∃ f fd, Df K mg "_law_pick" s__law_pick P__law_pick f fd
  x8 : ∃ f fd, Df K mg "_law_folded" s__law_folded P__law_folded f fd
  x9 : ∃ f fd, Df K mg "_law_same" s__law_same P__law_same f fd
  x10 : ∃ f fd, Df K mg "_law_shuffled" s__law_shuffled P__law_shuffled f fd
  x11 : ∃ f fd, Df K mg "_law_is_it" s__law_is_it P__law_is_it f fd
  x12 : ∃ f fd, Df K mg "_law_bent" s__law_bent P__law_bent f fd
  x13 : ∃ f fd, Df K mg "_law_rounds" s__law_rounds P__law_rounds f fd
  x14 : ∃ f fd, Df K mg "_law_right" s__law_right P__law_right f fd
section
variable {P : Program} {w : World} {K : PySem.W.Frag} {mg : Str → Option Value} {base : Heap}
theorem ok_law {f : Addr} {fd : FuncData} (F : Fun K "law" "law" s_law f fd) (T : Blt mg) (U : Fns P w K mg base) : FnG P w K mg base CX0 7 f fd P_law (spLaw K) := by
  obtain ⟨⟨f0, d0, D_is_whole⟩, ⟨f1, d1, D_is_order⟩, ⟨f2, d2, D_inverse_order⟩, ⟨f3, d3, D_round_from⟩, ⟨f4, d4, D_order_cycles⟩, ⟨f5, d5, D__law_box⟩, ⟨f6, d6, D__law_take⟩, ⟨f7, d7, D__law_pick⟩, ⟨f8, d8, D__law_folded⟩, ⟨f9, d9, D__law_same⟩, ⟨f10, d10, D__law_shuffled⟩, ⟨f11, d11, D__law_is_it⟩, ⟨f12, d12, D__law_bent⟩, ⟨f13, d13, D__law_rounds⟩, ⟨f14, d14, D__law_right⟩⟩ := U
  have G__law_box : FnOk P w K mg base CX0 1 f5 d5 P__law_box (spBox K) := ok_box D__law_box.F T
  have G__law_folded : FnOk P w K mg base CX0 1 f8 d8 P__law_folded (spFold K) := ok_fold D__law_folded.F T
  have G__law_right : FnG P w K mg base CX0 6 f14 d14 P__law_right spRt2 := ok_rt D__law_right.F T D__law_same D_inverse_order D_order_cycles D_round_from D__law_rounds D_is_order D_is_whole D__law_is_it D__law_take D__law_shuffled D__law_bent D__law_pick
  have nd := sc_law.nd
  refine okG F sc_law (fun vs H Q E h => ?_) (fun cdv A outer s H vs Q E hgd hr h => ?_)
  · obtain ⟨a, ns, rfl, _⟩ := h
    rfl
  · obtain ⟨a, ns, rfl, hS, hlen, q⟩ := h
    refine ⟨_, (pss_cons (ps_set (i := 1) nd rfl (Or.inl rfl) (pe_call G__law_folded (hr.mono (by omega)) (by rfl) D__law_folded.g D__law_folded.F.kp D__law_folded.b .nil pass0 (pa_cons (pv 0) (pa_cons (pe_int) pa_nil))))
      (pss_cons (ps_for PassesOwn.never rfl (pi_range1 (by rfl) T.b_range (pa_cons (pe_callB (r := rLenQ K) call_len_seq (by rfl) T.b_len (by decide +kernel) (pa_cons (pv 1) pa_nil)) pa_nil)) (pg_name (i := 2) nd rfl (Or.inl rfl))
      (pss_cons (ps_set (i := 3) nd rfl (Or.inr rfl) (pe_call G__law_box (hr.mono (by omega)) (by rfl) D__law_box.g D__law_box.F.kp D__law_box.b .nil pass0 (pa_cons (pv 1) (pa_cons (pv 2) pa_nil))))
      (pss_one (ps_if (pt_not (pt_val (pe_callB (r := rAll K) (cr_all rfl) (by rfl) T.b_all (by decide +kernel) (pa_cons (pe_lc (own := [("_law_turn", 4)]) (g := gName 4) (by rfl) nd (pi_range1 (by rfl) T.b_range (pa_cons (pe_int) pa_nil)) (blkOk_by (own := [("_law_turn", 4)]) (N := N_law) (sc := defScope s_law) (by decide +kernel)) (fun _ _ _ _ _ => (pg_name (i := 4) nd rfl (Or.inl rfl))) (fun _ _ _ _ _ => pts_nil) (fun _ _ _ _ _ => (pe_callG G__law_right hgd (hr.mono (by omega)) (by rfl) D__law_right.g D__law_right.F.kp D__law_right.b .nil pass0 (pa_cons (pv 3) pa_nil)))) pa_nil)))) (pss_one (ps_ret (pe_bl))) pss_nil))))
      (pss_one (ps_ret (pe_bl))))), ?_⟩
    walk_at "ev"
    intro ce cs H1 hc1 hc4 hce0 sm1 hce
    have hLc : SqL K H1 ce (cs.map V.int) := SqL.of hce
    walk_at "ev"
    refine for_range (lo := 0) (n := _) (fun i σ H' => Hold (∃ s2 s3, σ = [some (.ref a), some (.ref ce), s2, s3, none] ∧ Same H1 H')) (.mk ⟨none, none, rfl, Same.refl _⟩) ?_ ?_
    · intro i σ H2 hi hP
      obtain ⟨s2, s3, rfl, sm2⟩ := hP.un
      have hi4 : i < 5 := by
        have : ((cs.map V.int).length : Int).toNat = cs.length := by rw [List.length_map]; rfl
        omega
      have hLc2 := sm2.seq hLc
      walk_at "ev"
      intro b H3 hb0 sm3 hbx
      have hbf : H1 b = none := sm2.free hb0
      walk_at "ev"
      intro D hD
      have nDb := hbx.ne hD
      refine lc_range (lo := 0) (n := _) (fun j H' => Hold (Keep b H3 H' ∧ BoxAt H' b (400 * (j : Int)) ∧ H' D = some (.lst ((List.replicate j true).map V.bl)))) (.mk ⟨keepS (same_new hD), (hbx.upd nDb).mono (by omega), upd_same⟩) ?_ ?_
      · intro j H4 hj hP4
        obtain ⟨k4, b4, hD4⟩ := hP4.un
        have hj5 : j < 100 := by
          have : j < 3 := hj
          omega
        walk_at "ev"
        intro H5 k5 b5
        have hD5 := k5 _ _ nDb hD4
        refine ⟨_, hD5, szm (by rw [List.length_map, List.length_replicate]; omega), .mk ⟨keep_fresh (k4.trans k5) hD, (b5.upd nDb).mono (by omega), ?_⟩⟩
        rw [upd_same, List.replicate_succ', List.map_append]
        rfl
      · intro H4 hP4
        obtain ⟨k4, b4, hD4⟩ := hP4.un
        refine ⟨D, _, rfl, SqL.of hD4, ?_⟩
        rw [all_true]
        walk_at "ev"
        exact .mk ⟨_, _, rfl, keep_same (sm2.trans sm3) hbf k4⟩
    · intro σ H2 hP
      obtain ⟨s2, s3, rfl, sm2⟩ := hP.un
      walk_at "ev"
      exact q _
end
theorem all_mk {l : PySem.W.OpenLaw} {w : World} {K : PySem.W.Frag} {h : Heap} {mg : Str → Option Value} {fa : Addr} (X : K.In h) (G : h.Ns mainGlobals mg) (hfa : mg "law" = some (.ref fa))
    {od0 an0 : Option Addr} {sl0 : Array (Option Value)} {oc0 kV0 dc0 pm0 cd0 ct0 : Value} {f0 : Addr}
    {od1 an1 : Option Addr} {sl1 : Array (Option Value)} {oc1 kV1 dc1 pm1 cd1 ct1 : Value} {f1 : Addr}
    {od2 an2 : Option Addr} {sl2 : Array (Option Value)} {oc2 kV2 dc2 pm2 cd2 ct2 : Value} {f2 : Addr}
    {od3 an3 : Option Addr} {sl3 : Array (Option Value)} {oc3 kV3 dc3 pm3 cd3 ct3 : Value} {f3 : Addr}
    {od4 an4 : Option Addr} {sl4 : Array (Option Value)} {oc4 kV4 dc4 pm4 cd4 ct4 : Value} {f4 : Addr}
    {od5 an5 : Option Addr} {sl5 : Array (Option Value)} {oc5 kV5 dc5 pm5 cd5 ct5 : Value} {f5 : Addr}
    {od6 an6 : Option Addr} {sl6 : Array (Option Value)} {oc6 kV6 dc6 pm6 cd6 ct6 : Value} {f6 : Addr}
    {od7 an7 : Option Addr} {sl7 : Array (Option Value)} {oc7 kV7 dc7 pm7 cd7 ct7 : Value} {f7 : Addr}
    {od8 an8 : Option Addr} {sl8 : Array (Option Value)} {oc8 kV8 dc8 pm8 cd8 ct8 : Value} {f8 : Addr}
    {od9 an9 : Option Addr} {sl9 : Array (Option Value)} {oc9 kV9 dc9 pm9 cd9 ct9 : Value} {f9 : Addr}
    {od10 an10 : Option Addr} {sl10 : Array (Option Value)} {oc10 kV10 dc10 pm10 cd10 ct10 : Value} {f10 : Addr}
    {od11 an11 : Option Addr} {sl11 : Array (Option Value)} {oc11 kV11 dc11 pm11 cd11 ct11 : Value} {f11 : Addr}
    {od12 an12 : Option Addr} {sl12 : Array (Option Value)} {oc12 kV12 dc12 pm12 cd12 ct12 : Value} {f12 : Addr}
    {od13 an13 : Option Addr} {sl13 : Array (Option Value)} {oc13 kV13 dc13 pm13 cd13 ct13 : Value} {f13 : Addr}
    {od14 an14 : Option Addr} {sl14 : Array (Option Value)} {oc14 kV14 dc14 pm14 cd14 ct14 : Value} {f14 : Addr}
    {od15 an15 : Option Addr} {sl15 : Array (Option Value)} {oc15 kV15 dc15 pm15 cd15 ct15 : Value} {f15 : Addr}
    
    (a0 : PySem.W.nsIn K mainGlobals "is_whole" = some (some (.ref f0))) (l0 : K.lookup f0 = some ⟨oc0, od0, .func (PySem.W.fnOf "is_whole" "is_whole" (defArgs s_is_whole) (defBody s_is_whole) (defScope s_is_whole) .none kV0 dc0 pm0 an0 cd0 ct0), sl0⟩) (c0 : PySem.W.codeIn K cd0 "is_whole" = true) (k0 : PySem.W.keepIn K (.ref f0) = true)
    (a1 : PySem.W.nsIn K mainGlobals "is_order" = some (some (.ref f1))) (l1 : K.lookup f1 = some ⟨oc1, od1, .func (PySem.W.fnOf "is_order" "is_order" (defArgs s_is_order) (defBody s_is_order) (defScope s_is_order) .none kV1 dc1 pm1 an1 cd1 ct1), sl1⟩) (c1 : PySem.W.codeIn K cd1 "is_order" = true) (k1 : PySem.W.keepIn K (.ref f1) = true)
    (a2 : PySem.W.nsIn K mainGlobals "inverse_order" = some (some (.ref f2))) (l2 : K.lookup f2 = some ⟨oc2, od2, .func (PySem.W.fnOf "inverse_order" "inverse_order" (defArgs s_inverse_order) (defBody s_inverse_order) (defScope s_inverse_order) .none kV2 dc2 pm2 an2 cd2 ct2), sl2⟩) (c2 : PySem.W.codeIn K cd2 "inverse_order" = true) (k2 : PySem.W.keepIn K (.ref f2) = true)
    (a3 : PySem.W.nsIn K mainGlobals "round_from" = some (some (.ref f3))) (l3 : K.lookup f3 = some ⟨oc3, od3, .func (PySem.W.fnOf "round_from" "round_from" (defArgs s_round_from) (defBody s_round_from) (defScope s_round_from) .none kV3 dc3 pm3 an3 cd3 ct3), sl3⟩) (c3 : PySem.W.codeIn K cd3 "round_from" = true) (k3 : PySem.W.keepIn K (.ref f3) = true)
    (a4 : PySem.W.nsIn K mainGlobals "order_cycles" = some (some (.ref f4))) (l4 : K.lookup f4 = some ⟨oc4, od4, .func (PySem.W.fnOf "order_cycles" "order_cycles" (defArgs s_order_cycles) (defBody s_order_cycles) (defScope s_order_cycles) .none kV4 dc4 pm4 an4 cd4 ct4), sl4⟩) (c4 : PySem.W.codeIn K cd4 "order_cycles" = true) (k4 : PySem.W.keepIn K (.ref f4) = true)
    (a5 : PySem.W.nsIn K mainGlobals "_law_box" = some (some (.ref f5))) (l5 : K.lookup f5 = some ⟨oc5, od5, .func (PySem.W.fnOf "_law_box" "_law_box" (defArgs s__law_box) (defBody s__law_box) (defScope s__law_box) .none kV5 dc5 pm5 an5 cd5 ct5), sl5⟩) (c5 : PySem.W.codeIn K cd5 "_law_box" = true) (k5 : PySem.W.keepIn K (.ref f5) = true)
    (a6 : PySem.W.nsIn K mainGlobals "_law_take" = some (some (.ref f6))) (l6 : K.lookup f6 = some ⟨oc6, od6, .func (PySem.W.fnOf "_law_take" "_law_take" (defArgs s__law_take) (defBody s__law_take) (defScope s__law_take) .none kV6 dc6 pm6 an6 cd6 ct6), sl6⟩) (c6 : PySem.W.codeIn K cd6 "_law_take" = true) (k6 : PySem.W.keepIn K (.ref f6) = true)
    (a7 : PySem.W.nsIn K mainGlobals "_law_pick" = some (some (.ref f7))) (l7 : K.lookup f7 = some ⟨oc7, od7, .func (PySem.W.fnOf "_law_pick" "_law_pick" (defArgs s__law_pick) (defBody s__law_pick) (defScope s__law_pick) .none kV7 dc7 pm7 an7 cd7 ct7), sl7⟩) (c7 : PySem.W.codeIn K cd7 "_law_pick" = true) (k7 : PySem.W.keepIn K (.ref f7) = true)
    (a8 : PySem.W.nsIn K mainGlobals "_law_folded" = some (some (.ref f8))) (l8 : K.lookup f8 = some ⟨oc8, od8, .func (PySem.W.fnOf "_law_folded" "_law_folded" (defArgs s__law_folded) (defBody s__law_folded) (defScope s__law_folded) .none kV8 dc8 pm8 an8 cd8 ct8), sl8⟩) (c8 : PySem.W.codeIn K cd8 "_law_folded" = true) (k8 : PySem.W.keepIn K (.ref f8) = true)
    (a9 : PySem.W.nsIn K mainGlobals "_law_same" = some (some (.ref f9))) (l9 : K.lookup f9 = some ⟨oc9, od9, .func (PySem.W.fnOf "_law_same" "_law_same" (defArgs s__law_same) (defBody s__law_same) (defScope s__law_same) .none kV9 dc9 pm9 an9 cd9 ct9), sl9⟩) (c9 : PySem.W.codeIn K cd9 "_law_same" = true) (k9 : PySem.W.keepIn K (.ref f9) = true)
    (a10 : PySem.W.nsIn K mainGlobals "_law_shuffled" = some (some (.ref f10))) (l10 : K.lookup f10 = some ⟨oc10, od10, .func (PySem.W.fnOf "_law_shuffled" "_law_shuffled" (defArgs s__law_shuffled) (defBody s__law_shuffled) (defScope s__law_shuffled) .none kV10 dc10 pm10 an10 cd10 ct10), sl10⟩) (c10 : PySem.W.codeIn K cd10 "_law_shuffled" = true) (k10 : PySem.W.keepIn K (.ref f10) = true)
    (a11 : PySem.W.nsIn K mainGlobals "_law_is_it" = some (some (.ref f11))) (l11 : K.lookup f11 = some ⟨oc11, od11, .func (PySem.W.fnOf "_law_is_it" "_law_is_it" (defArgs s__law_is_it) (defBody s__law_is_it) (defScope s__law_is_it) .none kV11 dc11 pm11 an11 cd11 ct11), sl11⟩) (c11 : PySem.W.codeIn K cd11 "_law_is_it" = true) (k11 : PySem.W.keepIn K (.ref f11) = true)
    (a12 : PySem.W.nsIn K mainGlobals "_law_bent" = some (some (.ref f12))) (l12 : K.lookup f12 = some ⟨oc12, od12, .func (PySem.W.fnOf "_law_bent" "_law_bent" (defArgs s__law_bent) (defBody s__law_bent) (defScope s__law_bent) .none kV12 dc12 pm12 an12 cd12 ct12), sl12⟩) (c12 : PySem.W.codeIn K cd12 "_law_bent" = true) (k12 : PySem.W.keepIn K (.ref f12) = true)
    (a13 : PySem.W.nsIn K mainGlobals "_law_rounds" = some (some (.ref f13))) (l13 : K.lookup f13 = some ⟨oc13, od13, .func (PySem.W.fnOf "_law_rounds" "_law_rounds" (defArgs s__law_rounds) (defBody s__law_rounds) (defScope s__law_rounds) .none kV13 dc13 pm13 an13 cd13 ct13), sl13⟩) (c13 : PySem.W.codeIn K cd13 "_law_rounds" = true) (k13 : PySem.W.keepIn K (.ref f13) = true)
    (a14 : PySem.W.nsIn K mainGlobals "_law_right" = some (some (.ref f14))) (l14 : K.lookup f14 = some ⟨oc14, od14, .func (PySem.W.fnOf "_law_right" "_law_right" (defArgs s__law_right) (defBody s__law_right) (defScope s__law_right) .none kV14 dc14 pm14 an14 cd14 ct14), sl14⟩) (c14 : PySem.W.codeIn K cd14 "_law_right" = true) (k14 : PySem.W.keepIn K (.ref f14) = true)
    (a15 : PySem.W.nsIn K mainGlobals "law" = some (some (.ref f15))) (l15 : K.lookup f15 = some ⟨oc15, od15, .func (PySem.W.fnOf "law" "law" (defArgs s_law) (defBody s_law) (defScope s_law) .none kV15 dc15 pm15 an15 cd15 ct15), sl15⟩) (c15 : PySem.W.codeIn K cd15 "law" = true) (k15 : PySem.W.keepIn K (.ref f15) = true)
    (z0 : PySem.W.nsIn K mainGlobals "abs" = some none) (z1 : PySem.W.nsIn K mainGlobals "all" = some none) (z2 : PySem.W.nsIn K mainGlobals "bool" = some none) (z3 : PySem.W.nsIn K mainGlobals "enumerate" = some none) (z4 : PySem.W.nsIn K mainGlobals "int" = some none) (z5 : PySem.W.nsIn K mainGlobals "isinstance" = some none) (z6 : PySem.W.nsIn K mainGlobals "len" = some none) (z7 : PySem.W.nsIn K mainGlobals "list" = some none) (z8 : PySem.W.nsIn K mainGlobals "range" = some none) (z9 : PySem.W.nsIn K mainGlobals "repr" = some none) (z10 : PySem.W.nsIn K mainGlobals "set" = some none) (z11 : PySem.W.nsIn K mainGlobals "sorted" = some none) (z12 : PySem.W.nsIn K mainGlobals "str" = some none) (z13 : PySem.W.nsIn K mainGlobals "tuple" = some none) (z14 : PySem.W.nsIn K mainGlobals "zip" = some none) :
    ∃ fd : FuncData, (∀ (s : Shared) (v : Value), BindsTo s fd ⟨[v], []⟩ [("_law_script", v)]) ∧ ∀ base : Heap, K.In base → base.Ns mainGlobals mg → FnG l.prog w K mg base CX0 7 fa fd ["_law_script"] (spLaw K) := by
  have e := hfa.symm.trans (PySem.W.mg_of X G a15)
  cases e
  have T : Blt mg := ⟨PySem.W.mg_none_of X G z0, PySem.W.mg_none_of X G z1, PySem.W.mg_none_of X G z2, PySem.W.mg_none_of X G z3, PySem.W.mg_none_of X G z4, PySem.W.mg_none_of X G z5, PySem.W.mg_none_of X G z6, PySem.W.mg_none_of X G z7, PySem.W.mg_none_of X G z8, PySem.W.mg_none_of X G z9, PySem.W.mg_none_of X G z10, PySem.W.mg_none_of X G z11, PySem.W.mg_none_of X G z12, PySem.W.mg_none_of X G z13, PySem.W.mg_none_of X G z14⟩
  have F0 := fun_mk (st := s_is_whole) l0 c0 k0
  have b0 := F0.binds (ps := P_is_whole) fun _ _ _ _ _ _ us hl => match us, hl with | [_], _ => rfl
  have F1 := fun_mk (st := s_is_order) l1 c1 k1
  have b1 := F1.binds (ps := P_is_order) fun _ _ _ _ _ _ us hl => match us, hl with | [_], _ => rfl
  have F2 := fun_mk (st := s_inverse_order) l2 c2 k2
  have b2 := F2.binds (ps := P_inverse_order) fun _ _ _ _ _ _ us hl => match us, hl with | [_], _ => rfl
  have F3 := fun_mk (st := s_round_from) l3 c3 k3
  have b3 := F3.binds (ps := P_round_from) fun _ _ _ _ _ _ us hl => match us, hl with | [_, _], _ => rfl
  have F4 := fun_mk (st := s_order_cycles) l4 c4 k4
  have b4 := F4.binds (ps := P_order_cycles) fun _ _ _ _ _ _ us hl => match us, hl with | [_], _ => rfl
  have F5 := fun_mk (st := s__law_box) l5 c5 k5
  have b5 := F5.binds (ps := P__law_box) fun _ _ _ _ _ _ us hl => match us, hl with | [_, _], _ => rfl
  have F6 := fun_mk (st := s__law_take) l6 c6 k6
  have b6 := F6.binds (ps := P__law_take) fun _ _ _ _ _ _ us hl => match us, hl with | [_, _], _ => rfl
  have F7 := fun_mk (st := s__law_pick) l7 c7 k7
  have b7 := F7.binds (ps := P__law_pick) fun _ _ _ _ _ _ us hl => match us, hl with | [_, _], _ => rfl
  have F8 := fun_mk (st := s__law_folded) l8 c8 k8
  have b8 := F8.binds (ps := P__law_folded) fun _ _ _ _ _ _ us hl => match us, hl with | [_, _], _ => rfl
  have F9 := fun_mk (st := s__law_same) l9 c9 k9
  have b9 := F9.binds (ps := P__law_same) fun _ _ _ _ _ _ us hl => match us, hl with | [_, _], _ => rfl
  have F10 := fun_mk (st := s__law_shuffled) l10 c10 k10
  have b10 := F10.binds (ps := P__law_shuffled) fun _ _ _ _ _ _ us hl => match us, hl with | [_, _], _ => rfl
  have F11 := fun_mk (st := s__law_is_it) l11 c11 k11
  have b11 := F11.binds (ps := P__law_is_it) fun _ _ _ _ _ _ us hl => match us, hl with | [_], _ => rfl
  have F12 := fun_mk (st := s__law_bent) l12 c12 k12
  have b12 := F12.binds (ps := P__law_bent) fun _ _ _ _ _ _ us hl => match us, hl with | [_, _], _ => rfl
  have F13 := fun_mk (st := s__law_rounds) l13 c13 k13
  have b13 := F13.binds (ps := P__law_rounds) fun _ _ _ _ _ _ us hl => match us, hl with | [_], _ => rfl
  have F14 := fun_mk (st := s__law_right) l14 c14 k14
  have b14 := F14.binds (ps := P__law_right) fun _ _ _ _ _ _ us hl => match us, hl with | [_], _ => rfl
  have F15 := fun_mk (st := s_law) l15 c15 k15
  refine ⟨_, fun s v => .of_eq rfl, fun base _ _ => ok_law (P := l.prog) (w := w) (base := base) F15 T ⟨⟨_, _, F0, b0, PySem.W.mg_of X G a0⟩, ⟨_, _, F1, b1, PySem.W.mg_of X G a1⟩, ⟨_, _, F2, b2, PySem.W.mg_of X G a2⟩, ⟨_, _, F3, b3, PySem.W.mg_of X G a3⟩, ⟨_, _, F4, b4, PySem.W.mg_of X G a4⟩, ⟨_, _, F5, b5, PySem.W.mg_of X G a5⟩, ⟨_, _, F6, b6, PySem.W.mg_of X G a6⟩, ⟨_, _, F7, b7, PySem.W.mg_of X G a7⟩, ⟨_, _, F8, b8, PySem.W.mg_of X G a8⟩, ⟨_, _, F9, b9, PySem.W.mg_of X G a9⟩, ⟨_, _, F10, b10, PySem.W.mg_of X G a10⟩, ⟨_, _, F11, b11, PySem.W.mg_of X G a11⟩, ⟨_, _, F12, b12, PySem.W.mg_of X G a12⟩, ⟨_, _, F13, b13, PySem.W.mg_of X G a13⟩, ⟨_, _, F14, b14, PySem.W.mg_of X G a14⟩⟩⟩
end My
open PySem PySem.W PyProof.Rows
set_option maxRecDepth 100000 in
set_option maxHeartbeats 0 in
theorem PySem.Challenge.cw_turnsums_k48_what_orders_are_holds : PySem.Challenge.rw_turnsums_k48_what_orders_are.Holds := by
  w_on; o_law; k_head; (case hw => w_witness2)
  k_fill
  refine My.walk_ofG (l := PySem.Challenge.rw_turnsums_k48_what_orders_are) (n := 63) (k := 7) (x := "_law_script") (sp := fun w => My.spLaw _) rfl (by decide) rfl ⟨rfl, by decide, by decide⟩ (fun w h Y => PySem.W.kIn_of Y) ?F (fun _ _ a ns hl _ hS => ⟨a, ns, rfl, hS, hl, fun _ => rfl⟩)
  case F =>
    intro w mg fa h KX G hmg
    refine' My.all_mk KX G hmg ?a0 ?l0 ?c0 ?k0 ?a1 ?l1 ?c1 ?k1 ?a2 ?l2 ?c2 ?k2 ?a3 ?l3 ?c3 ?k3 ?a4 ?l4 ?c4 ?k4 ?a5 ?l5 ?c5 ?k5 ?a6 ?l6 ?c6 ?k6 ?a7 ?l7 ?c7 ?k7 ?a8 ?l8 ?c8 ?k8 ?a9 ?l9 ?c9 ?k9 ?a10 ?l10 ?c10 ?k10 ?a11 ?l11 ?c11 ?k11 ?a12 ?l12 ?c12 ?k12 ?a13 ?l13 ?c13 ?k13 ?a14 ?l14 ?c14 ?k14 ?a15 ?l15 ?c15 ?k15 ?z0 ?z1 ?z2 ?z3 ?z4 ?z5 ?z6 ?z7 ?z8 ?z9 ?z10 ?z11 ?z12 ?z13 ?z14
    (case a0 => k_is)
    (case l0 => k_is)
    (case c0 => k_is)
    (case k0 => k_is)
    (case a1 => k_is)
    (case l1 => k_is)
    (case c1 => k_is)
    (case k1 => k_is)
    (case a2 => k_is)
    (case l2 => k_is)
    (case c2 => k_is)
    (case k2 => k_is)
    (case a3 => k_is)
    (case l3 => k_is)
    (case c3 => k_is)
    (case k3 => k_is)
    (case a4 => k_is)
    (case l4 => k_is)
    (case c4 => k_is)
    (case k4 => k_is)
    (case a5 => k_is)
    (case l5 => k_is)
    (case c5 => k_is)
    (case k5 => k_is)
    (case a6 => k_is)
    (case l6 => k_is)
    (case c6 => k_is)
    (case k6 => k_is)
    (case a7 => k_is)
    (case l7 => k_is)
    (case c7 => k_is)
    (case k7 => k_is)
    (case a8 => k_is)
    (case l8 => k_is)
    (case c8 => k_is)
    (case k8 => k_is)
    (case a9 => k_is)
    (case l9 => k_is)
    (case c9 => k_is)
    (case k9 => k_is)
    (case a10 => k_is)
    (case l10 => k_is)
    (case c10 => k_is)
    (case k10 => k_is)
    (case a11 => k_is)
    (case l11 => k_is)
    (case c11 => k_is)
    (case k11 => k_is)
    (case a12 => k_is)
    (case l12 => k_is)
    (case c12 => k_is)
    (case k12 => k_is)
    (case a13 => k_is)
    (case l13 => k_is)
    (case c13 => k_is)
    (case k13 => k_is)
    (case a14 => k_is)
    (case l14 => k_is)
    (case c14 => k_is)
    (case k14 => k_is)
    (case a15 => k_is)
    (case l15 => k_is)
    (case c15 => k_is)
    (case k15 => k_is)
    (case z0 => k_is)
    (case z1 => k_is)
    (case z2 => k_is)
    (case z3 => k_is)
    (case z4 => k_is)
    (case z5 => k_is)
    (case z6 => k_is)
    (case z7 => k_is)
    (case z8 => k_is)
    (case z9 => k_is)
    (case z10 => k_is)
    (case z11 => k_is)
    (case z12 => k_is)
    (case z13 => k_is)
    (case z14 => k_is)

