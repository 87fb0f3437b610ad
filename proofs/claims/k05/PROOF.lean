import PyProof.Rows.All
import Wide.All
import OpenK.AllK
import Wide.FinOn
import PyProof.EqAt
import PyProof.EqKinds
import PyProof.TupleCall
import PyProof.TypeEq
import PyProof.Draws
import KE.GoesEnum
import HandS.ForMost
import HandS.ForExc
import HandS.More
import HandS.Strs
import HandS.IsInst
import HandS.Style
import HandS.Flow
import HandS.Sort
import HandS.SortOrd
import HandS.SortRule
import HandS.SortInts
import HandS.Walk
import HandS.Evl
import HandS.ExcIs
import HandS.TupAny
import HandS.FStr
import HandS.RaiseMore
import KE.KDictDisplayH
import KE.KMathGC
import PyProof.DictRoadsH
import PyProof.Rows.TupTab
import HandS.TupLen
import HandS.Conv
import HandS.Gcd
import PySem.Challenge.RW_slidefloor_k05_all_that_are_joined
set_option Elab.async false
set_option linter.all false
set_option maxRecDepth 100000
/-! rules that the layer lacks: ==, != of built-in types; t.index(n) of a tuple of ints; sorted of a tuple of ints; enumerate over a tuple -/
namespace Sf
open PySem PySem.Spec PyProof.Rows L2

theorem slot_type_ne : Slot "type" (cmpInfo .NotEq).2.1 "object.__ne__" :=
  .of (owner := "object") (n := "__ne__") (by rw [typeLookup_type, builtinLookup_eq_fast]; kernel_rfl) (by decide +kernel) (by decide +kernel) (by decide +kernel)
    (by first | exact .inl (by decide +kernel) | exact .inr (by decide +kernel)) (by rw [isSubtype_type]; kernel_rfl)
theorem slot_type_ne_refl : Slot "type" (cmpInfo .NotEq).2.2 "object.__ne__" :=
  .of (owner := "object") (n := "__ne__") (by rw [typeLookup_type, builtinLookup_eq_fast]; kernel_rfl) (by decide +kernel) (by decide +kernel) (by decide +kernel)
    (by first | exact .inl (by decide +kernel) | exact .inr (by decide +kernel)) (by rw [isSubtype_type]; kernel_rfl)
theorem slot_type_eq' : Slot "type" "__eq__" "object.__eq__" := PySem.TypeEq.slot_type_eq
section
variable {prog : Program} {w : World} {A : Around} {E : Value → Shared → Prop} {s : Shared}
/-- object.__ne__ of two types -/
theorem obj_ne_ty {X Y : String} (hX : ∀ s' : Shared, s'.TypeIs (.type X) "type") {Q : Fin → Shared → Prop}
    (h : Q (.done (.ret (if X = Y then .bool false else .notImplemented))) s) :
    wpAny (model prog w) A (Builtin.«object.__ne__» ⟨[.type X, .type Y], []⟩) Q E s := by
  unfold Builtin.«object.__ne__»
  refine wpAny_bind (m := slotArgs "__ne__" 1 _) (wpAny_pure ?_)
  refine wpAny_bind (wpAny_cRoomFor_or (.inl rfl) ?_)
  by_cases e : X = Y
  · subst e
    rw [if_pos rfl] at h
    refine wpAny_bind (m := callSpecialIfBound? (.type X) (Str.ofString "__eq__") [.type X])
      (wpAny_callSpecialIfBound?_slot (hX s) slot_type_eq' (call_gives slot_type_eq' (hX s) F.entry_object_eq (F.args_object_eq_2 _ _) (PySem.TypeEq.object_eq_same rfl (by simp)) ?_))
    show wpAny _ _ _ _ _ _
    refine wpAny_bind (m := truthy (.bool true)) (wpAny_truthy_bool ?_)
    exact wpAny_pure h
  · rw [if_neg e] at h
    have hne : (Value.type X == Value.type Y) = false := beq_eq_false_iff_ne.mpr fun z => e (Value.type.inj z)
    refine wpAny_bind (m := callSpecialIfBound? (.type X) (Str.ofString "__eq__") [.type Y])
      (wpAny_callSpecialIfBound?_slot (hX s) slot_type_eq' (call_gives slot_type_eq' (hX s) F.entry_object_eq (F.args_object_eq_2 _ _) (PySem.TypeEq.object_eq_other rfl hne) ?_))
    show wpAny _ _ _ _ _ _
    exact wpAny_pure h
end
end Sf
namespace Sf
open PySem PySem.Spec PyProof.Rows L2
theorem gives_ne_same {X : String} (hX : ∀ s' : Shared, s'.TypeIs (.type X) "type") : Gives (Builtin.«object.__ne__» ⟨[.type X, .type X], []⟩) (.val (.bool false)) := fun prog w A R s hq =>
  obj_ne_ty (X := X) (Y := X) hX (by rw [if_pos rfl]; exact hq)
theorem gives_ne_other {X Y : String} (hX : ∀ s' : Shared, s'.TypeIs (.type X) "type") (e : X ≠ Y) : Gives (Builtin.«object.__ne__» ⟨[.type X, .type Y], []⟩) (.val .notImplemented) := fun prog w A R s hq =>
  obj_ne_ty (X := X) (Y := Y) hX (by rw [if_neg e]; exact hq)
section
variable {M : Model} {A : Around} {E : Value → Shared → Prop} {s : Shared}
theorem richCompare_ne_same_decline {a b : Value} {T id : String} {k : Bool} {Q : Value → Shared → Prop} (ha : ∀ s' : Shared, s'.TypeIs a T) (hb : ∀ s' : Shared, s'.TypeIs b T)
    (h1 : Slot T (cmpInfo .NotEq).2.1 id) (h2 : Slot T (cmpInfo .NotEq).2.2 id) (hv : [a, b].any Value.onHeap = false) (hk : isSame a b = pure k)
    (hc : wpAny M A (call (.builtin id) [a, b]) (fun v s₁ => v = .notImplemented ∧ wpAny M A (call (.builtin id) [b, a]) (fun v s₂ => v = .notImplemented ∧ Q (.bool (!k)) s₂) E s₁) E s) :
    wpAny M A (richCompare .NotEq a b) Q E s := by
  rcases hi : cmpInfo CmpOp.NotEq with ⟨sym, f, r⟩
  rw [hi] at h1 h2
  simp only [richCompare, hi, (ha s).oneThing_none]
  try with_reducible refine wpAny_holding ?_
  refine wpAny_bind (wpAny_cRoomFor_or (.inl hv) ?_)
  refine wpAny_bind (wpAny_typeOf (ha s) (wpAny_bind (wpAny_typeOf (hb s) ?_)))
  simp only [bne_self_eq_false, Bool.false_eq_true, if_false, pure_bind, Bool.not_false, if_true]
  refine wpAny_bind (m := tryCompare a _ b) (wpAny_tryCompare_declines (ha s) h1 (wpAny_mono hc (fun v s₁ h₁ => ⟨h₁.1, ?_⟩) fun _ _ x => x))
  refine wpAny_bind (m := tryCompare b _ a) (wpAny_tryCompare_declines (hb s₁) h2 (wpAny_mono h₁.2 (fun v s₂ h₂ => ⟨h₂.1, ?_⟩) fun _ _ x => x))
  refine wpAny_bind (wpAny_rule (wpAny_bind (wpAny_of_eq hk (wpAny_pure h₂.2))))
end
section
variable {prog : Program} {w : World} {A : Around} {E : Value → Shared → Prop} {s : Shared} {Q : Value → Shared → Prop}
theorem ne_type_same {X : String} (hX : ∀ s' : Shared, s'.TypeIs (.type X) "type") (h : Q (.bool false) s) : wpAny (model prog w) A (compareOp .NotEq (.type X) (.type X)) Q E s := by
  show wpAny _ A (richCompare .NotEq _ _) Q E s
  exact wpAny_richCompare_same (T := "type") (hX s) (hX s) slot_type_ne
    (call_gives slot_type_ne (hX s) F.cmpEntry_ne (F.cmpArgs_ne _ _) (gives_ne_same hX) ⟨(by intro e; cases e), h⟩)
theorem ne_type_other {X Y : String} (hX : ∀ s' : Shared, s'.TypeIs (.type X) "type") (hY : ∀ s' : Shared, s'.TypeIs (.type Y) "type") (hne : X ≠ Y) (h : Q (.bool true) s) : wpAny (model prog w) A (compareOp .NotEq (.type X) (.type Y)) Q E s := by
  show wpAny _ A (richCompare .NotEq _ _) Q E s
  have hb : (Value.type X == Value.type Y) = false := beq_eq_false_iff_ne.mpr fun z => hne (Value.type.inj z)
  exact richCompare_ne_same_decline (T := "type") (k := false) hX hY slot_type_ne slot_type_ne_refl rfl (by rw [isSame_plain rfl, hb])
    (call_gives slot_type_ne (hX s) F.cmpEntry_ne (F.cmpArgs_ne _ _) (gives_ne_other hX hne)
      ⟨rfl, call_gives slot_type_ne_refl (hY s) F.cmpEntry_ne (F.cmpArgs_ne _ _) (gives_ne_other hY (Ne.symm hne)) ⟨rfl, h⟩⟩)
end
/-- the built-in types whose own type is type -/
def TyTy (X : String) : Prop := ∀ s' : Shared, s'.TypeIs (.type X) "type"
theorem ty_int : TyTy "int" := PySem.TypeEq.meta_int
theorem ty_str : TyTy "str" := PySem.TypeEq.meta_str
theorem ty_bool : TyTy "bool" := PySem.TypeEq.meta_bool
theorem ty_none : TyTy "NoneType" := PySem.TypeEq.meta_NoneType
theorem ty_list : TyTy "list" := PySem.TypeEq.meta_list
theorem ty_tuple : TyTy "tuple" := PySem.TypeEq.meta_tuple
theorem ty_dict : TyTy "dict" := PySem.TypeEq.meta_dict
theorem ty_bytes : TyTy "bytes" := PySem.TypeEq.meta_bytes
theorem TyB.tyty {K : PySem.W.Frag} {H : Hp} {x : V} {T : String} (t : TyB K H x T) : TyTy T := by
  cases t with
  | non => exact ty_none
  | bl => exact ty_bool
  | int => exact ty_int
  | str => exact ty_str
  | byt => exact ty_bytes
  | lst => exact ty_list
  | tup => exact ty_tuple
  | dK => exact ty_dict
def rEqTy : R2 := fun x y H Q => ∃ a b, x = .ty a ∧ y = .ty b ∧ TyTy a ∧ TyTy b ∧ Q (.bl (decide (a = b))) H
def rNeTy : R2 := fun x y H Q => ∃ a b, x = .ty a ∧ y = .ty b ∧ TyTy a ∧ TyTy b ∧ Q (.bl (!decide (a = b))) H
section
variable {X : Cx}
theorem op_eqTy : OpR X (compareOp .Eq) rEqTy := by
  intro pins s σ H x y v u Q I rx ry h
  obtain ⟨a, b, rfl, rfl, ha, hb, q⟩ := h
  cases (show v = Value.type a from rx)
  cases (show u = Value.type b from ry)
  by_cases e : a = b
  · subst e
    exact PySem.TypeEq.eq_type_same ha (fin_bl I q (by simp))
  · exact PySem.TypeEq.eq_type_other ha hb (beq_eq_false_iff_ne.mpr fun z => e (Value.type.inj z)) (fin_bl I q (by simp [e]))
theorem op_neTy : OpR X (compareOp .NotEq) rNeTy := by
  intro pins s σ H x y v u Q I rx ry h
  obtain ⟨a, b, rfl, rfl, ha, hb, q⟩ := h
  cases (show v = Value.type a from rx)
  cases (show u = Value.type b from ry)
  by_cases e : a = b
  · subst e
    exact ne_type_same ha (fin_bl I q (by simp))
  · exact ne_type_other ha hb e (fin_bl I q (by simp [e]))
end
end Sf
namespace Sf
open PySem PyProof.Rows Srt SrtO
section
variable {prog : Program} {w : World} {A : Around} {E : Value → Shared → Prop} {s : Shared}
theorem collect_tup {l : Addr} {vs : List Value} {Q : List Value → Shared → Prop} (hl : IsTup s.heap l vs.toArray)
    (h : Q vs { s with heap := (s.heap.push (seqObj "list" #[] 0)).update s.heap.objs.size (Obj.mapSeq (· ++ vs.toArray)) }) (hsz : vs.length ≤ sizeLine) :
    wpAny (model prog w) A (collect (.ref l)) Q E s := by
  obtain ⟨o, ho, hc, n, hd⟩ := id hl
  unfold collect
  refine wpAny_bind (wpAny_runValue (codeAny_builtin entry_proto_collect' ?_))
  show wpAny _ _ (do again (.builtin "list.__iadd__" ⟨[← newList [], .ref l], []⟩)) _ _ s
  refine wpAny_bind (wpAny_newList (wpAny_pure ⟨Code.quiet_builtin _ (by decide +kernel), codeAny_builtin entry_list_iadd' ?_⟩))
  show wpAny _ _ (Builtin.List.listExtendWith (.ref s.heap.objs.size) (.ref l) (.ref s.heap.objs.size)) _ _ { s with heap := s.heap.push (seqObj "list" #[] 0) }
  unfold Builtin.List.listExtendWith
  have ho' : (s.heap.push (seqObj "list" #[] 0)).get? l = some o := Heap.get?_push_of_some _ ho
  refine wpAny_bind (wpAny_typeOf (T := "tuple") ⟨o, ho', hc⟩ ?_)
  have ht : (Value.type "tuple" == Value.type "tuple") = true := by rfl
  rw [if_pos (by rw [ht]; simp)]
  refine wpAny_bind (listItems_at ho' hd ?_)
  refine wpAny_bind (listItems_at (xs := #[]) (n := 0) (Heap.get?_push_size _ rfl) rfl ?_)
  rw [if_neg (by simp)]
  refine wpAny_bind (listUpdate_at (xs := #[]) (n := 0) (Heap.get?_push_size _ rfl) rfl ?_ (Nat.zero_le _) (by show (#[] ++ vs.toArray).size ≤ sizeLine + 1; simp only [Array.size_append, List.size_toArray, List.length_nil]; omega))
  refine wpAny_pure ?_
  show wpAny (model prog w) A (do
      let o ← load s.heap.objs.size
      match o.data with
      | .seq xs _ => pure xs.toList
      | _ => unsupported "internal:collect") Q E { s with heap := (s.heap.push (seqObj "list" #[] 0)).update s.heap.objs.size (Obj.mapSeq (· ++ vs.toArray)) }
  refine wpAny_bind (wpAny_load (get?_update_seq (Heap.get?_push_size _ rfl) _) ?_)
  show wpAny _ _ (pure ((#[] : Array Value) ++ vs.toArray).toList) Q E _
  rw [show ((#[] : Array Value) ++ vs.toArray).toList = vs by simp]
  exact wpAny_pure h
theorem sorted_ordT {l : Addr} {vs : List Value} {ltv : Value → Value → Bool} {Q : Value → Shared → Prop} (O : Swo ltv) (hl : IsTup s.heap l vs.toArray) (hz : vs.length ≤ sizeLine)
    (hS : 2 ≤ vs.length → ∀ (h₁ : Heap) (a : Addr), h₁.get? a = some (seqObj "list" vs.toArray 0) → (∀ b o, s.heap.get? b = some o → b ≠ a ∧ h₁.get? b = some o) → SortableO prog w A.in1.in1 { s with heap := h₁ } a vs ltv)
    (h : ∀ out : List Value, Srtd ltv out → Stb ltv out vs → Q (.ref (s.heap.objs.size + 1)) { s with heap := sortedAll s.heap vs out.toArray }) :
    wpAny (model prog w) A (call (.builtin "sorted") [.ref l]) Q E s := by
  refine Calls.call_function_entry kind_sorted plain_sorted entry_sorted (args_sorted1 _) ?_
  unfold Builtin.«sorted»
  refine wpAny_bind (m := checkCount "sorted" 1 1 _) (wpAny_pure ?_)
  refine wpAny_bind (collect_tup hl ?_ hz)
  refine wpAny_bind (wpAny_newList ?_ hz)
  have hsz : ((s.heap.push (seqObj "list" #[] 0)).update s.heap.objs.size (Obj.mapSeq (· ++ vs.toArray))).objs.size = s.heap.objs.size + 1 := by
    rw [Heap.size_update, size_push']
  have hoL : (((s.heap.push (seqObj "list" #[] 0)).update s.heap.objs.size (Obj.mapSeq (· ++ vs.toArray))).push (seqObj "list" vs.toArray 0)).get? (s.heap.objs.size + 1) = some (seqObj "list" vs.toArray 0) := by
    rw [← hsz]; exact Heap.get?_push_size _ rfl
  have keep : ∀ b o, s.heap.get? b = some o → b ≠ s.heap.objs.size + 1 ∧ (((s.heap.push (seqObj "list" #[] 0)).update s.heap.objs.size (Obj.mapSeq (· ++ vs.toArray))).push (seqObj "list" vs.toArray 0)).get? b = some o := fun b o q => by
    have hlt : b < s.heap.objs.size := Heap.lt_size q
    refine ⟨Nat.ne_of_lt (Nat.lt_succ_of_lt hlt), Heap.get?_push_of_some _ ?_⟩
    rw [Heap.get?_update_ne _ _ _ _ (Nat.ne_of_lt hlt)]
    exact Heap.get?_push_of_some _ q
  show wpAny _ _ _ _ _ { s with heap := ((s.heap.push (seqObj "list" #[] 0)).update s.heap.objs.size (Obj.mapSeq (· ++ vs.toArray))).push (seqObj "list" vs.toArray 0) }
  rw [hsz]
  refine wpAny_bind (wpAny_holding (wpAny_call_entry slot_list_sort ⟨_, hoL, rfl⟩ entry_list_sort (list_sort_ord O hoL hz (fun h2 => hS h2 _ _ hoL keep) fun out hs hb => ⟨_, rfl, ?_⟩) (args_list_sort _)))
  exact wpAny_pure ⟨_, rfl, h out hs hb⟩
end
end Sf
namespace Sf
open PySem PySem.Spec PyProof.Rows L2
/-- sorted(t), t a tuple of ints -/
def rSortedTI (K : PySem.W.Frag) : List V → Hp → VK → Prop := fun vs H Q => ∃ (a : Addr) (ns : List Int), vs = [V.ref a] ∧ SqT K H a (ns.map V.int) ∧
  ∀ (ns' : List Int) (p : Addr), ns'.Perm ns → ns'.Pairwise (· ≤ ·) → H p = none → Q (.ref p) (upd H p (.lst (ns'.map V.int)))
section
variable {X : Cx}
theorem cr_sortedTI : CallR X (.builtin "sorted") (rSortedTI X.K) := by
  intro pins s σ H vs us Q I r h
  obtain ⟨a, ns, rfl, hs, q⟩ := h
  obtain ⟨its, rv, hl, hz⟩ := I.tuple hs
  rw [Vals.ref1 r]
  have hi := rv.ints
  refine sorted_ordT SrtO.swo_int hl (by rw [← rv.length]; exact hz) (fun h2 h₁ a' _ _ => SrtO.ints_sortable hi h2) fun out h1 h2 => ?_
  obtain ⟨k1, k2, k3⟩ := SrtO.ints_out hi h1 h2
  obtain ⟨ep, he'⟩ := PyProof.Rows.sortedAll_at s.heap its out.toArray
  have hlen : ((out.map SrtO.iv).map V.int).length ≤ sizeLine := by
    rw [List.length_map, k2.length_eq]
    rw [List.length_map] at hz
    exact hz
  exact ⟨.ref _, upd H (s.heap.objs.size + 1) (.lst ((out.map SrtO.iv).map V.int)), I.laid (t' := s.toks) (fun _ _ => PyProof.Rows.sortedAll_old) (Nat.le_succ _) ⟨hlen, out, ep, vals_of_ints k1, he'⟩, rfl, q _ _ k2 k3 (I.hok.fresh (Nat.le_succ _))⟩
end
/-- t.index(n), a tuple of ints, the first place -/
theorem flat_ints (ys : List Int) : (ys.map V.int).all flatV = true := by
  rw [List.all_map]
  exact List.all_eq_true.mpr fun _ _ => rfl
def rTupIx (K : PySem.W.Frag) : V → List V → Hp → VK → Prop := fun x xs H Q => ∃ (p : Addr) (ys : List Int) (z : Int) (j : Nat), x = .ref p ∧ xs = [.int z] ∧ SqT K H p (ys.map V.int) ∧ ys[j]? = some z ∧ (∀ m, m < j → ys[m]? ≠ some z) ∧ Q (.int (j : Nat)) H
section
variable {X : Cx}
theorem mt_tup_indexI : MtR X "tuple.index" (rTupIx X.K) := by
  intro pins s σ H x xs v us Q I rx rs h
  obtain ⟨p, ys, z, j, rfl, rfl, hq, hy, hno, q⟩ := h
  cases rx
  obtain ⟨u, rfl, t, rfl⟩ := vals1 rs
  obtain ⟨its, r, pl, hz⟩ := I.tuple hq
  obtain ⟨⟨cls, dd, dt, sl⟩, ho, hc, n, hd⟩ := pl
  simp only at hc hd
  subst hc
  subst hd
  have hl : its.toArray.size = ys.length := by rw [List.size_toArray, ← r.length, List.length_map]
  have hj : j < its.toArray.size := by rw [hl]; exact (List.getElem?_eq_some_iff.mp hy).1
  have at' : ∀ (m : Nat) (hm : m < its.toArray.size), ∃ y t', ys[m]? = some y ∧ its.toArray[m] = Value.int y t' := fun m hm => by
    have hm' : m < ys.length := by rw [← hl]; exact hm
    obtain ⟨w, hw, t', hw'⟩ := r.get (i := m) (x := .int ys[m]) (by simp [hm'])
    refine ⟨ys[m], t', List.getElem?_eq_getElem hm', ?_⟩
    have e := (List.getElem?_eq_some_iff.mp hw).2
    rw [← hw', ← e]
    simp
  refine call_meets PySem.F.slot_tuple_index ⟨_, ho, rfl⟩ PySem.F.entry_tuple_index (PySem.F.args_tuple_index_2 _ _) (TI.tuple_indexAt p its.toArray n dd sl (.int z t) (eqU (.int z)) j hj ?_ ?_)
    ⟨ho, fun w hw => mem_eqAt (x := .int z) ⟨t, rfl⟩ rfl r (flat_ints ys) w (by simpa using hw), ⟨.int (j : Nat), H, I.tok _, ⟨_, rfl⟩, q⟩⟩
  · obtain ⟨y, t', h1, h2⟩ := at' j hj
    rw [hy] at h1
    cases h1
    rw [h2]
    show (z == z) = true
    exact beq_self_eq_true z
  · intro m hm hmj
    obtain ⟨y, t', h1, h2⟩ := at' m hm
    have hne : y ≠ z := fun e => hno m hmj (by rw [h1, e])
    rw [h2]
    show (y == z) = false
    exact beq_eq_false_iff_ne.mpr hne
end
end Sf
set_option maxHeartbeats 1000000
namespace PySem
open Sem (wp)
theorem sf_meets_enumerate_newT (l : Addr) (items : Array Value) (n : Nat) (dct : Option Addr) (sl : Array (Option Value)) :
    Meets (Builtin.«enumerate.__new__» ⟨[.type "enumerate", .ref l], []⟩) (fun _ R s => s.heap.get? l = some { cls := .type "tuple", dict := dct, data := .seq items n, slots := sl } ∧
      R (.ok (.ret (.ref (s.heap.push { cls := .type "tuple_iterator", data := .fields #[.ref l, .int 0 0] }).objs.size)))
        { s with heap := (s.heap.push { cls := .type "tuple_iterator", data := .fields #[.ref l, .int 0 0] }).push { cls := .type "enumerate", data := .fields #[.none, .bool false, .ref s.heap.objs.size, rawInt 0, .none, .none] } }) :=
  .of_wp fun prog w A R s h => by
    obtain ⟨hp, g, d, tk, os⟩ := s; obtain ⟨hl, h⟩ := h
    have hsub := sub_enumerate
    have hL : Heap.IsTuple (Shared.heap ⟨hp, g, d, tk, os⟩) l items := ⟨_, hl, rfl, n, rfl⟩
    wp_walk using AutoSeq1.wpAny_loadPart' hl
    refine wpAny_stack_any fun st => wpAny_pure ?_
    split
    · rename_i c _ _ _ _ _
      cases (c == Value.type "enumerate")
      · wp_walk using AutoSeq1.wpAny_loadPart' hl, wpAny_pyIter_tuple hL
        exact ⟨_, rfl, h⟩
      · wp_walk using AutoSeq1.wpAny_loadPart' hl, wpAny_pyIter_tuple hL
        exact ⟨_, rfl, h⟩
    · wp_walk using AutoSeq1.wpAny_loadPart' hl, wpAny_pyIter_tuple hL
      exact ⟨_, rfl, h⟩
section
variable {prog : Program} {w : World} {A : Around} {E : Value → Shared → Prop} {s : Shared}
theorem sf_call_enumerate_tuple {l : Addr} {items : Array Value} {Q : Value → Shared → Prop} (hL : s.heap.IsTuple l items)
    (h : ∀ h', IsEnum h' (s.heap.objs.size + 1) s.heap.objs.size 0 .none → h'.IsTupleIter s.heap.objs.size l 0 → h'.objs.size = s.heap.objs.size + 2 →
      (∀ b o, s.heap.get? b = some o → h'.get? b = some o) → Q (.ref (s.heap.objs.size + 1)) { s with heap := h' }) :
    wpAny (model prog w) A (call (.type "enumerate") [.ref l]) Q E s := by
  obtain ⟨⟨c, dct, dt, sl⟩, hl, hc, n, hd⟩ := hL
  replace hc : c = .type "tuple" := hc
  replace hd : dt = .seq items n := hd
  subst hc hd
  refine callType_new F.called_enumerate (by decide) (F.typeCall_enumerate_1 _) (F.newCall_enumerate_1 _) (fun obj => F.args_object_init_2 obj _) F.entry_enumerate_new
    (sf_meets_enumerate_newT l items n dct sl) ⟨hl, ?_⟩
  have hz : (s.heap.push { cls := .type "tuple_iterator", data := .fields #[.ref l, .int 0 0] }).objs.size = s.heap.objs.size + 1 := Heap.size_push ..
  show _ ∧ _
  rw [hz]
  have he : IsEnum ((s.heap.push { cls := .type "tuple_iterator", data := .fields #[.ref l, .int 0 0] }).push
      { cls := .type "enumerate", data := .fields #[.none, .bool false, .ref s.heap.objs.size, rawInt 0, .none, .none] }) (s.heap.objs.size + 1) s.heap.objs.size 0 .none := by
    have := Heap.get?_push_size (s.heap.push { cls := .type "tuple_iterator", data := .fields #[.ref l, .int 0 0] })
      (o := { cls := .type "enumerate", data := .fields #[.none, .bool false, .ref s.heap.objs.size, rawInt 0, .none, .none] }) rfl
    rw [hz] at this; exact this
  refine ⟨⟨_, he, rfl⟩, h _ he ⟨_, Heap.get?_push_of_some _ (Heap.get?_push_size _ rfl), rfl, rfl⟩ (by rw [Heap.size_push, hz]) fun b o x => Heap.get?_push_of_some _ (Heap.get?_push_of_some _ x)⟩
end
end PySem
namespace Sf
open PySem PySem.Spec PyProof.Rows L2
/-- enumerate over a tuple -/
def IteT (K : PySem.W.Frag) (a : Addr) : It :=
  ⟨fun i H => ∃ (xs : List V) (x : V), SqT K H a xs ∧ xs[i]? = some x, fun i H v H' => ∃ T x, v = .ref T ∧ H T = none ∧ H' = upd H T (.tup [.int (i : Nat), x]) ∧ ∀ xs, SqT K H a xs → xs[i]? = some x, fun i H => ∃ xs : List V, SqT K H a xs ∧ xs.length = i⟩
theorem turn_enumT {P : Program} {w : World} {K : PySem.W.Frag} {elts : List Expr} {kk : Nat} {tpos : Pos} (a e it : Addr) (nei : e ≠ it) (nea : e ≠ a) (nai : a ≠ it) :
    Turn P w K (.Tuple elts kk tpos) (IteT K a) [e, it] e (fun i h => (∃ old, IsEnum h e it ((i : Nat) : Int) old) ∧ h.IsTupleIter it a i) where
  mem := by simp
  obj := fun i h st b hb => by
    obtain ⟨⟨old, he⟩, ⟨o, ho, hc, hd⟩⟩ := st
    have e' : b = e ∨ b = it := by simpa using hb
    rcases e' with z | z
    · rw [z]; exact ⟨_, he, fun v q => nomatch q⟩
    · rw [z]; exact ⟨o, ho, fun v q => by rw [hd] at q; cases q⟩
  keep := fun i h h' st k => let ⟨⟨old, he⟩, hi⟩ := st; ⟨⟨old, k e (by simp) _ he⟩, hi.at fun o q => k it (by simp) o q⟩
  item := by
    intro X hP hw hK hc i pins s σ H E I hf st hg
    subst hP hw hK
    obtain ⟨⟨old, he⟩, hit⟩ := st
    obtain ⟨xs, x, hq, hx⟩ := hg
    obtain ⟨its, rv, p, hz⟩ := I.tuple hq
    obtain ⟨u, hu, ru⟩ := rv.get hx
    have hel : e < s.heap.objs.size := Heap.lt_size he
    have hil : it < s.heap.objs.size := by obtain ⟨_, q, _⟩ := hit; exact Heap.lt_size q
    have hlt : i < its.toArray.size := by
      have := (List.getElem?_eq_some_iff.mp hu).1
      simpa using this
    have D := Draws.tuple (prog := X.prog) (w := X.w) (A := X.A.in1) (I.ok.hd hc) it a nai its.toArray
    refine wpAny_pyNext_enum_itemD (E := E) D he ⟨hit, (show s.heap.IsTuple a its.toArray from p)⟩ hlt nei (by simp; exact ⟨nei, nea⟩) fun u' h' tk hu' ho hst' hT hsz hk => ?_
    have eu : u' = u := by
      have hu2 : its.toArray[i]? = some u := by simpa using hu
      rw [hu2] at hu'
      exact (Option.some.inj hu').symm
    subst eu
    refine ⟨_, rfl, wpAny_letOwnedTupleGo_enum (s := { s with heap := h', toks := tk + 1 }) ho fun h'' he' sb => ?_⟩
    have hT2 : h''.get? s.heap.objs.size = some { cls := .type "tuple", data := .seq #[.int i tk, u'] } := (sb.2 _ (Nat.ne_of_gt hel)).trans hT
    have new : ObjOk X.prog X.w (upd H s.heap.objs.size (.tup [.int (i : Nat), x])) h'' s.heap.objs.size (.tup [.int (i : Nat), x]) :=
      ⟨by show 2 ≤ sizeLine; decide, [.int i tk, u'], .cons ⟨_, rfl⟩ (.cons ru .nil), ⟨_, hT2, rfl, _, rfl⟩⟩
    have I1 : Inv X pins σ (upd H s.heap.objs.size (.tup [.int (i : Nat), x])) { s with heap := h'', toks := tk + 1 } :=
      I.turnedNew (ch := [e, it]) (fun b ob hb q => (sb.2 b (fun z => hb (by simp [z]))).trans (hk b ob (fun z => hb (by simp [z])) (fun z => hb (by simp [z])) q)) hf (Nat.le_refl _) new
    refine ⟨.ref s.heap.objs.size, _, I1, rfl, ⟨_, x, rfl, I.hok.fresh (Nat.le_refl _), rfl, fun ys hy => by rw [I.tuple_inj hy hq]; exact hx⟩, ⟨⟨u', ?_⟩, hst'.1.at fun o q => (sb.2 it (Ne.symm nei)).trans q⟩, fun b hb => ?_⟩
    · have e1 : ((i + 1 : Nat) : Int) = (i : Int) + 1 := by omega
      rw [e1]; exact he'
    · have hb' : b < s.heap.objs.size := by
        have e' : b = e ∨ b = it := by simpa using hb
        rcases e' with z | z
        · rw [z]; exact hel
        · rw [z]; exact hil
      rw [upd_ne (Nat.ne_of_lt hb')]
      exact (hf b hb).1
  done := by
    intro X hP hw hK hc i pins s σ H E I hf st hg
    subst hP hw hK
    obtain ⟨⟨old, he⟩, hit⟩ := st
    obtain ⟨xs, hq, hx⟩ := hg
    obtain ⟨its, rv, p, hz⟩ := I.tuple hq
    obtain ⟨f0, f1, f2, f3, f4, f5⟩ := hf it (by simp)
    have hl := rv.length
    have D := Draws.tuple (prog := X.prog) (w := X.w) (A := X.A.in1) (I.ok.hd hc) it a nai its.toArray
    have hi : its.toArray.size = i := by simp; omega
    refine wpAny_pyNext_enum_endD (E := E) D he ⟨?_, (show s.heap.IsTuple a its.toArray from p)⟩ fun h' eb => ⟨rfl, I.turned (t' := s.toks) (fun b o hb q => eb b o hb q) f0 f1 f3 f4 f5⟩
    rw [hi]; exact hit
  self := fun A i s Q E st h => let ⟨⟨_, he⟩, _⟩ := st; wpAny_pyIter_enum he h
def iEnumT (K : PySem.W.Frag) (ta : TA) : TI := fun σ H R => ta σ H fun vs H1 => ∃ a xs, vs = [.ref a] ∧ SqT K H1 a xs ∧ R (IteT K a) H1
theorem pi_enumT {X : Cx} {e : Expr} {ta : TA} {p pos tpos : Pos} {elts : List Expr} {kk : Nat} (hg : Gl X "enumerate") (hm : X.mg "enumerate" = none) (ha : PA X [e] ta) (hs : starEach [e] X.env = [(false, eval e X.env)] := by rfl) :
    PI X (.Tuple elts kk tpos) (.Call (.Name "enumerate" p) [e] [] pos) (iEnumT X.K ta) := by
  refine ⟨fun pins s σ H R I h => ?_⟩
  refine Call_ (ld_blt I hg hm boot_enumerate (PyProof.Rows.callWith_type1 (thn (ha.run pos pins s σ H _ I h) fun us s1 ⟨vs, H1, I1, r1, q1⟩ => ?_) hs rfl))
  obtain ⟨a, xs, ex, hq, q⟩ := q1
  subst ex
  cases r1 with
  | cons r rr =>
    cases rr
    cases r
    obtain ⟨its, rv, p', hz⟩ := I1.tuple hq
    have hal : a < s1.heap.objs.size := p'.lt
    refine sf_call_enumerate_tuple (show s1.heap.IsTuple a its.toArray from p') fun h' he hit hsz hk => wpAny_pyIter_enum he ?_
    have I2 : Inv X pins σ H1 { s1 with heap := h' } := I1.kept (t' := s1.toks) hk
    refine ⟨s1.heap.objs.size + 1, [s1.heap.objs.size + 1, s1.heap.objs.size], _, _, H1, rfl, I2, turn_enumT a (s1.heap.objs.size + 1) s1.heap.objs.size (Nat.succ_ne_self _) (Nat.ne_of_gt (Nat.lt_succ_of_lt hal)) (Nat.ne_of_lt hal), ⟨⟨.none, he⟩, hit⟩, fun b hb => ?_, q⟩
    have e' : b = s1.heap.objs.size + 1 ∨ b = s1.heap.objs.size := by simpa using hb
    have hle : s1.heap.objs.size ≤ b := by
      rcases e' with z | z
      · rw [z]; exact Nat.le_add_right _ _
      · rw [z]; exact Nat.le_refl _
    exact I1.fpOk hle (I1.hok.fresh hle)
theorem walk_enumT {K : PySem.W.Frag} {a : Addr} {xs : List V} : Walk (IteT K a) xs.length (fun H => SqT K H a xs) (YPair (fun i => some (.int (i : Nat))) (fun i => xs[i]?)) := by
  refine ⟨fun i _ hi q => ⟨xs, xs[i], q, by simp [hi]⟩, fun _ q => ⟨xs, q, rfl⟩, fun i H v H' _ q y => ?_⟩
  obtain ⟨T, x, h1, h2, h3, h4⟩ := y
  exact ⟨T, .int (i : Nat), x, h1, h2, h3, rfl, h4 xs q⟩
end Sf
namespace Sf
open PySem PySem.Spec PyProof.Rows L2
/-- a tuple on which no dict hangs (so a method's name is looked up in its type alone) -/
def TD (H : Hp) (a : Addr) (xs : List V) : Prop := ∃ o : Obj, o.dict = none ∧ H a = some (.frz o (.tup xs))
theorem TD.sq {K : PySem.W.Frag} {H : Hp} {a : Addr} {xs : List V} (t : TD H a xs) : SqT K H a xs := let ⟨o, _, e⟩ := t; .inl (.inr ⟨o, e⟩)
theorem TD.same {H H' : Hp} {a : Addr} {xs : List V} (s : Same H H') (t : TD H a xs) : TD H' a xs := let ⟨o, d, e⟩ := t; ⟨o, d, s _ _ e⟩
/-- tuple(xs), xs a list: a new tuple of that kind -/
def rTupD (K : PySem.W.Frag) : List V → Hp → VK → Prop := fun xs H Q => ∃ (p : Addr) (ys : List V), xs = [.ref p] ∧ SqL K H p ys ∧ ∀ l H', H l = none → Same H H' → TD H' l ys → Q (.ref l) H'
def tMT (r : V → List V → Hp → VK → Prop) (to : TE) (t : TA) : TE := fun σ H Q => to σ H fun x H1 => (∃ a xs, x = .ref a ∧ TD H1 a xs) ∧ t σ H1 fun xs H2 => r x xs H2 Q
section
variable {X : Cx}
theorem cr_tupD : CallR X (.type "tuple") (rTupD X.K) := by
  intro pins s σ H xs us Q I r h
  obtain ⟨p, ys, rfl, hq, q⟩ := h
  obtain ⟨u, rfl, rx⟩ := vals1 r
  cases rx
  obtain ⟨its, r', pl, hz⟩ := I.list hq
  have hlen := r'.length
  refine call_tuple_list pl.isList (fun h' kp => ?_) (by simp only [List.size_toArray] <;> omega)
  have I1 : Inv X pins σ H { s with heap := h' } := I.kept (t' := s.toks) kp
  have hn : H h'.objs.size = none := I1.hok.fresh (Nat.le_refl _)
  have I2 : Inv X pins σ (upd H h'.objs.size (.frz { cls := .type "tuple", data := .seq its.toArray } (.tup ys))) { s with heap := h'.push { cls := .type "tuple", data := .seq its.toArray } } :=
    I1.laid (t' := s.toks) (fun b o e => Heap.get?_push_of_some _ e) (Nat.le_refl _)
      (show ObjOk X.prog X.w _ _ _ (.frz _ (.tup ys)) from ⟨Heap.get?_push_size _ rfl, hz, its, r', IsTup.new _ _⟩)
  exact ⟨.ref h'.objs.size, _, I2, rfl, q _ _ hn (fun b o e => by rw [upd_ne (ne_of_none e hn)]; exact e) ⟨_, rfl, upd_same⟩⟩
variable {o e : Expr} {es : List Expr} {to : TE} {t : TA} {name : Str} {apos cpos : Pos} {id : String} {r : V → List V → Hp → VK → Prop}
theorem pe_mT (slot : Slot "tuple" name id) (hty : typeOf (.builtin id) = pure (.type "method_descriptor")) (hm : MtR X id r) (ho : PE X o to) (ha : PA X (e :: es) t)
    (hbase : attributeBase o name X.env (eval o X.env) = eval o X.env := by rfl)
    (hfew : ((backTo cpos (starEach (e :: es) X.env)).all (fun x => !x.1) && (backToKw cpos (keywordEach [] X.env)).all (fun x => x.1.isSome)
      && decide ((e :: es).length + ([] : List Keyword).length + (if ([] : List Keyword).isEmpty then 0 else 1) < 30)) = true := by rfl)
    (hline : (apos.endLine == cpos.line) = true := by rfl) (hs : starEach (e :: es) X.env = (false, eval e X.env) :: starEach es X.env := by rfl) (hplain : (backTo cpos (starEach es X.env)).any (·.1) = false := by rfl) :
    PE X (.Call (.Attribute o name apos) (e :: es) [] cpos) (tMT r to t) := by
  refine ⟨fun pins s σ H Q I h => ?_⟩
  refine wpAny_Call_method_late hbase hfew hline rfl (thn (ho.run pins s σ H _ I h) fun v s1 ⟨x, H1, I1, r1, ty, q1⟩ => ?_)
  obtain ⟨a, xs, rfl, ob, hd, hH⟩ := ty
  cases r1
  obtain ⟨hg, _, its, _, o2, h2, h3, _⟩ := (show ObjOk X.prog X.w H1 s1.heap a (.frz ob (.tup xs)) from I1.hok a _ hH)
  refine ⟨"tuple", id, PySem.F.plainAttrs_tuple, slot, hty, ⟨o2, h2, h3⟩, fun b eb => ?_, ?_⟩
  · cases eb
    exact ⟨ob, hg, hd⟩
  · have hA := ha.run cpos pins s1 σ H1 _ I1 q1
    rw [hs] at hA ⊢
    refine Calls.callWith_builtin (by show (false || (backTo cpos (starEach es X.env)).any (·.1)) = false; rw [hplain] <;> rfl) (Calls.evalArgs_plain ?_)
    exact thn hA fun us s2 ⟨vs, H2, I2, r2, q2⟩ => hm pins s2 σ H2 (.ref a) vs (.ref a) us Q I2 rfl r2 q2
/-- t.index(n) -/
theorem pe_tix (ho : PE X o to) (ha : PA X [e] t)
    (hbase : attributeBase o "index" X.env (eval o X.env) = eval o X.env := by rfl)
    (hfew : ((backTo cpos (starEach (e :: []) X.env)).all (fun x => !x.1) && (backToKw cpos (keywordEach [] X.env)).all (fun x => x.1.isSome)
      && decide ((e :: ([] : List Expr)).length + ([] : List Keyword).length + (if ([] : List Keyword).isEmpty then 0 else 1) < 30)) = true := by rfl)
    (hline : (apos.endLine == cpos.line) = true := by rfl) (hs : starEach (e :: []) X.env = (false, eval e X.env) :: starEach [] X.env := by rfl) (hplain : (backTo cpos (starEach [] X.env)).any (·.1) = false := by rfl) :
    PE X (.Call (.Attribute o "index" apos) [e] [] cpos) (tMT (rTupIx X.K) to t) := pe_mT PySem.F.slot_tuple_index PySem.F.type_tuple_index mt_tup_indexI ho ha hbase hfew hline hs hplain
end
end Sf
set_option maxHeartbeats 2000000
namespace Sf
open PySem PySem.Spec PyProof.Rows L2
/-! ### an exception that a suite keeps under another name: behind the suite it is tracked, by its class -/
def ExK (D a : Addr) : HO := .ext fun h => ∃ oe : Obj, PySem.W.InstAt h a oe D none
theorem inst_keep {h h' : Heap} {a D : Addr} {oe : Obj} (q : PySem.W.InstAt h a oe D none) (k : ∀ o, h.get? a = some o → h'.get? a = some o) : PySem.W.InstAt h' a oe D none := by
  refine ⟨k _ q.at_, q.cls, q.no, ?_⟩
  have d := q.dict
  cases e : oe.dict with
  | none => trivial
  | some dx => rw [e] at d; exact d.elim
theorem exK_ok {P : Program} {w : World} {H : Hp} {h : Heap} {D a : Addr} {oe : Obj} (e : PySem.W.InstAt h a oe D none) : ObjOk P w H h a (ExK D a) :=
  ⟨⟨oe, e⟩, ⟨oe, e.at_⟩, fun _ _ ⟨o, q⟩ k => ⟨o, inst_keep q k⟩⟩
section
variable {X : Cx} {pins : List (Addr × Obj)} {σ : L2.St} {H : Hp} {s : Shared}
/-- an object that stands, that the entry did not know, is tracked from here on -/
theorem track {a : Addr} {oe : Obj} {o : HO} (I : Inv X pins σ H s) (ha : s.heap.get? a = some oe) (hd : ∀ v, oe.data ≠ .cell v) (n0 : X.s_0.heap.get? a = none) (na : H a = none) (nL : a ≠ X.env.locals) (nP : ∀ p ∈ X.pn ++ pins, p.1 ≠ a)
    (new : ObjOk X.prog X.w (upd H a o) s.heap a o) : Inv X pins σ (upd H a o) s := by
  have ne0 : ∀ b u, X.s_0.heap.get? b = some u → b ≠ a := fun b u e z => by
    rw [z, n0] at e
    cases e
  have ne1 : ∀ b u, H b = some u → b ≠ a := fun b u e => ne_of_none e na
  have nC : ∀ x c, X.env.cells.lookup x = some c → c ≠ a := fun x c e z => by
    obtain ⟨v, u, hu, hv⟩ := I.cell x c e
    rw [z, ha] at hu
    cases hu
    exact hd _ hv
  exact {
    ok := I.ok
    os := I.os
    bare := I.bare
    base := {
      keep := I.base.keep
      slot := I.base.slot
      free := fun b u e n hx => (upd_ne (ne0 b u e)).trans (I.base.free b u e n hx)
      there := I.base.there
      tups := fun b xs e => (upd_ne (ne1 b _ (I.base.tups b xs e))).trans (I.base.tups b xs e)
      frzs := fun b u v e => (upd_ne (ne1 b _ (I.base.frzs b u v e))).trans (I.base.frzs b u v e)
      tbls := fun b ps e => by
        obtain ⟨m, q⟩ := I.base.tbls b ps e
        exact ⟨m, (upd_ne (ne1 b _ q)).trans q⟩ }
    loc := I.loc
    cell := I.cell
    free := (upd_ne (Ne.symm nL)).trans I.free
    freeC := fun x c e => (upd_ne (nC x c e)).trans (I.freeC x c e)
    pin := fun p hp => by
      obtain ⟨e, n, r⟩ := I.pin p hp
      exact ⟨e, (upd_ne (nP p hp)).trans n, r⟩
    hok := fun b u e => by
      by_cases hb : b = a
      · subst hb
        rw [upd_same] at e
        cases e
        exact new
      · rw [upd_ne hb] at e
        exact (I.hok b u e).stay (fun _ _ _ q => q) (fun c q => (upd_ne (ne1 c _ q)).trans q) fun c xs q => (upd_ne (ne1 c _ q)).trans q
    len := I.len }
end
/-- what 'except x as n' wishes, where the exception is kept: behind the suite it is told by its class -/
def wKeep (K : PySem.W.Frag) (c : Value) (i : Nat) (ts : Addr → Value → Option Addr → TS) (Wout : WX) (D : Ends) : WX := fun cls d σ H =>
  ∃ b, PySem.W.exmOne K cls c = some b ∧ (b = true → ∃ C : Addr, cls = .ref C ∧ d = none ∧ ∀ a, H a = none →
      ts a cls d { nx := fun σ' H' => H' a = none → D.nx (σ'.set i none) (upd H' a (ExK C a)), rt := fun _ _ => False } (σ.set i (some (.ref a))) H) ∧
    (b = false → Wout cls d σ H)
section
variable {X : Cx} {x n : Str} {c : Value} {i : Nat} {body suite : List Stmt} {b₀ : Stmt} {np pos pos' : Pos} {tb : WX → TS} {ts : Addr → Value → Option Addr → TS} {Wout : WX}
theorem ps_try_keep (hs : X.stack = X.env :: X.outer) (hf : X.env.frame = some X.env.locals) (hex : X.ex = []) (hN : X.N.Nodup) (hi : X.N[i]? = some n) (hln : X.env.kindOf n = some .local) (hc : Names X x c) (tk : Takes X Wout)
    (hb : ∀ (W : WX) (pn : List (Addr × Obj)) (xe : Value → Shared → Prop), Takes (X.tr pn xe) W → PassesOwn (model X.prog X.w) X.A X.env xe → PSs (X.tr pn xe) body (tb W))
    (hsu : ∀ (a : Addr) (oe : Obj) (cls : Value) (d : Option Addr) (pn : List (Addr × Obj)), Zc cls d oe → (∃ vs, oe.data = .fields vs) → PSs (X.suite a ((a, oe) :: pn)) (b₀ :: suite) (ts a cls d)) :
    PS X (.Try body [.ExceptHandler (some (.Name x np)) (some n) (b₀ :: suite) pos'] [] [] pos) (fun D σ H => tb (wKeep X.K c i ts Wout D) D σ H) := by
  refine ⟨fun pins s σ H D I h => ?_⟩
  have ok := I.ok
  have frames : X.A.frames = some (X.env :: X.outer) := by rw [ok.frames, hs]
  refine wpAny_Try_except (wpAny_mono ((hb (wKeep X.K c i ts Wout D) (X.pn ++ pins) _ (fun u s' caught => ?_) PassesOwn.looking).run [] s σ H D (I.toTry _) h) (fun f s1 ended => ?_) fun _ _ z => z)
  case refine_2 =>
    cases f with
    | next => obtain ⟨σ', H', J, q⟩ := ended; exact wpAny_execs_nil ⟨σ', H', J.ofTry ok, q⟩
    | brk => obtain ⟨σ', H', J, q⟩ := ended; exact ⟨σ', H', J.ofTry ok, q⟩
    | cont => obtain ⟨σ', H', J, q⟩ := ended; exact ⟨σ', H', J.ofTry ok, q⟩
    | ret u => obtain ⟨v, σ', H', J, r, q⟩ := ended; exact ⟨v, σ', H', J.ofTry ok, r, q⟩
  case refine_1 =>
    obtain ⟨a, B, sI, pins', σ', H', cls, d, rfl, J', nb, up, sky, na, os, ag, b, hb1, hyes, hno⟩ := caught
    have J : Inv X pins σ' H' sI := J'.ofTry ok
    rw [show (X.tr (X.pn ++ pins) _).stack = X.env :: X.outer from hs] at sky
    show wpAny (model X.prog X.w) X.A (noteFrame (.ref a) X.env) _ _ _
    refine Sky.land Zc.steady frames hf sky fun h3 fl3 up3 => ?_
    have J3 : Inv X pins σ' H' { s' with heap := h3 } := J.landed nb fl3.1 (up.trans up3) os ag
    have Ba : B.get? a = none := fl3.2.1
    obtain ⟨oe3, vs3, he3, hz3, hd3⟩ := fl3.there
    have noFrame : a ∉ frs (X.env :: X.outer) := fun hm => by
      obtain ⟨_, o', e', nf⟩ := fl3.2.2.1.mem hm
      rw [he3] at e'
      cases e'
      exact nf _ hd3
    have nL : a ≠ X.env.locals := fun z => noFrame (List.mem_filterMap.mpr ⟨X.env, List.mem_cons_self, by rw [hf, z]⟩)
    have nF : a ∉ X.fs := fun hm => by
      obtain ⟨e, he, q⟩ := List.mem_filterMap.mp hm
      exact noFrame (List.mem_filterMap.mpr ⟨e, List.mem_cons_of_mem _ he, q⟩)
    have notIn : sI.heap.get? a = none := by
      cases e : sI.heap.get? a with
      | none => rfl
      | some o =>
        have := nb a o e (by show a ∉ frs X.stack; rw [hs]; exact noFrame)
        rw [Ba] at this
        cases this
    have n0 : X.s_0.heap.get? a = none := by
      cases e : X.s_0.heap.get? a with
      | none => rfl
      | some o =>
        obtain ⟨o', q⟩ := J.base.there a o e (by rw [hex]; exact fun z => nomatch z)
        rw [notIn] at q
        cases q
    have nP : ∀ p ∈ X.pn ++ pins, p.1 ≠ a := fun p hp z => by
      have q := (J.pin p hp).1
      rw [z, notIn] at q
      cases q
    have S3 := J3.suite he3 hd3 na nL nF
    refine wpAny_handleBy_cons (codeAny_handlers_test ?_) (by intro q; cases q)
    have typed : PySem.W.Looks (model X.prog X.w) h3 (typeOf (.ref a)) cls := fun _ _ _ _ k q => wpAny_typeOf_ref (k _ _ he3) (by rw [hz3.1]; exact q)
    have named : ∀ {Q : Value → Shared → Prop} {E : Value → Shared → Prop}, Q c { s' with heap := h3 } → wpAny (model X.prog X.w) (X.A.mark (some (.ref a))) (eval (.Name x np) X.env) Q E { s' with heap := h3 } := fun {Q E} q => by
      obtain ⟨hg, hdbg, hm | ⟨hm, hv, hnn⟩⟩ := hc
      · exact ld_glob (X := X.suite a ((a, oe3) :: (X.pn ++ pins))) S3 hg hm q hdbg
      · exact ld_blt (X := X.suite a ((a, oe3) :: (X.pn ++ pins))) S3 hg hm hv q hnn hdbg
    refine named ((PySem.W.exm_one (M := model X.prog X.w) J3.kIn typed hb1).here ?_)
    cases b with
    | true =>
      obtain ⟨C, hC, hD, hyes⟩ := hyes rfl
      refine codeAny_handlers_suite_as (HandSPX.lands_againZ fl3 fun h4 fl4 up4 => ?_)
      have J4 : Inv X pins σ' H' { s' with heap := h4 } := J.landed nb fl4.1 ((up.trans up3).trans up4) os ag
      obtain ⟨oe4, vs4, he4, hz4, hd4⟩ := fl4.there
      refine store_ok (X := X.suite a ((a, oe4) :: (X.pn ++ pins))) (v := .ref a) (J4.suite he4 hd4 na nL nF) hN hi (.inl hln) rfl (fun s5 S5 => ?_) (.inr hln)
      refine wpAny_mono ((hsu a oe4 cls d (X.pn ++ pins) hz4 ⟨_, hd4⟩).run [] s5 _ H' _ S5 (hyes a na)) (fun f s6 ended => ?_) (fun _ _ z => z.elim)
      cases f with
      | next =>
        obtain ⟨σ6, H6, S6, q6⟩ := ended
        obtain ⟨h6, n6, _⟩ := S6.pin (a, oe4) (List.mem_append_left _ List.mem_cons_self)
        have inst : PySem.W.InstAt s6.heap a oe4 C none := by
          obtain ⟨oc, od, oda, osl⟩ := oe4
          obtain ⟨z1, z2⟩ := hz4
          dsimp only at z1 z2 hd4
          subst z1 z2 hd4 hC hD
          exact ⟨h6, rfl, rfl, trivial⟩
        have J6 : Inv X pins σ6 (upd H6 a (ExK C a)) s6 := track (S6.unsuite ok) h6 (fun v z => by rw [hd4] at z; cases z) n0 n6 nL nP (exK_ok inst)
        exact gone_ok J6 hN hi hln fun s7 J7 => ⟨_, _, J7, q6 n6⟩
      | brk => obtain ⟨_, _, _, q6⟩ := ended; exact q6.elim
      | cont => obtain ⟨_, _, _, q6⟩ := ended; exact q6.elim
      | ret u => obtain ⟨_, _, _, _, _, q6⟩ := ended; exact q6.elim
    | false =>
      show wpAny _ X.A (handleBy (.ref a) X.env []) _ _ _
      refine wpAny_handleBy_nil ?_
      obtain ⟨k1, k2, k3, oe, vs, T, oT, ts', he, hz, hd, h1, hr⟩ := id fl3
      unfold PySem.passOn
      refine wpAny_bind (wpAny_field he hd h1 ?_)
      rw [if_neg (show ¬ ((Value.ref T == Value.none) = true) from by simp)]
      have fin : wpAny (model X.prog X.w) X.A (setFlight (.ref a) X.env.frame) (fun _ s4 => wpAny (model X.prog X.w) X.A (throw (.ref a) : Sem Flow) (SP X pins D) X.xe s4) X.xe { s' with heap := h3 } := by
        rw [hf]
        exact HandSPX.setFlight_upZ fl3 fun h4 hh4 up4 => wpAny_throw (tk _ _ ⟨a, B, sI, pins, σ', H', cls, d, rfl, J, nb, (up.trans up3).trans up4, .inr (.inr (by rw [hs]; exact hh4)), na, os, ag, hno rfl⟩)
      first
        | exact wpAny_bind (wpAny_pure (wpAny_bind fin))
        | exact wpAny_bind fin
end
end Sf
set_option maxHeartbeats 2000000
namespace Sf
open PySem PySem.Spec PyProof.Rows L2
/-! ### a dict of the top with text keys: its keys, turn by turn -/
structure KTab (K : PySem.W.Frag) (w : World) (d : Addr) (kvs : List (Str × Value)) : Prop where
  tab : ∃ es n, KDict K w d es n ∧ es.size = kvs.length ∧ ∀ prog : Program, Pairs (strKind prog w) es.toList kvs
  nd : (kvs.map (·.1)).Nodup
theorem KTab.at {K : PySem.W.Frag} {w : World} {d : Addr} {kvs : List (Str × Value)} (T : KTab K w d kvs) (prog : Program) {h : Heap} (X : K.In h) :
    (d == sysModules) = false ∧ ∃ es n, h.get? d = some ⟨.type "dict", none, .dict es n, #[]⟩ ∧ es.size = kvs.length ∧ h.DictAt (strKind prog w) d kvs n := by
  obtain ⟨es, n, D, hz, pr⟩ := T.tab
  refine ⟨D.low, es, n, X _ _ D.at_, hz, _, es, X _ _ D.at_, ⟨rfl, rfl, rfl⟩, rfl, fun e he => ?_, pr prog, T.nd⟩
  obtain ⟨x, t, e1, e2⟩ := D.lit.all e (Array.mem_toList_iff.mpr he)
  exact ⟨x, by rw [e1]; exact strKind_is prog w x t, e2⟩
def Itkk (kvs : List (Str × Value)) : It :=
  ⟨fun i _ => i < kvs.length, fun i H x H' => H' = H ∧ ∃ k v, kvs[i]? = some (k, v) ∧ x = .str k, fun i _ => kvs.length ≤ i⟩
theorem turn_ktab {P : Program} {w : World} {K : PySem.W.Frag} {tg : Expr} {d : Addr} {kvs : List (Str × Value)} {ep : Nat} (T : KTab K w d kvs) (it : Addr) (hep : ∃ es, K.lookup d = some ⟨.type "dict", none, .dict es ep, #[]⟩) :
    Turn P w K tg (Itkk kvs) [it] it (fun i h => h.IsKeyIter it d i kvs.length ep) where
  mem := by simp
  obj := fun i h st b hb => by
    have e : b = it := by simpa using hb
    subst e
    obtain ⟨oi, e, c, dd⟩ := st
    exact ⟨oi, e, fun v z => by rw [dd] at z; cases z⟩
  keep := fun i h h' st k => st.at fun oi e => k it (by simp) oi e
  item := by
    intro X hP hw hK hc i pins s σ H E I hf st hi
    subst hP hw hK
    obtain ⟨f0, f1, f2, f3, f4, f5⟩ := hf it (by simp)
    obtain ⟨hs, es, n, hgd, hsz, hm⟩ := T.at X.prog I.kIn
    obtain ⟨es', hl⟩ := hep
    have hgd' := I.kIn _ _ hl
    rw [hgd] at hgd'
    cases hgd'
    obtain ⟨⟨k, v⟩, hkv⟩ : ∃ p, kvs[i]? = some p := ⟨kvs[i], List.getElem?_eq_getElem hi⟩
    refine wpAny_pyNext_dict_item st hm hkv fun key h' hkey st' sb => ?_
    have I1 : Inv X pins σ H { s with heap := h' } := I.turned (t' := s.toks) (fun b ob hb e => (sb.2 b hb).trans e) f0 f1 f3 f4 f5
    obtain ⟨oi, e, c, dd⟩ := id st'
    exact ⟨key, rfl, go_of (s := { s with heap := h' }) e c dd (by decide) ⟨.str k, H, I1, relV_key (k := .inr k) (show keyIs (.inr k) key = true from hkey), ⟨rfl, k, v, hkv, rfl⟩, st', fun b hb => (hf b hb).1⟩⟩
  done := by
    intro X hP hw hK hc i pins s σ H E I hf st hi
    subst hP hw hK
    obtain ⟨f0, f1, f2, f3, f4, f5⟩ := hf it (by simp)
    obtain ⟨hs, es, n, hgd, hsz, hm⟩ := T.at X.prog I.kIn
    obtain ⟨es', hl⟩ := hep
    have hgd' := I.kIn _ _ hl
    rw [hgd] at hgd'
    cases hgd'
    exact next_key_end (I.ok.hd hc) st hgd rfl hsz hi fun h' eb => ⟨rfl, I.turned (t' := s.toks) (fun b ob hb e => eb b ob hb e) f0 f1 f3 f4 f5⟩
  self := fun A i s Q E st h => wpAny_pyIter_keyiter st h
def iKk (d : Addr) (kvs : List (Str × Value)) (td : TE) : TI := fun σ H R => td σ H fun x H1 => x = .ref d ∧ R (Itkk kvs) H1
theorem pi_ktab {X : Cx} {tg e : Expr} {td : TE} {d : Addr} {kvs : List (Str × Value)} (T : KTab X.K X.w d kvs) (he : PE X e td) : PI X tg e (iKk d kvs td) := by
  refine ⟨fun pins s σ H R I h => ?_⟩
  refine thn (he.run pins s σ H _ I h) fun u s1 ⟨x, H1, I1, rx, ex, q⟩ => ?_
  subst ex
  obtain rfl : u = Value.ref d := rx
  obtain ⟨es, n, D, hz, pr⟩ := T.tab
  refine iter_keys D.low (I1.kIn _ _ D.at_) ⟨rfl, rfl, rfl⟩ rfl (pi_one (tk := s1.toks) I1 _ (turn_ktab T _ ⟨es, D.at_⟩) ⟨_, Heap.get?_push_size _ rfl, rfl, ?_⟩ q)
  rw [hz] <;> rfl
theorem lc_ktab {kvs : List (Str × Value)} {g : TG} {tt : TT} {te : TE} {vs : List Nat} {σ : L2.St} {H1 : Hp} {D : Addr} {Qd : Hp → Prop} (Pv : Nat → Hp → Prop) (h0 : Pv 0 (upd H1 D (.lst [])))
    (hs : ∀ i k v H, kvs[i]? = some (k, v) → Pv i H → g (.str k) (wipe σ vs) H fun σ2 H2 => wipe σ2 vs = wipe σ vs ∧ tt σ2 H2 fun b H3 =>
      if b = true then te σ2 H3 fun y H4 => ∃ acc, H4 D = some (.lst acc) ∧ acc.length < sizeLine ∧ Pv (i + 1) (upd H4 D (.lst (acc ++ [y]))) else Pv (i + 1) H3) (hd : ∀ H, Pv kvs.length H → Qd H) :
    ∃ W : Nat → Nat → Hp → Prop, (∃ m, W 0 m (upd H1 D (.lst []))) ∧ ∀ i m H, W i m H →
      ((Itkk kvs).stop i H ∧ Qd H) ∨ ((Itkk kvs).go i H ∧ ∃ Nx : Hp → Prop, (∀ H', Nx H' → ∃ m', m' < m ∧ W (i + 1) m' H') ∧ ∀ x H', (Itkk kvs).yld i H x H' → g x (wipe σ vs) H' fun σ2 H2 => wipe σ2 vs = wipe σ vs ∧ tt σ2 H2 fun b H3 =>
        if b = true then te σ2 H3 fun y H4 => ∃ acc, H4 D = some (.lst acc) ∧ acc.length < sizeLine ∧ Nx (upd H4 D (.lst (acc ++ [y]))) else Nx H3) := by
  refine ⟨fun i m H => m = kvs.length - i ∧ i ≤ kvs.length ∧ Pv i H, ⟨kvs.length, by simp, Nat.zero_le _, h0⟩, ?_⟩
  rintro i m H ⟨rfl, hi, p⟩
  by_cases hlt : i < kvs.length
  · refine .inr ⟨hlt, Pv (i + 1), fun H' p' => ⟨kvs.length - (i + 1), by omega, rfl, hlt, p'⟩, fun x H' y => ?_⟩
    obtain ⟨e, k, v, e2, e3⟩ := y
    subst e e3
    exact hs i k v _ e2 p
  · have e : i = kvs.length := by omega
    subst e
    exact .inl ⟨Nat.le_refl _, hd H p⟩
end Sf

namespace Sf
/-! ### pairs with the greater one ahead, and how an exchange changes their number -/
def cnt (a : Int) (l : List Int) : Nat := l.countP fun b => decide (b < a)
def inv : List Int → Nat
  | [] => 0
  | a :: l => cnt a l + inv l
theorem cnt_cons (a b : Int) (l : List Int) : cnt a (b :: l) = cnt a l + (if b < a then 1 else 0) := by
  unfold cnt
  rw [List.countP_cons]
  by_cases h : b < a <;> simp [h]
theorem cnt_append (a : Int) (l m : List Int) : cnt a (l ++ m) = cnt a l + cnt a m := by
  unfold cnt
  exact List.countP_append
theorem cnt_perm {a : Int} {l m : List Int} (h : l.Perm m) : cnt a l = cnt a m := h.countP_eq _
theorem inv_prefix {l l' : List Int} (h : l.Perm l') : ∀ p : List Int, inv (p ++ l) + inv l' = inv (p ++ l') + inv l
  | [] => by simp only [List.nil_append]; omega
  | c :: p => by
    have ih := inv_prefix h p
    have e : cnt c (p ++ l) = cnt c (p ++ l') := cnt_perm (List.Perm.append_left p h)
    simp only [List.cons_append, inv, e]
    omega
theorem inv_move (a : Int) : ∀ (m q : List Int), a ∉ m → (inv (a :: (m ++ q)) + m.length) % 2 = inv (m ++ a :: q) % 2
  | [], q, _ => by simp
  | b :: m, q, h => by
    have hb : a ≠ b := fun e => h (by simp [e])
    have hm : a ∉ m := fun e => h (by simp [e])
    have ih := inv_move a m q hm
    have e1 : cnt b (m ++ a :: q) = cnt b (m ++ q) + (if a < b then 1 else 0) := by
      rw [cnt_append, cnt_append, cnt_cons]; omega
    have e2 := cnt_cons a b (m ++ q)
    simp only [List.cons_append, inv, List.length_cons, e1, e2] at ih ⊢
    by_cases h1 : a < b
    · have h2 : ¬ b < a := by omega
      simp only [h1, h2, if_true, if_false]; omega
    · have h2 : b < a := by omega
      simp only [h1, h2, if_true, if_false]; omega
theorem perm_exch (p : List Int) (a b : Int) (m q : List Int) : (p ++ a :: (m ++ b :: q)).Perm (p ++ b :: (m ++ a :: q)) := by
  refine List.Perm.append_left p ?_
  have h1 : (a :: (m ++ b :: q)).Perm (a :: b :: (m ++ q)) := List.Perm.cons a List.perm_middle
  have h2 : (b :: (m ++ a :: q)).Perm (b :: a :: (m ++ q)) := List.Perm.cons b List.perm_middle
  exact h1.trans ((List.Perm.swap b a _).trans h2.symm)
theorem inv_exch {a b : Int} {p m q : List Int} (hab : a ≠ b) (ha : a ∉ m) (hb : b ∉ m) : inv (p ++ a :: (m ++ b :: q)) % 2 = (inv (p ++ b :: (m ++ a :: q)) + 1) % 2 := by
  have h0 := inv_prefix (perm_exch [] a b m q) p
  simp only [List.nil_append] at h0
  have h1 := inv_move a m (b :: q) ha
  have h2 := inv_move b m (a :: q) hb
  have h3 := inv_prefix (List.Perm.swap b a q) m
  have e1 := cnt_cons a b q
  have e2 := cnt_cons b a q
  have e3 : inv (a :: b :: q) = cnt a (b :: q) + (cnt b q + inv q) := rfl
  have e4 : inv (b :: a :: q) = cnt b (a :: q) + (cnt a q + inv q) := rfl
  by_cases h : a < b
  · have h' : ¬ b < a := by omega
    simp only [h, h', if_true, if_false] at e1 e2
    omega
  · have h' : b < a := by omega
    simp only [h, h', if_true, if_false] at e1 e2
    omega
/-! ### an exchange by places -/
def swapAt (l : List Int) (i j : Nat) : List Int := (l.set i (l.getD j 0)).set j (l.getD i 0)
theorem split_at {α : Type} : ∀ {l : List α} {i : Nat} {x : α}, l[i]? = some x → ∃ p q, l = p ++ x :: q ∧ p.length = i
  | [], i, x, h => by simp at h
  | a :: l, 0, x, h => ⟨[], l, by simp at h; simp [h], rfl⟩
  | a :: l, i + 1, x, h => by
    obtain ⟨p, q, e, n⟩ := split_at (l := l) (i := i) (x := x) (by simpa using h)
    exact ⟨a :: p, q, by rw [e]; rfl, by simp [n]⟩
theorem split_two {l : List Int} {i j : Nat} {x y : Int} (hij : i < j) (hx : l[i]? = some x) (hy : l[j]? = some y) : ∃ p m q, l = p ++ x :: (m ++ y :: q) ∧ p.length = i ∧ p.length + 1 + m.length = j := by
  obtain ⟨p, r, e, n⟩ := split_at hx
  have hr : r[j - i - 1]? = some y := by
    rw [e, List.getElem?_append_right (by omega)] at hy
    have : j - p.length = (j - i - 1) + 1 := by omega
    rw [this] at hy
    simpa using hy
  obtain ⟨m, q, e2, n2⟩ := split_at hr
  exact ⟨p, m, q, by rw [e, e2], n, by omega⟩
theorem set_mid {α : Type} (p : List α) (x y : α) (q : List α) : (p ++ x :: q).set p.length y = p ++ y :: q := by
  rw [List.set_append_right _ _ (Nat.le_refl _)]
  simp
theorem swap_split (p : List Int) (x : Int) (m : List Int) (y : Int) (q : List Int) : swapAt (p ++ x :: (m ++ y :: q)) p.length (p.length + 1 + m.length) = p ++ y :: (m ++ x :: q) := by
  have e1 : (p ++ x :: (m ++ y :: q)).getD p.length 0 = x := by
    rw [List.getD_eq_getElem?_getD, List.getElem?_append_right (Nat.le_refl _)]; simp
  have e2 : (p ++ x :: (m ++ y :: q)).getD (p.length + 1 + m.length) 0 = y := by
    rw [List.getD_eq_getElem?_getD, List.getElem?_append_right (by omega)]
    have : p.length + 1 + m.length - p.length = m.length + 1 := by omega
    rw [this, List.getElem?_cons_succ, List.getElem?_append_right (Nat.le_refl _)]; simp
  unfold swapAt
  rw [e1, e2, set_mid]
  have e3 : p ++ y :: (m ++ y :: q) = (p ++ y :: m) ++ y :: q := by simp
  have e4 : p.length + 1 + m.length = (p ++ y :: m).length := by simp; omega
  rw [e3, e4, set_mid]
  simp
theorem swap_comm (l : List Int) {i j : Nat} (h : i ≠ j) : swapAt l i j = swapAt l j i := by
  unfold swapAt
  rw [List.set_comm _ _ h]
theorem getD_some {l : List Int} {i : Nat} (h : i < l.length) : l[i]? = some (l.getD i 0) := by
  rw [List.getD_eq_getElem?_getD, List.getElem?_eq_getElem h]; rfl
/-- everything of an exchange, the lesser place first -/
theorem swap_lt {l : List Int} {i j : Nat} (hij : i < j) (hj : j < l.length) : ∃ p m q, l = p ++ l.getD i 0 :: (m ++ l.getD j 0 :: q) ∧ swapAt l i j = p ++ l.getD j 0 :: (m ++ l.getD i 0 :: q) ∧ p.length = i ∧ p.length + 1 + m.length = j := by
  obtain ⟨p, m, q, e, n1, n2⟩ := split_two hij (getD_some (l := l) (Nat.lt_trans hij hj)) (getD_some hj)
  refine ⟨p, m, q, e, ?_, n1, n2⟩
  have h := swap_split p (l.getD i 0) m (l.getD j 0) q
  rw [← e, n2, n1] at h
  exact h
theorem swap_perm {l : List Int} {i j : Nat} (hi : i < l.length) (hj : j < l.length) (h : i ≠ j) : (swapAt l i j).Perm l := by
  have main : ∀ {i j : Nat}, i < j → j < l.length → (swapAt l i j).Perm l := fun {i j} hij hj => by
    obtain ⟨p, m, q, e, s, _, _⟩ := swap_lt hij hj
    rw [s]
    have r := perm_exch p (l.getD j 0) (l.getD i 0) m q
    rw [← e] at r
    exact r
  by_cases hij : i < j
  · exact main hij hj
  · rw [swap_comm l h]
    exact main (by omega) hi
theorem swap_inv {l : List Int} {i j : Nat} (nd : l.Nodup) (hi : i < l.length) (hj : j < l.length) (h : i ≠ j) : inv (swapAt l i j) % 2 = (inv l + 1) % 2 := by
  have main : ∀ {i j : Nat}, i < j → j < l.length → inv (swapAt l i j) % 2 = (inv l + 1) % 2 := fun {i j} hij hj => by
    obtain ⟨p, m, q, e, s, _, _⟩ := swap_lt hij hj
    have nd' := nd
    rw [e] at nd'
    have hd := (List.nodup_append.mp nd').2.1
    have hx := List.nodup_cons.mp hd
    have hd2 := (List.nodup_append.mp hx.2)
    have n1 : l.getD i 0 ∉ m := fun z => hx.1 (List.mem_append_left _ z)
    have n2 : l.getD j 0 ∉ m := fun z => hd2.2.2 _ z _ List.mem_cons_self rfl
    have n3 : l.getD j 0 ≠ l.getD i 0 := fun z => hx.1 (List.mem_append_right _ (by rw [← z]; exact List.mem_cons_self))
    have r := inv_exch (p := p) (q := q) n3 n2 n1
    rw [← e, ← s] at r
    exact r
  by_cases hij : i < j
  · exact main hij hj
  · rw [swap_comm l h]
    exact main (by omega) hi
theorem swap_len (l : List Int) (i j : Nat) : (swapAt l i j).length = l.length := by
  unfold swapAt
  rw [List.length_set, List.length_set]
theorem swap_get {l : List Int} {i j : Nat} (hi : i < l.length) (hj : j < l.length) (h : i ≠ j) (k : Nat) : (swapAt l i j).getD k 0 = if k = i then l.getD j 0 else if k = j then l.getD i 0 else l.getD k 0 := by
  unfold swapAt
  rw [List.getD_eq_getElem?_getD, List.getElem?_set]
  by_cases h1 : j = k
  · subst h1
    have : ¬ j = i := fun e => h e.symm
    rw [if_pos rfl, if_pos (by simpa using hj), if_neg this, if_pos rfl]; rfl
  · rw [if_neg h1, List.getElem?_set]
    by_cases h2 : i = k
    · subst h2
      rw [if_pos rfl, if_pos hi, if_pos rfl]; rfl
    · have h1' : ¬ k = j := fun e => h1 e.symm
      have h2' : ¬ k = i := fun e => h2 e.symm
      rw [if_neg h2, if_neg h2', if_neg h1', List.getD_eq_getElem?_getD]
end Sf
namespace Sf
/-! ### floors and standings -/
structure Fl (w h : Nat) : Prop where
  w1 : 1 ≤ w
  w4 : w ≤ 4
  h1 : 1 ≤ h
  h4 : h ≤ 4
  two : 2 ≤ w * h
theorem Fl.le {w h : Nat} (F : Fl w h) : w * h ≤ 16 := Nat.le_trans (Nat.mul_le_mul F.w4 F.h4) (by decide)
def iota (n : Nat) : List Int := (List.range n).map fun i : Nat => (i : Int)
theorem iota_len (n : Nat) : (iota n).length = n := by simp [iota]
theorem iota_nodup (n : Nat) : (iota n).Nodup := by
  unfold iota
  refine List.Pairwise.map _ (fun a b h => ?_) List.nodup_range
  omega
theorem iota_mem {n : Nat} {z : Int} : z ∈ iota n ↔ 0 ≤ z ∧ z < n := by
  unfold iota
  rw [List.mem_map]
  constructor
  · rintro ⟨a, h, rfl⟩
    have := List.mem_range.mp h
    omega
  · rintro ⟨h1, h2⟩
    exact ⟨z.toNat, List.mem_range.mpr (by omega), by omega⟩
theorem iota_sorted (n : Nat) : (iota n).Pairwise (· ≤ ·) := by
  unfold iota
  refine List.Pairwise.map (R := fun a b : Nat => a < b) _ (fun a b h => by omega) List.pairwise_lt_range
/-- a standing: all numbers from 0, each once -/
def Std (n : Nat) (st : List Int) : Prop := st.Perm (iota n)
theorem Std.len {n : Nat} {st : List Int} (S : Std n st) : st.length = n := S.length_eq.trans (iota_len n)
theorem Std.nodup {n : Nat} {st : List Int} (S : Std n st) : st.Nodup := S.nodup_iff.mpr (iota_nodup n)
theorem Std.mem {n : Nat} {st : List Int} (S : Std n st) {z : Int} : z ∈ st ↔ 0 ≤ z ∧ z < n := S.mem_iff.trans iota_mem
theorem Std.zero {n : Nat} {st : List Int} (S : Std n st) (h : 0 < n) : (0 : Int) ∈ st := S.mem.mpr ⟨by omega, by omega⟩
theorem Std.swap {n : Nat} {st : List Int} (S : Std n st) {i j : Nat} (hi : i < n) (hj : j < n) (h : i ≠ j) : Std n (swapAt st i j) := (swap_perm (by rw [S.len]; exact hi) (by rw [S.len]; exact hj) h).trans S
theorem sorted_same : ∀ {l m : List Int}, l.Perm m → l.Pairwise (· ≤ ·) → m.Pairwise (· ≤ ·) → l = m
  | [], m, h, _, _ => (List.nil_perm.mp h).symm
  | a :: l, [], h, _, _ => by simp at h
  | a :: l, b :: m, h, h1, h2 => by
    have ha := List.pairwise_cons.mp h1
    have hb := List.pairwise_cons.mp h2
    have e : a = b := by
      have m1 : b ∈ a :: l := h.mem_iff.mpr List.mem_cons_self
      have m2 : a ∈ b :: m := h.mem_iff.mp List.mem_cons_self
      rcases List.mem_cons.mp m1 with q | q
      · exact q.symm
      · rcases List.mem_cons.mp m2 with r | r
        · exact r
        · have := ha.1 b q
          have := hb.1 a r
          omega
    subst e
    rw [sorted_same ((List.perm_cons a).mp h) ha.2 hb.2]
theorem Std.sorted {n : Nat} {st out : List Int} (S : Std n st) (p : out.Perm st) (h : out.Pairwise (· ≤ ·)) : out = iota n := sorted_same (p.trans S) h (iota_sorted n)
/-- where the empty place is -/
def zat (st : List Int) : Nat := st.idxOf 0
theorem idx_first {st : List Int} {z : Int} (h : z ∈ st) : st.idxOf z < st.length ∧ st[st.idxOf z]? = some z ∧ ∀ m, m < st.idxOf z → st[m]? ≠ some z := by
  have hl := List.idxOf_lt_length_of_mem h
  refine ⟨hl, ?_, fun m hm e => ?_⟩
  · rw [List.getElem?_eq_getElem hl, List.getElem_idxOf hl]
  · have := List.not_of_lt_findIdx (p := (· == z)) (xs := st) (i := m) hm
    obtain ⟨h1, h2⟩ := List.getElem?_eq_some_iff.mp e
    rw [h2] at this
    simp at this
theorem nodup_get {st : List Int} (nd : st.Nodup) {i j : Nat} {x : Int} (a : st[i]? = some x) (b : st[j]? = some x) : i = j := by
  obtain ⟨h1, e1⟩ := List.getElem?_eq_some_iff.mp a
  obtain ⟨h2, e2⟩ := List.getElem?_eq_some_iff.mp b
  exact (List.getElem_inj nd).mp (e1.trans e2.symm)
theorem zat_of {st : List Int} (nd : st.Nodup) {i : Nat} (h : st[i]? = some 0) : zat st = i :=
  nodup_get nd (idx_first (List.mem_of_getElem? h)).2.1 h
section
variable {n : Nat} {st : List Int}
theorem Std.zat_lt (S : Std n st) (h : 0 < n) : zat st < n := by
  have := (idx_first (S.zero h)).1
  rw [S.len] at this
  exact this
theorem Std.zat_get (S : Std n st) (h : 0 < n) : st[zat st]? = some 0 := (idx_first (S.zero h)).2.1
theorem Std.zat_getD (S : Std n st) (h : 0 < n) : st.getD (zat st) 0 = 0 := by
  rw [List.getD_eq_getElem?_getD, S.zat_get h]; rfl
theorem Std.zat_swap (S : Std n st) (h : 0 < n) {t : Nat} (ht : t < n) (ne : zat st ≠ t) : zat (swapAt st (zat st) t) = t := by
  have hl := S.len
  have hz := S.zat_lt h
  refine zat_of (S.swap hz ht ne).nodup ?_
  have e := swap_get (l := st) (by omega : zat st < st.length) (by omega : t < st.length) ne t
  rw [if_neg (Ne.symm ne), if_pos rfl, S.zat_getD h] at e
  rw [getD_some (by rw [swap_len]; omega), e]
theorem Std.zat_exch (S : Std n st) (h : 0 < n) {i j : Nat} (hi : i < n) (hj : j < n) (ne : i ≠ j) (zi : zat st ≠ i) (zj : zat st ≠ j) : zat (swapAt st i j) = zat st := by
  have hl := S.len
  have hz := S.zat_lt h
  refine zat_of (S.swap hi hj ne).nodup ?_
  have e := swap_get (l := st) (by omega : i < st.length) (by omega : j < st.length) ne (zat st)
  rw [if_neg zi, if_neg zj, S.zat_getD h] at e
  rw [getD_some (by rw [swap_len]; omega), e]
end
/-! ### moves -/
inductive Dir where | up | down | left | right
  deriving DecidableEq
/-- the place of the tile that goes to the empty one at e -/
def tgt (w h e : Nat) : Dir → Option Nat
  | .up => if e / w + 1 < h then some (e % w + (e / w + 1) * w) else none
  | .down => if 1 ≤ e / w then some (e % w + (e / w - 1) * w) else none
  | .left => if e % w + 1 < w then some (e % w + 1 + e / w * w) else none
  | .right => if 1 ≤ e % w then some (e % w - 1 + e / w * w) else none
def step (w h : Nat) (st : List Int) (d : Dir) : Option (List Int) := (tgt w h (zat st) d).map fun t => swapAt st (zat st) t
theorem place_lt {w h x y : Nat} (hx : x < w) (hy : y < h) : x + y * w < w * h := by
  have h1 : (y + 1) * w ≤ h * w := Nat.mul_le_mul_right w hy
  have h2 : (y + 1) * w = y * w + w := Nat.succ_mul y w
  have h3 : h * w = w * h := Nat.mul_comm h w
  omega
theorem place_mod {w x y : Nat} (hx : x < w) : (x + y * w) % w = x := by
  rw [Nat.add_mul_mod_self_right, Nat.mod_eq_of_lt hx]
theorem place_div {w x y : Nat} (hx : x < w) : (x + y * w) / w = y := by
  rw [Nat.add_mul_div_right _ _ (by omega), Nat.div_eq_of_lt hx, Nat.zero_add]
theorem at_eq {w e : Nat} : e % w + e / w * w = e := Nat.mod_add_div' e w
/-- what a move's place is: on the floor, another one, and its x or its y off by one -/
theorem tgt_facts {w h e t : Nat} {d : Dir} (hw : 0 < w) (he : e < w * h) (ht : tgt w h e d = some t) : t < w * h ∧ e ≠ t ∧ (t % w + t / w) % 2 = (e % w + e / w + 1) % 2 ∧ (w = 1 ∨ h = 1 → t = e + 1 ∨ e = t + 1) := by
  have hx : e % w < w := Nat.mod_lt e hw
  have hy : e / w < h := Nat.div_lt_of_lt_mul he
  have hh : h = 1 → e / w = 0 := fun z => by subst z; rw [Nat.mul_one] at he; exact Nat.div_eq_of_lt he
  have hww : w = 1 → e % w = 0 := fun z => by subst z; exact Nat.mod_one e
  have ee := at_eq (w := w) (e := e)
  have main : ∀ {x y : Nat}, x < w → y < h → (x + y) % 2 = (e % w + e / w + 1) % 2 → t = x + y * w → (w = 1 ∨ h = 1 → t = e + 1 ∨ e = t + 1) → t < w * h ∧ e ≠ t ∧ (t % w + t / w) % 2 = (e % w + e / w + 1) % 2 ∧ (w = 1 ∨ h = 1 → t = e + 1 ∨ e = t + 1) := by
    intro x y h1 h2 h3 h4 h5
    have m := place_mod (y := y) h1
    have dd := place_div (y := y) h1
    rw [← h4] at m dd
    refine ⟨by rw [h4]; exact place_lt h1 h2, fun z => ?_, by rw [m, dd]; exact h3, h5⟩
    rw [← z] at m dd
    omega
  cases d with
  | up =>
    simp only [tgt] at ht
    by_cases hc : e / w + 1 < h
    · rw [if_pos hc] at ht
      have e1 := (Option.some.inj ht).symm
      refine main hx hc (by omega) e1 fun z => ?_
      rcases z with z | z
      · left
        have := hww z
        rw [z, Nat.mul_one] at e1 ee
        omega
      · omega
    · rw [if_neg hc] at ht
      cases ht
  | down =>
    simp only [tgt] at ht
    by_cases hc : 1 ≤ e / w
    · rw [if_pos hc] at ht
      have e1 := (Option.some.inj ht).symm
      refine main hx (by omega : e / w - 1 < h) (by omega) e1 fun z => ?_
      rcases z with z | z
      · right
        have := hww z
        rw [z, Nat.mul_one] at e1 ee
        rw [z] at hc
        omega
      · have := hh z
        omega
    · rw [if_neg hc] at ht
      cases ht
  | left =>
    simp only [tgt] at ht
    by_cases hc : e % w + 1 < w
    · rw [if_pos hc] at ht
      have e1 := (Option.some.inj ht).symm
      refine main hc hy (by omega) e1 fun z => ?_
      omega
    · rw [if_neg hc] at ht
      cases ht
  | right =>
    simp only [tgt] at ht
    by_cases hc : 1 ≤ e % w
    · rw [if_pos hc] at ht
      have e1 := (Option.some.inj ht).symm
      refine main (by omega : e % w - 1 < w) hy (by omega) e1 fun z => ?_
      omega
    · rw [if_neg hc] at ht
      cases ht
/-! ### the side -/
def sideM (w : Nat) (st : List Int) : Nat := (inv st + zat st % w + zat st / w) % 2
theorem Fl.pos {w h : Nat} (F : Fl w h) : 0 < w * h := by have := F.two; omega
theorem step_some {w h : Nat} {st st' : List Int} {d : Dir} (hs : step w h st d = some st') : ∃ t, tgt w h (zat st) d = some t ∧ st' = swapAt st (zat st) t := by
  unfold step at hs
  cases e : tgt w h (zat st) d with
  | none => rw [e] at hs; cases hs
  | some t => rw [e] at hs; exact ⟨t, rfl, (Option.some.inj hs).symm⟩
theorem step_std {w h : Nat} {st st' : List Int} {d : Dir} (F : Fl w h) (S : Std (w * h) st) (hs : step w h st d = some st') : Std (w * h) st' := by
  obtain ⟨t, ht, rfl⟩ := step_some hs
  have hz := S.zat_lt F.pos
  obtain ⟨a, b, _, _⟩ := tgt_facts F.w1 hz ht
  exact S.swap hz a b
theorem step_side {w h : Nat} {st st' : List Int} {d : Dir} (F : Fl w h) (S : Std (w * h) st) (hs : step w h st d = some st') : sideM w st' = sideM w st := by
  obtain ⟨t, ht, rfl⟩ := step_some hs
  have hz := S.zat_lt F.pos
  obtain ⟨a, b, c, _⟩ := tgt_facts F.w1 hz ht
  have hi := swap_inv S.nodup (by rw [S.len]; exact hz) (by rw [S.len]; exact a) b
  unfold sideM
  rw [S.zat_swap F.pos a b]
  omega
theorem exch_side {w h : Nat} {st : List Int} {i j : Nat} (F : Fl w h) (S : Std (w * h) st) (hi : i < w * h) (hj : j < w * h) (ne : i ≠ j) (zi : zat st ≠ i) (zj : zat st ≠ j) : sideM w (swapAt st i j) = 1 - sideM w st := by
  have hv := swap_inv S.nodup (by rw [S.len]; exact hi) (by rw [S.len]; exact hj) ne
  unfold sideM
  rw [S.zat_exch F.pos hi hj ne zi zj]
  omega
/-! ### the tiles in their order -/
def tiles (st : List Int) : List Int := st.filter fun z => decide (z ≠ 0)
theorem tiles_zero (p q : List Int) : tiles (p ++ 0 :: q) = tiles p ++ tiles q := by
  unfold tiles
  simp
theorem tiles_near (p q : List Int) (x : Int) : tiles (p ++ 0 :: x :: q) = tiles (p ++ x :: 0 :: q) := by
  unfold tiles
  simp [List.filter_append, List.filter_cons]
theorem step_tiles {w h : Nat} {st st' : List Int} {d : Dir} (F : Fl w h) (S : Std (w * h) st) (line : w = 1 ∨ h = 1) (hs : step w h st d = some st') : tiles st' = tiles st := by
  obtain ⟨t, ht, rfl⟩ := step_some hs
  have hz := S.zat_lt F.pos
  obtain ⟨a, b, _, c⟩ := tgt_facts F.w1 hz ht
  have z0 := S.zat_getD F.pos
  have hl := S.len
  rcases c line with c | c
  · obtain ⟨p, m, q, e, s, n1, n2⟩ := swap_lt (l := st) (i := zat st) (j := t) (by omega) (by omega)
    have : m = [] := List.length_eq_zero_iff.mp (by omega)
    subst this
    rw [s, z0]
    rw [z0] at e
    conv => rhs; rw [e]
    exact (tiles_near p q _).symm
  · obtain ⟨p, m, q, e, s, n1, n2⟩ := swap_lt (l := st) (i := t) (j := zat st) (by omega) (by omega)
    have : m = [] := List.length_eq_zero_iff.mp (by omega)
    subst this
    rw [swap_comm st b, s, z0]
    rw [z0] at e
    conv => rhs; rw [e]
    exact tiles_near p q _
theorem exch_tiles {st : List Int} {i j : Nat} (nd : st.Nodup) (hi : i < st.length) (hj : j < st.length) (ne : i ≠ j) (zi : st.getD i 0 ≠ 0) (zj : st.getD j 0 ≠ 0) : tiles (swapAt st i j) ≠ tiles st := by
  have main : ∀ {i j : Nat}, i < j → j < st.length → st.getD i 0 ≠ 0 → st.getD j 0 ≠ 0 → tiles (swapAt st i j) ≠ tiles st := fun {i j} hij hj zi zj h => by
    obtain ⟨p, m, q, e, s, n1, n2⟩ := swap_lt hij hj
    generalize st.getD i 0 = x at *
    generalize st.getD j 0 = y at *
    rw [s, e] at h
    unfold tiles at h
    rw [List.filter_append, List.filter_append] at h
    have h2 := List.append_cancel_left h
    rw [List.filter_cons_of_pos (by simpa using zj), List.filter_cons_of_pos (by simpa using zi)] at h2
    have exy : y = x := (List.cons.inj h2).1
    rw [e, exy] at nd
    exact (List.nodup_cons.mp (List.nodup_append.mp nd).2.1).1 (List.mem_append_right _ List.mem_cons_self)
  by_cases hij : i < j
  · exact main hij hj zi zj
  · rw [swap_comm st ne]
    exact main (by omega) hi zj zi
end Sf
namespace Sf
open PySem PySem.Spec PyProof.Rows L2
/-! ### lists of ints as values, as data -/
abbrev VI (ns : List Int) : List V := ns.map V.int
def dI (ns : List Int) : List PyData := ns.map PyData.int
theorem eqvAll_I : ∀ ns ms : List Int, PyData.eqvAll (dI ns) (dI ms) = decide (ns = ms)
  | [], [] => by simp [dI, PyData.eqvAll]
  | [], _ :: _ => by simp [dI, PyData.eqvAll]
  | _ :: _, [] => by simp [dI, PyData.eqvAll]
  | n :: ns, m :: ms => by
    have ih := eqvAll_I ns ms
    show PyData.eqvAll (.int n :: dI ns) (.int m :: dI ms) = _
    rw [PyData.eqvAll, ih]
    have e : PyData.eqv (.int n) (.int m) = decide (n = m) := by
      simp only [PyData.eqv]
      by_cases h : n = m <;> simp [h]
    rw [e]
    by_cases h : n = m <;> by_cases h' : ns = ms <;> simp [h, h']
theorem eqv_lst (ns ms : List Int) : PyData.eqv (.list (dI ns)) (.list (dI ms)) = decide (ns = ms) := by
  rw [PyData.eqv]; exact eqvAll_I ns ms
theorem eqv_tup (ns ms : List Int) : PyData.eqv (.tuple (dI ns)) (.tuple (dI ms)) = decide (ns = ms) := by
  rw [PyData.eqv]; exact eqvAll_I ns ms
theorem dI_lay : ∀ ns : List Int, PyData.canLayAll0 (dI ns) = true
  | [] => by simp [dI, PyData.canLayAll0]
  | n :: ns => by
    show PyData.canLayAll0 (.int n :: dI ns) = true
    rw [PyData.canLayAll0, dI_lay ns]; simp [PyData.canLay0]
theorem dI_depth : ∀ ns : List Int, PyData.depthAll (dI ns) ≤ 1
  | [] => by simp [dI, PyData.depthAll]
  | n :: ns => by
    show PyData.depthAll (.int n :: dI ns) ≤ 1
    have := dI_depth ns
    simp only [PyData.depthAll, PyData.depth]; omega
theorem shaped_lst (ns : List Int) : SeqAt.shaped (.list (dI ns)) = true := by
  have h := dI_depth ns
  show (PyData.canLay0 (.list (dI ns)) && decide (PyData.depth (.list (dI ns)) ≤ 64)) = true
  rw [Bool.and_eq_true]
  exact ⟨by simp only [PyData.canLay0]; exact dI_lay ns, decide_eq_true (by simp only [PyData.depth]; omega)⟩
theorem shaped_tup (ns : List Int) : SeqAt.shaped (.tuple (dI ns)) = true := by
  have h := dI_depth ns
  show (PyData.canLay0 (.tuple (dI ns)) && decide (PyData.depth (.tuple (dI ns)) ≤ 64)) = true
  rw [Bool.and_eq_true]
  exact ⟨by simp only [PyData.canLay0]; exact dI_lay ns, decide_eq_true (by simp only [PyData.depth]; omega)⟩
section
variable {K : PySem.W.Frag} {H H' : Hp} {a : Addr}
theorem dpAll_I : ∀ ns : List Int, DpAll K H (VI ns) (dI ns)
  | [] => .nil
  | n :: ns => .cons (.int n) (dpAll_I ns)
theorem dp_lst {ns : List Int} (h : SqL K H a (VI ns)) : Dp K H (.ref a) (.list (dI ns)) := .lst h (dpAll_I ns)
theorem dp_tup {ns : List Int} (h : SqT K H a (VI ns)) : Dp K H (.ref a) (.tuple (dI ns)) := .tup h (dpAll_I ns)
theorem sm_tup {xs : List V} (e : Same H H') (h : SqT K H a xs) : SqT K H' a xs := by
  rcases h with (h | ⟨o, h⟩) | h
  · exact .inl (.inl (e _ _ h))
  · exact .inl (.inr ⟨o, e _ _ h⟩)
  · exact .inr h
theorem same_upd {p : Addr} {o : HO} (n : H p = none) : Same H (upd H p o) := fun b u e => by rw [upd_ne (ne_of_none e n)]; exact e
theorem sm_upd {p : Addr} {o : HO} (s : Same H H') (n : H' p = none) : Same H (upd H' p o) := s.trans (same_upd n)
theorem sqt_upd {p : Addr} {xs : List V} : SqT K (upd H p (.tup xs)) p xs := SqT.of upd_same
theorem sql_upd {p : Addr} {xs : List V} : SqL K (upd H p (.lst xs)) p xs := SqL.of upd_same
end
theorem rgV_iota (n : Nat) : rgV 0 (n : Int) = VI (iota n) := by
  unfold rgV iota VI
  rw [List.map_map]
  have : ((n : Int) - 0).toNat = n := by omega
  rw [this]
  exact List.map_congr_left fun i _ => by simp
/-! ### what is handed in as a floor, as a standing -/
abbrev Kn (K : PySem.W.Frag) (H : Hp) (v : V) : Prop := ∃ T, TyB K H v T
theorem tyb_int {K : PySem.W.Frag} {H : Hp} {v : V} {T : String} (t : TyB K H v T) (e : T = "int") : ∃ i, v = .int i := by
  cases t with
  | int i => exact ⟨i, rfl⟩
  | _ => exact absurd e (by decide)
def okSide (v : V) : Prop := ∃ n : Nat, v = .int n ∧ 1 ≤ n ∧ n ≤ 4
inductive FlV (K : PySem.W.Frag) (H : Hp) : V → Option (Nat × Nat) → Prop
  | good {a : Addr} {w h : Nat} : SqT K H a [.int w, .int h] → Fl w h → FlV K H (.ref a) (some (w, h))
  | kind {v : V} {T : String} : TyB K H v T → T ≠ "tuple" → FlV K H v none
  | size {a : Addr} {xs : List V} : SqT K H a xs → xs.length ≠ 2 → FlV K H (.ref a) none
  | side {a : Addr} {x y : V} : SqT K H a [x, y] → Kn K H x → Kn K H y → (¬ ∃ w h : Nat, x = .int w ∧ y = .int h ∧ Fl w h) → FlV K H (.ref a) none
inductive StV (K : PySem.W.Frag) (H : Hp) (n : Nat) : V → Option (List Int) → Prop
  | good {a : Addr} {st : List Int} : TD H a (VI st) → Std n st → StV K H n (.ref a) (some st)
  | kind {v : V} {T : String} : TyB K H v T → T ≠ "tuple" → StV K H n v none
  | size {a : Addr} {xs : List V} : SqT K H a xs → xs.length ≠ n → StV K H n (.ref a) none
  | items {a : Addr} {xs : List V} : SqT K H a xs → xs.length = n → (∀ x ∈ xs, Kn K H x) → (¬ ∃ st : List Int, xs = VI st ∧ Std n st) → StV K H n (.ref a) none
def spNum (K : PySem.W.Frag) : Sp := fun vs H Q _ => ∃ v T, vs = [v] ∧ TyB K H v T ∧ Q (.bl (decide (T = "int"))) H
def spCount (K : PySem.W.Frag) : Sp := fun vs H Q _ => ∃ (a : Addr) (w h : Nat), vs = [.ref a] ∧ SqT K H a [.int w, .int h] ∧ w ≤ 4 ∧ h ≤ 4 ∧ Q (.int ((w * h : Nat) : Int)) H
def spNeedF (K : PySem.W.Frag) (CF : Addr) : Sp := fun vs H Q E => ∃ v o, vs = [v] ∧ FlV K H v o ∧ (o.isSome → Q .non H) ∧ (o = none → E (.ref CF) none H)
def spNeedS (K : PySem.W.Frag) (CF CS : Addr) : Sp := fun vs H Q E => ∃ f v o, vs = [f, v] ∧ FlV K H f o ∧ (o = none → E (.ref CF) none H) ∧
  ∀ w h, o = some (w, h) → ∃ o2, StV K H (w * h) v o2 ∧ (o2.isSome → ∀ H', Same H H' → Q .non H') ∧ (o2 = none → ∀ H', Same H H' → E (.ref CS) none H')
end Sf
namespace Sf
open PySem PySem.Spec PyProof.Rows L2
/-- a def as it stands behind the top -/
structure Df (K : PySem.W.Frag) (mg : Str → Option Value) (x : Str) (st : Stmt) (ps : List Str) where
  f : Addr
  fd : FuncData
  F : Fun K x x st f fd
  b : Binds K fd ps []
  g : mg x = some (.ref f)
abbrev Df.k {K : PySem.W.Frag} {mg : Str → Option Value} {x : Str} {st : Stmt} {ps : List Str} (D : Df K mg x st ps) : PySem.W.keepIn K (.ref D.f) = true := D.F.kp
abbrev FnD (P : Program) (w : World) {K : PySem.W.Frag} {mg : Str → Option Value} (base : Heap) (CX : CXT) (k : Nat) {x : Str} {st : Stmt} {ps : List Str} (D : Df K mg x st ps) (sp : Sp) : Prop := FnOk P w K mg base CX k D.f D.fd ps sp
/-- an exception class of the program's own, over ValueError, without methods -/
structure Ec (K : PySem.W.Frag) (mg : Str → Option Value) (x : Str) where
  C : Addr
  g : mg x = some (.ref C)
  xi : PySem.W.excIn K C [.type "ValueError", .type "Exception", .type "BaseException", .type "object"] "ValueError.__new__" = true
  k : PySem.W.keepIn K (.ref C) = true
  sb : PySem.W.subIn K (.ref C) (.type "BaseException") = some true
  ty : PySem.W.typeIn K (.ref C) = some (.type "type")
end Sf
namespace Sf
open PySem PySem.Spec PyProof.Rows L2
theorem iteDT {c A B : Prop} [Decidable c] (hc : c) (h : A) : if decide c = true then A else B := by
  rw [decide_eq_true hc]
  exact iteT h
theorem iteDF {c A B : Prop} [Decidable c] (hc : ¬ c) (h : B) : if decide c = true then A else B := by
  rw [decide_eq_false hc]
  exact iteF h
theorem iteNT {c A B : Prop} [Decidable c] (hc : ¬ c) (h : A) : if (!decide c) = true then A else B := by
  rw [decide_eq_false hc]
  exact iteT h
theorem iteNF {c A B : Prop} [Decidable c] (hc : c) (h : B) : if (!decide c) = true then A else B := iteNS hc h
theorem iteN2 {b : Bool} {A B : Prop} (h1 : b = false → A) (h2 : b = true → B) : if (!b) = true then A else B := by
  cases b
  · exact iteT (h1 rfl)
  · exact iteF (h2 rfl)
section
variable {X : Cx} {CX : CXT} {k : Nat} {x : Str} {st : Stmt} {ps : List Str} {sp : Sp} {E : XK} {p pos : Pos} {e : Expr} {es : List Expr} {t : TA}
/-- a def's call -/
theorem pe_d (D : Df X.K X.mg x st ps) (G : FnOk X.prog X.w X.K X.mg X.base CX k D.f D.fd ps sp) (hr : Room k X.A) (hx : Passes CX X E) (ha : PA X (e :: es) t) (hg : Gl X x := by rfl)
    (hdb : (x == ("__debug__" : Str)) = false := by decide) (he : starEach (e :: es) X.env = (false, eval e X.env) :: starEach es X.env := by rfl) (hpl : (backTo pos (starEach es X.env)).any (·.1) = false := by rfl) :
    PE X (.Call (.Name x p) (e :: es) [] pos) (tCall sp [] E t) := pe_call G hr hg D.g D.k D.b .nil hx ha hdb he hpl
end
/-- raise X('..') -/
theorem ps_rs {X : Cx} {x m : Str} {W : WX} {j : Nat} {p p2 pos pos2 : Pos} (D : Ec X.K X.mg x) (hc : X.calm = true) (tk : Takes X W) (hg : Gl X x := by rfl) (hdb : (x == ("__debug__" : Str)) = false := by decide) :
    PS X (.Raise (some (.Call (.Name x p) [.Constant (.str m) j p2] [] pos)) none pos2) (fun _ σ H => W (.ref D.C) none σ H) :=
  ps_raise hc tk (pmk_own PySem.F.excBase_ValueError D.xi D.g D.k (raises_own D.sb D.ty) hg hdb)
section
variable {X : Cx} {p pos : Pos} {e : Expr} {es : List Expr} {t : TA} {id T : String} {r : List V → Hp → VK → Prop} {x : Str}
/-- built-in functions and types by their names -/
theorem pe_b (hc : CallR X (.builtin id) r) (hm : X.mg x = none) (ha : PA X (e :: es) t) (hv : bootBuiltins x = some (.builtin id) := by decide +kernel) (hg : Gl X x := by rfl) (hn : x ≠ "__name__" := by decide) (hdb : (x == ("__debug__" : Str)) = false := by decide)
    (he : starEach (e :: es) X.env = (false, eval e X.env) :: starEach es X.env := by rfl) (hpl : (backTo pos (starEach es X.env)).any (·.1) = false := by rfl) : PE X (.Call (.Name x p) (e :: es) [] pos) (tCB r t) := pe_callB hc hg hm hv ha hn hdb he hpl
theorem pe_t (hc : CallR X (.type T) r) (hm : X.mg x = none) (ha : PA X (e :: es) t) (hv : bootBuiltins x = some (.type T) := by decide +kernel) (hg : Gl X x := by rfl) (hn : x ≠ "__name__" := by decide) (hdb : (x == ("__debug__" : Str)) = false := by decide)
    (he : starEach (e :: es) X.env = (false, eval e X.env) :: starEach es X.env := by rfl) (hpl : (backTo pos (starEach es X.env)).any (·.1) = false := by rfl) : PE X (.Call (.Name x p) (e :: es) [] pos) (tCB r t) := pe_callTy hc hg hm hv ha hn hdb he hpl
theorem pe_ty (hm : X.mg x = none) (hv : bootBuiltins x = some (.type T) := by decide +kernel) (hg : Gl X x := by rfl) (hn : x ≠ "__name__" := by decide) (hd : (x == ("__debug__" : Str)) = false := by decide) : PE X (.Name x pos) (tC (.ty T)) := pe_bltn hg hm hv rfl hn hd
theorem pa1 {a : Expr} {ta : TE} (ha : PE X a ta) (hs : starEach (a :: []) X.env = (false, eval a X.env) :: starEach [] X.env := by rfl) : PA X [a] (tCons ta tNil) := pa_cons ha pa_nil hs
/-- a module's int -/
theorem pe_k {n : Int} {tk : Tok} (hm : X.mg x = some (.int n tk)) (hg : Gl X x := by rfl) (hd : (x == ("__debug__" : Str)) = false := by decide) : PE X (.Name x pos) (tC (.int n)) := pe_glob hg hm ⟨tk, rfl⟩ hd
end
end Sf
namespace Sf
open PySem PySem.Spec PyProof.Rows L2
theorem ints_of : ∀ {xs : List V}, (∀ (j : Nat) (z : V), xs[j]? = some z → ∃ n : Int, z = .int n) → ∃ ns : List Int, xs = VI ns
  | [], _ => ⟨[], rfl⟩
  | x :: xs, h => by
    obtain ⟨n, rfl⟩ := h 0 x rfl
    obtain ⟨ns, e⟩ := ints_of (xs := xs) fun j z hz => h (j + 1) z (by simpa using hz)
    exact ⟨n :: ns, by rw [e]; rfl⟩
theorem VI_inj : ∀ {a b : List Int}, VI a = VI b → a = b
  | [], [], _ => rfl
  | [], _ :: _, h => by cases h
  | _ :: _, [], h => by cases h
  | x :: xs, y :: ys, h => by
    have h' : V.int x :: VI xs = V.int y :: VI ys := h
    injection h' with h1 h2
    injection h1 with h1
    rw [h1, VI_inj h2]
theorem VI_get {ns : List Int} {j : Nat} {z : V} (h : (VI ns)[j]? = some z) : ∃ n, ns[j]? = some n ∧ z = .int n := by
  rw [List.getElem?_map] at h
  cases e : ns[j]? with
  | none => rw [e] at h; cases h
  | some n => rw [e] at h; exact ⟨n, rfl, (Option.some.inj h).symm⟩
theorem cut_drop (xs : List V) (k : Nat) (hk : k ≤ xs.length) : cutV xs (some (k : Int)) none = xs.drop k := by
  unfold cutV
  rw [HT.sIx_nat, HT.sIx_none, Nat.min_eq_left hk, List.take_of_length_le (by rw [List.length_drop]; omega)]
theorem VI_drop (ns : List Int) (k : Nat) : (VI ns).drop k = VI (ns.drop k) := (List.map_drop).symm
theorem cnt_take {z : Int} {l : List Int} {k : Nat} {y : Int} (h : l[k]? = some y) : cnt z (l.take (k + 1)) = cnt z (l.take k) + if y < z then 1 else 0 := by
  rw [List.take_succ, h, cnt_append]
  show _ + cnt z [y] = _
  rw [cnt_cons]
  show _ + (0 + _) = _
  omega
theorem inv_drop {l : List Int} {i : Nat} {z : Int} (h : l[i]? = some z) : inv (l.drop i) = cnt z (l.drop (i + 1)) + inv (l.drop (i + 1)) := by
  obtain ⟨hi, e⟩ := List.getElem?_eq_some_iff.mp h
  rw [List.drop_eq_getElem_cons hi, e]
  rfl
theorem tiles_take {l : List Int} {i : Nat} {z : Int} (h : l[i]? = some z) : tiles (l.take (i + 1)) = if z = 0 then tiles (l.take i) else tiles (l.take i) ++ [z] := by
  unfold tiles
  rw [List.take_succ, h, List.filter_append]
  by_cases e : z = 0
  · rw [if_pos e]
    subst e
    show _ ++ [(0 : Int)].filter _ = _
    simp
  · rw [if_neg e]
    show _ ++ [z].filter _ = _
    rw [List.filter_cons_of_pos (by simpa using e)]
    rfl
theorem tiles_len (l : List Int) : (tiles l).length ≤ l.length := List.length_filter_le _ _
abbrev nV (n : Nat) : V := .int (n : Int)
def spCR (K : PySem.W.Frag) : Sp := fun vs H Q _ => ∃ (a : Addr) (p w h : Nat), vs = [.ref a, nV p] ∧ SqT K H a [nV w, nV h] ∧ Fl w h ∧ ∀ t, H t = none → Q (.ref t) (upd H t (.tup [nV (p % w), nV (p / w)]))
def spLine (K : PySem.W.Frag) : Sp := fun vs H Q _ => ∃ (a : Addr) (w h : Nat), vs = [.ref a] ∧ SqT K H a [nV w, nV h] ∧ Q (.bl (decide (w = 1 ∨ h = 1))) H
def spFalls (K : PySem.W.Frag) : Sp := fun vs H Q _ => ∃ (a : Addr) (st : List Int), vs = [.ref a] ∧ SqT K H a (VI st) ∧ ∀ H', Same H H' → Q (nV (inv st)) H'
def spTiles (K : PySem.W.Frag) : Sp := fun vs H Q _ => ∃ (a : Addr) (st : List Int), vs = [.ref a] ∧ SqT K H a (VI st) ∧ st.length ≤ 16 ∧ ∀ H' t, Same H H' → H' t = some (.lst (VI (tiles st))) → Q (.ref t) H'
/-- side, is_joined, how_many: of good ones, or the refusals in their order -/
def spSide (K : PySem.W.Frag) (CF CS : Addr) : Sp := fun vs H Q E => ∃ f v o, vs = [f, v] ∧ FlV K H f o ∧ (o = none → E (.ref CF) none H) ∧
  ∀ w h, o = some (w, h) → ∃ o2, StV K H (w * h) v o2 ∧ (∀ st, o2 = some st → ∀ H', Same H H' → Q (nV (sideM w st)) H') ∧ (o2 = none → ∀ H', Same H H' → E (.ref CS) none H')
/-- are two standings joined, by the program's own test -/
def joinM (w h : Nat) (st st' : List Int) : Bool := if w = 1 ∨ h = 1 then decide (tiles st = tiles st') else decide (sideM w st = sideM w st')
def spJoin (K : PySem.W.Frag) (CF CS : Addr) : Sp := fun vs H Q E => ∃ f v v' o, vs = [f, v, v'] ∧ FlV K H f o ∧ (o = none → E (.ref CF) none H) ∧
  ∀ w h, o = some (w, h) → ∃ o2, StV K H (w * h) v o2 ∧ (o2 = none → ∀ H', Same H H' → E (.ref CS) none H') ∧
    ∀ st, o2 = some st → ∃ o3, StV K H (w * h) v' o3 ∧ (o3 = none → ∀ H', Same H H' → E (.ref CS) none H') ∧ (∀ st', o3 = some st' → ∀ H', Same H H' → Q (.bl (joinM w h st st')) H')
section
variable {K : PySem.W.Frag} {H H' : Hp}
theorem sm_ty {v : V} {T : String} (s : Same H H') (t : TyB K H v T) : TyB K H' v T := by
  cases t with
  | non => exact .non
  | bl b => exact .bl b
  | int i => exact .int i
  | str x => exact .str x
  | byt b => exact .byt b
  | lst h => exact .lst (s.seq h)
  | tup h => exact .tup (sm_tup s h)
  | dK h => exact .dK (s _ _ h)
theorem sm_fl {v : V} {o : Option (Nat × Nat)} (s : Same H H') (t : FlV K H v o) : FlV K H' v o := by
  cases t with
  | good h F => exact .good (sm_tup s h) F
  | kind t n => exact .kind (sm_ty s t) n
  | size h n => exact .size (sm_tup s h) n
  | side h kx ky n =>
    obtain ⟨tx, kx⟩ := kx
    obtain ⟨ty, ky⟩ := ky
    exact .side (sm_tup s h) ⟨tx, sm_ty s kx⟩ ⟨ty, sm_ty s ky⟩ n
theorem sm_st {n : Nat} {v : V} {o : Option (List Int)} (s : Same H H') (t : StV K H n v o) : StV K H' n v o := by
  cases t with
  | good h S => exact .good (h.same s) S
  | kind t n => exact .kind (sm_ty s t) n
  | size h n => exact .size (sm_tup s h) n
  | items h e k n => exact .items (sm_tup s h) e (fun x hx => (k x hx).imp fun _ q => sm_ty s q) n
end
end Sf
namespace Sf
open PySem PySem.Spec PyProof.Rows L2
/-! ### the promises of a law's own helpers -/
def spDraw (K : PySem.W.Frag) : Sp := fun vs H Q _ => ∃ (a : Addr) (ns : List Int) (k : Int), vs = [.ref a, .int k] ∧ SqL K H a (VI ns) ∧ 0 ≤ k ∧ k ≤ 100000 ∧ ∀ (n : Nat) (H' : Hp), n < 2 ^ 30 → Same H H' → Q (nV n) H'
def spWhole : Sp := fun vs H Q _ => ∃ i : Int, vs = [.int i] ∧ Q (.bl true) H
def spFloor : Sp := fun vs H Q _ => ∃ n : Nat, vs = [nV n] ∧ ∀ (t : Addr) (w h : Nat) (H' : Hp), H t = none → Fl w h → Same H H' → H' t = some (.tup [nV w, nV h]) → Q (.ref t) H'
def spStanding (K : PySem.W.Frag) : Sp := fun vs H Q _ => ∃ (a f : Addr) (ns : List Int) (k : Int) (w h : Nat), vs = [.ref a, .int k, .ref f] ∧ SqL K H a (VI ns) ∧ 0 ≤ k ∧ k ≤ 10000 ∧ SqT K H f [nV w, nV h] ∧ Fl w h ∧
  ∀ (p : Addr) (st : List Int) (H' : Hp), H p = none → Std (w * h) st → Same H H' → TD H' p (VI st) → Q (.ref p) H'
def dS : Dir → Str
  | .up => "up"
  | .down => "down"
  | .left => "left"
  | .right => "right"
def spMoved (K : PySem.W.Frag) : Sp := fun vs H Q _ => ∃ (f s : Addr) (d : Dir) (w h : Nat) (st : List Int), vs = [.ref f, .ref s, .str (dS d)] ∧ SqT K H f [nV w, nV h] ∧ Fl w h ∧ TD H s (VI st) ∧ Std (w * h) st ∧
  (step w h st d = none → ∀ H', Same H H' → Q .non H') ∧ ∀ st', step w h st d = some st' → ∀ (p : Addr) (H' : Hp), H p = none → Same H H' → TD H' p (VI st') → Q (.ref p) H'
def dirs : List Dir := [.up, .down, .left, .right]
def wordsM (w h : Nat) (st : List Int) : List Dir := dirs.filter fun d => (step w h st d).isSome
def wV (ds : List Dir) : List V := ds.map fun d => .str (dS d)
def spWords (K : PySem.W.Frag) : Sp := fun vs H Q _ => ∃ (f s : Addr) (w h : Nat) (st : List Int), vs = [.ref f, .ref s] ∧ SqT K H f [nV w, nV h] ∧ Fl w h ∧ TD H s (VI st) ∧ Std (w * h) st ∧
  ∀ (p : Addr) (H' : Hp), H p = none → Same H H' → H' p = some (.lst (wV (wordsM w h st))) → Q (.ref p) H'
/-- draws -/
theorem draw_nat {c k : Int} (h0 : 0 ≤ k) (h1 : k ≤ 100000) : let n := c % 1000000007 + 7919 * k + 13
    (-(2 ^ 64) < n ∧ n < 2 ^ 64) ∧ (-(2 ^ 64) < n * n % 1000000007 ∧ n * n % 1000000007 < 2 ^ 64) ∧ ∃ m : Nat, n * n % 1000000007 * n % 998244353 / 11 = (m : Int) ∧ m < 2 ^ 30 := by
  intro n
  have hc1 : 0 ≤ c % 1000000007 := Int.emod_nonneg _ (by decide)
  have hc2 : c % 1000000007 < 1000000007 := Int.emod_lt_of_pos _ (by decide)
  have hn : n = c % 1000000007 + 7919 * k + 13 := rfl
  have hr1 : 0 ≤ n * n % 1000000007 := Int.emod_nonneg _ (by decide)
  have hr2 : n * n % 1000000007 < 1000000007 := Int.emod_lt_of_pos _ (by decide)
  generalize n * n % 1000000007 = r at hr1 hr2 ⊢
  have hs1 : 0 ≤ r * n % 998244353 := Int.emod_nonneg _ (by decide)
  have hs2 : r * n % 998244353 < 998244353 := Int.emod_lt_of_pos _ (by decide)
  generalize r * n % 998244353 = q at hs1 hs2 ⊢
  refine ⟨⟨by omega, by omega⟩, ⟨by omega, by omega⟩, (q / 11).toNat, by omega, by omega⟩
end Sf
namespace Sf
open PySem PySem.Spec PyProof.Rows L2
/-! ### rows of pairs -/
/-- the rows so far: at each place j a tuple of some int and j -/
def RowsAt (H : Hp) (ts : List Addr) : Prop := ∀ (j : Nat) (t : Addr), ts[j]? = some t → ∃ d : Int, H t = some (.tup [.int d, nV j])
theorem RowsAt.same {H H' : Hp} {ts : List Addr} (s : Same H H') (r : RowsAt H ts) : RowsAt H' ts := fun j t e => let ⟨d, h⟩ := r j t e; ⟨d, s _ _ h⟩
theorem RowsAt.more {H : Hp} {ts : List Addr} {t : Addr} {d : Int} (r : RowsAt H ts) (h : H t = some (.tup [.int d, nV ts.length])) : RowsAt H (ts ++ [t]) := fun j u e => by
  by_cases hj : j < ts.length
  · rw [List.getElem?_append_left hj] at e
    exact r j u e
  · rw [List.getElem?_append_right (by omega)] at e
    have : j = ts.length := by
      have := (List.getElem?_eq_some_iff.mp e).1
      simp at this
      omega
    subst this
    simp at e
    subst e
    exact ⟨d, h⟩
/-- the second of a row -/
def sndOf (H : Hp) (v : V) : Int := match v with
  | .ref t => (match H t with | some (.tup [_, .int z]) => z | _ => 0)
  | _ => 0
theorem sndOf_at {H : Hp} {t : Addr} {d z : Int} (h : H t = some (.tup [.int d, .int z])) : sndOf H (.ref t) = z := by
  show (match H t with | some (.tup [_, .int z]) => z | _ => 0) = z
  rw [h]
theorem rows_iota {H : Hp} {ts : List Addr} (r : RowsAt H ts) : (ts.map V.ref).map (sndOf H) = iota ts.length := by
  refine List.ext_getElem? fun j => ?_
  unfold iota
  rw [List.map_map, List.getElem?_map, List.getElem?_map]
  by_cases hj : j < ts.length
  · obtain ⟨d, h⟩ := r j _ (List.getElem?_eq_getElem hj)
    rw [List.getElem?_eq_getElem hj, List.getElem?_range hj]
    show some (sndOf H (.ref ts[j])) = some (j : Int)
    rw [sndOf_at h]
  · rw [List.getElem?_eq_none (by omega), List.getElem?_eq_none (by simp; omega)]
    rfl
theorem take_map_more {α β : Type} {f : α → β} {l : List α} {i : Nat} {x : α} (h : l[i]? = some x) : (l.take (i + 1)).map f = (l.take i).map f ++ [f x] := by
  rw [List.take_succ, h, List.map_append]
  rfl
end Sf
namespace Sf
open PySem PySem.Spec PyProof.Rows L2
theorem ixT {X : Cx} {K : PySem.W.Frag} (h : X.K = K) : IxR X (rIxT K) := h ▸ ix_tup
theorem ixL {X : Cx} {K : PySem.W.Frag} (h : X.K = K) : IxR X (rIxL K) := h ▸ ix_list
end Sf
namespace Sf
open PySem PySem.Spec PyProof.Rows L2
/-- column and row of the place that a move means -/
def crd (w e : Nat) : Dir → Int × Int
  | .up => ((e % w : Nat), (e / w : Nat) + 1)
  | .down => ((e % w : Nat), (e / w : Nat) - 1)
  | .left => ((e % w : Nat) + 1, (e / w : Nat))
  | .right => ((e % w : Nat) - 1, (e / w : Nat))
theorem tgt_out {w h e : Nat} {d : Dir} (hw : 0 < w) (he : e < w * h) (o : (crd w e d).1 < 0 ∨ (crd w e d).2 < 0 ∨ (w : Int) ≤ (crd w e d).1 ∨ (h : Int) ≤ (crd w e d).2) : tgt w h e d = none := by
  have hx : e % w < w := Nat.mod_lt e hw
  have hy : e / w < h := Nat.div_lt_of_lt_mul he
  cases d <;> simp only [crd] at o <;> simp only [tgt] <;> generalize e % w = X at * <;> generalize e / w = Y at * <;> exact if_neg (by omega)
theorem tgt_in {w h e : Nat} {d : Dir} (hw : 0 < w) (he : e < w * h) (o : ¬ ((crd w e d).1 < 0 ∨ (crd w e d).2 < 0 ∨ (w : Int) ≤ (crd w e d).1 ∨ (h : Int) ≤ (crd w e d).2)) : ∃ t : Nat, tgt w h e d = some t ∧ (crd w e d).1 + (crd w e d).2 * w = (t : Int) := by
  have hx : e % w < w := Nat.mod_lt e hw
  have hy : e / w < h := Nat.div_lt_of_lt_mul he
  have key : ∀ {x y : Nat} {a b : Int}, a = (x : Int) → b = (y : Int) → a + b * w = ((x + y * w : Nat) : Int) := fun {x y a b} h1 h2 => by
    rw [h1, h2, Int.natCast_add, Int.natCast_mul]
  cases d <;> simp only [crd] at o ⊢ <;> simp only [tgt] <;> generalize e % w = X at * <;> generalize e / w = Y at *
  · exact ⟨_, if_pos (by omega), key rfl (by omega)⟩
  · exact ⟨_, if_pos (by omega), key rfl (by omega)⟩
  · exact ⟨_, if_pos (by omega), key (by omega) rfl⟩
  · exact ⟨_, if_pos (by omega), key (by omega) rfl⟩
theorem crd_by {w e : Nat} {d : Dir} (he : e < 100) : -(2 ^ 64) < (crd w e d).2 ∧ (crd w e d).2 < 2 ^ 64 := by
  have : e / w ≤ e := Nat.div_le_self _ _
  cases d <;> simp only [crd] <;> generalize e / w = Y at * <;> omega
theorem ixN_at {n t : Nat} {k : Int} (e : k = (t : Int)) (h : t < n) : ixN n k = some t := by
  subst e
  unfold ixN
  rw [if_pos (by omega), if_pos (by omega)]
  rfl
theorem VI_set (l : List Int) (t : Nat) (v : Int) : (VI l).set t (.int v) = VI (l.set t v) := (List.map_set).symm
theorem map_zero {n : Nat} {st : List Int} (S : Std n st) (h : 0 < n) (v : Int) : (st.map fun z => if z = 0 then v else z) = st.set (zat st) v := by
  refine List.ext_getElem? fun j => ?_
  rw [List.getElem?_map, List.getElem?_set]
  have hz := S.zat_get h
  by_cases hj : zat st = j
  · subst hj
    rw [if_pos rfl, if_pos (List.getElem?_eq_some_iff.mp hz).1, hz]
    rfl
  · rw [if_neg hj]
    cases e : st[j]? with
    | none => rfl
    | some z =>
      have : z ≠ 0 := fun q => hj (nodup_get S.nodup hz (by rw [e, q]))
      show some (if z = 0 then v else z) = some z
      rw [if_neg this]
theorem swap_zero {n : Nat} {st : List Int} (S : Std n st) (h : 0 < n) (t : Nat) : ((st.map fun z => if z = 0 then st.getD t 0 else z).set t 0) = swapAt st (zat st) t := by
  rw [map_zero S h]
  unfold swapAt
  rw [S.zat_getD h]
theorem dS_eq (d d' : Dir) : decide (V.str (dS d) = V.str (dS d')) = decide (d = d') := by
  cases d <;> cases d' <;> decide +kernel
end Sf
namespace Sf
open PySem PySem.Spec PyProof.Rows L2
theorem inv_snoc (a : Int) : ∀ l : List Int, inv (l ++ [a]) = inv l + l.countP fun b => decide (a < b)
  | [] => by simp [inv, cnt]
  | c :: l => by
    have ih := inv_snoc a l
    have e : cnt c (l ++ [a]) = cnt c l + (if a < c then 1 else 0) := by
      rw [cnt_append, cnt_cons]
      show _ + (0 + _) = _
      omega
    show cnt c (l ++ [a]) + inv (l ++ [a]) = cnt c l + inv l + _
    rw [e, ih, List.countP_cons]
    by_cases h : a < c <;> simp [h] <;> omega
/-- so many ahead of the place p are greater -/
def ahead (l : List Int) (z : Int) : Nat := l.countP fun b => decide (z < b)
theorem ahead_take {z : Int} {l : List Int} {k : Nat} {y : Int} (h : l[k]? = some y) : ahead (l.take (k + 1)) z = ahead (l.take k) z + if z < y then 1 else 0 := by
  unfold ahead
  rw [List.take_succ, h, List.countP_append]
  show _ + List.countP _ [y] = _
  rw [List.countP_cons]
  by_cases e : z < y <;> simp [e]
theorem inv_take {l : List Int} {p : Nat} {z : Int} (h : l[p]? = some z) : inv (l.take (p + 1)) = inv (l.take p) + ahead (l.take p) z := by
  rw [List.take_succ, h]
  exact inv_snoc z _
/-- the places of tiles among the first i -/
def plN (st : List Int) (i : Nat) : List Nat := (List.range i).filter fun j => decide (0 < st.getD j 0)
def plV (st : List Int) (i : Nat) : List V := (plN st i).map nV
theorem plV_more (st : List Int) (i : Nat) : plV st (i + 1) = if 0 < st.getD i 0 then plV st i ++ [nV i] else plV st i := by
  unfold plV plN
  rw [List.range_succ, List.filter_append]
  by_cases h : 0 < st.getD i 0
  · rw [if_pos h, List.filter_cons_of_pos (by simpa using h), List.map_append]
    rfl
  · rw [if_neg h, List.filter_cons_of_neg (by simpa using h)]
    simp
theorem plN_nodup (st : List Int) (i : Nat) : (plN st i).Nodup := List.Pairwise.filter _ List.nodup_range
theorem plN_mem {st : List Int} {i j : Nat} (h : j ∈ plN st i) : j < i ∧ 0 < st.getD j 0 := by
  unfold plN at h
  obtain ⟨a, b⟩ := List.mem_filter.mp h
  exact ⟨List.mem_range.mp a, of_decide_eq_true b⟩
theorem plN_len (st : List Int) (i : Nat) : (plN st i).length ≤ i := by
  unfold plN
  exact Nat.le_trans (List.length_filter_le _ _) (by simp)
theorem other_ne {s r L : Nat} (hs : s < L) (hr : r < L - 1) : (s + 1 + r) % L ≠ s := by
  by_cases h : s + 1 + r < L
  · rw [Nat.mod_eq_of_lt h]
    omega
  · have e : (s + 1 + r) % L = s + 1 + r - L := by
      rw [Nat.mod_eq_sub_mod (by omega), Nat.mod_eq_of_lt (by omega)]
    omega
theorem plV_len (st : List Int) (m : Nat) : (plV st m).length = (plN st m).length := by unfold plV; rw [List.length_map]
theorem pick_two {st : List Int} {m N : Nat} (n : Nat) (hN : (plN st m).length = N) (h : 1 < N) : ∃ a c : Nat, a < m ∧ c < m ∧ a ≠ c ∧ 0 < st.getD a 0 ∧ 0 < st.getD c 0 ∧
    (plV st m)[n % N]? = some (nV a) ∧ (plV st m)[(n % N + 1 + n / 16 % (N - 1)) % N]? = some (nV c) := by
  subst hN
  have hmem : ∀ {q : Nat} (hq : q < (plN st m).length), (plV st m)[q]? = some (nV (plN st m)[q]) ∧ (plN st m)[q] < m ∧ 0 < st.getD (plN st m)[q] 0 := fun {q} hq => by
    refine ⟨?_, plN_mem (List.getElem_mem hq)⟩
    unfold plV
    rw [List.getElem?_map, List.getElem?_eq_getElem hq]
    rfl
  have hsp : n % (plN st m).length < (plN st m).length := Nat.mod_lt _ (by omega)
  have hr1 : n / 16 % ((plN st m).length - 1) < (plN st m).length - 1 := Nat.mod_lt _ (by omega)
  have hix : (n % (plN st m).length + 1 + n / 16 % ((plN st m).length - 1)) % (plN st m).length < (plN st m).length := Nat.mod_lt _ (by omega)
  have hne := other_ne hsp hr1
  obtain ⟨ga, la, pa⟩ := hmem hsp
  obtain ⟨gc, lc, pc⟩ := hmem hix
  exact ⟨_, _, la, lc, fun q => hne ((List.getElem_inj (plN_nodup st m)).mp q).symm, pa, pc, ga, gc⟩
theorem pick_idx (n N : Nat) (h : 1 < N) : (((n % N : Nat) : Int) + 1 + ((n : Int) / 16 % ((N : Int) - 1))) % (N : Int) = (((n % N + 1 + n / 16 % (N - 1)) % N : Nat) : Int) := by
  have e3 : (N : Int) - 1 = ((N - 1 : Nat) : Int) := by omega
  have e4 : (n : Int) / 16 % ((N - 1 : Nat) : Int) = ((n / 16 % (N - 1) : Nat) : Int) := rfl
  have e2 : ((n % N : Nat) : Int) + 1 + ((n : Int) / 16 % ((N : Int) - 1)) = ((n % N + 1 + n / 16 % (N - 1) : Nat) : Int) := by
    rw [e3, e4]
    omega
  rw [e2]
  rfl
def spLSide (K : PySem.W.Frag) : Sp := fun vs H Q _ => ∃ (f s : Addr) (w h : Nat) (st : List Int), vs = [.ref f, .ref s] ∧ SqT K H f [nV w, nV h] ∧ Fl w h ∧ TD H s (VI st) ∧ Std (w * h) st ∧ Q (nV (sideM w st)) H
def spExch (K : PySem.W.Frag) : Sp := fun vs H Q _ => ∃ (s : Addr) (n m : Nat) (st : List Int), vs = [.ref s, nV n] ∧ TD H s (VI st) ∧ Std m st ∧ 0 < m ∧ m ≤ 16 ∧
  ∀ (p : Addr) (st' : List Int) (H' : Hp), H p = none → Same H H' → TD H' p (VI st') → (st' = st ∨ ∃ i j, i < m ∧ j < m ∧ i ≠ j ∧ 0 < st.getD i 0 ∧ 0 < st.getD j 0 ∧ st' = swapAt st i j) → Q (.ref p) H'
def spRight (K : PySem.W.Frag) : Sp := fun vs H Q _ => ∃ (f a b : Addr) (w h due : Nat) (st st' : List Int), vs = [.ref f, .ref a, .ref b, nV due] ∧ SqT K H f [nV w, nV h] ∧ Fl w h ∧ TD H a (VI st) ∧ Std (w * h) st ∧ TD H b (VI st') ∧ Std (w * h) st' ∧
  sideM w st' = due ∧ joinM w h st st' = true ∧ joinM w h st' st = true ∧ ∀ H', Same H H' → Q (.bl true) H'
end Sf
namespace Sf
open PySem PySem.Spec PyProof.Rows L2
theorem words_some {w h : Nat} {st : List Int} (F : Fl w h) (S : Std (w * h) st) : 0 < (wordsM w h st).length := by
  have he := S.zat_lt F.pos
  have hx : zat st % w < w := Nat.mod_lt _ F.w1
  have hy : zat st / w < h := Nat.div_lt_of_lt_mul he
  have key : ∀ d : Dir, (tgt w h (zat st) d).isSome = true → 0 < (wordsM w h st).length := fun d hd => by
    refine List.length_pos_of_mem (a := d) ?_
    unfold wordsM
    refine List.mem_filter.mpr ⟨by cases d <;> simp [dirs], ?_⟩
    unfold step
    rw [Option.isSome_map]
    exact hd
  by_cases h1 : 1 < w
  · by_cases h2 : zat st % w + 1 < w
    · exact key .left (by simp only [tgt]; rw [if_pos h2]; rfl)
    · exact key .right (by simp only [tgt]; rw [if_pos (by omega)]; rfl)
  · have : w = 1 := by have := F.w1; omega
    have := F.two
    have h3 : 1 < h := by subst w; omega
    by_cases h2 : zat st / w + 1 < h
    · exact key .up (by simp only [tgt]; rw [if_pos h2]; rfl)
    · exact key .down (by simp only [tgt]; rw [if_pos (by omega)]; rfl)
theorem words_step {w h : Nat} {st : List Int} {j : Nat} {d : Dir} (e : (wordsM w h st)[j]? = some d) : ∃ st', step w h st d = some st' := by
  have hm := List.mem_of_getElem? e
  unfold wordsM at hm
  exact Option.isSome_iff_exists.mp (List.mem_filter.mp hm).2
theorem wV_get {ds : List Dir} {j : Nat} (h : j < ds.length) : ∃ d, ds[j]? = some d ∧ (wV ds)[j]? = some (.str (dS d)) := by
  refine ⟨ds[j], List.getElem?_eq_getElem h, ?_⟩
  unfold wV
  rw [List.getElem?_map, List.getElem?_eq_getElem h]
  rfl
theorem wV_len (ds : List Dir) : (wV ds).length = ds.length := by unfold wV; rw [List.length_map]
/-- what holds of a standing that came by moves -/
structure Came (w h : Nat) (st st' : List Int) : Prop where
  S : Std (w * h) st'
  side : sideM w st' = sideM w st
  line : w = 1 ∨ h = 1 → tiles st' = tiles st
theorem Came.step {w h : Nat} {st st' st'' : List Int} {d : Dir} (F : Fl w h) (c : Came w h st st') (e : step w h st' d = some st'') : Came w h st st'' :=
  ⟨step_std F c.S e, (step_side F c.S e).trans c.side, fun l => (step_tiles F c.S l e).trans (c.line l)⟩
theorem Came.join {w h : Nat} {st st' : List Int} (c : Came w h st st') : joinM w h st st' = true ∧ joinM w h st' st = true := by
  unfold joinM
  by_cases l : w = 1 ∨ h = 1
  · rw [if_pos l, if_pos l, c.line l]
    exact ⟨decide_eq_true rfl, decide_eq_true rfl⟩
  · rw [if_neg l, if_neg l, c.side]
    exact ⟨decide_eq_true rfl, decide_eq_true rfl⟩
theorem side_le (w : Nat) (st : List Int) : sideM w st ≤ 1 := by unfold sideM; omega
theorem Came.exch {w h : Nat} {st st' : List Int} {i j : Nat} (F : Fl w h) (c : Came w h st st') (hi : i < w * h) (hj : j < w * h) (ne : i ≠ j) (pi : 0 < st'.getD i 0) (pj : 0 < st'.getD j 0) :
    Std (w * h) (swapAt st' i j) ∧ sideM w (swapAt st' i j) = 1 - sideM w st ∧ joinM w h st (swapAt st' i j) = false ∧ joinM w h (swapAt st' i j) st = false := by
  have z0 := c.S.zat_getD F.pos
  have zi : zat st' ≠ i := fun q => by rw [← q, z0] at pi; omega
  have zj : zat st' ≠ j := fun q => by rw [← q, z0] at pj; omega
  have hs := exch_side F c.S hi hj ne zi zj
  rw [c.side] at hs
  have hl := side_le w st
  have hn : sideM w st ≠ sideM w (swapAt st' i j) := by omega
  refine ⟨c.S.swap hi hj ne, hs, ?_, ?_⟩
  all_goals
    unfold joinM
    by_cases l : w = 1 ∨ h = 1
    · have ht := exch_tiles c.S.nodup (by rw [c.S.len]; exact hi) (by rw [c.S.len]; exact hj) ne (by omega) (by omega)
      rw [c.line l] at ht
      rw [if_pos l]
      first
        | exact decide_eq_false ht
        | exact decide_eq_false (Ne.symm ht)
    · rw [if_neg l]
      first
        | exact decide_eq_false hn
        | exact decide_eq_false (Ne.symm hn)
theorem neg_cut (xs : List V) : (cutV xs none (some 63)).length ≤ xs.length := cutV_length _ _ _
end Sf
namespace Sf
open PySem PySem.Spec PyProof.Rows L2
/-! ### which class a kept exception is of -/
structure Kf (K : PySem.W.Frag) (cs : List Addr) (S D : Addr) (i : Nat) : Prop where
  ec : ExcC K D
  at_ : ∀ j c, cs[j]? = some c → PySem.W.kitOne K (.ref D) (.ref c) = some (decide (j = i))
  sl : PySem.W.kitOne K (.ref D) (.ref S) = some true
  ve : PySem.W.kitOne K (.ref D) (.type "ValueError") = some true
  ex : PySem.W.exmOne K (.ref D) (.ref S) = some true
theorem at7 {K : PySem.W.Frag} {D : Addr} {i : Nat} {c0 c1 c2 c3 c4 c5 c6 : Addr} (h0 : PySem.W.kitOne K (.ref D) (.ref c0) = some (decide (0 = i))) (h1 : PySem.W.kitOne K (.ref D) (.ref c1) = some (decide (1 = i))) (h2 : PySem.W.kitOne K (.ref D) (.ref c2) = some (decide (2 = i)))
    (h3 : PySem.W.kitOne K (.ref D) (.ref c3) = some (decide (3 = i))) (h4 : PySem.W.kitOne K (.ref D) (.ref c4) = some (decide (4 = i))) (h5 : PySem.W.kitOne K (.ref D) (.ref c5) = some (decide (5 = i))) (h6 : PySem.W.kitOne K (.ref D) (.ref c6) = some (decide (6 = i))) :
    ∀ j c, [c0, c1, c2, c3, c4, c5, c6][j]? = some c → PySem.W.kitOne K (.ref D) (.ref c) = some (decide (j = i)) := fun j c e => by
  match j, e with
  | 0, e => cases e; exact h0
  | 1, e => cases e; exact h1
  | 2, e => cases e; exact h2
  | 3, e => cases e; exact h3
  | 4, e => cases e; exact h4
  | 5, e => cases e; exact h5
  | 6, e => cases e; exact h6
  | n + 7, e => simp at e
/-- isinstance of a kept exception -/
def rIsX (K : PySem.W.Frag) : List V → Hp → VK → Prop := fun xs H Q => ∃ (a D : Addr) (c : V) (cv : Value) (b : Bool), xs = [.ref a, c] ∧ H a = some (ExK D a) ∧ ExcC K D ∧ ClsV c cv ∧ PySem.W.kitOne K (.ref D) cv = some b ∧ Q (.bl b) H
section
variable {X : Cx}
theorem call_isX : CallR X (.builtin "isinstance") (rIsX X.K) := by
  intro pins s σ H xs us Q I r h
  obtain ⟨a, D, c, cv, b, rfl, hH, C, hc, e, q⟩ := h
  obtain ⟨u1, u2, rfl, r1, r2⟩ := vals2 r
  cases (show u1 = Value.ref a from r1)
  have e2 := hc.eq r2
  subst e2
  obtain ⟨⟨oe, J⟩, _, _⟩ := (show ObjOk X.prog X.w H s.heap a (ExK D a) from I.hok a _ hH)
  exact PySem.W.kia_one (PySem.W.handS_kitx_exc C.hg C.hk C.hs C.hd C.ha C.hn C.ht C.hm) I.kIn J e (fun z => nomatch z) fun tk => ⟨.bl b, H, I.kept (t' := tk) fun _ _ z => z, rfl, q⟩
/-- a class of the program's own, by its name, as a value -/
theorem pe_ec {x : Str} {pos : Pos} (D : Ec X.K X.mg x) (hg : Gl X x := by rfl) (hd : (x == ("__debug__" : Str)) = false := by decide) : PE X (.Name x pos) (tC (.ref D.C)) := pe_glob hg D.g rfl hd
end
def wl : List Str := ["floor", "standing", "move", "number", "text", "many", "nothing"]
/-- the seven tests of an exception of the i-th class: what is found -/
def spWord (K : PySem.W.Frag) (cs : List Addr) (S : Addr) : Sp := fun vs H Q _ => ∃ (a D : Addr) (i : Nat) (z : Str), vs = [.ref a] ∧ Kf K cs S D i ∧ wl[i]? = some z ∧ H a = some (ExK D a) ∧
  ∀ (p : Addr) (H' : Hp), H p = none → Same H H' → H' p = some (.lst [.str z]) → Q (.ref p) H'
end Sf
namespace Sf
theorem mem_dirs (d : Dir) : d ∈ dirs := by cases d <;> simp [dirs]
/-! ### all orders of some numbers -/
def permsOf : Nat → List Int → List (List Int)
  | 0, _ => [[]]
  | k + 1, l => l.flatMap fun a => (permsOf k (l.erase a)).map (a :: ·)
theorem permsOf_mem : ∀ {k : Nat} {l x : List Int}, x.Perm l → l.length = k → x ∈ permsOf k l
  | 0, l, x, h, e => by
    have : l = [] := List.length_eq_zero_iff.mp e
    subst this
    have : x = [] := List.perm_nil.mp h
    subst this
    exact List.mem_singleton.mpr rfl
  | k + 1, l, [], h, e => by
    have := h.length_eq
    rw [e] at this
    cases this
  | k + 1, l, a :: x, h, e => by
    have ha : a ∈ l := h.mem_iff.mp List.mem_cons_self
    have h2 : x.Perm (l.erase a) := by
      have := h.erase a
      rw [List.erase_cons_head] at this
      exact this
    have h3 : (l.erase a).length = k := by rw [List.length_erase_of_mem ha, e]; rfl
    exact List.mem_flatMap.mpr ⟨a, ha, List.mem_map.mpr ⟨x, permsOf_mem h2 h3, rfl⟩⟩
theorem permsOf_nodup : ∀ {k : Nat} {l : List Int}, l.Nodup → (permsOf k l).Nodup
  | 0, l, _ => by unfold permsOf; exact List.nodup_cons.mpr ⟨by simp, List.nodup_nil⟩
  | k + 1, l, h => by
    unfold permsOf List.Nodup
    rw [List.pairwise_flatMap]
    refine ⟨fun a _ => ?_, ?_⟩
    · rw [List.pairwise_map]
      exact List.Pairwise.imp (fun {x y} n e => n (List.cons.inj e).2) (permsOf_nodup (h.erase a))
    · refine List.Pairwise.imp (fun {a b} n x hx y hy e => ?_) h
      obtain ⟨x', _, rfl⟩ := List.mem_map.mp hx
      obtain ⟨y', _, rfl⟩ := List.mem_map.mp hy
      exact n (List.cons.inj e).1
def allS (n : Nat) : List (List Int) := permsOf n (iota n)
theorem allS_mem {n : Nat} {st : List Int} (S : Std n st) : st ∈ allS n := permsOf_mem S (iota_len n)
theorem allS_nodup (n : Nat) : (allS n).Nodup := permsOf_nodup (iota_nodup n)
theorem nodup_le {α : Type} [DecidableEq α] : ∀ {l m : List α}, l.Nodup → (∀ x ∈ l, x ∈ m) → l.length ≤ m.length
  | [], _, _, _ => Nat.zero_le _
  | x :: l, m, hn, hs => by
    obtain ⟨h1, h2⟩ := List.nodup_cons.mp hn
    have hx : x ∈ m := hs x List.mem_cons_self
    have ih := nodup_le (m := m.erase x) h2 fun y hy => by
      have hne : y ≠ x := fun e => h1 (e ▸ hy)
      exact (List.mem_erase_of_ne hne).2 (hs y (List.mem_cons_of_mem _ hy))
    have e := List.length_erase_of_mem hx
    have hp := List.length_pos_of_mem hx
    rw [List.length_cons]
    omega
/-! ### ways of so many moves -/
inductive Path (w h : Nat) : Nat → List Int → List Int → Prop
  | nil {st : List Int} : Path w h 0 st st
  | snoc {n : Nat} {st st' st'' : List Int} {d : Dir} : Path w h n st st' → step w h st' d = some st'' → Path w h (n + 1) st st''
def Reach (w h : Nat) (st st' : List Int) : Prop := ∃ n, Path w h n st st'
section
variable {w h : Nat}
theorem Path.std {n : Nat} {st st' : List Int} (F : Fl w h) (S : Std (w * h) st) (p : Path w h n st st') : Std (w * h) st' := by
  induction p with
  | nil => exact S
  | snoc _ e ih => exact step_std F (ih S) e
theorem Path.app {n m : Nat} {a b c : List Int} (p : Path w h n a b) (q : Path w h m b c) : Path w h (n + m) a c := by
  induction q with
  | nil => exact p
  | snoc _ e ih => exact .snoc (ih p) e
def opp : Dir → Dir
  | .up => .down
  | .down => .up
  | .left => .right
  | .right => .left
theorem tgt_back {e t : Nat} {d : Dir} (hw : 0 < w) (he : e < w * h) (ht : tgt w h e d = some t) : tgt w h t (opp d) = some e := by
  have hx : e % w < w := Nat.mod_lt e hw
  have hy : e / w < h := Nat.div_lt_of_lt_mul he
  have ee := at_eq (w := w) (e := e)
  cases d with
  | up =>
    simp only [tgt] at ht
    by_cases hc : e / w + 1 < h
    · rw [if_pos hc] at ht
      have e1 := (Option.some.inj ht).symm
      have m := place_mod (y := e / w + 1) hx
      have dd := place_div (y := e / w + 1) hx
      rw [← e1] at m dd
      simp only [opp, tgt, m, dd]
      rw [if_pos (Nat.le_add_left 1 _), Nat.add_sub_cancel, ee]
    · rw [if_neg hc] at ht; cases ht
  | down =>
    simp only [tgt] at ht
    by_cases hc : 1 ≤ e / w
    · rw [if_pos hc] at ht
      have e1 := (Option.some.inj ht).symm
      have m := place_mod (y := e / w - 1) hx
      have dd := place_div (y := e / w - 1) hx
      rw [← e1] at m dd
      simp only [opp, tgt, m, dd]
      rw [if_pos (by omega), show e / w - 1 + 1 = e / w by omega, ee]
    · rw [if_neg hc] at ht; cases ht
  | left =>
    simp only [tgt] at ht
    by_cases hc : e % w + 1 < w
    · rw [if_pos hc] at ht
      have e1 := (Option.some.inj ht).symm
      have m := place_mod (y := e / w) hc
      have dd := place_div (y := e / w) hc
      rw [← e1] at m dd
      simp only [opp, tgt, m, dd]
      rw [if_pos (by omega), Nat.add_sub_cancel, ee]
    · rw [if_neg hc] at ht; cases ht
  | right =>
    simp only [tgt] at ht
    by_cases hc : 1 ≤ e % w
    · rw [if_pos hc] at ht
      have e1 := (Option.some.inj ht).symm
      have m := place_mod (y := e / w) (show e % w - 1 < w by omega)
      have dd := place_div (y := e / w) (show e % w - 1 < w by omega)
      rw [← e1] at m dd
      simp only [opp, tgt, m, dd]
      rw [if_pos (by omega), show e % w - 1 + 1 = e % w by omega, ee]
    · rw [if_neg hc] at ht; cases ht
theorem swap_swap {l : List Int} {i j : Nat} (hi : i < l.length) (hj : j < l.length) (n : i ≠ j) : swapAt (swapAt l i j) j i = l := by
  refine List.ext_getElem? fun k => ?_
  by_cases hk : k < l.length
  · have h1 := swap_get (l := swapAt l i j) (i := j) (j := i) (by rw [swap_len]; exact hj) (by rw [swap_len]; exact hi) (Ne.symm n) k
    have h2 := swap_get hi hj n
    rw [getD_some (by rw [swap_len, swap_len]; exact hk), getD_some hk, h1, h2, h2, h2]
    by_cases a : k = j
    · subst a; rw [if_pos rfl, if_pos rfl]
    · rw [if_neg a]
      by_cases b : k = i
      · subst b; rw [if_pos rfl, if_neg (Ne.symm n), if_pos rfl]
      · rw [if_neg b, if_neg b, if_neg a]
  · rw [List.getElem?_eq_none (by rw [swap_len, swap_len]; omega), List.getElem?_eq_none (by omega)]
theorem step_back {st st' : List Int} {d : Dir} (F : Fl w h) (S : Std (w * h) st) (e : step w h st d = some st') : step w h st' (opp d) = some st := by
  obtain ⟨t, ht, rfl⟩ := step_some e
  have hz := S.zat_lt F.pos
  obtain ⟨a, b, _, _⟩ := tgt_facts F.w1 hz ht
  have z := S.zat_swap F.pos a b
  unfold step
  rw [z, tgt_back F.w1 hz ht]
  show some (swapAt (swapAt st (zat st) t) t (zat st)) = some st
  rw [swap_swap (by rw [S.len]; exact hz) (by rw [S.len]; exact a) b]
theorem Path.back {n : Nat} {st st' : List Int} (F : Fl w h) (S : Std (w * h) st) (p : Path w h n st st') : Path w h n st' st := by
  induction p with
  | nil => exact .nil
  | @snoc n a b c d p e ih =>
    have q : Path w h 1 c b := .snoc .nil (step_back F (p.std F S) e)
    have r := q.app (ih S)
    rw [Nat.add_comm] at r
    exact r
theorem Path.side {n : Nat} {st st' : List Int} (F : Fl w h) (S : Std (w * h) st) (p : Path w h n st st') : sideM w st' = sideM w st ∧ (w = 1 ∨ h = 1 → tiles st' = tiles st) := by
  induction p with
  | nil => exact ⟨rfl, fun _ => rfl⟩
  | snoc p e ih => exact ⟨(step_side F (p.std F S) e).trans (ih S).1, fun l => (step_tiles F (p.std F S) l e).trans ((ih S).2 l)⟩
theorem join_iff {st st' : List Int} : joinM w h st st' = true ↔ if w = 1 ∨ h = 1 then tiles st = tiles st' else sideM w st = sideM w st' := by
  unfold joinM
  by_cases l : w = 1 ∨ h = 1
  · rw [if_pos l, if_pos l, decide_eq_true_iff]
  · rw [if_neg l, if_neg l, decide_eq_true_iff]
theorem join_comm {st st' : List Int} : joinM w h st st' = joinM w h st' st := by
  have : joinM w h st st' = true ↔ joinM w h st' st = true := by
    rw [join_iff, join_iff]
    by_cases l : w = 1 ∨ h = 1
    · rw [if_pos l, if_pos l]; exact eq_comm
    · rw [if_neg l, if_neg l]; exact eq_comm
  exact Bool.eq_iff_iff.mpr this
theorem join_trans {a b c : List Int} (x : joinM w h a b = true) : joinM w h a c = joinM w h b c := by
  have : joinM w h a c = true ↔ joinM w h b c = true := by
    rw [join_iff] at x
    rw [join_iff, join_iff]
    by_cases l : w = 1 ∨ h = 1
    · rw [if_pos l] at x; rw [if_pos l, if_pos l, x]
    · rw [if_neg l] at x; rw [if_neg l, if_neg l, x]
  exact Bool.eq_iff_iff.mpr this
theorem Reach.join {st st' : List Int} (F : Fl w h) (S : Std (w * h) st) (p : Reach w h st st') : joinM w h st st' = true := by
  obtain ⟨n, p⟩ := p
  obtain ⟨a, b⟩ := p.side F S
  rw [join_iff]
  by_cases l : w = 1 ∨ h = 1
  · rw [if_pos l, b l]
  · rw [if_neg l, a]
end
/-! ### a run over a small floor, by numbers -/
def enc (st : List Int) : Nat := st.foldr (fun z c => z.toNat + 8 * c) 0
def dec : Nat → Nat → List Int
  | 0, _ => []
  | n + 1, c => ((c % 8 : Nat) : Int) :: dec n (c / 8)
theorem dec_enc : ∀ {n : Nat} {st : List Int}, st.length = n → (∀ z ∈ st, 0 ≤ z ∧ z < 8) → dec n (enc st) = st
  | 0, [], _, _ => rfl
  | n + 1, a :: st, e, h => by
    have ha := h a List.mem_cons_self
    have e1 : enc (a :: st) = a.toNat + 8 * enc st := rfl
    have h1 : (a.toNat + 8 * enc st) % 8 = a.toNat := by omega
    have h2 : (a.toNat + 8 * enc st) / 8 = enc st := by omega
    have h3 : ((a.toNat : Nat) : Int) = a := by omega
    rw [e1]
    show ((((a.toNat + 8 * enc st) % 8 : Nat)) : Int) :: dec n ((a.toNat + 8 * enc st) / 8) = _
    rw [h1, h2, h3, dec_enc (by simpa using e) fun z hz => h z (List.mem_cons_of_mem _ hz)]
theorem Std.dec {n : Nat} {st : List Int} (S : Std n st) (h8 : n ≤ 8) : dec n (enc st) = st := dec_enc S.len fun z hz => by
  have := S.mem.mp hz
  omega
@[inline] def forceN {α : Type} (n : Nat) (k : Nat → α) : α := match n with
  | 0 => k 0
  | m + 1 => k (m + 1)
theorem forceN_eq {α : Type} (n : Nat) (k : Nat → α) : forceN n k = k n := by cases n <;> rfl
/-- the codes that one comes to by a move -/
def nbc (w h c : Nat) : List Nat := dirs.filterMap fun d => (step w h (dec (w * h) c) d).map enc
def runC (w h : Nat) : Nat → List Nat → Nat → Nat
  | 0, _, seen => seen
  | _ + 1, [], seen => seen
  | n + 1, c :: todo, seen => go (fun t s => runC w h n t s) (nbc w h c) todo seen
where
  go (k : List Nat → Nat → Nat) : List Nat → List Nat → Nat → Nat
    | [], todo, seen => k todo seen
    | x :: xs, todo, seen => forceN x fun x => if seen.testBit x then go k xs todo seen else forceN (seen ||| (1 <<< x)) fun seen => go k xs (x :: todo) seen
def OkC (w h : Nat) (st : List Int) (c : Nat) : Prop := ∃ st', Std (w * h) st' ∧ Reach w h st st' ∧ enc st' = c
theorem nbc_ok {w h : Nat} {st : List Int} {c x : Nat} (F : Fl w h) (h8 : w * h ≤ 8) (o : OkC w h st c) (hx : x ∈ nbc w h c) : OkC w h st x := by
  obtain ⟨st', S', ⟨n, p⟩, rfl⟩ := o
  unfold nbc at hx
  rw [S'.dec h8] at hx
  obtain ⟨d, _, e⟩ := List.mem_filterMap.mp hx
  obtain ⟨s2, e2, rfl⟩ := Option.map_eq_some_iff.mp e
  exact ⟨s2, step_std F S' e2, ⟨n + 1, .snoc p e2⟩, rfl⟩
theorem go_ok {w h : Nat} {st : List Int} {k : List Nat → Nat → Nat} (hk : ∀ t s, (∀ c ∈ t, OkC w h st c) → (∀ i, s.testBit i = true → OkC w h st i) → ∀ i, (k t s).testBit i = true → OkC w h st i) :
    ∀ (xs todo : List Nat) (seen : Nat), (∀ c ∈ xs, OkC w h st c) → (∀ c ∈ todo, OkC w h st c) → (∀ i, seen.testBit i = true → OkC w h st i) → ∀ i, (runC.go k xs todo seen).testBit i = true → OkC w h st i
  | [], todo, seen, _, ht, hs, i, hi => hk todo seen ht hs i hi
  | x :: xs, todo, seen, hx, ht, hs, i, hi => by
    unfold runC.go at hi
    rw [forceN_eq] at hi
    have hx2 : ∀ c ∈ xs, OkC w h st c := fun c hc => hx c (List.mem_cons_of_mem _ hc)
    by_cases q : seen.testBit x = true
    · rw [if_pos q] at hi
      exact go_ok hk xs todo seen hx2 ht hs i hi
    · rw [if_neg q, forceN_eq] at hi
      refine go_ok hk xs (x :: todo) _ hx2 (fun c hc => ?_) (fun j hj => ?_) i hi
      · rcases List.mem_cons.mp hc with e | e
        · exact e ▸ hx x List.mem_cons_self
        · exact ht c e
      · rw [Nat.testBit_or, Bool.or_eq_true] at hj
        rcases hj with hj | hj
        · exact hs j hj
        · have : x = j := by
            rw [Nat.one_shiftLeft, Nat.testBit_two_pow] at hj
            exact of_decide_eq_true hj
          exact this ▸ hx x List.mem_cons_self
theorem run_ok {w h : Nat} {st : List Int} (F : Fl w h) (h8 : w * h ≤ 8) : ∀ (n : Nat) (todo : List Nat) (seen : Nat), (∀ c ∈ todo, OkC w h st c) → (∀ i, seen.testBit i = true → OkC w h st i) → ∀ i, (runC w h n todo seen).testBit i = true → OkC w h st i
  | 0, _, seen, _, hs, i, hi => hs i hi
  | n + 1, [], seen, _, hs, i, hi => hs i hi
  | n + 1, c :: todo, seen, ht, hs, i, hi => by
    unfold runC at hi
    exact go_ok (fun t s a b => run_ok F h8 n t s a b) _ _ _ (fun x hx => nbc_ok F h8 (ht c List.mem_cons_self) hx) (fun x hx => ht x (List.mem_cons_of_mem _ hx)) hs i hi
def howM (w h : Nat) : Nat := if w = 1 ∨ h = 1 then w * h else (((List.range (w * h)).foldl (fun p i => p * (i + 1)) 1)) / 2
def checkF (w h : Nat) (reps : List (List Int)) : Bool :=
  go (allS (w * h)) (fun q => ((allS (w * h)).all q) && reps.all fun r => ((allS (w * h)).filter fun st => joinM w h r st).length == howM w h) reps fun st => reps.any fun r => joinM w h r st
where
  go (al : List (List Int)) (k : (List Int → Bool) → Bool) : List (List Int) → (List Int → Bool) → Bool
    | [], p => k p
    | r :: rs, p => forceN (runC w h 2000 [enc r] (1 <<< enc r)) fun m => go al k rs fun st => (!joinM w h r st || m.testBit (enc st)) && p st
end Sf
namespace Sf
/-! ### small floors: joined ones are reached, and how many they are -/
theorem check_go {w h : Nat} {al : List (List Int)} {k : (List Int → Bool) → Bool} : ∀ (reps : List (List Int)) (p : List Int → Bool), checkF.go w h al k reps p = true →
    ∃ q, k q = true ∧ ∀ st, q st = true → p st = true ∧ ∀ r ∈ reps, joinM w h r st = true → (runC w h 2000 [enc r] (1 <<< enc r)).testBit (enc st) = true
  | [], p, e => ⟨p, e, fun st z => ⟨z, fun r m => nomatch m⟩⟩
  | r :: rs, p, e => by
    unfold checkF.go at e
    rw [forceN_eq] at e
    obtain ⟨q, hq, hs⟩ := check_go rs _ e
    refine ⟨q, hq, fun st z => ?_⟩
    obtain ⟨y, y2⟩ := hs st z
    obtain ⟨y1, y3⟩ := Bool.and_eq_true_iff.mp y
    refine ⟨y3, fun r' m j => ?_⟩
    rcases List.mem_cons.mp m with m | m
    · subst m
      rcases Bool.or_eq_true_iff.mp y1 with y1 | y1
      · rw [j] at y1; cases y1
      · exact y1
    · exact y2 r' m j
theorem enc_inj {n : Nat} {a b : List Int} (A : Std n a) (B : Std n b) (h8 : n ≤ 8) (e : enc a = enc b) : a = b := by
  rw [← A.dec h8, e, B.dec h8]
theorem check_ok {w h : Nat} {reps : List (List Int)} (F : Fl w h) (h8 : w * h ≤ 8) (hr : ∀ r ∈ reps, Std (w * h) r) (e : checkF w h reps = true) :
    (∀ st, Std (w * h) st → (∃ r ∈ reps, joinM w h r st = true) ∧ ∀ r ∈ reps, joinM w h r st = true → Reach w h r st) ∧ ∀ r ∈ reps, ((allS (w * h)).filter fun st => joinM w h r st).length = howM w h := by
  unfold checkF at e
  obtain ⟨q, hq, hs⟩ := check_go reps _ e
  obtain ⟨h1, h2⟩ := Bool.and_eq_true_iff.mp hq
  refine ⟨fun st S => ?_, fun r m => ?_⟩
  · obtain ⟨z1, z2⟩ := hs st (List.all_eq_true.mp h1 st (allS_mem S))
    refine ⟨List.any_eq_true.mp z1, fun r m j => ?_⟩
    have o0 : OkC w h r (enc r) := ⟨r, hr r m, ⟨0, .nil⟩, rfl⟩
    have ok := run_ok F h8 2000 [enc r] (1 <<< enc r) (fun c hc => by rw [List.mem_singleton.mp hc]; exact o0) (fun i hi => by
      rw [Nat.one_shiftLeft, Nat.testBit_two_pow] at hi
      rw [← of_decide_eq_true hi]
      exact o0) _ (z2 r m j)
    obtain ⟨st', S', R, ee⟩ := ok
    rw [enc_inj S' S h8 ee] at R
    exact R
  · have := List.all_eq_true.mp h2 r m
    exact beq_iff_eq.mp this
theorem Reach.back {w h : Nat} {a b : List Int} (F : Fl w h) (S : Std (w * h) a) (r : Reach w h a b) : Reach w h b a := let ⟨n, p⟩ := r; ⟨n, p.back F S⟩
theorem Reach.app {w h : Nat} {a b c : List Int} (r : Reach w h a b) (q : Reach w h b c) : Reach w h a c := let ⟨n, p⟩ := r; let ⟨m, p'⟩ := q; ⟨n + m, p.app p'⟩
/-- what is known of a small floor -/
structure Small (w h : Nat) : Prop where
  F : Fl w h
  le : w * h ≤ 6
  all : ∀ st st', Std (w * h) st → Std (w * h) st' → joinM w h st st' = true → Reach w h st st'
  many : ∀ st, Std (w * h) st → ((allS (w * h)).filter fun st' => joinM w h st st').length = howM w h
theorem small_of {w h : Nat} {reps : List (List Int)} (F : Fl w h) (h6 : w * h ≤ 6) (hr' : (reps.all fun r => r.isPerm (iota (w * h))) = true) (e : checkF w h reps = true) : Small w h := by
  have hr : ∀ r ∈ reps, Std (w * h) r := fun r m => List.isPerm_iff.mp (List.all_eq_true.mp hr' r m)
  obtain ⟨a, b⟩ := check_ok F (by omega) hr e
  refine ⟨F, h6, fun st st' S S' j => ?_, fun st S => ?_⟩
  · obtain ⟨⟨r, m, j1⟩, k⟩ := a st S
    have j3 : joinM w h r st' = true := by rw [join_trans j1]; exact j
    exact ((k r m j1).back F (hr r m)).app ((a st' S').2 r m j3)
  · obtain ⟨⟨r, m, j1⟩, _⟩ := a st S
    rw [← b r m]
    congr 1
    refine List.filter_congr fun x _ => ?_
    exact (join_trans j1).symm
theorem small_12 : Small 1 2 := small_of (reps := [[1, 0]]) ⟨by decide, by decide, by decide, by decide, by decide⟩ (by decide) (by decide +kernel) (by decide +kernel)
theorem small_21 : Small 2 1 := small_of (reps := [[1, 0]]) ⟨by decide, by decide, by decide, by decide, by decide⟩ (by decide) (by decide +kernel) (by decide +kernel)
theorem small_31 : Small 3 1 := small_of (reps := [[1, 2, 0], [2, 1, 0]]) ⟨by decide, by decide, by decide, by decide, by decide⟩ (by decide) (by decide +kernel) (by decide +kernel)
theorem small_14 : Small 1 4 := small_of (reps := [[1, 2, 3, 0], [1, 3, 2, 0], [2, 1, 3, 0], [2, 3, 1, 0], [3, 1, 2, 0], [3, 2, 1, 0]]) ⟨by decide, by decide, by decide, by decide, by decide⟩ (by decide) (by decide +kernel) (by decide +kernel)
theorem small_22 : Small 2 2 := small_of (reps := [[1, 2, 3, 0], [2, 1, 3, 0]]) ⟨by decide, by decide, by decide, by decide, by decide⟩ (by decide) (by decide +kernel) (by decide +kernel)
theorem small_23 : Small 2 3 := small_of (reps := [[1, 2, 3, 4, 5, 0], [2, 1, 3, 4, 5, 0]]) ⟨by decide, by decide, by decide, by decide, by decide⟩ (by decide) (by decide +kernel) (by decide +kernel)
theorem small_32 : Small 3 2 := small_of (reps := [[1, 2, 3, 4, 5, 0], [2, 1, 3, 4, 5, 0]]) ⟨by decide, by decide, by decide, by decide, by decide⟩ (by decide) (by decide +kernel) (by decide +kernel)
/-- the floors of the small laws -/
def smallFs : List (Nat × Nat) := [(1, 2), (2, 1), (3, 1), (1, 4), (2, 2), (2, 3), (3, 2), (2, 3), (3, 2), (2, 2)]
theorem small_at {i w h : Nat} (e : smallFs[i]? = some (w, h)) : Small w h := by
  have m := List.mem_of_getElem? e
  unfold smallFs at m
  simp only [List.mem_cons, List.not_mem_nil, or_false, Prod.mk.injEq] at m
  rcases m with ⟨rfl, rfl⟩ | ⟨rfl, rfl⟩ | ⟨rfl, rfl⟩ | ⟨rfl, rfl⟩ | ⟨rfl, rfl⟩ | ⟨rfl, rfl⟩ | ⟨rfl, rfl⟩ | ⟨rfl, rfl⟩ | ⟨rfl, rfl⟩ | ⟨rfl, rfl⟩
  · exact small_12
  · exact small_21
  · exact small_31
  · exact small_14
  · exact small_22
  · exact small_23
  · exact small_32
  · exact small_23
  · exact small_32
  · exact small_22
theorem allS6 : ∀ n, n ≤ 6 → (allS n).length ≤ 720 := by decide +kernel
end Sf
namespace Sf
/-! ### going layer by layer, as lists -/
abbrev LL : Type := List (List Int)
def nb (w h : Nat) (st : List Int) (ds : List Dir) : LL := ds.filterMap fun d => step w h st d
def visit (S : LL × LL) (x : List Int) : LL × LL := if x ∈ S.1 then S else (S.1 ++ [x], S.2 ++ [x])
def visits (seen : LL) (xs : LL) : LL × LL := xs.foldl visit (seen, [])
/-- all the neighbours of a layer -/
def nbs (w h : Nat) (layer : LL) : LL := layer.flatMap fun x => nb w h x (wordsM w h x)
def layr (w h : Nat) (s : List Int) : Nat → LL × LL
  | 0 => ([s], [s])
  | t + 1 => visits (layr w h s t).1 (nbs w h (layr w h s t).2)
theorem fold_inv {P : LL × LL → Prop} {xs : LL} {S : LL × LL} (h : P S) (k : ∀ S x, x ∈ xs → P S → P (visit S x)) : P (xs.foldl visit S) := by
  induction xs generalizing S with
  | nil => exact h
  | cons x xs ih => exact ih (k S x List.mem_cons_self h) fun S y m => k S y (List.mem_cons_of_mem _ m)
theorem visits_snoc (seen xs : LL) (x : List Int) : visits seen (xs ++ [x]) = visit (visits seen xs) x := by
  unfold visits
  rw [List.foldl_append]
  rfl
theorem visits_app (seen xs : LL) : (visits seen xs).1 = seen ++ (visits seen xs).2 := by
  refine fold_inv (P := fun S => S.1 = seen ++ S.2) (by simp) fun S x _ ih => ?_
  unfold visit
  by_cases m : x ∈ S.1
  · rw [if_pos m]; exact ih
  · rw [if_neg m]
    show S.1 ++ [x] = seen ++ (S.2 ++ [x])
    rw [ih, List.append_assoc]
theorem visits_nodup {seen xs : LL} (n : seen.Nodup) : (visits seen xs).1.Nodup := by
  refine fold_inv (P := fun S => S.1.Nodup) n fun S x _ ih => ?_
  unfold visit
  by_cases m : x ∈ S.1
  · rw [if_pos m]; exact ih
  · rw [if_neg m]
    exact List.nodup_append.mpr ⟨ih, List.nodup_cons.mpr ⟨by simp, List.nodup_nil⟩, fun a ha b hb e => m (by rw [List.mem_singleton.mp hb] at e; exact e ▸ ha)⟩
theorem foldv_mem {x : List Int} : ∀ {xs : LL} {S : LL × LL}, x ∈ (xs.foldl visit S).1 ↔ x ∈ S.1 ∨ x ∈ xs
  | [], S => by simp
  | y :: xs, S => by
    show x ∈ (xs.foldl visit (visit S y)).1 ↔ _
    rw [foldv_mem]
    unfold visit
    by_cases m : y ∈ S.1
    · rw [if_pos m, List.mem_cons]
      constructor
      · rintro (a | a)
        · exact .inl a
        · exact .inr (.inr a)
      · rintro (a | a | a)
        · exact .inl a
        · exact .inl (a ▸ m)
        · exact .inr a
    · rw [if_neg m, List.mem_cons]
      show x ∈ S.1 ++ [y] ∨ _ ↔ _
      rw [List.mem_append, List.mem_singleton, or_assoc]
theorem visits_mem {x : List Int} {seen xs : LL} : x ∈ (visits seen xs).1 ↔ x ∈ seen ∨ x ∈ xs := foldv_mem
theorem visits_len (seen xs : LL) : (visits seen xs).1.length = seen.length + (visits seen xs).2.length := by rw [visits_app, List.length_append]
theorem visits_sub {seen xs ys : LL} {x : List Int} (h : x ∈ (visits seen xs).2) : x ∈ (visits seen (xs ++ ys)).2 := by
  unfold visits
  rw [List.foldl_append]
  refine fold_inv (P := fun S => x ∈ S.2) h fun S y _ ih => ?_
  unfold visit
  by_cases m : y ∈ S.1
  · rw [if_pos m]; exact ih
  · rw [if_neg m]; exact List.mem_append_left _ ih
theorem step_words {w h : Nat} {st st' : List Int} {d : Dir} (e : step w h st d = some st') : d ∈ wordsM w h st := by
  unfold wordsM
  exact List.mem_filter.mpr ⟨mem_dirs d, by rw [e]; rfl⟩
theorem nb_mem {w h : Nat} {st x : List Int} : x ∈ nb w h st (wordsM w h st) ↔ ∃ d, step w h st d = some x := by
  unfold nb
  rw [List.mem_filterMap]
  exact ⟨fun ⟨d, _, e⟩ => ⟨d, e⟩, fun ⟨d, e⟩ => ⟨d, step_words e, e⟩⟩
theorem nbs_mem {w h : Nat} {l : LL} {x : List Int} : x ∈ nbs w h l ↔ ∃ y ∈ l, ∃ d, step w h y d = some x := by
  unfold nbs
  rw [List.mem_flatMap]
  exact ⟨fun ⟨y, m, e⟩ => ⟨y, m, nb_mem.mp e⟩, fun ⟨y, m, e⟩ => ⟨y, m, nb_mem.mpr e⟩⟩
/-- by so many moves, and by no fewer -/
def IsDist (w h : Nat) (a b : List Int) (n : Nat) : Prop := Path w h n a b ∧ ∀ m, m < n → ¬ Path w h m a b
theorem IsDist.uniq {w h : Nat} {a b : List Int} {n m : Nat} (x : IsDist w h a b n) (y : IsDist w h a b m) : n = m := by
  rcases Nat.lt_trichotomy n m with z | z | z
  · exact absurd x.1 (y.2 n z)
  · exact z
  · exact absurd y.1 (x.2 m z)
theorem path_dist {w h : Nat} {a b : List Int} : ∀ {n : Nat}, Path w h n a b → ∃ m, m ≤ n ∧ IsDist w h a b m := by
  intro n
  induction n using Nat.strongRecOn with
  | ind n ih =>
    intro p
    by_cases q : ∃ m, m < n ∧ Path w h m a b
    · obtain ⟨m, hm, pm⟩ := q
      obtain ⟨k, hk, d⟩ := ih m hm pm
      exact ⟨k, by omega, d⟩
    · exact ⟨n, Nat.le_refl _, p, fun m hm pm => q ⟨m, hm, pm⟩⟩
section
variable {w h : Nat} {s : List Int}
theorem layr_facts (t : Nat) : (layr w h s t).1.Nodup ∧ (∀ x, x ∈ (layr w h s t).1 ↔ ∃ d, d ≤ t ∧ Path w h d s x) ∧ ∀ x, x ∈ (layr w h s t).2 ↔ IsDist w h s x t := by
  induction t with
  | zero =>
    have e0 : ∀ x, Path w h 0 s x ↔ x = s := fun x => ⟨fun p => by cases p; rfl, fun e => e ▸ .nil⟩
    refine ⟨List.nodup_cons.mpr ⟨by simp, List.nodup_nil⟩, fun x => ?_, fun x => ?_⟩
    · show x ∈ [s] ↔ _
      rw [List.mem_singleton, ← e0 x]
      exact ⟨fun p => ⟨0, Nat.le_refl _, p⟩, fun ⟨d, hd, p⟩ => by
        have : d = 0 := by omega
        exact this ▸ p⟩
    · show x ∈ [s] ↔ _
      rw [List.mem_singleton, ← e0 x]
      exact ⟨fun p => ⟨p, fun m hm => by omega⟩, fun p => p.1⟩
  | succ t ih =>
    obtain ⟨n, i1, i2⟩ := ih
    have seen : ∀ x, x ∈ (layr w h s (t + 1)).1 ↔ ∃ d, d ≤ t + 1 ∧ Path w h d s x := fun x => by
      show x ∈ (visits _ _).1 ↔ _
      rw [visits_mem, i1, nbs_mem]
      constructor
      · rintro (⟨d, hd, p⟩ | ⟨y, m, d, e⟩)
        · exact ⟨d, by omega, p⟩
        · exact ⟨t + 1, Nat.le_refl _, .snoc ((i2 y).mp m).1 e⟩
      · rintro ⟨d, hd, p⟩
        by_cases q : d ≤ t
        · exact .inl ⟨d, q, p⟩
        · have : d = t + 1 := by omega
          subst this
          cases p with
          | @snoc _ _ y _ d p e =>
            obtain ⟨m, hm, dm⟩ := path_dist p
            by_cases q : m = t
            · exact .inr ⟨y, (i2 y).mpr (q ▸ dm), d, e⟩
            · exact .inl ⟨m + 1, by omega, .snoc dm.1 e⟩
    have nd : (layr w h s (t + 1)).1.Nodup := visits_nodup n
    refine ⟨nd, seen, fun x => ?_⟩
    have app : (layr w h s (t + 1)).1 = (layr w h s t).1 ++ (layr w h s (t + 1)).2 := visits_app _ _
    rw [app] at nd
    have dis := (List.nodup_append.mp nd).2.2
    constructor
    · intro m
      have m1 : x ∈ (layr w h s (t + 1)).1 := by rw [app]; exact List.mem_append_right _ m
      have m0 : x ∉ (layr w h s t).1 := fun q => dis x q x m rfl
      obtain ⟨d, hd, p⟩ := (seen x).mp m1
      have no : ∀ m, m < t + 1 → ¬ Path w h m s x := fun m hm p => m0 ((i1 x).mpr ⟨m, by omega, p⟩)
      by_cases q : d < t + 1
      · exact absurd p (no d q)
      · have : d = t + 1 := by omega
        exact ⟨this ▸ p, no⟩
    · intro dd
      have m1 : x ∈ (layr w h s (t + 1)).1 := (seen x).mpr ⟨t + 1, Nat.le_refl _, dd.1⟩
      rw [app] at m1
      rcases List.mem_append.mp m1 with q | q
      · obtain ⟨d, hd, p⟩ := (i1 x).mp q
        exact absurd p (dd.2 d (by omega))
      · exact q
theorem layr_app (t : Nat) : (layr w h s (t + 1)).1 = (layr w h s t).1 ++ (layr w h s (t + 1)).2 := visits_app _ _
theorem layr_sub (t : Nat) : ∀ x ∈ (layr w h s t).2, x ∈ (layr w h s t).1 := fun x m => by
  obtain ⟨_, b, c⟩ := layr_facts (w := w) (h := h) (s := s) t
  exact (b x).mpr ⟨t, Nat.le_refl _, ((c x).mp m).1⟩
theorem layr_std (F : Fl w h) (S : Std (w * h) s) (t : Nat) : ∀ x ∈ (layr w h s t).1, Std (w * h) x := fun x m => by
  obtain ⟨d, _, p⟩ := ((layr_facts (w := w) (h := h) (s := s) t).2.1 x).mp m
  exact p.std F S
theorem layr_le (F : Fl w h) (h6 : w * h ≤ 6) (S : Std (w * h) s) (t : Nat) : (layr w h s t).1.length ≤ 720 := by
  refine Nat.le_trans (nodup_le (m := allS (w * h)) (layr_facts t).1 fun x m => allS_mem (layr_std F S t x m)) (allS6 _ h6)
/-- where a layer is empty nothing more comes -/
theorem layr_end {t : Nat} (e : (layr w h s t).2 = []) : ∀ x, x ∈ (layr w h s t).1 ↔ Reach w h s x := fun x => by
  obtain ⟨_, b, c⟩ := layr_facts (w := w) (h := h) (s := s) t
  refine ⟨fun m => let ⟨d, _, p⟩ := (b x).mp m; ⟨d, p⟩, fun ⟨n, p⟩ => ?_⟩
  have key : ∀ n x, Path w h n s x → x ∈ (layr w h s t).1 := by
    intro n
    induction n with
    | zero => intro x p; exact (b x).mpr ⟨0, Nat.zero_le _, p⟩
    | succ n ih =>
      intro x p
      cases p with
      | @snoc _ _ y _ d p q =>
        obtain ⟨m, hm, pm⟩ := (b y).mp (ih y p)
        obtain ⟨k, hk, dk⟩ := path_dist pm
        by_cases z : k < t
        · exact (b x).mpr ⟨k + 1, by omega, .snoc dk.1 q⟩
        · have : k = t := by omega
          have mm := (c y).mpr (this ▸ dk)
          rw [e] at mm
          cases mm
  exact key n x p
end
theorem Small.iff {w h : Nat} (M : Small w h) {s x : List Int} (S : Std (w * h) s) (X : Std (w * h) x) : Reach w h s x ↔ joinM w h s x = true := ⟨fun r => r.join M.F S, M.all s x S X⟩
/-- how many come -/
theorem Small.count {w h : Nat} (M : Small w h) {s : List Int} (S : Std (w * h) s) {ks : LL} (nd : ks.Nodup) (hk : ∀ x, x ∈ ks ↔ Reach w h s x) : ks.length = howM w h := by
  have st : ∀ x ∈ ks, Std (w * h) x := fun x m => let ⟨n, p⟩ := (hk x).mp m; p.std M.F S
  rw [← M.many s S]
  refine Nat.le_antisymm (nodup_le nd fun x m => List.mem_filter.mpr ⟨allS_mem (st x m), (M.iff S (st x m)).mp ((hk x).mp m)⟩) (nodup_le ((allS_nodup _).filter _) fun x m => ?_)
  obtain ⟨m1, m2⟩ := List.mem_filter.mp m
  have X : Std (w * h) x := allS_std m1
  exact (hk x).mpr ((M.iff S X).mpr m2)
where
  allS_std {n : Nat} {x : List Int} (m : x ∈ allS n) : Std n x := permsOf_perm (iota_len n) m
  permsOf_perm : ∀ {k : Nat} {l x : List Int}, l.length = k → x ∈ permsOf k l → x.Perm l
    | 0, l, x, e, m => by
      rw [List.mem_singleton.mp m, List.length_eq_zero_iff.mp e]
    | k + 1, l, x, e, m => by
      unfold permsOf at m
      obtain ⟨a, ha, m⟩ := List.mem_flatMap.mp m
      obtain ⟨x', m', rfl⟩ := List.mem_map.mp m
      have h3 : (l.erase a).length = k := by rw [List.length_erase_of_mem ha, e]; rfl
      exact ((permsOf_perm h3 m').cons a).trans (List.perm_cons_erase ha).symm
end Sf
namespace Sf
open PySem PySem.Spec PyProof.Rows L2
/-! ### dicts whose keys are tuples of ints, told by their entries: key, the key's tuple, value -/
abbrev DXE : Type := List Int × Addr × V
abbrev RelX : List DXE → List (List Int × Addr × Value) → Prop := Paired fun p q => p.1 = q.1 ∧ p.2.1 = q.2.1 ∧ RelV p.2.2 q.2.2
def DX (P : Program) (w : World) (a : Addr) (L : List DXE) : HO := .ext fun h => L.length ≤ sizeLine ∧ (a == sysModules) = false ∧ ∃ us : List (List Int × Addr × Value), RelX L us ∧
  ∃ o es ep, h.get? a = some o ∧ o.ExactDict ∧ o.data = .dict es ep ∧ es.toList = us.map (entryOfKey (tupleKind (intKind P w))) ∧ (us.map (·.1)).Nodup
def KeysAt (K : PySem.W.Frag) (H : Hp) (L : List DXE) : Prop := ∀ e ∈ L, SqT K H e.2.1 (VI e.1)
def valX (L : List DXE) (k : List Int) : Option V := (L.find? fun e => decide (e.1 = k)).map (·.2.2)
def putX (L : List DXE) (k : List Int) (b : Addr) (v : V) : List DXE := if (valX L k).isSome then L.map (fun e => if e.1 = k then (e.1, e.2.1, v) else e) else L ++ [(k, b, v)]
theorem valX_pos {e : DXE} {L : List DXE} {k : List Int} (h : e.1 = k) : valX (e :: L) k = some e.2.2 := by simp [valX, List.find?_cons, h]
theorem valX_neg {e : DXE} {L : List DXE} {k : List Int} (h : ¬ e.1 = k) : valX (e :: L) k = valX L k := by simp [valX, List.find?_cons, h]
theorem valX_isSome (L : List DXE) (k : List Int) : (valX L k).isSome = decide (k ∈ L.map (·.1)) := by
  induction L with
  | nil => rfl
  | cons e L ih =>
    by_cases h : e.1 = k
    · rw [valX_pos h]
      simp [h]
    · rw [valX_neg h, ih]
      have h' : ¬ k = e.1 := fun z => h z.symm
      simp [h']
theorem valX_mem {L : List DXE} (nd : (L.map (·.1)).Nodup) {e : DXE} (m : e ∈ L) : valX L e.1 = some e.2.2 := by
  induction L with
  | nil => cases m
  | cons x L ih =>
    rw [List.map_cons] at nd
    obtain ⟨n1, n2⟩ := List.nodup_cons.mp nd
    rcases List.mem_cons.mp m with q | q
    · subst q
      exact valX_pos rfl
    · rw [valX_neg (fun z => n1 (z ▸ List.mem_map.mpr ⟨e, q, rfl⟩))]
      exact ih n2 q
theorem putX_new {L : List DXE} {k : List Int} {b : Addr} {v : V} (h : (valX L k).isSome = false) : putX L k b v = L ++ [(k, b, v)] := by
  unfold putX
  rw [h]
  rfl
theorem RelX.val {L : List DXE} {us : List (List Int × Addr × Value)} (r : RelX L us) (k : List Int) : RelO (valX L k) ((atKey us k).map (·.2)) := by
  induction r with
  | nil => exact True.intro
  | @cons p q ps qs h t ih =>
    obtain ⟨h1, _, h2⟩ := h
    by_cases e : p.1 = k
    · have e' : q.1 = k := h1.symm.trans e
      have b : atKey (q :: qs) k = some q.2 := by simp [atKey, List.find?_cons, e']
      rw [valX_pos e, b]; exact h2
    · have e' : ¬ q.1 = k := fun z => e (h1.trans z)
      have b : atKey (q :: qs) k = atKey qs k := by simp [atKey, List.find?_cons, e']
      rw [valX_neg e, b]; exact ih
theorem RelX.repl {L : List DXE} {us : List (List Int × Addr × Value)} (r : RelX L us) (k : List Int) {y : V} {u : Value} (ry : RelV y u) :
    RelX (L.map fun e => if e.1 = k then (e.1, e.2.1, y) else e) (us.map (putAt k u)) := by
  induction r with
  | nil => exact .nil
  | @cons p q ps qs h t ih =>
    rw [List.map_cons, List.map_cons]
    refine .cons ?_ ih
    obtain ⟨h1, h2, h3⟩ := h
    unfold putAt
    by_cases e : p.1 = k
    · rw [if_pos e, if_pos (h1.symm.trans e)]; exact ⟨h1, h2, ry⟩
    · rw [if_neg e, if_neg (fun z => e (h1.trans z))]; exact ⟨h1, h2, h3⟩
theorem RelX.put {L : List DXE} {us : List (List Int × Addr × Value)} (r : RelX L us) (k : List Int) {b : Addr} {y : V} {u : Value} (ry : RelV y u) : RelX (putX L k b y) (storedH us k b u) := by
  have e : (valX L k).isSome = (atKey us k).isSome := by
    rw [(r.val k).isSome_eq, Option.isSome_map]
  unfold putX storedH
  rw [e]
  by_cases q : (atKey us k).isSome = true
  · rw [if_pos q, if_pos q]; exact r.repl k ry
  · rw [if_neg q, if_neg q]; exact Paired.snoc r ⟨rfl, rfl, ry⟩
theorem putX_len (L : List DXE) (k : List Int) (b : Addr) (v : V) : (putX L k b v).length ≤ L.length + 1 := by
  unfold putX
  by_cases h : (valX L k).isSome = true
  · rw [if_pos h, List.length_map]; omega
  · rw [if_neg h, List.length_append]; exact Nat.le_refl _
theorem items_ints {P : Program} {w : World} : ∀ {ns : List Int} {us : List Value}, Vals (VI ns) us → PySem.ItemsAre (intKind P w) ns us
  | [], _, r => by cases r; exact .nil
  | k :: ns, _, r => by
    cases r with
    | cons h t =>
      obtain ⟨tk, rfl⟩ := (show ∃ t, _ = Value.int k t from h)
      exact .cons (by show Value.isInt k (.int k tk) = true; simp [Value.isInt]) (items_ints t)
section
variable {X : Cx} {pins : List (Addr × Obj)} {σ : L2.St} {H : Hp} {s : Shared} {a b : Addr} {L : List DXE}
theorem keyX (I : Inv X pins σ H s) {ns : List Int} (h : SqT X.K H b (VI ns)) : (tupleKind (intKind X.prog X.w)).is s.heap ns b := by
  obtain ⟨its, rv, ⟨o, h1, h2, n, h3⟩, hz⟩ := I.tuple h
  exact ⟨o, its.toArray, n, h1, h2, h3, by simpa using items_ints rv⟩
theorem keysX (I : Inv X pins σ H s) : ∀ {L : List DXE} {us : List (List Int × Addr × Value)}, RelX L us → KeysAt X.K H L → ∀ x ∈ us, (tupleKind (intKind X.prog X.w)).is s.heap x.1 x.2.1 := by
  intro L us r
  induction r with
  | nil => intro _ x m; cases m
  | @cons p q ps qs h t ih =>
    intro k x m
    rcases List.mem_cons.mp m with e | e
    · subst e
      have := keyX I (k p List.mem_cons_self)
      rw [h.1, h.2.1] at this
      exact this
    · exact ih (fun y hy => k y (List.mem_cons_of_mem _ hy)) x e
theorem dx_of (I : Inv X pins σ H s) (hH : H a = some (DX X.prog X.w a L)) (hk : KeysAt X.K H L) : L.length ≤ sizeLine ∧ (a == sysModules) = false ∧ ∃ us, RelX L us ∧ s.heap.DictOfH (tupleKind (intKind X.prog X.w)) a us := by
  obtain ⟨⟨z, y, us, r, o, es, ep, h1, h2, h3, h4, h5⟩, _⟩ := (show ObjOk X.prog X.w H s.heap a (DX X.prog X.w a L) from I.hok a _ hH)
  exact ⟨z, y, us, r, o, es, ep, h1, h2, h3, h4, keysX I r hk, h5⟩
theorem dx_ok {P : Program} {w : World} {H' : Hp} {h' : Heap} {us : List (List Int × Addr × Value)} (z : L.length ≤ sizeLine) (hd : (a == sysModules) = false) (r : RelX L us) (dd : h'.DictOfH (tupleKind (intKind P w)) a us) : ObjOk P w H' h' a (DX P w a L) := by
  obtain ⟨o, es, ep, h1, h2, h3, h4, _, h5⟩ := dd
  exact ⟨⟨z, hd, us, r, o, es, ep, h1, h2, h3, h4, h5⟩, ⟨o, h1⟩, fun g1 g2 ⟨z, y, us, r, o, es, ep, k1, k2⟩ st => ⟨z, y, us, r, o, es, ep, st o k1, k2⟩⟩
end
/-- which dict, which key -/
def AtX (P : Program) (w : World) (K : PySem.W.Frag) (H : Hp) (x y : V) (L : List DXE) (ns : List Int) : Prop := ∃ a b, x = .ref a ∧ y = .ref b ∧ H a = some (DX P w a L) ∧ KeysAt K H L ∧ SqT K H b (VI ns)
def rInX (P : Program) (w : World) (K : PySem.W.Frag) : R2 := fun y x H Q => ∃ L ns, AtX P w K H x y L ns ∧ Q (.bl (valX L ns).isSome) H
def rNotInX (P : Program) (w : World) (K : PySem.W.Frag) : R2 := fun y x H Q => ∃ L ns, AtX P w K H x y L ns ∧ Q (.bl (!(valX L ns).isSome)) H
def rIxX (P : Program) (w : World) (K : PySem.W.Frag) : R2 := fun x y H Q => ∃ L ns v, AtX P w K H x y L ns ∧ valX L ns = some v ∧ Q v H
def tGetX (P : Program) (w : World) (K : PySem.W.Frag) (td ty : TE) : TE := fun σ H Q => td σ H fun x H1 => ty σ H1 fun y H2 => rIxX P w K x y H2 Q
def rSetX (P : Program) (w : World) (K : PySem.W.Frag) : TSet := fun o i v H Q => ∃ (a b : Addr) (L : List DXE) (ns : List Int), o = .ref a ∧ i = .ref b ∧ H a = some (DX P w a L) ∧ KeysAt K H L ∧ SqT K H b (VI ns) ∧ L.length < sizeLine ∧ Q (upd H a (DX P w a (putX L ns b v)))
def rLenX (P : Program) (w : World) (K : PySem.W.Frag) : List V → Hp → VK → Prop := fun xs H Q => ∃ (a : Addr) (L : List DXE), xs = [.ref a] ∧ H a = some (DX P w a L) ∧ KeysAt K H L ∧ Q (nV L.length) H
def rListX (P : Program) (w : World) (K : PySem.W.Frag) : List V → Hp → VK → Prop := fun xs H Q => ∃ (a : Addr) (L : List DXE), xs = [.ref a] ∧ H a = some (DX P w a L) ∧ ∀ p, H p = none → Q (.ref p) (upd H p (.lst ((L.map fun e => e.2.1).map V.ref)))
def tDisp1 (P : Program) (w : World) (K : PySem.W.Frag) (tk tv : TE) : TE := fun σ H Q => ∀ p, H p = none → tk σ (upd H p (.dK [])) fun x H1 => tv σ H1 fun y H2 => H2 p = some (.dK []) ∧ ∃ b ns, x = .ref b ∧ SqT K H2 b (VI ns) ∧ Q (.ref p) (upd H2 p (DX P w p [(ns, b, y)]))
section
variable {X : Cx}
theorem op_inX (hu : X.A.units + 1 < cLine) : OpR X (compareOp .In) (rInX X.prog X.w X.K) := by
  intro pins s σ H x y v u Q I rx ry h
  obtain ⟨L, ns, ⟨a, b, rfl, rfl, hH, hk, hb⟩, q⟩ := h
  cases rx
  cases ry
  obtain ⟨z, hd, us, rel, dd⟩ := dx_of I hH hk
  refine wpAny_in_heap (tupleKind_room_in1 hu) (keyX I hb) hd dd ?_
  have e := (rel.val ns).isSome_eq
  rw [Option.isSome_map] at e
  rw [← e]
  exact ⟨.bl _, H, I.tok _, rfl, q⟩
theorem op_notInX (hu : X.A.units + 1 < cLine) : OpR X (compareOp .NotIn) (rNotInX X.prog X.w X.K) := by
  intro pins s σ H x y v u Q I rx ry h
  obtain ⟨L, ns, ⟨a, b, rfl, rfl, hH, hk, hb⟩, q⟩ := h
  cases rx
  cases ry
  obtain ⟨z, hd, us, rel, dd⟩ := dx_of I hH hk
  refine wpAny_notIn_heap (tupleKind_room_in1 hu) (keyX I hb) hd dd ?_
  have e := (rel.val ns).isSome_eq
  rw [Option.isSome_map] at e
  rw [← e]
  exact ⟨.bl _, H, I.tok _, rfl, q⟩
theorem pe_getX {o i : Expr} {pos : Pos} {td ty : TE} (hu : X.A.units + 1 < cLine) (ho : PE X o td) (hi : PE X i ty) (hs : NoSl i) : PE X (.Subscript o i pos) (tGetX X.prog X.w X.K td ty) := by
  refine ⟨fun pins s σ H Q I h => ?_⟩
  refine subD_of PySem.F.slot_dict_getitem.lookup hs (thn (ho.run pins s σ H _ I h) fun u s1 ⟨x, H1, I1, rx, q1⟩ => thn (hi.run pins s1 σ H1 _ I1 q1) fun iv s2 ⟨y, H2, I2, ry, q2⟩ => ?_)
  obtain ⟨L, ns, val, ⟨a, b, rfl, rfl, hH, hk, hb⟩, hv, q⟩ := q2
  cases rx
  cases ry
  obtain ⟨z, hd, us, rel, dd⟩ := dx_of I2 hH hk
  obtain ⟨w', hw, rw'⟩ := RelO.some_of (v := val) (o := (atKey us ns).map (·.2)) (by rw [← hv]; exact rel.val ns)
  obtain ⟨p, hp, hp2⟩ := Option.map_eq_some_iff.mp hw
  refine ⟨dd.typeIs, wpAny_getItem_heap (tupleKind_room_in1 hu) (keyX I2 hb) dd hp ?_⟩
  rw [hp2]
  exact ⟨val, H2, I2.tok _, rw', q⟩
theorem set_dictX (hu : X.A.units + 1 < cLine) : PSet X (rSetX X.prog X.w X.K) := by
  intro pins s σ H o i v ov iv u Q I ro ri rv h
  obtain ⟨a, b, L, ns, rfl, rfl, hH, hk, hb, hl, q⟩ := h
  cases ro
  cases ri
  obtain ⟨z, hd, us, rel, dd⟩ := dx_of I hH hk
  have hz : us.length ≤ sizeLine := by rw [← Paired.length rel]; exact z
  have hl2 : (putX L ns b v).length ≤ sizeLine := by have := putX_len L ns b v; omega
  refine wpAny_setItem_heap (hsz := hz) (tupleKind_room_in1 hu) (keyX I hb) dd fun h' dd' hs => ?_
  have he : ∃ q, h'.get? a = some q := let ⟨o, _, _, ho, _⟩ := dd'; ⟨o, ho⟩
  exact ⟨_, d_write I (by rw [hH]; exact True.intro) hs he (dx_ok hl2 hd (rel.put ns rv) dd'), q⟩
theorem call_lenX : CallR X (.builtin "len") (rLenX X.prog X.w X.K) := by
  intro pins s σ H xs us Q I r h
  obtain ⟨p, L, rfl, hp, hk, q⟩ := h
  obtain ⟨u, rfl, rx⟩ := vals1 r
  obtain rfl : u = .ref p := rx
  obtain ⟨z, hd, ys, rel, dd⟩ := dx_of I hp hk
  have hl : L.length = ys.length := Paired.length rel
  refine call_len_dictH hd dd (by rw [← hl]; rw [sizeLine_eq] at z; omega) ?_
  rw [← hl]
  exact ⟨nV L.length, H, I.tok _, ⟨_, rfl⟩, q⟩
theorem relX_addrs {L : List DXE} {us : List (List Int × Addr × Value)} (r : RelX L us) : us.map (fun x => x.2.1) = L.map fun e => e.2.1 := by
  induction r with
  | nil => rfl
  | cons h t ih => rw [List.map_cons, List.map_cons, ih, h.2.1]
theorem call_listX (hc : X.calm = true) : CallR X (.type "list") (rListX X.prog X.w X.K) := by
  intro pins s σ H xs us Q I r h
  obtain ⟨d, L, rfl, hd, q⟩ := h
  obtain ⟨u, rfl, rx⟩ := r.one
  cases rx
  obtain ⟨⟨z, hs, ks, pr, o, es, ep, ho, hx, hdt, he, hn⟩, _⟩ := (show ObjOk X.prog X.w H s.heap d (DX X.prog X.w d L) from I.hok d _ hd)
  have l1 : es.size = ks.length := size_of_entries he
  have l2 : L.length = ks.length := Paired.length pr
  refine PySem.W.kdl_call (kdl_raw hs hx hdt) (I.ok.hd hc) ho (by omega) fun h' tk acc' c' kp e it => ?_
  have ea : acc'.toList = ks.map fun x => Value.ref x.2.1 := by
    have hl : acc'.toList.length = ks.length := by rw [Array.length_toList, it.1]; exact l1
    apply List.ext_getElem?
    intro j
    rw [List.getElem?_map]
    cases hj : acc'.toList[j]? with
    | none =>
      have h1 := List.getElem?_eq_none_iff.mp hj
      rw [List.getElem?_eq_none (by omega)]
      all_goals rfl
    | some v =>
      obtain ⟨en, hen, hv⟩ := it.2 j v (by rw [← Array.getElem?_toList]; exact hj)
      have qe := entry_at he j
      rw [hen] at qe
      cases hb : ks[j]? with
      | none =>
        rw [hb] at qe
        exact nomatch (show some en = none from qe)
      | some b =>
        rw [hb] at qe
        have e2 : en = entryOfKey (tupleKind (intKind X.prog X.w)) b := Option.some.inj qe
        rw [hv, e2]
        all_goals rfl
  have eb : acc'.toList = (L.map fun x => x.2.1).map Value.ref := by rw [ea, ← relX_addrs pr, List.map_map]; all_goals rfl
  have rv : Vals ((L.map fun x => x.2.1).map V.ref) acc'.toList := by rw [eb]; exact vals_refs _
  have hz : ((L.map fun x => x.2.1).map V.ref).length ≤ sizeLine := by rw [List.length_map, List.length_map]; omega
  refine ⟨.ref s.heap.objs.size, _, I.laid (t' := tk) (o := .lst ((L.map fun x => x.2.1).map V.ref)) kp (Nat.le_refl _) ?_, rfl, q _ (I.hok.fresh (Nat.le_refl _))⟩
  exact ⟨hz, acc'.toList, c', rv, by rw [Array.toArray_toList]; exact e⟩
theorem pe_disp1 {k v : Expr} {pos : Pos} {tk tv : TE} (hu : X.A.units < cLine) (hk : PE X k tk) (hv : PE X v tv) : PE X (.Dict [some k] [v] pos) (tDisp1 X.prog X.w X.K tk tv) := by
  refine ⟨fun pins s σ H Q I h => ?_⟩
  have hn := I.hok.fresh (Nat.le_refl s.heap.objs.size)
  have I1 := I.laid (a := s.heap.objs.size) (o := .dK []) (h' := s.heap.push { cls := .type "dict", data := .dict #[] }) (t' := s.toks) (fun _ _ q => Heap.get?_push_of_some _ q) (Nat.le_refl _) (dk_empty s.heap I.big)
  have pl : (pairTrees [some k] [v] X.env pos).length = 1 := pairTrees_length [some k] [v] X.env pos rfl rfl
  rw [arm_eval_Dict, zip_pairTrees [some k] [v] X.env pos rfl rfl, dictDisplay_pairs (pairTrees [some k] [v] X.env pos) (fun z => nomatch z) (by rw [pl]; decide)]
  refine wpAny_bind (wpAny_standAt (wpAny_bind (wpAny_subDictH (knd := tupleKind (intKind X.prog X.w)) (Q := fun d s' => wpAny (model X.prog X.w) X.A (pure (Value.ref d)) (EP X pins σ Q) X.xe s') hu (by rw [pl]; decide) ?_)))
  refine pairTrees_cons_walk (thn (hk.run pins _ σ _ _ I1 (h _ hn)) fun u s1 ⟨x, H1, I2, rx, q1⟩ => thn (hv.run pins s1 σ H1 _ I2 q1) fun w2 s2 ⟨y, H2, I3, ry, e, b, ns, ex, hb, q2⟩ => pairTrees_nil_walk ?_)
  subst ex
  cases rx
  obtain ⟨z, hd, vs0, r0, dd⟩ := dk_of I3.hok e
  cases r0
  obtain ⟨o, es, ep, h1, h2, h3, h4, h5, h6⟩ := dd
  have hes : es.toList = [] := by
    generalize es.toList = l at h5
    cases h5
    rfl
  have dd0 : s2.heap.DictOfH (tupleKind (intKind X.prog X.w)) s.heap.objs.size [] := ⟨o, es, ep, h1, h2, h3, hes, (fun x m => absurd m (by simp)), List.nodup_nil⟩
  refine ⟨[(ns, b, w2)], ⟨rfl, rfl, keyX I3 hb, True.intro⟩, dd0, fun h' tk dd' hs => wpAny_pure ?_⟩
  have he : ∃ q, h'.get? s.heap.objs.size = some q := let ⟨q, _, _, hq, _⟩ := dd'; ⟨q, hq⟩
  exact ⟨.ref s.heap.objs.size, _, d_write I3 (by rw [e]; exact True.intro) hs he (dx_ok (by show 1 ≤ sizeLine; decide) hd (.cons ⟨rfl, rfl, ry⟩ .nil) dd'), rfl, q2⟩
end
end Sf
namespace Sf
open PySem PySem.Spec PyProof.Rows L2
/-! ### sorted of a list of tuples of ints, any number of them -/
abbrev cdI (B : Int) (ns : List Int) : Int := _root_.TS.code B ns
abbrev ltC (B : Int) (k : V → List Int) (x y : V) : Bool := decide (cdI B (k x) < cdI B (k y))
theorem ltC_swo (B : Int) (k : V → List Int) : SrtO.Swo (ltC B k) := by
  refine ⟨fun x y h => ?_, fun x y z h1 h2 => ?_⟩
  · have a := of_decide_eq_true h
    exact decide_eq_false (by omega)
  · have a := of_decide_eq_false h1
    have b := of_decide_eq_false h2
    exact decide_eq_false (by omega)
def rSortedTs (K : PySem.W.Frag) : List V → Hp → VK → Prop := fun vs H Q => ∃ (a : Addr) (ys : List V) (k : V → List Int) (d : Nat) (B : Int), vs = [V.ref a] ∧ SqL K H a ys ∧ 1 ≤ d ∧
  (∀ y ∈ ys, ∃ t, y = .ref t ∧ SqT K H t (VI (k y)) ∧ (k y).length = d ∧ _root_.TS.Bd B (k y)) ∧ ∀ zs p, SrtO.Srtd (ltC B k) zs → SrtO.Stb (ltC B k) zs ys → H p = none → Q (.ref p) (upd H p (.lst zs))
section
variable {prog : Program} {w : World} {A : Around} {s : Shared}
theorem tups_sortable {a : Addr} {vs : List Value} {d : Nat} {B : Int} {k : Value → List Int} (hd : 1 ≤ d) (h2 : 2 ≤ vs.length)
    (hx : ∀ v ∈ vs, _root_.TS.TupInts s.heap v (k v) ∧ (k v).length = d ∧ _root_.TS.Bd B (k v)) (ha : ∀ v ∈ vs, v ≠ .ref a) :
    SrtO.SortableO prog w A s a vs fun u v => decide (cdI B (k u) < cdI B (k v)) := by
  intro h' keep
  have hx' : ∀ v ∈ vs, _root_.TS.TupInts h' v (k v) ∧ (k v).length = d ∧ _root_.TS.Bd B (k v) := fun v m => by
    obtain ⟨⟨b, xs, e, ⟨o, ho, r⟩, i⟩, l, bd⟩ := hx v m
    exact ⟨⟨b, xs, e, ⟨o, keep b o (fun z => ha v m (z ▸ e)) ho, r⟩, i⟩, l, bd⟩
  have ok : _root_.TS.TupsOk h' d B vs := fun v m => ⟨k v, hx' v m⟩
  obtain ⟨fs, kt, hl, hi⟩ := _root_.TS.firsts_of hd vs ok
  refine ⟨PyProof.Rows.tuples' (Value.type "int" != Value.type "tuple"), fun Q E hq => ?_, fun p q hp hq => ?_⟩
  · refine PySem.W.kat_kind (s := { s with heap := h' }) (T := Value.type "int") kt (by omega) (fun f hf => ?_) rfl hq
    obtain ⟨n, t, rfl⟩ := hi f hf
    exact PySem.W.Looks.of_pure rfl
  · obtain ⟨⟨b, xs, e1, ⟨o, ho, hc, n, hdt⟩, i⟩, l, bd⟩ := hx' _ hp
    obtain ⟨⟨b', ys, e2, ⟨o', ho', hc', n', hdt'⟩, i'⟩, l', bd'⟩ := hx' _ hq
    show wpAny (model prog w) A (keyLt' _ p.1 q.1) (fun r s' => s' = { s with heap := h' } ∧ r = decide (cdI B (k p.1) < cdI B (k q.1))) (fun _ _ => False) { s with heap := h' }
    rw [e1, e2] at *
    refine PySem.W.kat_lt ho hdt ho' hdt' ?_
    have sz : decide (xs.size < ys.size) = false := by
      have l1 := i.length
      have l2 := i'.length
      rw [Array.length_toList] at l1 l2
      exact decide_eq_false (by omega)
    rw [sz]
    exact _root_.TS.lex_ints 0 i i' (by omega) bd bd' ⟨rfl, rfl⟩
end
section
variable {X : Cx}
theorem cr_sortedTs : CallR X (.builtin "sorted") (rSortedTs X.K) := by
  intro pins s σ H vs us Q I r h
  obtain ⟨a, xs, k, d, B, rfl, hs, hd, hx, q⟩ := h
  obtain ⟨its, rv, hl, hz⟩ := I.list hs
  obtain ⟨u, rfl, ru⟩ := vals1 r
  obtain rfl : u = Value.ref a := ru
  obtain ⟨e1, e2⟩ := refs_back rv fun x m => by
    obtain ⟨t, e, _⟩ := hx x m
    exact ⟨t, e⟩
  have hin : ∀ v ∈ its, _root_.TS.TupInts s.heap v (k (backV v)) ∧ (k (backV v)).length = d ∧ _root_.TS.Bd B (k (backV v)) := fun v hv => by
    obtain ⟨t, rfl⟩ := e2 v hv
    have hm : V.ref t ∈ xs := by rw [e1]; exact List.mem_map.mpr ⟨_, hv, rfl⟩
    obtain ⟨t', e, ht, l, bd⟩ := hx _ hm
    cases e
    obtain ⟨its2, r2, ⟨o, ho, hc, n, hdt⟩, _⟩ := I.tuple ht
    exact ⟨⟨t, its2.toArray, rfl, ⟨o, ho, hc, n, hdt⟩, show PyProof.Rows.IntsAre its2.toArray.toList (k (V.ref t)) by simpa using r2.ints⟩, l, bd⟩
  refine SrtO.sorted_ord (ltv := fun u v => ltC B k (backV u) (backV v)) ⟨fun x y => (ltC_swo B k).asym _ _, fun x y z => (ltC_swo B k).tr _ _ _⟩ hl.isList (by rw [← rv.length]; exact hz) (fun h2 h₁ a' ha' kp => ?_) fun out h1 h2 => ?_
  · refine tups_sortable (s := { s with heap := h₁ }) hd h2 (fun v hv => ?_) fun v hv e => ?_
    · obtain ⟨⟨b, ys, e, ⟨o, ho, r⟩, i⟩, l, bd⟩ := hin v hv
      exact ⟨⟨b, ys, e, ⟨o, (kp b o ho).2, r⟩, i⟩, l, bd⟩
    · obtain ⟨⟨b, ys, e', ⟨o, ho, r⟩, i⟩, _⟩ := hin v hv
      rw [e] at e'
      cases e'
      exact (kp _ o ho).1 rfl
  · have h3 : ∀ u ∈ out, ∃ a, u = Value.ref a := fun u hu => e2 u (h2.perm.mem_iff.mp hu)
    have hb : SrtO.Stb (ltC B k) (out.map backV) xs := by
      rw [e1]
      exact SrtO.Stb.map (ltC_swo B k) backV h2
    obtain ⟨n, hn⟩ := PyProof.Rows.sortedAll_at s.heap its out.toArray
    refine ⟨.ref (s.heap.objs.size + 1), upd H (s.heap.objs.size + 1) (.lst (out.map backV)), I.laid (t' := s.toks) (fun _ _ => PyProof.Rows.sortedAll_old) (Nat.le_succ _) ⟨?_, out, n, vals_back h3, hn⟩, rfl, q _ _ (SrtO.srtd_map h1) hb (I.hok.fresh (Nat.le_succ _))⟩
    rw [hb.len]
    exact hz
end
end Sf
namespace Sf
open PySem PySem.Spec PyProof.Rows L2
def rFac : List V → Hp → VK → Prop := fun vs H Q => ∃ n : Int, vs = [.int n] ∧ 0 ≤ n ∧ n ≤ 20000 ∧ Q (nV (Builtin.Math.factorialNat n.toNat)) H
theorem cr_factorial {X : Cx} : CallR X (.builtin "math.factorial") rFac := by
  intro pins s σ H vs us Q I r h
  obtain ⟨n, rfl, h0, h1, q⟩ := h
  obtain ⟨u, rfl, t, rfl⟩ := vals1 r
  exact PySem.W.mc_factorial h0 h1 fun _ => ⟨.int _, H, I.tok _, ⟨_, rfl⟩, q⟩
/-! ### a list of tuples of ints, a list of bools, as data -/
def dT2 (ks : LL) : List PyData := ks.map fun k => .tuple (dI k)
theorem dT2_lay : ∀ ks : LL, PyData.canLayAll0 (dT2 ks) = true
  | [] => by simp [dT2, PyData.canLayAll0]
  | k :: ks => by
    show PyData.canLayAll0 (.tuple (dI k) :: dT2 ks) = true
    rw [PyData.canLayAll0, dT2_lay ks]; simp [PyData.canLay0, dI_lay]
theorem dT2_depth : ∀ ks : LL, PyData.depthAll (dT2 ks) ≤ 2
  | [] => by simp [dT2, PyData.depthAll]
  | k :: ks => by
    show PyData.depthAll (.tuple (dI k) :: dT2 ks) ≤ 2
    have := dT2_depth ks
    have := dI_depth k
    simp only [PyData.depthAll, PyData.depth]; omega
theorem shaped_lst2 (ks : LL) : SeqAt.shaped (.list (dT2 ks)) = true := by
  have h := dT2_depth ks
  show (PyData.canLay0 (.list (dT2 ks)) && decide (PyData.depth (.list (dT2 ks)) ≤ 64)) = true
  rw [Bool.and_eq_true]
  exact ⟨by simp only [PyData.canLay0]; exact dT2_lay ks, decide_eq_true (by simp only [PyData.depth]; omega)⟩
/-- at these places stand these standings -/
abbrev AtL (H : Hp) : List Addr → LL → Prop := Paired fun r k => TD H r (VI k)
theorem AtL.same {H H' : Hp} {rs : List Addr} {ks : LL} (s : Same H H') (h : AtL H rs ks) : AtL H' rs ks := Paired.mapP h fun _ _ t => TD.same s t
theorem AtL.len {H : Hp} {rs : List Addr} {ks : LL} (h : AtL H rs ks) : rs.length = ks.length := Paired.length h
theorem AtL.get {H : Hp} : ∀ {rs : List Addr} {ks : LL}, AtL H rs ks → ∀ {i : Nat} {r : Addr}, rs[i]? = some r → ∃ k, ks[i]? = some k ∧ TD H r (VI k)
  | _, _, .nil, i, r, e => by simp at e
  | _, _, .cons h t, 0, r, e => by
    cases e
    exact ⟨_, rfl, h⟩
  | _, _, .cons h t, i + 1, r, e => AtL.get t (by simpa using e)
theorem AtL.snoc {H : Hp} {rs : List Addr} {ks : LL} {r : Addr} {k : List Int} (h : AtL H rs ks) (t : TD H r (VI k)) : AtL H (rs ++ [r]) (ks ++ [k]) := Paired.snoc h t
theorem dpAll_T2 {K : PySem.W.Frag} {H : Hp} {rs : List Addr} {ks : LL} (h : AtL H rs ks) : DpAll K H (rs.map V.ref) (dT2 ks) := by
  induction h with
  | nil => exact .nil
  | cons h t ih => exact .cons (dp_tup h.sq) ih
theorem dp_T2 {K : PySem.W.Frag} {H : Hp} {p : Addr} {rs : List Addr} {ks : LL} (h : SqL K H p (rs.map V.ref)) (a : AtL H rs ks) : Dp K H (.ref p) (.list (dT2 ks)) := .lst h (dpAll_T2 a)
theorem eqv_nil2 (ks : LL) : PyData.eqv (.list (dT2 ks)) (.list (dI [])) = decide (ks = []) := by
  rw [PyData.eqv]
  cases ks with
  | nil => simp [dT2, dI, PyData.eqvAll]
  | cons k ks => simp [dT2, dI, PyData.eqvAll]
def dB (bs : List Bool) : List PyData := bs.map PyData.bool
theorem dpAll_B {K : PySem.W.Frag} {H : Hp} : ∀ bs : List Bool, DpAll K H (bs.map V.bl) (dB bs)
  | [] => .nil
  | b :: bs => .cons (.bl b) (dpAll_B bs)
theorem shaped_b2 (a b : Bool) : SeqAt.shaped (.list (dB [a, b])) = true := by cases a <;> cases b <;> decide +kernel
theorem eqv_b2 (a b c d : Bool) : PyData.eqv (.list (dB [a, b])) (.list (dB [c, d])) = decide (a = c ∧ b = d) := by
  cases a <;> cases b <;> cases c <;> cases d <;> decide +kernel
end Sf
namespace Sf
theorem take_more {α : Type} {l : List α} {i : Nat} {x : α} (h : l[i]? = some x) : l.take (i + 1) = l.take i ++ [x] := by
  rw [List.take_succ, h]
  rfl
theorem nbs_take {w h : Nat} {l : LL} {i : Nat} {x : List Int} (e : l[i]? = some x) : nbs w h (l.take (i + 1)) = nbs w h (l.take i) ++ nb w h x (wordsM w h x) := by
  rw [take_more e]
  unfold nbs
  rw [List.flatMap_append]
  simp
theorem nb_take {w h : Nat} {x x' : List Int} {ds : List Dir} {j : Nat} {d : Dir} (e : ds[j]? = some d) (s : step w h x d = some x') : nb w h x (ds.take (j + 1)) = nb w h x (ds.take j) ++ [x'] := by
  rw [take_more e]
  unfold nb
  rw [List.filterMap_append]
  show _ ++ List.filterMap _ [d] = _
  rw [List.filterMap_cons, s]
  rfl
theorem std_le {n : Nat} {ks : LL} (h6 : n ≤ 6) (nd : ks.Nodup) (h : ∀ x ∈ ks, Std n x) : ks.length ≤ 720 := Nat.le_trans (nodup_le (m := allS n) nd fun x m => allS_mem (h x m)) (allS6 _ h6)
/-- the neighbours so far: all are standings, and steps of the layer -/
theorem some_std {w h : Nat} {l : LL} (F : Fl w h) (S : ∀ x ∈ l, Std (w * h) x) : ∀ x ∈ nbs w h l, Std (w * h) x := fun x m => by
  obtain ⟨y, hy, d, e⟩ := nbs_mem.mp m
  exact step_std F (S y hy) e
theorem nb_std {w h : Nat} {x : List Int} {ds : List Dir} (F : Fl w h) (S : Std (w * h) x) : ∀ y ∈ nb w h x ds, Std (w * h) y := fun y m => by
  unfold nb at m
  obtain ⟨d, _, e⟩ := List.mem_filterMap.mp m
  exact step_std F S e
section
variable {w h : Nat} {s : List Int} {t : Nat}
theorem vis_facts (F : Fl w h) (h6 : w * h ≤ 6) (S : Std (w * h) s) {i : Nat} {xs : LL} (hx : ∀ y ∈ xs, Std (w * h) y) :
    let V := visits (layr w h s t).1 (nbs w h ((layr w h s t).2.take i) ++ xs)
    V.1.Nodup ∧ (∀ x ∈ V.1, Std (w * h) x) ∧ V.1.length ≤ 720 ∧ V.2.length ≤ 720 ∧ ∀ x ∈ (layr w h s t).1, x ∈ V.1 := by
  intro V
  have hl : ∀ x ∈ (layr w h s t).2.take i, Std (w * h) x := fun x m => layr_std F S t x (layr_sub t x (List.mem_of_mem_take m))
  have st : ∀ x ∈ V.1, Std (w * h) x := fun x m => by
    rcases visits_mem.mp m with q | q
    · exact layr_std F S t x q
    · rcases List.mem_append.mp q with q | q
      · exact some_std F hl x q
      · exact hx x q
  have nd : V.1.Nodup := visits_nodup (layr_facts t).1
  have le := std_le h6 nd st
  refine ⟨nd, st, le, ?_, fun x m => visits_mem.mpr (.inl m)⟩
  have := visits_len (layr w h s t).1 (nbs w h ((layr w h s t).2.take i) ++ xs)
  show V.2.length ≤ 720
  have e : V.1.length = (layr w h s t).1.length + V.2.length := this
  omega
/-- a newly met one is one move further -/
theorem new_dist {x y : List Int} {d : Dir} (m : x ∈ (layr w h s t).2) (e : step w h x d = some y) (n : y ∉ (layr w h s t).1) : IsDist w h s y (t + 1) := by
  obtain ⟨_, b, c⟩ := layr_facts (w := w) (h := h) (s := s) t
  exact ⟨.snoc ((c x).mp m).1 e, fun k hk p => n ((b y).mpr ⟨k, by omega, p⟩)⟩
end
end Sf
namespace Sf
open PySem PySem.Spec PyProof.Rows L2
def NotT (u : HO) : Prop := ∀ ob xs, u ≠ HO.frz ob (.tup xs)
theorem notT_lst {xs : List V} : NotT (.lst xs) := fun _ _ q => nomatch q
theorem notT_dx {P : Program} {w : World} {a : Addr} {L : List DXE} : NotT (DX P w a L) := fun ob xs q => by unfold DX at q; cases q
theorem TD.updN {H : Hp} {r W : Addr} {xs : List V} {o u : HO} (n : NotT u) (hW : H W = some u) (t : TD H r xs) : TD (upd H W o) r xs := by
  obtain ⟨ob, d, e⟩ := t
  refine ⟨ob, d, ?_⟩
  rw [upd_ne (ne_of e hW (fun q => n ob xs q.symm))]
  exact e
theorem AtL.updN {H : Hp} {W : Addr} {rs : List Addr} {ks : LL} {o u : HO} (n : NotT u) (hW : H W = some u) (t : AtL H rs ks) : AtL (upd H W o) rs ks := Paired.mapP t fun _ _ t => TD.updN n hW t
def KeysT (H : Hp) (L : List DXE) : Prop := ∀ e ∈ L, TD H e.2.1 (VI e.1)
theorem KeysT.at {K : PySem.W.Frag} {H : Hp} {L : List DXE} (h : KeysT H L) : KeysAt K H L := fun e m => (h e m).sq
theorem KeysT.same {H H' : Hp} {L : List DXE} (s : Same H H') (h : KeysT H L) : KeysT H' L := fun e m => (h e m).same s
theorem KeysT.updN {H : Hp} {W : Addr} {L : List DXE} {o u : HO} (n : NotT u) (hW : H W = some u) (h : KeysT H L) : KeysT (upd H W o) L := fun e m => TD.updN n hW (h e m)
theorem same_ch {H H2 : Hp} {W : Addr} {o : HO} (n : H W = none) (s : Same H H2) : Same H (upd H2 W o) := fun b u e => by
  rw [upd_ne (ne_of_none e n)]
  exact s b u e
/-- going by the law: the dict of all that come, by how many moves -/
def spFar (P : Program) (W : World) (K : PySem.W.Frag) : Sp := fun vs H Q _ => ∃ (f s : Addr) (w h : Nat) (st : List Int), vs = [.ref f, .ref s] ∧ SqT K H f [nV w, nV h] ∧ Fl w h ∧ w * h ≤ 6 ∧ TD H s (VI st) ∧ Std (w * h) st ∧
  ∀ (d : Addr) (H' : Hp) (L : List DXE) (t : Nat), H d = none → Same H H' → H' d = some (DX P W d L) → KeysT H' L → L.map (·.1) = (layr w h st t).1 → (layr w h st t).2 = [] → (∀ e ∈ L, ∃ n : Nat, e.2.2 = nV n ∧ IsDist w h st e.1 n) → Q (.ref d) H'
end Sf
namespace Sf
open PySem PySem.Spec PyProof.Rows L2

/-! ### the text by places -/
def top (i : Nat) : Stmt := PySem.Challenge.pw_slidefloor_k05_all_that_are_joined.main.body.getD i (.Pass ⟨0, 0, 0, 0⟩)
abbrev s_need_floor : Stmt := top 8
abbrev s_need_standing : Stmt := top 9
abbrev s_is_number : Stmt := top 10
abbrev s_count_places : Stmt := top 11
abbrev s_column_and_row : Stmt := top 12
abbrev s_side : Stmt := top 14
abbrev s_is_joined : Stmt := top 15
abbrev s_how_many : Stmt := top 16
abbrev s_is_line : Stmt := top 17
abbrev s_count_falls : Stmt := top 18
abbrev s_tiles_in_order : Stmt := top 19
abbrev s_law_draw : Stmt := top 21
abbrev s_law_whole : Stmt := top 22
abbrev s_law_floor : Stmt := top 23
abbrev s_law_standing : Stmt := top 24
abbrev s_law_moved : Stmt := top 25
abbrev s_law_words : Stmt := top 26
abbrev s_law_far : Stmt := top 27
abbrev s_law_orders : Stmt := top 28
abbrev s_law : Stmt := top 29
/-- what the top has written -/
structure Tx (K : PySem.W.Frag) (mg : Str → Option Value) where
  d_need_floor : Df K mg "need_floor" s_need_floor ["floor"]
  d_need_standing : Df K mg "need_standing" s_need_standing ["floor", "standing"]
  d_is_number : Df K mg "is_number" s_is_number ["value"]
  d_count_places : Df K mg "count_places" s_count_places ["floor"]
  d_column_and_row : Df K mg "column_and_row" s_column_and_row ["floor", "place"]
  d_side : Df K mg "side" s_side ["floor", "standing"]
  d_is_joined : Df K mg "is_joined" s_is_joined ["floor", "one", "other"]
  d_how_many : Df K mg "how_many" s_how_many ["floor", "standing"]
  d_is_line : Df K mg "is_line" s_is_line ["floor"]
  d_count_falls : Df K mg "count_falls" s_count_falls ["standing"]
  d_tiles_in_order : Df K mg "tiles_in_order" s_tiles_in_order ["standing"]
  d_law_draw : Df K mg "_law_draw" s_law_draw ["_law_script", "_law_k"]
  d_law_whole : Df K mg "_law_whole" s_law_whole ["_law_found"]
  d_law_floor : Df K mg "_law_floor" s_law_floor ["_law_number"]
  d_law_standing : Df K mg "_law_standing" s_law_standing ["_law_script", "_law_k", "_law_floor_here"]
  d_law_moved : Df K mg "_law_moved" s_law_moved ["_law_floor_here", "_law_standing_here", "_law_word"]
  d_law_words : Df K mg "_law_words" s_law_words ["_law_floor_here", "_law_standing_here"]
  d_law_far : Df K mg "_law_far" s_law_far ["_law_floor_here", "_law_standing_here"]
  d_law_orders : Df K mg "_law_orders" s_law_orders ["_law_many"]
  d_law : Df K mg "law" s_law ["_law_script"]
  c_SlideError : Ec K mg "SlideError"
  c_BadFloor : Ec K mg "BadFloor"
  c_BadStanding : Ec K mg "BadStanding"
  k_LONGEST_SIDE : ∃ t, mg "LONGEST_SIDE" = some (.int 4 t)
  k_FEWEST_PLACES : ∃ t, mg "FEWEST_PLACES" = some (.int 2 t)
  i_factorial : mg "factorial" = some (.builtin "math.factorial")
  b_len : mg "len" = none
  b_sorted : mg "sorted" = none
  b_list : mg "list" = none
  b_range : mg "range" = none
  b_tuple : mg "tuple" = none
  b_type : mg "type" = none
  b_int : mg "int" = none
  b_isinstance : mg "isinstance" = none
  b_enumerate : mg "enumerate" = none
  b_all : mg "all" = none
  b_sum : mg "sum" = none
  b_bool : mg "bool" = none
  b_ValueError : mg "ValueError" = none
end Sf
namespace Sf
open PySem PySem.Spec PyProof.Rows L2
/- need_floor: 0:floor 1:length -/
theorem sc_need_floor : FnScope ["floor", "length"] ["floor"] (defScope s_need_floor) := ⟨rfl, rfl, rfl, by decide +kernel, rfl, by decide +kernel, by decide +kernel⟩
/- need_standing: 0:floor 1:standing 2:places 3:number -/
theorem sc_need_standing : FnScope ["floor", "standing", "places", "number"] ["floor", "standing"] (defScope s_need_standing) := ⟨rfl, rfl, rfl, by decide +kernel, rfl, by decide +kernel, by decide +kernel⟩
/- is_number: 0:value -/
theorem sc_is_number : FnScope ["value"] ["value"] (defScope s_is_number) := ⟨rfl, rfl, rfl, by decide +kernel, rfl, by decide +kernel, by decide +kernel⟩
/- count_places: 0:floor 1:wide 2:high -/
theorem sc_count_places : FnScope ["floor", "wide", "high"] ["floor"] (defScope s_count_places) := ⟨rfl, rfl, rfl, by decide +kernel, rfl, by decide +kernel, by decide +kernel⟩
/- column_and_row: 0:floor 1:place 2:wide -/
theorem sc_column_and_row : FnScope ["floor", "place", "wide"] ["floor", "place"] (defScope s_column_and_row) := ⟨rfl, rfl, rfl, by decide +kernel, rfl, by decide +kernel, by decide +kernel⟩
/- side: 0:floor 1:standing 2:x 3:y -/
theorem sc_side : FnScope ["floor", "standing", "x", "y"] ["floor", "standing"] (defScope s_side) := ⟨rfl, rfl, rfl, by decide +kernel, rfl, by decide +kernel, by decide +kernel⟩
/- is_joined: 0:floor 1:one 2:other -/
theorem sc_is_joined : FnScope ["floor", "one", "other"] ["floor", "one", "other"] (defScope s_is_joined) := ⟨rfl, rfl, rfl, by decide +kernel, rfl, by decide +kernel, by decide +kernel⟩
/- how_many: 0:floor 1:standing 2:places -/
theorem sc_how_many : FnScope ["floor", "standing", "places"] ["floor", "standing"] (defScope s_how_many) := ⟨rfl, rfl, rfl, by decide +kernel, rfl, by decide +kernel, by decide +kernel⟩
/- is_line: 0:floor -/
theorem sc_is_line : FnScope ["floor"] ["floor"] (defScope s_is_line) := ⟨rfl, rfl, rfl, by decide +kernel, rfl, by decide +kernel, by decide +kernel⟩
/- count_falls: 0:standing 1:falls 2:place 3:number 4:later -/
theorem sc_count_falls : FnScope ["standing", "falls", "place", "number", "later"] ["standing"] (defScope s_count_falls) := ⟨rfl, rfl, rfl, by decide +kernel, rfl, by decide +kernel, by decide +kernel⟩
/- tiles_in_order: 0:standing 1:number -/
theorem sc_tiles_in_order : FnScope ["standing", "number"] ["standing"] (defScope s_tiles_in_order) := ⟨rfl, rfl, rfl, by decide +kernel, rfl, by decide +kernel, by decide +kernel⟩
/- law_draw: 0:_law_script 1:_law_k 2:_law_cell 3:_law_number -/
theorem sc_law_draw : FnScope ["_law_script", "_law_k", "_law_cell", "_law_number"] ["_law_script", "_law_k"] (defScope s_law_draw) := ⟨rfl, rfl, rfl, by decide +kernel, rfl, by decide +kernel, by decide +kernel⟩
/- law_whole: 0:_law_found -/
theorem sc_law_whole : FnScope ["_law_found"] ["_law_found"] (defScope s_law_whole) := ⟨rfl, rfl, rfl, by decide +kernel, rfl, by decide +kernel, by decide +kernel⟩
/- law_floor: 0:_law_number -/
theorem sc_law_floor : FnScope ["_law_number"] ["_law_number"] (defScope s_law_floor) := ⟨rfl, rfl, rfl, by decide +kernel, rfl, by decide +kernel, by decide +kernel⟩
/- law_standing: 0:_law_script 1:_law_k 2:_law_floor_here 3:_law_rows 4:_law_j 5:_law_row -/
theorem sc_law_standing : FnScope ["_law_script", "_law_k", "_law_floor_here", "_law_rows", "_law_j", "_law_row"] ["_law_script", "_law_k", "_law_floor_here"] (defScope s_law_standing) := ⟨rfl, rfl, rfl, by decide +kernel, rfl, by decide +kernel, by decide +kernel⟩
/- law_moved: 0:_law_floor_here 1:_law_standing_here 2:_law_word 3:_law_wide 4:_law_high 5:_law_empty 6:_law_x 7:_law_y 8:_law_tile 9:_law_found 10:_law_one -/
theorem sc_law_moved : FnScope ["_law_floor_here", "_law_standing_here", "_law_word", "_law_wide", "_law_high", "_law_empty", "_law_x", "_law_y", "_law_tile", "_law_found", "_law_one"] ["_law_floor_here", "_law_standing_here", "_law_word"] (defScope s_law_moved) := ⟨rfl, rfl, rfl, by decide +kernel, rfl, by decide +kernel, by decide +kernel⟩
/- law_words: 0:_law_floor_here 1:_law_standing_here 2:_law_word -/
theorem sc_law_words : FnScope ["_law_floor_here", "_law_standing_here", "_law_word"] ["_law_floor_here", "_law_standing_here"] (defScope s_law_words) := ⟨rfl, rfl, rfl, by decide +kernel, rfl, by decide +kernel, by decide +kernel⟩
/- law_far: 0:_law_floor_here 1:_law_standing_here 2:_law_found 3:_law_layer 4:_law_later 5:_law_one 6:_law_word 7:_law_other -/
theorem sc_law_far : FnScope ["_law_floor_here", "_law_standing_here", "_law_found", "_law_layer", "_law_later", "_law_one", "_law_word", "_law_other"] ["_law_floor_here", "_law_standing_here"] (defScope s_law_far) := ⟨rfl, rfl, rfl, by decide +kernel, rfl, by decide +kernel, by decide +kernel⟩
/- law_orders: 0:_law_many 1:_law_found 2:_law_number -/
theorem sc_law_orders : FnScope ["_law_many", "_law_found", "_law_number"] ["_law_many"] (defScope s_law_orders) := ⟨rfl, rfl, rfl, by decide +kernel, rfl, by decide +kernel, by decide +kernel⟩
/- law: 0:_law_script 1:_law_number 2:_law_floor_here 3:_law_first 4:_law_all_ones 5:_law_found 6:_law_k 7:_law_other 8:_law_told 9:_law_great 10:_law_many 11:_law_due 12:_law_one -/
theorem sc_law : FnScope ["_law_script", "_law_number", "_law_floor_here", "_law_first", "_law_all_ones", "_law_found", "_law_k", "_law_other", "_law_told", "_law_great", "_law_many", "_law_due", "_law_one"] ["_law_script"] (defScope s_law) := ⟨rfl, rfl, rfl, by decide +kernel, rfl, by decide +kernel, by decide +kernel⟩
end Sf
namespace Sf
open PySem PySem.Spec PyProof.Rows L2
section
variable {P : Program} {w : World} {K : PySem.W.Frag} {mg : Str → Option Value} {base : Heap}
theorem ok_is_number (T : Tx K mg) : FnD P w base CX0 1 T.d_is_number (spNum K) := by
  refine T.d_is_number.F.ok sc_is_number (fun vs H Q E h => ?_) (fun cdv A outer s H vs Q E hr h => ?_)
  · obtain ⟨v, t, rfl, _⟩ := h
    rfl
  · obtain ⟨v, t, rfl, hv, k⟩ := h
    refine ⟨_, pss_one (ps_ret (pe_cmpR op_eqTy (pe_t call_type1 T.b_type (pa1 (pv 0))) (pe_ty (T := "int") T.b_int) (nomark _))), ?_⟩
    exact ⟨_, rfl, v, t, rfl, hv, _, _, rfl, rfl, TyB.tyty hv, ty_int, k⟩
theorem ok_count_places (T : Tx K mg) : FnD P w base CX0 1 T.d_count_places (spCount K) := by
  refine T.d_count_places.F.ok sc_count_places (fun vs H Q E h => ?_) (fun cdv A outer s H vs Q E hr h => ?_)
  · obtain ⟨a, x, y, rfl, _⟩ := h
    rfl
  · obtain ⟨a, x, y, rfl, hs, hx, hy, k⟩ := h
    refine ⟨_, pss_cons (ps_asg (pv 0) (pg_tup (by rfl) (pgs_cons (pg_name (i := 1) sc_count_places.nd rfl (.inl rfl)) (pgs_cons (pg_name (i := 2) sc_count_places.nd rfl (.inl rfl)) pgs_nil))))
      (pss_one (ps_ret (pe_op op_mul (pv 1) (pv 2)))), ?_⟩
    refine ⟨_, rfl, a, _, rfl, hs, rfl, _, _, rfl, _, _, rfl, rfl, _, rfl, _, rfl, _, _, rfl, rfl, .inl ⟨by omega, by omega⟩, ?_⟩
    have e : ((x * y : Nat) : Int) = (x : Int) * (y : Int) := Int.natCast_mul x y
    rw [e] at k
    exact k
theorem nat_of_side {i : Int} (h1 : ¬ i < 1) (h2 : ¬ (4 : Int) < i) : ∃ n : Nat, i = (n : Int) ∧ 1 ≤ n ∧ n ≤ 4 := ⟨i.toNat, by omega, by omega, by omega⟩
theorem ok_need_floor (T : Tx K mg) : FnD P w base (L2.CX P w) 2 T.d_need_floor (spNeedF K T.c_BadFloor.C) := by
  have G1 : FnD P w base CX0 1 T.d_is_number (spNum K) := ok_is_number T
  have G2 : FnD P w base CX0 1 T.d_count_places (spCount K) := ok_count_places T
  refine T.d_need_floor.F.okX sc_need_floor (fun vs H Q E h => ?_) (fun cdv A outer s H vs Q E hr h => ?_)
  · obtain ⟨v, o, rfl, _⟩ := h
    rfl
  · obtain ⟨v, o, rfl, hf, kg, kb⟩ := h
    obtain ⟨t1, k1⟩ := T.k_LONGEST_SIDE
    obtain ⟨t2, k2⟩ := T.k_FEWEST_PLACES
    refine ⟨_, pss_cons (ps_if (PW.pt (pw_or (pt_cmpR op_neTy (pe_t call_type1 T.b_type (pa1 (pv 0))) (pe_ty (T := "tuple") T.b_tuple) (nomark _))
          (pw_or1 (pt_cmpR op_ne (pe_b call_len_seq T.b_len (pa1 (pv 0))) pe_int (nomark _)))))
        (pss_one (ps_rs T.c_BadFloor rfl (takes_of rfl rfl rfl rfl))) pss_nil)
      (pss_cons (ps_for (passes_of rfl) rfl (pi_tup (pv 0)) (pg_name (i := 1) sc_need_floor.nd rfl (.inl rfl))
        (pss_one (ps_if (PW.pt (pw_or (pt_not (pt_val (pe_d T.d_is_number G1 hr pass0 (pa1 (pv 1)))))
            (pw_or (pt_cmpR op_lt (pv 1) pe_int (nomark _)) (pw_or1 (pt_cmpR op_gt (pv 1) (pe_k k1) (nomark _))))))
          (pss_one (ps_rs T.c_BadFloor rfl (takes_of rfl rfl rfl rfl))) pss_nil)))
      (pss_one (ps_if (pt_cmpR op_lt (pe_d T.d_count_places G2 hr pass0 (pa1 (pv 0))) (pe_k k2) (nomark _))
          (pss_one (ps_rs T.c_BadFloor rfl (takes_of rfl rfl rfl rfl))) pss_nil))), ?_⟩
    -- the kind
    have hk : ∃ t, TyB K H v t ∧ (t ≠ "tuple" → o = none) ∧ (t = "tuple" → ∃ a xs, v = .ref a ∧ SqT K H a xs ∧ (xs.length ≠ 2 → o = none) ∧ ∀ x y, xs = [x, y] → Kn K H x ∧ Kn K H y ∧
        (∀ w h : Nat, x = .int w → y = .int h → Fl w h → o ≠ none) ∧ ((¬ ∃ w h : Nat, x = .int w ∧ y = .int h ∧ Fl w h) → o = none)) := by
      cases hf with
      | good h F =>
        refine ⟨_, .tup h, fun z => absurd rfl z, fun _ => ⟨_, _, rfl, h, fun z => absurd rfl z, fun x y e => ?_⟩⟩
        cases e
        exact ⟨⟨_, .int _⟩, ⟨_, .int _⟩, fun _ _ _ _ _ z => (by cases z), fun z => absurd ⟨_, _, rfl, rfl, F⟩ z⟩
      | kind t n => exact ⟨_, t, fun _ => rfl, fun z => absurd z n⟩
      | size h n => exact ⟨_, .tup h, fun _ => rfl, fun _ => ⟨_, _, rfl, h, fun _ => rfl, fun x y e => absurd (by rw [e]; rfl) n⟩⟩
      | side h kx ky n =>
        refine ⟨_, .tup h, fun _ => rfl, fun _ => ⟨_, _, rfl, h, fun _ => rfl, fun x y e => ?_⟩⟩
        cases e
        exact ⟨kx, ky, fun a b e1 e2 F => absurd ⟨a, b, e1, e2, F⟩ n, fun _ => rfl⟩
    obtain ⟨t, hty, hnt, htup⟩ := hk
    refine ⟨_, rfl, v, t, rfl, hty, _, _, rfl, rfl, TyB.tyty hty, ty_tuple, _, rfl, ?_⟩
    by_cases et : t = "tuple"
    · refine iteNF et ?_
      obtain ⟨a, xs, rfl, hs, hl, hxy⟩ := htup et
      refine ⟨_, rfl, a, xs, rfl, .inr hs, rfl, _, rfl, ?_⟩
      by_cases el : xs.length = 2
      · refine iteNF (by rw [el]; rfl) ?_
        obtain ⟨x, y, rfl⟩ : ∃ x y, xs = [x, y] := by
          match xs, el with
          | [x, y], _ => exact ⟨x, y, rfl⟩
        obtain ⟨⟨tx, kx⟩, ⟨ty, ky⟩, hgood, hbad⟩ := hxy x y rfl
        -- the loop over both sides
        refine ⟨_, rfl, a, rfl, ⟨_, hs⟩, for_tup (K := K) (a := a) (xs := [x, y]) (fun i σ H2 => H2 = H ∧ (∃ u : Option V, σ = [some (.ref a), u]) ∧ ∀ j, j < i → ∀ z, [x, y][j]? = some z → okSide z) ⟨rfl, ⟨none, rfl⟩, fun j hj => absurd hj (Nat.not_lt_zero j)⟩
          (fun i σ H2 _ p => by rw [p.1]; exact hs) ?_ ?_⟩
        · rintro i z σ H2 hz ⟨rfl, ⟨u, rfl⟩, hp⟩
          have hzk : ∃ tz, TyB K H2 z tz := by
            match i, hz with
            | 0, hz => cases hz; exact ⟨tx, kx⟩
            | 1, hz => cases hz; exact ⟨ty, ky⟩
          obtain ⟨tz, hzt⟩ := hzk
          have bad : ¬ okSide z → E (.ref T.c_BadFloor.C) none H2 := fun nz => by
            refine kb (hbad ?_)
            rintro ⟨w', h', e1, e2, F⟩
            refine nz ?_
            match i, hz with
            | 0, hz => cases hz; exact ⟨w', e1, F.w1, F.w4⟩
            | 1, hz => cases hz; exact ⟨h', e2, F.h1, F.h4⟩
          refine ⟨_, rfl, z, tz, rfl, hzt, _, rfl, ?_⟩
          refine iteN2 (fun e => bad ?_) fun e => ?_
          · rintro ⟨n, rfl, _⟩
            cases hzt
            exact absurd (of_decide_eq_false e) (fun q => q rfl)
          · obtain ⟨i', rfl⟩ := tyb_int hzt (of_decide_eq_true e)
            refine ⟨_, rfl, _, _, rfl, rfl, _, rfl, ?_⟩
            refine ite2 (fun e1 => bad ?_) fun e1 => ⟨_, rfl, _, _, rfl, rfl, _, rfl, ?_⟩
            · rintro ⟨n, e2, n1, n4⟩
              have := V.int.inj e2
              have := of_decide_eq_true e1
              omega
            · refine ite2 (fun e2 => bad ?_) fun e2 => ?_
              · rintro ⟨n, e3, n1, n4⟩
                have := V.int.inj e3
                have := of_decide_eq_true e2
                omega
              · obtain ⟨n, rfl, n1, n4⟩ := nat_of_side (fun q => e1 (decide_eq_true q)) (fun q => e2 (decide_eq_true q))
                refine ⟨rfl, ⟨_, rfl⟩, fun j hj z' hz' => ?_⟩
                by_cases ej : j < i
                · exact hp j ej z' hz'
                · have : j = i := by omega
                  subst this
                  rw [hz] at hz'
                  cases hz'
                  exact ⟨n, rfl, n1, n4⟩
        · rintro σ H2 ⟨rfl, ⟨u, rfl⟩, hp⟩
          obtain ⟨wx, rfl, a1, a4⟩ := hp 0 (by show 0 < 2; omega) x rfl
          obtain ⟨wy, rfl, b1, b4⟩ := hp 1 (by show 1 < 2; omega) y rfl
          refine ⟨_, rfl, a, wx, wy, rfl, hs, a4, b4, _, _, rfl, rfl, _, rfl, ?_⟩
          refine ite2 (fun e => kb (hbad ?_)) fun e => kg ?_
          · rintro ⟨w', h', e1, e2, F⟩
            have q1 := V.int.inj e1
            have q2 := V.int.inj e2
            have q3 := of_decide_eq_true e
            have q4 : wx = w' := by omega
            have q5 : wy = h' := by omega
            subst q4 q5
            have := F.two
            omega
          · have q : ¬ ((wx * wy : Nat) : Int) < 2 := fun q => e (decide_eq_true q)
            have n := hgood wx wy rfl rfl ⟨a1, a4, b1, b4, by omega⟩
            cases o with
            | none => exact absurd rfl n
            | some p => rfl
      · refine iteNT (fun q => el (by have := V.int.inj q; omega)) (kb (hl el))
    · exact iteNT et (kb (hnt et))
end
end Sf
namespace Sf
open PySem PySem.Spec PyProof.Rows L2
section
variable {P : Program} {w : World} {K : PySem.W.Frag} {mg : Str → Option Value} {base : Heap}
theorem ok_need_standing (T : Tx K mg) : FnD P w base (L2.CX P w) 3 T.d_need_standing (spNeedS K T.c_BadFloor.C T.c_BadStanding.C) := by
  have G1 : FnD P w base CX0 1 T.d_is_number (spNum K) := ok_is_number T
  have G2 : FnD P w base CX0 1 T.d_count_places (spCount K) := ok_count_places T
  have G3 : FnD P w base (L2.CX P w) 2 T.d_need_floor (spNeedF K T.c_BadFloor.C) := ok_need_floor T
  refine T.d_need_standing.F.okX sc_need_standing (fun vs H Q E h => ?_) (fun cdv A outer s H vs Q E hr h => ?_)
  · obtain ⟨f, v, o, rfl, _⟩ := h
    rfl
  · obtain ⟨f, v, o, rfl, hf, kf, ks⟩ := h
    have hr1 : Room 1 _ := hr.mono (by decide)
    refine ⟨_, pss_cons (ps_expr (pe_d T.d_need_floor G3 hr (passes_call (takes_of rfl rfl rfl rfl) (fun _ _ _ _ z => z)) (pa1 (pv 0))))
      (pss_cons (ps_set (i := 2) sc_need_standing.nd rfl (.inl rfl) (pe_d T.d_count_places G2 hr1 pass0 (pa1 (pv 0))))
      (pss_cons (ps_if (PW.pt (pw_or (pt_cmpR op_neTy (pe_t call_type1 T.b_type (pa1 (pv 1))) (pe_ty (T := "tuple") T.b_tuple) (nomark _))
          (pw_or1 (pt_cmpR op_ne (pe_b call_len_seq T.b_len (pa1 (pv 1))) (pv 2) (nomark _)))))
        (pss_one (ps_rs T.c_BadStanding rfl (takes_of rfl rfl rfl rfl))) pss_nil)
      (pss_cons (ps_for (passes_of rfl) rfl (pi_tup (pv 1)) (pg_name (i := 3) sc_need_standing.nd rfl (.inl rfl))
        (pss_one (ps_if (pt_not (pt_val (pe_d T.d_is_number G1 hr1 pass0 (pa1 (pv 3)))))
          (pss_one (ps_rs T.c_BadStanding rfl (takes_of rfl rfl rfl rfl))) pss_nil)))
      (pss_one (ps_if (pt_cmpR (op_neD hr.units) (pe_b cr_sortedTI T.b_sorted (pa1 (pv 1))) (pe_listRg rfl (by rfl) T.b_list (prg_1 (by rfl) T.b_range (pv 2))) (nomark _))
          (pss_one (ps_rs T.c_BadStanding rfl (takes_of rfl rfl rfl rfl))) pss_nil))))), ?_⟩
    refine ⟨_, rfl, f, o, rfl, hf, fun ho => ?_, kf⟩
    cases hf with
    | kind => cases ho
    | size => cases ho
    | side => cases ho
    | @good a wd hg hfs F =>
      obtain ⟨o2, hv, kg, kb⟩ := ks wd hg rfl
      refine ⟨_, rfl, a, wd, hg, rfl, hfs, F.w4, F.h4, ?_⟩
      have hk : ∃ t, TyB K H v t ∧ (t ≠ "tuple" → o2 = none) ∧ (t = "tuple" → ∃ b xs, v = .ref b ∧ SqT K H b xs ∧ (xs.length ≠ wd * hg → o2 = none) ∧ (xs.length = wd * hg → (∀ x ∈ xs, Kn K H x) ∧
          (∀ st : List Int, xs = VI st → Std (wd * hg) st → o2 ≠ none) ∧ ((¬ ∃ st : List Int, xs = VI st ∧ Std (wd * hg) st) → o2 = none))) := by
        cases hv with
        | @good b st h S =>
          refine ⟨_, .tup h.sq, fun z => absurd rfl z, fun _ => ⟨_, _, rfl, h.sq, fun z => absurd (by rw [List.length_map]; exact S.len) z, fun _ => ⟨fun x hx => ?_, fun _ _ _ z => (by cases z), fun z => absurd ⟨_, rfl, S⟩ z⟩⟩⟩
          obtain ⟨n, _, rfl⟩ := List.mem_map.mp hx
          exact ⟨_, .int n⟩
        | kind t n => exact ⟨_, t, fun _ => rfl, fun z => absurd z n⟩
        | size h n => exact ⟨_, .tup h, fun _ => rfl, fun _ => ⟨_, _, rfl, h, fun _ => rfl, fun e => absurd e n⟩⟩
        | items h hl hk n => exact ⟨_, .tup h, fun _ => rfl, fun _ => ⟨_, _, rfl, h, fun _ => rfl, fun _ => ⟨hk, fun st e S => absurd ⟨st, e, S⟩ n, fun _ => rfl⟩⟩⟩
      obtain ⟨t, hty, hnt, htup⟩ := hk
      refine ⟨_, rfl, v, t, rfl, hty, _, _, rfl, rfl, TyB.tyty hty, ty_tuple, _, rfl, ?_⟩
      by_cases et : t = "tuple"
      · refine iteNF et ?_
        obtain ⟨b, xs, rfl, hs, hl, hxs⟩ := htup et
        refine ⟨_, rfl, b, xs, rfl, .inr hs, _, rfl, rfl, _, rfl, ?_⟩
        by_cases el : xs.length = wd * hg
        · refine iteNF (by rw [el]) ?_
          obtain ⟨hkn, hgood, hbad⟩ := hxs el
          refine ⟨_, rfl, b, rfl, ⟨_, hs⟩, for_tup (K := K) (a := b) (xs := xs) (fun i σ H2 => H2 = H ∧ (∃ u : Option V, σ = [some (.ref a), some (.ref b), some (.int ((wd * hg : Nat) : Int)), u]) ∧ ∀ j, j < i → ∀ z, xs[j]? = some z → ∃ n : Int, z = .int n) ⟨rfl, ⟨none, rfl⟩, fun j hj => absurd hj (Nat.not_lt_zero j)⟩
            (fun i σ H2 _ p => by rw [p.1]; exact hs) ?_ ?_⟩
          · rintro i z σ H2 hz ⟨rfl, ⟨u, rfl⟩, hp⟩
            obtain ⟨tz, hzt⟩ := hkn z (List.mem_of_getElem? hz)
            refine ⟨_, rfl, z, tz, rfl, hzt, _, rfl, ?_⟩
            refine iteN2 (fun e => kb (hbad ?_) _ (Same.refl _)) fun e => ⟨rfl, ⟨_, rfl⟩, fun j hj z' hz' => ?_⟩
            · rintro ⟨st, rfl, S⟩
              obtain ⟨n, _, rfl⟩ := VI_get hz
              cases hzt
              exact absurd (of_decide_eq_false e) (fun q => q rfl)
            · by_cases ej : j < i
              · exact hp j ej z' hz'
              · have : j = i := by omega
                subst this
                rw [hz] at hz'
                cases hz'
                exact tyb_int hzt (of_decide_eq_true e)
          · rintro σ H2 ⟨rfl, ⟨u, rfl⟩, hp⟩
            obtain ⟨ns, rfl⟩ := ints_of fun j z hz => hp j (List.getElem?_eq_some_iff.mp hz).1 z hz
            have F16 := F.le
            refine ⟨_, rfl, b, ns, rfl, hs, fun ns' p hperm hsort np => ⟨_, rfl, _, rfl, RgOk.of_le (by decide) (by omega) (by decide) (by omega), fun q nq => ?_⟩⟩
            refine ⟨_, _, dp_lst (ns := ns') ?_, dp_lst (ns := iota (wd * hg)) ?_, shaped_lst _, shaped_lst _, _, rfl, ?_⟩
            · exact Same.seq (same_upd nq) sql_upd
            · rw [rgV_iota]; exact sql_upd
            · rw [eqv_lst]
              have sm : Same H2 (upd (upd H2 p (.lst (VI ns'))) q (.lst (rgV 0 ((wd * hg : Nat) : Int)))) := sm_upd (same_upd np) nq
              by_cases e : ns' = iota (wd * hg)
              · refine iteNF e (kg ?_ _ sm)
                have := hgood ns rfl (by rw [e] at hperm; exact hperm.symm)
                cases o2 with
                | none => exact absurd rfl this
                | some _ => rfl
              · refine iteNT e (kb (hbad ?_) _ sm)
                rintro ⟨st, e2, S⟩
                have := VI_inj e2
                subst this
                exact e (S.sorted hperm hsort)
        · refine iteNT (fun q => el (by have q' : ((xs.length : Nat) : Int) = ((wd * hg : Nat) : Int) := V.int.inj q; omega)) (kb (hl el) _ (Same.refl _))
      · exact iteNT et (kb (hnt et) _ (Same.refl _))
end
end Sf
namespace Sf
open PySem PySem.Spec PyProof.Rows L2
section
variable {P : Program} {w : World} {K : PySem.W.Frag} {mg : Str → Option Value} {base : Heap}
theorem ok_column_and_row (T : Tx K mg) : FnD P w base CX0 1 T.d_column_and_row (spCR K) := by
  refine T.d_column_and_row.F.ok sc_column_and_row (fun vs H Q E h => ?_) (fun cdv A outer s H vs Q E hr h => ?_)
  · obtain ⟨a, p, x, y, rfl, _⟩ := h
    rfl
  · obtain ⟨a, p, x, y, rfl, hs, F, k⟩ := h
    refine ⟨_, pss_cons (ps_set (i := 2) sc_column_and_row.nd rfl (.inl rfl) (pe_ix ix_tup (pv 0) pe_int (fun _ _ => rfl)))
      (pss_one (ps_ret (pe_tup (pa_cons (pe_op op_mod (pv 1) (pv 2)) (pa_cons (pe_op op_fdiv (pv 1) (pv 2)) pa_nil))))), ?_⟩
    have w1 := F.w1
    have w4 := F.w4
    refine ⟨_, rfl, a, _, 0, nV x, rfl, rfl, hs, rfl, ?_⟩
    refine ⟨_, rfl, _, rfl, _, _, rfl, rfl, (by show (0 : Int) < (x : Int); omega), _, rfl, _, rfl, _, _, rfl, rfl, ⟨by omega, by omega⟩, (by show 2 ≤ sizeLine; decide), fun t ht => ?_⟩
    exact k t ht
end
end Sf
namespace Sf
open PySem PySem.Spec PyProof.Rows L2
section
variable {P : Program} {w : World} {K : PySem.W.Frag} {mg : Str → Option Value} {base : Heap}
theorem ok_is_line (T : Tx K mg) : FnD P w base CX0 1 T.d_is_line (spLine K) := by
  refine T.d_is_line.F.ok sc_is_line (fun vs H Q E h => ?_) (fun cdv A outer s H vs Q E hr h => ?_)
  · obtain ⟨a, x, y, rfl, _⟩ := h
    rfl
  · obtain ⟨a, x, y, rfl, hs, k⟩ := h
    refine ⟨_, pss_one (ps_ret (pe_cmpR op_in_seq pe_int (pv 0) (by rfl))), ?_⟩
    refine ⟨_, rfl, a, _, rfl, .inr hs, rfl, rfl, ?_⟩
    have e : inV (.int 1) [nV x, nV y] = decide (x = 1 ∨ y = 1) := by
      show (((x : Int) == 1) || (((y : Int) == 1) || false)) = _
      by_cases h1 : x = 1 <;> by_cases h2 : y = 1 <;> simp [h1, h2] <;> omega
    show Q (.bl (if false = true then _ else inV (.int 1) [nV x, nV y])) H
    rw [if_neg Bool.false_ne_true, e]
    exact k
theorem ok_count_falls (T : Tx K mg) : FnD P w base CX0 1 T.d_count_falls (spFalls K) := by
  refine T.d_count_falls.F.ok sc_count_falls (fun vs H Q E h => ?_) (fun cdv A outer s H vs Q E hr h => ?_)
  · obtain ⟨a, st, rfl, _⟩ := h
    rfl
  · obtain ⟨a, st, rfl, hs, k⟩ := h
    have nd := sc_count_falls.nd
    refine ⟨_, pss_cons (ps_set (i := 1) nd rfl (.inl rfl) pe_int)
      (pss_cons (ps_for PassesOwn.never rfl (pi_enumT (by rfl) T.b_enumerate (pa1 (pv 0)))
          (pg_tup rfl (pgs_cons (pg_name (i := 2) nd rfl (.inl rfl)) (pgs_cons (pg_name (i := 3) nd rfl (.inl rfl)) pgs_nil)))
        (pss_one (ps_for PassesOwn.never rfl (pi_tup (pe_slice sl_tup (pv 0) (po_some (pe_op op_add (pv 2) pe_int)) po_none)) (pg_name (i := 4) nd rfl (.inl rfl))
          (pss_one (ps_if (pt_cmpR op_gt (pv 3) (pv 4) (nomark _)) (pss_one (ps_aug (i := 1) nd rfl (.inl rfl) pe_int ip_add)) pss_nil)))))
      (pss_one (ps_ret (pv 1)))), ?_⟩
    refine ⟨_, rfl, a, VI st, rfl, hs, for_it (walk_enumT (K := K) (a := a) (xs := VI st)) (fun i σ H2 => Same H H2 ∧ ∃ (f : Nat) (u v t : Option V), σ = [some (.ref a), some (nV f), u, v, t] ∧ f + inv (st.drop i) = inv st)
      ⟨Same.refl _, 0, none, none, none, rfl, by rw [List.drop_zero]; omega⟩ (fun i σ H2 _ p => sm_tup p.1 hs) ?_ ?_⟩
    · rintro i x σ H2 H3 hi ⟨s2, f, u, v, t, rfl, hf⟩ ⟨U, x1, x2, rfl, nU, rfl, e1, e2⟩
      cases e1
      obtain ⟨z, hz, rfl⟩ := VI_get e2
      rw [List.length_map] at hi
      refine ⟨U, _, rfl, sqt_upd, rfl, _, _, rfl, _, _, rfl, rfl, ?_⟩
      have s3 : Same H (upd H2 U (.tup [.int (i : Nat), .int z])) := sm_upd s2 nU
      refine ⟨_, rfl, _, rfl, _, _, rfl, rfl, _, rfl, a, VI st, rfl, sm_tup s3 hs, ?_, fun p np => ?_⟩
      · rintro ⟨q, _⟩
        have e : (i : Int) + 1 = ((i + 1 : Nat) : Int) := by omega
        rw [e, HT.sIx_nat, List.length_map] at q
        omega
      · have ec : cutV (VI st) (some ((i : Int) + 1)) none = VI (st.drop (i + 1)) := by
          have e : (i : Int) + 1 = ((i + 1 : Nat) : Int) := by omega
          rw [e, cut_drop _ _ (by rw [List.length_map]; omega), VI_drop]
        rw [ec]
        have s4 := sm_upd s3 (o := .tup (VI (st.drop (i + 1)))) np
        refine ⟨p, rfl, ⟨_, sqt_upd⟩, for_tup (K := K) (a := p) (xs := VI (st.drop (i + 1))) (fun j σ H4 => Same (upd (upd H2 U (.tup [.int (i : Nat), .int z])) p (.tup (VI (st.drop (i + 1))))) H4 ∧
            ∃ t : Option V, σ = [some (.ref a), some (nV (f + cnt z ((st.drop (i + 1)).take j))), some (.int (i : Nat)), some (.int z), t])
          ⟨Same.refl _, t, by rw [List.take_zero]; rfl⟩ (fun j σ H4 _ q => sm_tup q.1 sqt_upd) ?_ ?_⟩
        · rintro j y σ H4 hy ⟨s5, t', rfl⟩
          obtain ⟨y1, hy1, rfl⟩ := VI_get hy
          have ct := cnt_take (z := z) hy1
          refine ⟨_, rfl, _, rfl, _, _, rfl, rfl, _, rfl, ?_⟩
          refine ite2 (fun e => ⟨_, rfl, _, _, rfl, rfl, s5, some (.int y1), ?_⟩) fun e => ⟨s5, some (.int y1), ?_⟩
          · rw [if_pos (of_decide_eq_true e)] at ct
            rw [ct]
            rfl
          · rw [if_neg (fun q => e (decide_eq_true q))] at ct
            rw [ct]
            rfl
        · rintro σ H4 ⟨s5, t', rfl⟩
          refine ⟨fun b o e => s5 b o (s4 b o e), _, _, _, _, rfl, ?_⟩
          rw [List.length_map, List.take_length]
          have := inv_drop hz
          omega
    · rintro σ H2 ⟨s2, f, u, v, t, rfl, hf⟩
      refine ⟨_, rfl, ?_⟩
      rw [List.length_map, List.drop_length] at hf
      have e : f = inv st := by
        have : inv ([] : List Int) = 0 := rfl
        omega
      subst e
      exact k H2 s2
theorem ok_tiles_in_order (T : Tx K mg) : FnD P w base CX0 1 T.d_tiles_in_order (spTiles K) := by
  refine T.d_tiles_in_order.F.ok sc_tiles_in_order (fun vs H Q E h => ?_) (fun cdv A outer s H vs Q E hr h => ?_)
  · obtain ⟨a, st, rfl, _⟩ := h
    rfl
  · obtain ⟨a, st, rfl, hs, h16, k⟩ := h
    have nd := sc_tiles_in_order.nd
    refine ⟨_, pss_one (ps_ret (pe_lc (own := [("number", 1)]) (g := gName 1) (by rfl) nd (pi_tup (pv 0)) (blkOk_by (N := ["standing", "number"]) (sc := defScope s_tiles_in_order) (by decide +kernel))
      (fun _ _ _ _ _ => pg_name (i := 1) nd rfl (Or.inl rfl)) (fun _ _ _ _ _ => pts_one (pt_cmpR op_ne (pv 1) pe_int (nomark _))) (fun _ _ _ _ _ => pv 1))), ?_⟩
    refine ⟨_, rfl, a, rfl, ⟨_, hs⟩, fun D nD => lc_tup (K := K) (a := a) (xs := VI st) (fun i H2 => Same H H2 ∧ H2 D = some (.lst (VI (tiles (st.take i)))))
      ⟨same_upd nD, upd_same⟩ (fun i H2 _ p => sm_tup p.1 hs) ?_ ?_⟩
    · rintro i x H2 hx ⟨s2, hD⟩
      obtain ⟨z, hz, rfl⟩ := VI_get hx
      have ct := tiles_take hz
      refine ⟨rfl, _, rfl, rfl, _, rfl, ?_⟩
      have hl : (VI (tiles (st.take i))).length < sizeLine := by
        rw [List.length_map]
        have h1 := tiles_len (st.take i)
        have h2 : (st.take i).length ≤ st.length := List.length_take_le' i st
        exact small1000 (by omega)
      refine iteN2 (fun e => ⟨_, rfl, _, hD, hl, ?_, ?_⟩) fun e => ⟨s2, ?_⟩
      · exact fun b o q => by rw [upd_ne (ne_of_none q nD)]; exact s2 b o q
      · rw [if_neg (fun q => by subst q; exact absurd (of_decide_eq_false e) (fun z => z rfl))] at ct
        rw [ct, upd_same]
        show _ = some (HO.lst (VI _))
        unfold VI
        rw [List.map_append]
        rfl
      · rw [if_pos (V.int.inj (of_decide_eq_true e))] at ct
        rw [ct]
        exact hD
    · rintro H2 ⟨s2, hD⟩
      rw [List.length_map, List.take_length] at hD
      exact k H2 D s2 hD
end
end Sf
namespace Sf
open PySem PySem.Spec PyProof.Rows L2
section
variable {P : Program} {w : World} {K : PySem.W.Frag} {mg : Str → Option Value} {base : Heap}
theorem ok_side (T : Tx K mg) : FnD P w base (L2.CX P w) 4 T.d_side (spSide K T.c_BadFloor.C T.c_BadStanding.C) := by
  have G1 : FnD P w base (L2.CX P w) 3 T.d_need_standing (spNeedS K T.c_BadFloor.C T.c_BadStanding.C) := ok_need_standing T
  have G2 : FnD P w base CX0 1 T.d_column_and_row (spCR K) := ok_column_and_row T
  have G3 : FnD P w base CX0 1 T.d_count_falls (spFalls K) := ok_count_falls T
  refine T.d_side.F.okX sc_side (fun vs H Q E h => ?_) (fun cdv A outer s H vs Q E hr h => ?_)
  · obtain ⟨f, v, o, rfl, _⟩ := h
    rfl
  · obtain ⟨f, v, o, rfl, hf, kf, ks⟩ := h
    have nd := sc_side.nd
    have hr1 : Room 1 _ := hr.mono (by decide)
    refine ⟨_, pss_cons (ps_expr (pe_d T.d_need_standing G1 hr (passes_call (takes_of rfl rfl rfl rfl) (fun _ _ _ _ z => z)) (pa_cons (pv 0) (pa1 (pv 1)))))
      (pss_cons (ps_asg (pe_d T.d_column_and_row G2 hr1 pass0 (pa_cons (pv 0) (pa1 (pe_tix (pv 1) (pa1 pe_int)))))
        (pg_tup rfl (pgs_cons (pg_name (i := 2) nd rfl (.inl rfl)) (pgs_cons (pg_name (i := 3) nd rfl (.inl rfl)) pgs_nil))))
      (pss_one (ps_ret (pe_op op_mod (pe_op op_add (pe_op op_add (pe_d T.d_count_falls G3 hr1 pass0 (pa1 (pv 1))) (pv 2)) (pv 3)) pe_int)))), ?_⟩
    refine ⟨_, rfl, _, rfl, f, v, o, rfl, hf, kf, fun wd hg e => ?_⟩
    obtain ⟨o2, hv, kg, kb⟩ := ks wd hg e
    refine ⟨o2, hv, fun ho H1 s1 => ?_, kb⟩
    cases hv with
    | kind => cases ho
    | size => cases ho
    | items => cases ho
    | @good b st hs S =>
      subst e
      cases hf with
      | @good a _ _ hfs F =>
        have z1 := idx_first (S.zero F.pos)
        refine ⟨_, rfl, _, rfl, ⟨b, _, rfl, hs.same s1⟩, b, st, 0, zat st, rfl, rfl, (hs.same s1).sq, z1.2.1, z1.2.2, ?_⟩
        refine ⟨a, zat st, wd, hg, rfl, sm_tup s1 hfs, F, fun t nt => ?_⟩
        have s2 := sm_upd s1 (o := .tup [nV (zat st % wd), nV (zat st / wd)]) nt
        refine ⟨t, _, rfl, sqt_upd, rfl, _, _, rfl, _, _, rfl, rfl, ?_⟩
        refine ⟨_, rfl, b, st, rfl, (hs.same s2).sq, fun H3 s3 => ⟨_, rfl, _, _, rfl, rfl, _, rfl, _, _, rfl, rfl, _, _, rfl, rfl, (by show (0 : Int) < 2; decide), ?_⟩⟩
        exact kg st rfl H3 (s2.trans s3)
theorem ok_is_joined (T : Tx K mg) : FnD P w base (L2.CX P w) 5 T.d_is_joined (spJoin K T.c_BadFloor.C T.c_BadStanding.C) := by
  have G1 : FnD P w base (L2.CX P w) 3 T.d_need_standing (spNeedS K T.c_BadFloor.C T.c_BadStanding.C) := ok_need_standing T
  have G2 : FnD P w base CX0 1 T.d_is_line (spLine K) := ok_is_line T
  have G3 : FnD P w base CX0 1 T.d_tiles_in_order (spTiles K) := ok_tiles_in_order T
  have G4 : FnD P w base (L2.CX P w) 4 T.d_side (spSide K T.c_BadFloor.C T.c_BadStanding.C) := ok_side T
  refine T.d_is_joined.F.okX sc_is_joined (fun vs H Q E h => ?_) (fun cdv A outer s H vs Q E hr h => ?_)
  · obtain ⟨f, v, v', o, rfl, _⟩ := h
    rfl
  · obtain ⟨f, v, v', o, rfl, hf, kf, ks⟩ := h
    have hr1 : Room 1 _ := hr.mono (by decide)
    have hr3 : Room 3 _ := hr.mono (by decide)
    refine ⟨_, pss_cons (ps_expr (pe_d T.d_need_standing G1 hr3 (passes_call (takes_of rfl rfl rfl rfl) (fun _ _ _ _ z => z)) (pa_cons (pv 0) (pa1 (pv 1)))))
      (pss_cons (ps_expr (pe_d T.d_need_standing G1 hr3 (passes_call (takes_of rfl rfl rfl rfl) (fun _ _ _ _ z => z)) (pa_cons (pv 0) (pa1 (pv 2)))))
      (pss_cons (ps_if (pt_val (pe_d T.d_is_line G2 hr1 pass0 (pa1 (pv 0))))
        (pss_one (ps_ret (pe_cmpR (op_eqD hr.units) (pe_d T.d_tiles_in_order G3 hr1 pass0 (pa1 (pv 1))) (pe_d T.d_tiles_in_order G3 hr1 pass0 (pa1 (pv 2))) (nomark _)))) pss_nil)
      (pss_one (ps_ret (pe_cmpR op_eq (pe_d T.d_side G4 hr (passes_call (takes_of rfl rfl rfl rfl) (fun _ _ _ _ z => z)) (pa_cons (pv 0) (pa1 (pv 1))))
        (pe_d T.d_side G4 hr (passes_call (takes_of rfl rfl rfl rfl) (fun _ _ _ _ z => z)) (pa_cons (pv 0) (pa1 (pv 2)))) (nomark _)))))), ?_⟩
    refine ⟨_, rfl, _, rfl, f, v, o, rfl, hf, kf, fun wd hg e => ?_⟩
    obtain ⟨o2, hv, kb, k2⟩ := ks wd hg e
    refine ⟨o2, hv, fun ho H1 s1 => ?_, kb⟩
    obtain ⟨st, rfl⟩ := Option.isSome_iff_exists.mp ho
    obtain ⟨o3, hv', kb', k3⟩ := k2 st rfl
    subst e
    refine ⟨_, rfl, _, rfl, f, v', some (wd, hg), rfl, sm_fl s1 hf, fun z => (by cases z), fun _ _ e => ?_⟩
    cases e
    refine ⟨o3, sm_st s1 hv', fun ho' H2 s2 => ?_, fun q H2 s2 => kb' q H2 (s1.trans s2)⟩
    obtain ⟨st', rfl⟩ := Option.isSome_iff_exists.mp ho'
    have s12 := s1.trans s2
    have k4 := k3 st' rfl
    cases hv with
    | @good b _ hs S =>
    cases hv' with
    | @good b' _ hs' S' =>
    cases hf with
    | @good a _ _ hfs F =>
    have F16 := F.le
    refine ⟨_, rfl, a, wd, hg, rfl, sm_tup s12 hfs, _, rfl, ?_⟩
    refine ite2 (fun e => ?_) fun e => ?_
    · have el := of_decide_eq_true e
      refine ⟨_, rfl, b, st, rfl, (hs.same s12).sq, (by rw [S.len]; omega), fun H3 t s3 ht => ?_⟩
      refine ⟨_, rfl, b', st', rfl, (hs'.same (s12.trans s3)).sq, (by rw [S'.len]; omega), fun H4 t' s4 ht' => ?_⟩
      refine ⟨_, _, dp_lst (SqL.of (s4 _ _ ht)), dp_lst (SqL.of ht'), shaped_lst _, shaped_lst _, ?_⟩
      rw [eqv_lst]
      have := k4 H4 ((s12.trans s3).trans s4)
      unfold joinM at this
      rw [if_pos el] at this
      exact this
    · have el : ¬ (wd = 1 ∨ hg = 1) := fun q => e (decide_eq_true q)
      refine ⟨_, rfl, _, rfl, V.ref a, V.ref b, some (wd, hg), rfl, .good (sm_tup s12 hfs) F, fun z => (by cases z), fun _ _ e => ?_⟩
      cases e
      refine ⟨some st, .good (hs.same s12) S, fun st1 e1 H3 s3 => ?_, fun z => (by cases z)⟩
      cases e1
      have s13 := s12.trans s3
      refine ⟨_, rfl, _, rfl, V.ref a, V.ref b', some (wd, hg), rfl, .good (sm_tup s13 hfs) F, fun z => (by cases z), fun _ _ e => ?_⟩
      cases e
      refine ⟨some st', .good (hs'.same s13) S', fun st1 e1 H4 s4 => ⟨rfl, ?_⟩, fun z => (by cases z)⟩
      cases e1
      have := k4 H4 (s13.trans s4)
      unfold joinM at this
      rw [if_neg el] at this
      have e2 : decide (nV (sideM wd st) = nV (sideM wd st')) = decide (sideM wd st = sideM wd st') := by
        by_cases h : sideM wd st = sideM wd st'
        · simp [h]
        · rw [decide_eq_false h]
          exact decide_eq_false fun q => h (by have := V.int.inj q; omega)
      rw [e2]
      exact this
end
end Sf
namespace Sf
open PySem PySem.Spec PyProof.Rows L2
section
variable {P : Program} {w : World} {K : PySem.W.Frag} {mg : Str → Option Value} {base : Heap}
theorem ok_draw (T : Tx K mg) : FnD P w base CX0 1 T.d_law_draw (spDraw K) := by
  refine T.d_law_draw.F.ok sc_law_draw (fun vs H Q E h => ?_) (fun cdv A outer s H vs Q E hr h => ?_)
  · obtain ⟨a, ns, k, rfl, _⟩ := h
    rfl
  · obtain ⟨a, ns, k, rfl, hs, h0, h1, kq⟩ := h
    have nd := sc_law_draw.nd
    refine ⟨_, pss_cons (ps_set (i := 2) nd rfl (.inl rfl) pe_int)
      (Evl.pss_cut (ps_if (pt_cmpR (op_neD hr.units) (pv 0) (pe_lst pa_nil) (nomark _))
        (pss_one (ps_set (i := 2) nd rfl (.inl rfl) (pe_op op_add (pe_op op_mul pe_int (pe_b (cr_sum rfl) T.b_sum (pa1 (pv 0)))) (pe_ix ix_list (pv 0) (pe_op op_mod (pv 1) (pe_b call_len_seq T.b_len (pa1 (pv 0)))) (fun _ _ => rfl))))) pss_nil)
      (pss_cons (ps_set (i := 3) nd rfl (.inl rfl) (pe_op op_add (pe_op op_add (pe_op op_mod (pv 2) pe_int) (pe_op op_mul pe_int (pv 1))) pe_int))
      (pss_one (ps_ret (pe_op op_fdiv (pe_op op_mod (pe_op op_mul (pe_op op_mod (pe_op op_mul (pv 3) (pv 3)) pe_int) (pv 3)) pe_int) pe_int))))), ?_⟩
    refine ⟨fun σ H1 => ∃ c : Int, σ = [some (.ref a), some (.int k), some (.int c), none] ∧ Same H H1, ?_, ?_⟩
    · refine ⟨_, rfl, (by show 0 ≤ sizeLine; decide), fun p np => ⟨_, _, dp_lst (ns := ns) (Same.seq (same_upd np) hs), dp_lst (ns := []) sql_upd, shaped_lst _, shaped_lst _, _, rfl, ?_⟩⟩
      have s1 : Same H (upd H p (.lst [])) := same_upd np
      rw [eqv_lst]
      refine iteN2 (fun e => ?_) fun e => ⟨0, rfl, s1⟩
      have hne : ns ≠ [] := of_decide_eq_false e
      have hl : 0 < ns.length := List.length_pos_iff.mpr hne
      have hm1 : 0 ≤ k % (ns.length : Int) := Int.emod_nonneg _ (by omega)
      have hm2 : k % (ns.length : Int) < ns.length := Int.emod_lt_of_pos _ (by omega)
      have hlt : (k % (ns.length : Int)).toNat < ns.length := by omega
      have hsq := Same.seq s1 hs
      refine ⟨_, rfl, a, ns, rfl, hsq, _, _, rfl, rfl, .inl ⟨by decide, by decide⟩, ?_⟩
      refine ⟨_, rfl, _, rfl, _, rfl, a, VI ns, rfl, .inl hsq, _, _, rfl, rfl, (by rw [List.length_map]; omega), ?_⟩
      rw [List.length_map]
      refine ⟨a, VI ns, _, .int (ns[(k % (ns.length : Int)).toNat]), rfl, rfl, hsq, at_of (j := (k % (ns.length : Int)).toNat) (by omega) (by rw [List.getElem?_map, List.getElem?_eq_getElem hlt]; rfl), ?_⟩
      exact ⟨_, _, rfl, rfl, _, rfl, s1⟩
    · rintro σ H1 ⟨c, rfl, s1⟩
      obtain ⟨b1, b2, m, hm, hlt⟩ := draw_nat (c := c) h0 h1
      refine ⟨_, rfl, _, _, rfl, rfl, (by show (0 : Int) < 1000000007; decide), _, rfl, _, _, rfl, rfl, .inl ⟨by decide, by decide⟩, _, _, rfl, rfl, _, _, rfl, rfl, ?_⟩
      refine ⟨_, rfl, _, rfl, _, _, rfl, rfl, .inl b1, _, _, rfl, rfl, (by show (0 : Int) < 1000000007; decide), _, rfl, _, _, rfl, rfl, .inl b2, _, _, rfl, rfl, (by show (0 : Int) < 998244353; decide), _, _, rfl, rfl, ⟨by decide, by decide⟩, ?_⟩
      have := kq m H1 hlt s1
      unfold nV at this
      rw [← hm] at this
      exact this
theorem ok_whole (T : Tx K mg) : FnD P w base CX0 1 T.d_law_whole spWhole := by
  refine T.d_law_whole.F.ok sc_law_whole (fun vs H Q E h => ?_) (fun cdv A outer s H vs Q E hr h => ?_)
  · obtain ⟨i, rfl, _⟩ := h
    rfl
  · obtain ⟨i, rfl, k⟩ := h
    refine ⟨_, pss_one (ps_ret (pe_and (pe_b call_isi T.b_isinstance (pa_cons (pv 0) (pa1 (pe_ty (T := "int") T.b_int)))) (pe_one (pe_not (pe_b call_isi T.b_isinstance (pa_cons (pv 0) (pa1 (pe_ty (T := "bool") T.b_bool)))))))), ?_⟩
    refine ⟨_, rfl, _, _, _, _, true, rfl, .ty "int", .base (.int i), kit_ty (by decide +kernel), true, rfl, iteT ?_⟩
    exact ⟨_, rfl, _, _, _, _, false, rfl, .ty "bool", .base (.int i), kit_ty (by decide +kernel), false, rfl, k⟩
end
end Sf
namespace Sf
open PySem PySem.Spec PyProof.Rows L2
section
variable {P : Program} {w : World} {K : PySem.W.Frag} {mg : Str → Option Value} {base : Heap}
theorem ok_standing (T : Tx K mg) : FnD P w base CX0 2 T.d_law_standing (spStanding K) := by
  have G1 : FnD P w base CX0 1 T.d_law_draw (spDraw K) := ok_draw T
  refine T.d_law_standing.F.ok sc_law_standing (fun vs H Q E h => ?_) (fun cdv A outer s H vs Q E hr h => ?_)
  · obtain ⟨a, f, ns, k, x, y, rfl, _⟩ := h
    rfl
  · obtain ⟨a, f, ns, k, x, y, rfl, hs, h0, h1, hf, F, kq⟩ := h
    have nd := sc_law_standing.nd
    have F16 := F.le
    have f4 := F.w4
    refine ⟨_, pss_cons (ps_setLc (i := 3) (own := [("_law_j", 4)]) (g := gName 4) (by rfl) nd rfl rfl (sw_true rfl rfl rfl (by decide +kernel))
        (pi_range1 (by rfl) T.b_range (pa1 (pe_op op_mul (pe_ix ix_tup (pv 2) pe_int (fun _ _ => rfl)) (pe_ix ix_tup (pv 2) pe_int (fun _ _ => rfl)))))
        (blkOk_by (N := ["_law_script", "_law_k", "_law_floor_here", "_law_rows", "_law_j", "_law_row"]) (sc := defScope s_law_standing) (by decide +kernel))
        (fun _ _ _ _ _ => pg_name (i := 4) nd rfl (Or.inl rfl)) (fun _ _ _ _ _ => pts_nil)
        (fun _ _ _ _ _ => pe_tup (pa_cons (pe_d T.d_law_draw G1 hr pass0 (pa_cons (pv 0) (pa1 (pe_op op_add (pv 1) (pv 4))))) (pa1 (pv 4)))))
      (pss_one (ps_ret (pe_t cr_tupD T.b_tuple (pa1 (pe_lc (own := [("_law_row", 5)]) (g := gName 5) (by rfl) nd
        (pi_list (pe_b cr_sortedP T.b_sorted (pa1 (pv 3))))
        (blkOk_by (N := ["_law_script", "_law_k", "_law_floor_here", "_law_rows", "_law_j", "_law_row"]) (sc := defScope s_law_standing) (by decide +kernel))
        (fun _ _ _ _ _ => pg_name (i := 5) nd rfl (Or.inl rfl)) (fun _ _ _ _ _ => pts_nil)
        (fun _ _ _ _ _ => pe_ix (ixT (K := K) rfl) (pv 5) pe_int (fun _ _ => rfl))))))), ?_⟩
    -- the rows
    refine ⟨_, rfl, f, _, 0, nV x, rfl, rfl, hf, rfl, _, rfl, f, _, 1, nV y, rfl, rfl, hf, rfl, _, _, rfl, rfl, .inl ⟨by omega, by omega⟩, ?_⟩
    have exy : (x : Int) * (y : Int) = ((x * y : Nat) : Int) := (Int.natCast_mul x y).symm
    refine ⟨((x * y : Nat) : Int), (by show [V.int ((x : Int) * (y : Int))] = _; rw [exy]), by omega, by omega, fun D nD => ?_⟩
    refine lc_range (lo := 0) (n := x * y) (fun i H2 => Same H H2 ∧ ∃ ts : List Addr, H2 D = some (.lst (ts.map V.ref)) ∧ ts.length = i ∧ RowsAt H2 ts)
      ⟨same_upd nD, [], upd_same, rfl, fun j t e => by cases e⟩ ?_ ?_
    · rintro i H2 hi ⟨s2, ts, hD, hl, hr2⟩
      refine ⟨rfl, ?_⟩
      refine ⟨_, rfl, _, rfl, _, rfl, _, _, rfl, rfl, a, ns, k + (0 + (i : Int)), rfl, Same.seq s2 hs, by omega, by omega, fun n H3 _ s3 => ?_⟩
      refine ⟨_, rfl, (by show 2 ≤ sizeLine; decide), fun t nt => ?_⟩
      have s4 : Same H3 (upd H3 t (.tup [nV n, .int (0 + (i : Int))])) := same_upd nt
      have s24 := s3.trans s4
      have hD4 := s24 _ _ hD
      refine ⟨_, hD4, (by rw [List.length_map]; exact small1000 (by omega)), ?_, ts ++ [t], ?_, by simp [hl], ?_⟩
      · exact fun b o q => by rw [upd_ne (ne_of_none q nD)]; exact s24 b o (s2 b o q)
      · rw [upd_same, List.map_append]
        rfl
      · have ntD : t ≠ D := fun q => by rw [q] at nt; rw [s3 _ _ hD] at nt; cases nt
        have r4 : RowsAt (upd H3 t (.tup [nV n, .int (0 + (i : Int))])) (ts ++ [t]) := (hr2.same s24).more (d := n) (by rw [upd_same, hl, Int.zero_add])
        intro j u e
        obtain ⟨d, h⟩ := r4 j u e
        refine ⟨d, ?_⟩
        rw [upd_ne (ne_of h hD4 (fun q => by cases q))]
        exact h
    · rintro H2 ⟨s2, ts, hD, hl, hr2⟩
      refine ⟨_, rfl, D, ts.map V.ref, rfl, SqL.of hD, fun z hz => ?_, fun ys p hperm np => ?_⟩
      · obtain ⟨t, ht, rfl⟩ := List.mem_map.mp hz
        obtain ⟨j, hj⟩ := List.getElem?_of_mem ht
        obtain ⟨d, h⟩ := hr2 j t hj
        exact ⟨t, d, (j : Int), rfl, h⟩
      · have s3 : Same H2 (upd H2 p (.lst ys)) := same_upd np
        have hin : ∀ z ∈ ys, ∃ (j : Nat) (t : Addr) (d : Int), z = .ref t ∧ H2 t = some (.tup [.int d, nV j]) := fun z hz => by
          obtain ⟨t, ht, rfl⟩ := List.mem_map.mp (hperm.mem_iff.mp hz)
          obtain ⟨j, hj⟩ := List.getElem?_of_mem ht
          obtain ⟨d, h⟩ := hr2 j t hj
          exact ⟨j, t, d, rfl, h⟩
        have hstd : Std (x * y) (ys.map (sndOf H2)) := by
          have q := hperm.map (sndOf H2)
          rw [rows_iota hr2, hl] at q
          exact q
        have hyl : ys.length ≤ 16 := by
          have := hperm.length_eq
          rw [List.length_map, hl] at this
          omega
        refine ⟨p, rfl, ⟨_, sql_upd⟩, fun L nL => lc_list (K := K) (a := p) (xs := ys) (fun i H4 => Same (upd H2 p (.lst ys)) H4 ∧ H4 L = some (.lst (VI ((ys.take i).map (sndOf H2)))))
          ⟨same_upd nL, upd_same⟩ (fun i H4 _ q => Same.seq q.1 sql_upd) ?_ ?_⟩
        · rintro i z H4 hz ⟨s4, hL⟩
          obtain ⟨j, t, d, rfl, ht⟩ := hin z (List.mem_of_getElem? hz)
          refine ⟨rfl, ?_⟩
          refine ⟨_, rfl, t, _, 1, nV j, rfl, rfl, SqT.of (s4 _ _ (s3 _ _ ht)), rfl, ?_⟩
          refine ⟨_, hL, ?_, fun b o q => ?_, ?_⟩
          · rw [List.length_map, List.length_map]
            have := List.length_take_le i ys
            exact small1000 (by have := List.length_take_le' i ys; omega)
          · rw [upd_ne (ne_of_none q nL)]
            exact s4 b o q
          · rw [upd_same, take_map_more hz, sndOf_at ht]
            show _ = some (HO.lst (VI _))
            unfold VI
            rw [List.map_append]
            rfl
        · rintro H4 ⟨s4, hL⟩
          rw [List.take_length] at hL
          have s24 := s2.trans (s3.trans s4)
          refine ⟨L, VI (ys.map (sndOf H2)), rfl, SqL.of hL, fun l H5 nl s5 ht => ?_⟩
          exact kq l _ H5 (s24.free nl) hstd (s24.trans s5) ht
end
end Sf
namespace Sf
open PySem PySem.Spec PyProof.Rows L2
section
variable {P : Program} {w : World} {K : PySem.W.Frag} {mg : Str → Option Value} {base : Heap}
theorem ok_moved (T : Tx K mg) : FnD P w base CX0 1 T.d_law_moved (spMoved K) := by
  refine T.d_law_moved.F.ok sc_law_moved (fun vs H Q E h => ?_) (fun cdv A outer s H vs Q E hr h => ?_)
  · obtain ⟨f, s, d, x, y, st, rfl, _⟩ := h
    rfl
  · obtain ⟨f, b, d, wd, hg, st, rfl, hf, F, hs, S, kN, kS⟩ := h
    have nd := sc_law_moved.nd
    have F16 := F.le
    have f4 := F.w4
    have g4 := F.h4
    have w1 := F.w1
    have ze := S.zat_lt F.pos
    have z1 := idx_first (S.zero F.pos)
    refine ⟨_, pss_cons (ps_asg (pv 0) (pg_tup rfl (pgs_cons (pg_name (i := 3) nd rfl (.inl rfl)) (pgs_cons (pg_name (i := 4) nd rfl (.inl rfl)) pgs_nil))))
      (pss_cons (ps_set (i := 5) nd rfl (.inl rfl) (pe_tix (pv 1) (pa1 pe_int)))
      (pss_cons (ps_par (i := 6) (j := 7) rfl nd rfl rfl (by decide) rfl rfl (pa_cons (pe_op op_mod (pv 5) (pv 3)) (pa1 (pe_op op_fdiv (pv 5) (pv 3)))) rfl)
      (Evl.pss_cut (ps_if (pt_cmpR op_eq (pv 2) pe_str (nomark _)) (pss_one (ps_set (i := 7) nd rfl (.inl rfl) (pe_op op_add (pv 7) pe_int)))
        (pss_one (ps_if (pt_cmpR op_eq (pv 2) pe_str (nomark _)) (pss_one (ps_set (i := 7) nd rfl (.inl rfl) (pe_op op_sub (pv 7) pe_int)))
        (pss_one (ps_if (pt_cmpR op_eq (pv 2) pe_str (nomark _)) (pss_one (ps_set (i := 6) nd rfl (.inl rfl) (pe_op op_add (pv 6) pe_int)))
          (pss_one (ps_set (i := 6) nd rfl (.inl rfl) (pe_op op_sub (pv 6) pe_int))))))))
      (pss_cons (ps_if (PW.pt (pw_or (pt_cmpR op_lt (pv 6) pe_int (nomark _)) (pw_or (pt_cmpR op_lt (pv 7) pe_int (nomark _)) (pw_or (pt_cmpR op_ge (pv 6) (pv 3) (nomark _)) (pw_or1 (pt_cmpR op_ge (pv 7) (pv 4) (nomark _)))))))
        (pss_one (ps_ret pe_non)) pss_nil)
      (pss_cons (ps_set (i := 8) nd rfl (.inr rfl) (pe_ix ix_tup (pv 1) (pe_op op_add (pv 6) (pe_op op_mul (pv 7) (pv 3))) (fun _ _ => rfl)))
      (pss_cons (ps_setLc (i := 9) (own := [("_law_one", 10)]) (g := gName 10) (by rfl) nd rfl rfl (sw_true rfl rfl rfl (by decide +kernel)) (pi_tup (pv 1))
        (blkOk_by (N := ["_law_floor_here", "_law_standing_here", "_law_word", "_law_wide", "_law_high", "_law_empty", "_law_x", "_law_y", "_law_tile", "_law_found", "_law_one"]) (sc := defScope s_law_moved) (by decide +kernel))
        (fun _ _ _ _ _ => pg_name (i := 10) nd rfl (Or.inl rfl)) (fun _ _ _ _ _ => pts_nil) (fun _ _ _ _ _ => pe_ifExp (pt_cmpR op_eq (pv 10) pe_int (nomark _)) (pv 8) (pv 10)))
      (pss_cons (ps_asg pe_int (pg_sub (pv 9) (pe_op op_add (pv 6) (pe_op op_mul (pv 7) (pv 3))) set_list))
      (pss_one (ps_ret (pe_t cr_tupD T.b_tuple (pa1 (pv 9)))))))))))), ?_⟩
    refine ⟨_, rfl, f, _, rfl, hf, rfl, _, _, rfl, _, _, rfl, rfl, ?_⟩
    refine ⟨_, rfl, ⟨b, _, rfl, hs⟩, b, st, 0, zat st, rfl, rfl, hs.sq, z1.2.1, z1.2.2, ?_⟩
    refine ⟨_, rfl, _, rfl, _, _, rfl, rfl, (by show (0 : Int) < (wd : Int); omega), _, rfl, _, rfl, _, _, rfl, rfl, ⟨by omega, by omega⟩, _, _, rfl, ?_⟩
    refine ⟨fun σ H1 => σ = [some (.ref f), some (.ref b), some (.str (dS d)), some (nV wd), some (nV hg), some (nV (zat st)), some (.int (crd wd (zat st) d).1), some (.int (crd wd (zat st) d).2), none, none, none] ∧ H1 = H, ?_, ?_⟩
    · refine ⟨_, rfl, rfl, _, rfl, ?_⟩
      refine ite2 (fun e => ?_) fun e => ?_
      · have ed : d = .up := of_decide_eq_true ((dS_eq d .up).symm.trans e)
        subst ed
        exact ⟨_, rfl, _, _, rfl, rfl, rfl, rfl⟩
      · have n1 : d ≠ .up := fun q => e ((dS_eq d .up).trans (decide_eq_true q))
        refine ⟨_, rfl, rfl, _, rfl, ?_⟩
        refine ite2 (fun e => ?_) fun e => ?_
        · have ed : d = .down := of_decide_eq_true ((dS_eq d .down).symm.trans e)
          subst ed
          exact ⟨_, rfl, _, _, rfl, rfl, rfl, rfl⟩
        · have n2 : d ≠ .down := fun q => e ((dS_eq d .down).trans (decide_eq_true q))
          refine ⟨_, rfl, rfl, _, rfl, ?_⟩
          refine ite2 (fun e => ?_) fun e => ?_
          · have ed : d = .left := of_decide_eq_true ((dS_eq d .left).symm.trans e)
            subst ed
            exact ⟨_, rfl, _, _, rfl, rfl, rfl, rfl⟩
          · have n3 : d ≠ .left := fun q => e ((dS_eq d .left).trans (decide_eq_true q))
            have ed : d = .right := by
              cases d with
              | up => exact absurd rfl n1
              | down => exact absurd rfl n2
              | left => exact absurd rfl n3
              | right => rfl
            subst ed
            exact ⟨_, rfl, _, _, rfl, rfl, rfl, rfl⟩
    · rintro σ H1 ⟨rfl, rfl⟩
      have out : ((crd wd (zat st) d).1 < 0 ∨ (crd wd (zat st) d).2 < 0 ∨ (wd : Int) ≤ (crd wd (zat st) d).1 ∨ (hg : Int) ≤ (crd wd (zat st) d).2) → Q .non H1 := fun o => by
        refine kN ?_ H1 (Same.refl _)
        unfold step
        rw [tgt_out (by omega) ze o]
        rfl
      have inn : ¬ ((crd wd (zat st) d).1 < 0 ∨ (crd wd (zat st) d).2 < 0 ∨ (wd : Int) ≤ (crd wd (zat st) d).1 ∨ (hg : Int) ≤ (crd wd (zat st) d).2) → ∃ t : Nat, step wd hg st d = some (swapAt st (zat st) t) ∧ t < st.length ∧
          (crd wd (zat st) d).1 + (crd wd (zat st) d).2 * wd = (t : Int) := fun o => by
        obtain ⟨t, h1, h2⟩ := tgt_in (by omega) ze o
        refine ⟨t, by unfold step; rw [h1]; rfl, ?_, h2⟩
        rw [S.len]
        exact (tgt_facts w1 ze h1).1
      have hby := crd_by (w := wd) (d := d) (show zat st < 100 by omega)
      generalize (crd wd (zat st) d).1 = cx at *
      generalize (crd wd (zat st) d).2 = cy at *
      refine ⟨_, rfl, _, _, rfl, rfl, _, rfl, ?_⟩
      refine ite2 (fun e => out (.inl (of_decide_eq_true e))) fun e1 => ?_
      refine ⟨_, rfl, _, _, rfl, rfl, _, rfl, ?_⟩
      refine ite2 (fun e => out (.inr (.inl (of_decide_eq_true e)))) fun e2 => ?_
      refine ⟨_, rfl, _, rfl, _, _, rfl, rfl, _, rfl, ?_⟩
      refine ite2 (fun e => out (.inr (.inr (.inl (of_decide_eq_true e))))) fun e3 => ?_
      refine ⟨_, rfl, _, rfl, _, _, rfl, rfl, _, rfl, ?_⟩
      refine ite2 (fun e => out (.inr (.inr (.inr (of_decide_eq_true e))))) fun e4 => ?_
      have no : ¬ (cx < 0 ∨ cy < 0 ∨ (wd : Int) ≤ cx ∨ (hg : Int) ≤ cy) := by
        rintro (q | q | q | q)
        · exact e1 (decide_eq_true q)
        · exact e2 (decide_eq_true q)
        · exact e3 (decide_eq_true q)
        · exact e4 (decide_eq_true q)
      obtain ⟨t, ht, htl, hti⟩ := inn no
      have get_t : (VI st)[t]? = some (.int (st.getD t 0)) := by rw [List.getElem?_map, getD_some htl]; rfl
      refine ⟨_, rfl, _, rfl, _, rfl, _, rfl, _, _, rfl, rfl, .inl hby, _, _, rfl, rfl, b, VI st, _, .int (st.getD t 0), rfl, rfl, hs.sq, at_of hti get_t, ?_⟩
      refine ⟨_, rfl, b, rfl, ⟨_, hs.sq⟩, fun D nD => lc_tup (K := K) (a := b) (xs := VI st) (fun i H2 => Same H1 H2 ∧ H2 D = some (.lst (VI ((st.take i).map fun z => if z = 0 then st.getD t 0 else z))))
        ⟨same_upd nD, upd_same⟩ (fun i H2 _ p => (hs.same p.1).sq) ?_ ?_⟩
      · rintro i z H2 hz ⟨s2, hD⟩
        obtain ⟨zz, hzz, rfl⟩ := VI_get hz
        have hl : (VI ((st.take i).map fun z => if z = 0 then st.getD t 0 else z)).length < sizeLine := by
          rw [List.length_map, List.length_map]
          have := List.length_take_le' i st
          have := S.len
          exact small1000 (by omega)
        refine ⟨rfl, _, rfl, rfl, _, rfl, ?_⟩
        refine ite2 (fun e => ⟨_, rfl, _, hD, hl, ?_, ?_⟩) fun e => ⟨_, rfl, _, hD, hl, ?_, ?_⟩
        · exact fun b o q => by rw [upd_ne (ne_of_none q nD)]; exact s2 b o q
        · rw [upd_same, take_map_more hzz, if_pos (V.int.inj (of_decide_eq_true e))]
          show _ = some (HO.lst (VI _))
          unfold VI
          rw [List.map_append]
          rfl
        · exact fun b o q => by rw [upd_ne (ne_of_none q nD)]; exact s2 b o q
        · rw [upd_same, take_map_more hzz, if_neg (fun q => e (decide_eq_true (congrArg V.int q)))]
          show _ = some (HO.lst (VI _))
          unfold VI
          rw [List.map_append]
          rfl
      · rintro H2 ⟨s2, hD⟩
        rw [List.length_map, List.take_length] at hD
        refine ⟨_, rfl, _, rfl, _, rfl, _, rfl, _, _, rfl, rfl, .inl hby, _, _, rfl, rfl, D, _, _, t, rfl, rfl, hD, ?_, ?_⟩
        · rw [List.length_map, List.length_map]
          exact ixN_at hti htl
        · have s3 : ∀ o, Same H1 (upd H2 D o) := fun o b u q => by rw [upd_ne (ne_of_none q nD)]; exact s2 b u q
          refine ⟨_, rfl, D, _, rfl, SqL.of upd_same, fun l H5 nl s5 hl => ?_⟩
          rw [VI_set, swap_zero S F.pos] at hl
          exact kS _ ht l H5 ((s3 _).free nl) ((s3 _).trans s5) hl
end
end Sf
namespace Sf
open PySem PySem.Spec PyProof.Rows L2
section
variable {P : Program} {w : World} {K : PySem.W.Frag} {mg : Str → Option Value} {base : Heap}
theorem filter_more {α : Type} {p : α → Bool} {l : List α} {i : Nat} {x : α} (h : l[i]? = some x) : (l.take (i + 1)).filter p = if p x = true then (l.take i).filter p ++ [x] else (l.take i).filter p := by
  rw [List.take_succ, h, List.filter_append]
  by_cases e : p x = true
  · rw [if_pos e]
    show _ ++ [x].filter p = _
    rw [List.filter_cons_of_pos e]
    rfl
  · rw [if_neg e]
    show _ ++ [x].filter p = _
    rw [List.filter_cons_of_neg e]
    simp
theorem ok_words (T : Tx K mg) : FnD P w base CX0 2 T.d_law_words (spWords K) := by
  have G1 : FnD P w base CX0 1 T.d_law_moved (spMoved K) := ok_moved T
  refine T.d_law_words.F.ok sc_law_words (fun vs H Q E h => ?_) (fun cdv A outer s H vs Q E hr h => ?_)
  · obtain ⟨f, s, x, y, st, rfl, _⟩ := h
    rfl
  · obtain ⟨f, b, wd, hg, st, rfl, hf, F, hs, S, k⟩ := h
    have nd := sc_law_words.nd
    refine ⟨_, pss_one (ps_ret (pe_lc (own := [("_law_word", 2)]) (g := gName 2) (by rfl) nd (pi_tup (pe_tup (pa_cons pe_str (pa_cons pe_str (pa_cons pe_str (pa1 pe_str))))))
      (blkOk_by (N := ["_law_floor_here", "_law_standing_here", "_law_word"]) (sc := defScope s_law_words) (by decide +kernel))
      (fun _ _ _ _ _ => pg_name (i := 2) nd rfl (Or.inl rfl)) (fun _ _ _ _ _ => pts_one (pt_cmpR op_notN (pe_d T.d_law_moved G1 hr pass0 (pa_cons (pv 0) (pa_cons (pv 1) (pa1 (pv 2))))) pe_non (nomark _))) (fun _ _ _ _ _ => pv 2))), ?_⟩
    refine ⟨(by show 4 ≤ sizeLine; decide), fun p np => ⟨p, rfl, ⟨_, sqt_upd⟩, fun D nD => ?_⟩⟩
    have s1 : Same H (upd H p (.tup (wV dirs))) := same_upd np
    refine lc_tup (K := K) (a := p) (xs := wV dirs) (fun i H2 => Same (upd H p (.tup (wV dirs))) H2 ∧ H2 D = some (.lst (wV ((dirs.take i).filter fun d => (step wd hg st d).isSome))))
      ⟨same_upd nD, upd_same⟩ (fun i H2 _ q => sm_tup q.1 sqt_upd) ?_ ?_
    · rintro i z H2 hz ⟨s2, hD⟩
      obtain ⟨d, hd, rfl⟩ : ∃ d, dirs[i]? = some d ∧ z = .str (dS d) := by
        unfold wV at hz
        rw [List.getElem?_map] at hz
        cases e : dirs[i]? with
        | none => rw [e] at hz; cases hz
        | some d => rw [e] at hz; exact ⟨d, rfl, (Option.some.inj hz).symm⟩
      have s12 := s1.trans s2
      have hfm := filter_more (p := fun d => (step wd hg st d).isSome) hd
      have hl : (wV ((dirs.take i).filter fun d => (step wd hg st d).isSome)).length < sizeLine := by
        unfold wV
        rw [List.length_map]
        have h1 := List.length_filter_le (fun d => (step wd hg st d).isSome) (dirs.take i)
        have h2 := List.length_take_le' i dirs
        have h3 : dirs.length = 4 := rfl
        exact small1000 (by omega)
      refine ⟨rfl, _, rfl, _, rfl, _, rfl, f, b, d, wd, hg, st, rfl, sm_tup s12 hf, F, hs.same s12, S, fun hn H3 s3 => ?_, fun st' hst q H3 nq s3 ht => ?_⟩
      · refine ⟨rfl, _, rfl, ?_⟩
        refine iteNF rfl ⟨s2.trans s3, ?_⟩
        rw [hn] at hfm
        rw [hfm]
        exact s3 _ _ hD
      · refine ⟨rfl, _, rfl, ?_⟩
        refine iteNT (fun z => by cases z) ⟨_, rfl, _, s3 _ _ hD, hl, fun c o e => ?_, ?_⟩
        · rw [upd_ne (ne_of_none e nD)]
          exact s3 _ _ (s2 _ _ e)
        · rw [hst] at hfm
          rw [upd_same, hfm]
          unfold wV
          rw [if_pos (show (some st').isSome = true from rfl), List.map_append]
          rfl
    · rintro H2 ⟨s2, hD⟩
      exact k D H2 (s1.free nD) (s1.trans s2) hD
end
end Sf
namespace Sf
open PySem PySem.Spec PyProof.Rows L2
section
variable {P : Program} {w : World} {K : PySem.W.Frag} {mg : Str → Option Value} {base : Heap}
/-- side of good ones -/
theorem side_good {CF CS : Addr} {f v : Addr} {H : Hp} {wd hg : Nat} {st : List Int} {Q : VK} {E : XK} (hf : SqT K H f [nV wd, nV hg]) (F : Fl wd hg) (hs : TD H v (VI st)) (S : Std (wd * hg) st) (k : ∀ H', Same H H' → Q (nV (sideM wd st)) H') :
    spSide K CF CS [.ref f, .ref v] H Q E := by
  refine ⟨.ref f, .ref v, some (wd, hg), rfl, .good hf F, fun z => (by cases z), fun a b e => ?_⟩
  cases e
  exact ⟨some st, .good hs S, fun st1 e1 H1 s1 => (by cases e1; exact k H1 s1), fun z => (by cases z)⟩
theorem join_good {CF CS : Addr} {f v v' : Addr} {H : Hp} {wd hg : Nat} {st st' : List Int} {Q : VK} {E : XK} (hf : SqT K H f [nV wd, nV hg]) (F : Fl wd hg) (hs : TD H v (VI st)) (S : Std (wd * hg) st) (hs' : TD H v' (VI st')) (S' : Std (wd * hg) st')
    (k : ∀ H', Same H H' → Q (.bl (joinM wd hg st st')) H') : spJoin K CF CS [.ref f, .ref v, .ref v'] H Q E := by
  refine ⟨.ref f, .ref v, .ref v', some (wd, hg), rfl, .good hf F, fun z => (by cases z), fun a b e => ?_⟩
  cases e
  refine ⟨some st, .good hs S, fun z => (by cases z), fun st1 e1 => ?_⟩
  cases e1
  exact ⟨some st', .good hs' S', fun z => (by cases z), fun st1 e1 H1 s1 => (by cases e1; exact k H1 s1)⟩
end
end Sf
namespace Sf
open PySem PySem.Spec PyProof.Rows L2
/-- how_many: of good ones, or the refusals in their order -/
def spMany (K : PySem.W.Frag) (CF CS : Addr) : Sp := fun vs H Q E => ∃ f v o, vs = [f, v] ∧ FlV K H f o ∧ (o = none → E (.ref CF) none H) ∧
  ∀ w h, o = some (w, h) → ∃ o2, StV K H (w * h) v o2 ∧ (o2.isSome → ∀ H', Same H H' → Q (nV (howM w h)) H') ∧ (o2 = none → ∀ H', Same H H' → E (.ref CS) none H')
section
variable {P : Program} {w : World} {K : PySem.W.Frag} {mg : Str → Option Value} {base : Heap}
theorem ok_how_many (T : Tx K mg) : FnD P w base (L2.CX P w) 4 T.d_how_many (spMany K T.c_BadFloor.C T.c_BadStanding.C) := by
  have G1 : FnD P w base (L2.CX P w) 3 T.d_need_standing (spNeedS K T.c_BadFloor.C T.c_BadStanding.C) := ok_need_standing T
  have G2 : FnD P w base CX0 1 T.d_is_line (spLine K) := ok_is_line T
  have G3 : FnD P w base CX0 1 T.d_count_places (spCount K) := ok_count_places T
  refine T.d_how_many.F.okX sc_how_many (fun vs H Q E h => ?_) (fun cdv A outer s H vs Q E hr h => ?_)
  · obtain ⟨f, v, o, rfl, _⟩ := h
    rfl
  · obtain ⟨f, v, o, rfl, hf, kf, ks⟩ := h
    have nd := sc_how_many.nd
    have hr1 : Room 1 _ := hr.mono (by decide)
    refine ⟨_, pss_cons (ps_expr (pe_d T.d_need_standing G1 hr (passes_call (takes_of rfl rfl rfl rfl) (fun _ _ _ _ z => z)) (pa_cons (pv 0) (pa1 (pv 1)))))
      (pss_cons (ps_set (i := 2) nd rfl (.inl rfl) (pe_d T.d_count_places G3 hr1 pass0 (pa1 (pv 0))))
      (pss_cons (ps_if (pt_val (pe_d T.d_is_line G2 hr1 pass0 (pa1 (pv 0)))) (pss_one (ps_ret (pv 2))) pss_nil)
      (pss_one (ps_ret (pe_op op_fdiv (pe_callBfun cr_factorial rfl T.i_factorial (pa1 (pv 2))) pe_int))))), ?_⟩
    refine ⟨_, rfl, _, rfl, f, v, o, rfl, hf, kf, fun wd hg e => ?_⟩
    obtain ⟨o2, hv, kg, kb⟩ := ks wd hg e
    refine ⟨o2, hv, fun ho H1 s1 => ?_, kb⟩
    subst e
    cases hf with
    | @good a _ _ hfs F =>
      have F16 := F.le
      have hf1 := sm_tup s1 hfs
      have kk := kg ho H1 s1
      refine ⟨_, rfl, a, wd, hg, rfl, hf1, F.w4, F.h4, ?_⟩
      refine ⟨_, rfl, a, wd, hg, rfl, hf1, _, rfl, ?_⟩
      refine ite2 (fun e => ?_) fun e => ?_
      · have el := of_decide_eq_true e
        refine ⟨_, rfl, ?_⟩
        unfold howM at kk
        rw [if_pos el] at kk
        exact kk
      · have el : ¬ (wd = 1 ∨ hg = 1) := fun q => e (decide_eq_true q)
        refine ⟨_, rfl, _, rfl, by omega, by omega, _, _, rfl, rfl, ⟨by decide, by decide⟩, ?_⟩
        unfold howM at kk
        rw [if_neg el] at kk
        exact kk
end
end Sf
namespace Sf
open PySem PySem.Spec PyProof.Rows L2
/-- the floor of a small law -/
def spSmall (K : PySem.W.Frag) : Sp := fun vs H Q _ => ∃ n : Nat, vs = [nV n] ∧ ∀ t w h H', H t = none → Small w h → Same H H' → SqT K H' t [nV w, nV h] → Q (.ref t) H'
theorem ten_cases (n : Nat) : n % 10 = 0 ∨ n % 10 = 1 ∨ n % 10 = 2 ∨ n % 10 = 3 ∨ n % 10 = 4 ∨ n % 10 = 5 ∨ n % 10 = 6 ∨ n % 10 = 7 ∨ n % 10 = 8 ∨ n % 10 = 9 := by omega
section
variable {P : Program} {w : World} {K : PySem.W.Frag} {mg : Str → Option Value} {base : Heap}
theorem ok_small (T : Tx K mg) : FnD P w base CX0 1 T.d_law_floor (spSmall K) := by
  refine T.d_law_floor.F.ok sc_law_floor (fun vs H Q E h => ?_) (fun cdv A outer s H vs Q E hr h => ?_)
  · obtain ⟨n, rfl, _⟩ := h
    rfl
  · obtain ⟨n, rfl, k⟩ := h
    refine ⟨_, pss_one (ps_ret (pe_ix ix_list (pe_lst (pa_cons (pe_tup (pa_cons pe_int (pa1 pe_int))) (pa_cons (pe_tup (pa_cons pe_int (pa1 pe_int))) (pa_cons (pe_tup (pa_cons pe_int (pa1 pe_int))) (pa_cons (pe_tup (pa_cons pe_int (pa1 pe_int))) (pa_cons (pe_tup (pa_cons pe_int (pa1 pe_int))) (pa_cons (pe_tup (pa_cons pe_int (pa1 pe_int))) (pa_cons (pe_tup (pa_cons pe_int (pa1 pe_int))) (pa_cons (pe_tup (pa_cons pe_int (pa1 pe_int))) (pa_cons (pe_tup (pa_cons pe_int (pa1 pe_int))) (pa1 (pe_tup (pa_cons pe_int (pa1 pe_int)))))))))))))) (pe_op op_mod (pv 0) pe_int) (fun _ _ => rfl))), ?_⟩
    have two : (2 : Nat) ≤ sizeLine := by decide
    refine ⟨two, fun p0 n0 => ?_⟩
    refine ⟨two, fun p1 n1 => ?_⟩
    refine ⟨two, fun p2 n2 => ?_⟩
    refine ⟨two, fun p3 n3 => ?_⟩
    refine ⟨two, fun p4 n4 => ?_⟩
    refine ⟨two, fun p5 n5 => ?_⟩
    refine ⟨two, fun p6 n6 => ?_⟩
    refine ⟨two, fun p7 n7 => ?_⟩
    refine ⟨two, fun p8 n8 => ?_⟩
    refine ⟨two, fun p9 n9 => ?_⟩
    refine ⟨(by show 10 ≤ sizeLine; decide), fun l nl => ?_⟩
    have z10 := same_upd (o := .lst [V.ref p0, V.ref p1, V.ref p2, V.ref p3, V.ref p4, V.ref p5, V.ref p6, V.ref p7, V.ref p8, V.ref p9]) nl
    have z9 := (same_upd (o := .tup [.int 2, .int 2]) n9).trans z10
    have z8 := (same_upd (o := .tup [.int 3, .int 2]) n8).trans z9
    have z7 := (same_upd (o := .tup [.int 2, .int 3]) n7).trans z8
    have z6 := (same_upd (o := .tup [.int 3, .int 2]) n6).trans z7
    have z5 := (same_upd (o := .tup [.int 2, .int 3]) n5).trans z6
    have z4 := (same_upd (o := .tup [.int 2, .int 2]) n4).trans z5
    have z3 := (same_upd (o := .tup [.int 1, .int 4]) n3).trans z4
    have z2 := (same_upd (o := .tup [.int 3, .int 1]) n2).trans z3
    have z1 := (same_upd (o := .tup [.int 2, .int 1]) n1).trans z2
    have z0 := (same_upd (o := .tup [.int 1, .int 2]) n0).trans z1
    have y0 : Same H H := Same.refl _
    have y1 := y0.trans (same_upd (o := .tup [.int 1, .int 2]) n0)
    have y2 := y1.trans (same_upd (o := .tup [.int 2, .int 1]) n1)
    have y3 := y2.trans (same_upd (o := .tup [.int 3, .int 1]) n2)
    have y4 := y3.trans (same_upd (o := .tup [.int 1, .int 4]) n3)
    have y5 := y4.trans (same_upd (o := .tup [.int 2, .int 2]) n4)
    have y6 := y5.trans (same_upd (o := .tup [.int 2, .int 3]) n5)
    have y7 := y6.trans (same_upd (o := .tup [.int 3, .int 2]) n6)
    have y8 := y7.trans (same_upd (o := .tup [.int 2, .int 3]) n7)
    have y9 := y8.trans (same_upd (o := .tup [.int 3, .int 2]) n8)
    rcases ten_cases n with e | e | e | e | e | e | e | e | e | e
    · refine ⟨_, rfl, _, _, rfl, rfl, (by show (0 : Int) < 10; decide), l, _, _, .ref p0, rfl, rfl, sql_upd, at_of (j := 0) (by omega) rfl, ?_⟩
      exact k p0 1 2 _ (y0.free n0) small_12 z0 (sm_tup z1 (sqt_upd (xs := [.int 1, .int 2])))
    · refine ⟨_, rfl, _, _, rfl, rfl, (by show (0 : Int) < 10; decide), l, _, _, .ref p1, rfl, rfl, sql_upd, at_of (j := 1) (by omega) rfl, ?_⟩
      exact k p1 2 1 _ (y1.free n1) small_21 z0 (sm_tup z2 (sqt_upd (xs := [.int 2, .int 1])))
    · refine ⟨_, rfl, _, _, rfl, rfl, (by show (0 : Int) < 10; decide), l, _, _, .ref p2, rfl, rfl, sql_upd, at_of (j := 2) (by omega) rfl, ?_⟩
      exact k p2 3 1 _ (y2.free n2) small_31 z0 (sm_tup z3 (sqt_upd (xs := [.int 3, .int 1])))
    · refine ⟨_, rfl, _, _, rfl, rfl, (by show (0 : Int) < 10; decide), l, _, _, .ref p3, rfl, rfl, sql_upd, at_of (j := 3) (by omega) rfl, ?_⟩
      exact k p3 1 4 _ (y3.free n3) small_14 z0 (sm_tup z4 (sqt_upd (xs := [.int 1, .int 4])))
    · refine ⟨_, rfl, _, _, rfl, rfl, (by show (0 : Int) < 10; decide), l, _, _, .ref p4, rfl, rfl, sql_upd, at_of (j := 4) (by omega) rfl, ?_⟩
      exact k p4 2 2 _ (y4.free n4) small_22 z0 (sm_tup z5 (sqt_upd (xs := [.int 2, .int 2])))
    · refine ⟨_, rfl, _, _, rfl, rfl, (by show (0 : Int) < 10; decide), l, _, _, .ref p5, rfl, rfl, sql_upd, at_of (j := 5) (by omega) rfl, ?_⟩
      exact k p5 2 3 _ (y5.free n5) small_23 z0 (sm_tup z6 (sqt_upd (xs := [.int 2, .int 3])))
    · refine ⟨_, rfl, _, _, rfl, rfl, (by show (0 : Int) < 10; decide), l, _, _, .ref p6, rfl, rfl, sql_upd, at_of (j := 6) (by omega) rfl, ?_⟩
      exact k p6 3 2 _ (y6.free n6) small_32 z0 (sm_tup z7 (sqt_upd (xs := [.int 3, .int 2])))
    · refine ⟨_, rfl, _, _, rfl, rfl, (by show (0 : Int) < 10; decide), l, _, _, .ref p7, rfl, rfl, sql_upd, at_of (j := 7) (by omega) rfl, ?_⟩
      exact k p7 2 3 _ (y7.free n7) small_23 z0 (sm_tup z8 (sqt_upd (xs := [.int 2, .int 3])))
    · refine ⟨_, rfl, _, _, rfl, rfl, (by show (0 : Int) < 10; decide), l, _, _, .ref p8, rfl, rfl, sql_upd, at_of (j := 8) (by omega) rfl, ?_⟩
      exact k p8 3 2 _ (y8.free n8) small_32 z0 (sm_tup z9 (sqt_upd (xs := [.int 3, .int 2])))
    · refine ⟨_, rfl, _, _, rfl, rfl, (by show (0 : Int) < 10; decide), l, _, _, .ref p9, rfl, rfl, sql_upd, at_of (j := 9) (by omega) rfl, ?_⟩
      exact k p9 2 2 _ (y9.free n9) small_22 z0 (sm_tup z10 (sqt_upd (xs := [.int 2, .int 2])))
end
end Sf
namespace Sf
open PySem PySem.Spec PyProof.Rows L2
/-- the product of the greatest i numbers up to n -/
def runO (n : Nat) : Nat → Nat
  | 0 => 1
  | i + 1 => runO n i * (n - i)
theorem runO_le {n : Nat} (h : n ≤ 16) : ∀ i, i ≤ 14 → runO n i ≤ 16 ^ i
  | 0, _ => Nat.le_refl _
  | i + 1, hi => by
    have ih := runO_le h i (by omega)
    show runO n i * (n - i) ≤ 16 ^ i * 16
    exact Nat.mul_le_mul ih (by omega)
def spOrd : Sp := fun vs H Q _ => ∃ n : Nat, vs = [nV n] ∧ 2 ≤ n ∧ n ≤ 16 ∧ Q (nV (runO n (n - 2))) H
section
variable {P : Program} {w : World} {K : PySem.W.Frag} {mg : Str → Option Value} {base : Heap}
theorem ok_orders (T : Tx K mg) : FnD P w base CX0 1 T.d_law_orders spOrd := by
  refine T.d_law_orders.F.ok sc_law_orders (fun vs H Q E h => ?_) (fun cdv A outer s H vs Q E hr h => ?_)
  · obtain ⟨n, rfl, _⟩ := h
    rfl
  · obtain ⟨n, rfl, h2, h16, k⟩ := h
    have nd := sc_law_orders.nd
    refine ⟨_, pss_cons (ps_set (i := 1) nd rfl (.inl rfl) pe_int)
      (pss_cons (ps_for PassesOwn.never rfl (pi_range3 rfl T.b_range (pa_cons (pv 0) (pa_cons pe_int (pa1 (pe_un un_neg pe_int))))) (pg_name (i := 2) nd rfl (.inl rfl))
        (pss_one (ps_set (i := 1) nd rfl (.inl rfl) (pe_op op_mul (pv 1) (pv 2)))))
      (pss_one (ps_ret (pv 1)))), ?_⟩
    have hg : RgC (n : Int) 2 (-1) (n - 2) := by
      have e : ((n : Int) - 2).toNat = n - 2 := by omega
      have g := RgC.neg (i := (n : Int)) (j := 2) (by omega) (by omega) (by decide) (by decide)
      rw [e] at g
      exact g
    refine ⟨_, rfl, _, rfl, (n : Int), 2, -1, n - 2, rfl, hg, ?_⟩
    refine for_rangeC (lo := (n : Int)) (c := -1) (n := n - 2) (fun i σ H1 => H1 = H ∧ ∃ u : Option V, σ = [some (nV n), some (nV (runO n i)), u]) ⟨rfl, none, rfl⟩ ?_ ?_
    · rintro i σ H1 hi ⟨rfl, u, rfl⟩
      have hle := runO_le h16 i (by omega)
      have hp : 16 ^ i ≤ 16 ^ 14 := Nat.pow_le_pow_right (by decide) (by omega)
      have hq : (16 : Nat) ^ 14 < 2 ^ 64 := by decide
      refine ⟨_, rfl, _, rfl, _, _, rfl, rfl, .inl ⟨by omega, by omega⟩, rfl, some (.int ((n : Int) + (i : Nat) * -1)), ?_⟩
      have e : (n : Int) + (i : Nat) * -1 = ((n - i : Nat) : Int) := by omega
      show [some (nV n), some (V.int ((runO n i : Nat) * ((n : Int) + (i : Nat) * -1))), some (.int ((n : Int) + (i : Nat) * -1))] = [some (nV n), some (nV (runO n i * (n - i))), some (.int ((n : Int) + (i : Nat) * -1))]
      rw [e]
      unfold nV
      rw [Int.natCast_mul]
    · rintro σ H1 ⟨rfl, u, rfl⟩
      exact ⟨_, rfl, k⟩
end
end Sf
namespace Sf
open PySem PySem.Spec PyProof.Rows L2
section
variable {P : Program} {w : World} {K : PySem.W.Frag} {mg : Str → Option Value} {base : Heap}
theorem sql_ne {K : PySem.W.Frag} {H : Hp} {p b : Addr} {xs : List V} {o u : HO} (h : H p = some (.lst xs)) (hb : H b = some u) (n : p ≠ b) : (upd H b o) p = some (.lst xs) := by rw [upd_ne n]; exact h
set_option maxHeartbeats 1000000 in
theorem ok_far (T : Tx K mg) : FnD P w base CX0 3 T.d_law_far (spFar P w K) := by
  have G1 : FnD P w base CX0 2 T.d_law_words (spWords K) := ok_words T
  have G2 : FnD P w base CX0 1 T.d_law_moved (spMoved K) := ok_moved T
  refine T.d_law_far.F.ok sc_law_far (fun vs H Q E h => ?_) (fun cdv A outer s H vs Q E hr h => ?_)
  · obtain ⟨f, b, wd, hg, st, rfl, _⟩ := h
    rfl
  · obtain ⟨f, b, wd, hg, st, rfl, hf, F, h6, hb, S, k⟩ := h
    have nd := sc_law_far.nd
    have hu := hu_of hr
    have hr1 : Room 1 _ := hr.mono (by decide)
    refine ⟨_, pss_cons (ps_set (i := 2) nd rfl (.inl rfl) (pe_disp1 hr.units0 (pv 1) pe_int))
      (pss_cons (ps_set (i := 3) nd rfl (.inl rfl) (pe_lst (pa1 (pv 1))))
      (pss_cons (ps_while PassesOwn.never (pt_cmpR (op_neD hr.units) (pv 3) (pe_lst pa_nil) (nomark _))
        (pss_cons (ps_set (i := 4) nd rfl (.inl rfl) (pe_lst pa_nil))
        (pss_cons (ps_for PassesOwn.never rfl (pi_list (pv 3)) (pg_name (i := 5) nd rfl (.inl rfl))
          (pss_one (ps_for PassesOwn.never rfl (pi_list (pe_d T.d_law_words G1 hr pass0 (pa_cons (pv 0) (pa1 (pv 5))))) (pg_name (i := 6) nd rfl (.inl rfl))
            (pss_cons (ps_set (i := 7) nd rfl (.inl rfl) (pe_d T.d_law_moved G2 hr1 pass0 (pa_cons (pv 0) (pa_cons (pv 5) (pa1 (pv 6))))))
            (pss_one (ps_if (pt_cmpR (op_notInX hu) (pv 7) (pv 2) (by rfl))
              (pss_cons (ps_asg (pe_op op_add (pe_getX hu (pv 2) (pv 5) (fun _ _ => rfl)) pe_int) (pg_sub (pv 2) (pv 7) (set_dictX hu)))
              (pss_one (ps_expr (pe_bm PySem.F.plainAttrs_list PySem.F.slot_list_append PySem.F.type_list_append mt_append (pv 4) (pa1 (pv 7)))))) pss_nil))))))
        (pss_one (ps_set (i := 3) nd rfl (.inl rfl) (pv 4))))))
      (pss_one (ps_ret (pv 2))))), ?_⟩
    refine fun d nd0 => ⟨_, rfl, upd_same, b, st, rfl, (sm_tup (same_upd nd0) hb.sq), ?_⟩
    rw [upd_upd]
    have y1 : Same H (upd H d (DX P w d [(st, b, V.int 0)])) := same_upd nd0
    refine ⟨_, rfl, (by show 1 ≤ sizeLine; decide), fun la nla => ?_⟩
    have y2 := y1.trans (same_upd (o := .lst [V.ref b]) nla)
    have nda : d ≠ la := fun q => by rw [← q, upd_same] at nla; cases nla
    -- the invariant of the going
    let PW : Nat → L2.St → Hp → Prop := fun t σ H2 => Same H H2 ∧ ∃ (la : Addr) (L : List DXE) (rs : List Addr) (u4 u5 u6 u7 : Option V), σ = [some (.ref f), some (.ref b), some (.ref d), some (.ref la), u4, u5, u6, u7] ∧ H2 d = some (DX P w d L) ∧
      H2 la = some (.lst (rs.map V.ref)) ∧ AtL H2 rs (layr wd hg st t).2 ∧ KeysT H2 L ∧ L.map (·.1) = (layr wd hg st t).1 ∧ ∀ e ∈ L, ∃ n : Nat, e.2.2 = nV n ∧ IsDist wd hg st e.1 n
    have hp0 : PW 0 [some (.ref f), some (.ref b), some (.ref d), some (.ref la), none, none, none, none] (upd (upd H d (DX P w d [(st, b, V.int 0)])) la (.lst [V.ref b])) := by
      refine ⟨y2, la, [(st, b, V.int 0)], [b], none, none, none, none, rfl, ?_, upd_same, .cons (hb.same y2) .nil, fun e m => ?_, rfl, fun e m => ?_⟩
      · rw [upd_ne nda, upd_same]
      · rw [List.mem_singleton.mp m]
        exact hb.same y2
      · rw [List.mem_singleton.mp m]
        exact ⟨0, rfl, .nil, fun m hm => by omega⟩
    refine ⟨fun m σ H2 => ∃ t, PW t σ H2 ∧ m = 720 - (layr wd hg st t).1.length + (if (layr wd hg st t).2 = [] then 0 else 1), ⟨_, 0, hp0, rfl⟩, ?_⟩
    rintro m σ H2 ⟨t, ⟨s2, la, L, rs, u4, u5, u6, u7, rfl, hd, hla, hat, hk, hkeys, hval⟩, rfl⟩
    refine ⟨_, rfl, (by show 0 ≤ sizeLine; decide), fun pe npe => ?_⟩
    have se : Same H2 (upd H2 pe (.lst [])) := same_upd npe
    refine ⟨_, _, dp_T2 (SqL.of (se _ _ hla)) (hat.same se), dp_lst (ns := []) sql_upd, shaped_lst2 _, shaped_lst _, _, rfl, ?_⟩
    rw [eqv_nil2]
    refine iteN2 (fun e => ?_) fun e => ?_
    · have el : (layr wd hg st t).2 ≠ [] := of_decide_eq_false e
      have s2e := s2.trans se
      refine ⟨PW (t + 1), fun σ' H' q => ⟨_, ?_, t + 1, q, rfl⟩, ?_⟩
      · have ap := layr_app (w := wd) (h := hg) (s := st) t
        have l1 := layr_le F h6 S (t + 1)
        rw [ap, List.length_append] at l1 ⊢
        rw [if_neg el]
        by_cases z : (layr wd hg st (t + 1)).2 = []
        · rw [if_pos z, z]; simp
        · rw [if_neg z]
          have := List.length_pos_iff.mpr z
          omega
      · refine ⟨(by show 0 ≤ sizeLine; decide), fun lt nlt => ?_⟩
        have nlt0 : H lt = none := s2e.free nlt
        have hla2 := se _ _ hla
        have lal : lt ≠ la := fun q => by rw [q, hla2] at nlt; cases nlt
        have sl : Same H2 (upd (upd H2 pe (.lst [])) lt (.lst [])) := se.trans (same_upd nlt)
        let PI : Nat → L2.St → Hp → Prop := fun i σ H3 => Same H H3 ∧ H3 la = some (.lst (rs.map V.ref)) ∧ AtL H3 rs (layr wd hg st t).2 ∧ ∃ (L : List DXE) (ls : List Addr) (u5 u6 u7 : Option V),
          σ = [some (.ref f), some (.ref b), some (.ref d), some (.ref la), some (.ref lt), u5, u6, u7] ∧ H3 d = some (DX P w d L) ∧ H3 lt = some (.lst (ls.map V.ref)) ∧ KeysT H3 L ∧
          AtL H3 ls (visits (layr wd hg st t).1 (nbs wd hg ((layr wd hg st t).2.take i) ++ [])).2 ∧ L.map (·.1) = (visits (layr wd hg st t).1 (nbs wd hg ((layr wd hg st t).2.take i) ++ [])).1 ∧ ∀ e ∈ L, ∃ n : Nat, e.2.2 = nV n ∧ IsDist wd hg st e.1 n
        refine ⟨_, rfl, la, rfl, ⟨_, SqL.of (sl _ _ hla)⟩, for_list (K := K) (a := la) (xs := rs.map V.ref) PI
          ⟨s2.trans sl, sl _ _ hla, hat.same sl, L, [], u5, u6, u7, rfl, sl _ _ hd, upd_same, hk.same sl, .nil, hkeys, hval⟩ (fun i σ H3 _ p => SqL.of p.2.1) ?_ ?_⟩
        · rintro i x σ H3 hx ⟨s3, hla3, hat3, L3, ls3, v5, v6, v7, rfl, hd3, hlt3, hk3, hls3, hkeys3, hval3⟩
          obtain ⟨r, hr3, rfl⟩ : ∃ r, rs[i]? = some r ∧ x = .ref r := by
            rw [List.getElem?_map] at hx
            cases q : rs[i]? with
            | none => rw [q] at hx; cases hx
            | some r => rw [q] at hx; exact ⟨r, rfl, (Option.some.inj hx).symm⟩
          obtain ⟨y, hy, hty⟩ := hat3.get hr3
          have ym := List.mem_of_getElem? hy
          have yS := layr_std F S t y (layr_sub t y ym)
          refine ⟨_, rfl, _, rfl, f, r, wd, hg, y, rfl, sm_tup s3 hf, F, hty, yS, fun wl H4 nwl s4 hwl => ?_⟩
          have nwd : wl ≠ d := fun q => by rw [q, hd3] at nwl; cases nwl
          have nwt : wl ≠ lt := fun q => by rw [q, hlt3] at nwl; cases nwl
          let PJ : Nat → L2.St → Hp → Prop := fun j σ H5 => Same H H5 ∧ H5 la = some (.lst (rs.map V.ref)) ∧ AtL H5 rs (layr wd hg st t).2 ∧ H5 wl = some (.lst (wV (wordsM wd hg y))) ∧ ∃ (L : List DXE) (ls : List Addr) (u6 u7 : Option V),
            σ = [some (.ref f), some (.ref b), some (.ref d), some (.ref la), some (.ref lt), some (.ref r), u6, u7] ∧ H5 d = some (DX P w d L) ∧ H5 lt = some (.lst (ls.map V.ref)) ∧ KeysT H5 L ∧
            AtL H5 ls (visits (layr wd hg st t).1 (nbs wd hg ((layr wd hg st t).2.take i) ++ nb wd hg y ((wordsM wd hg y).take j))).2 ∧ L.map (·.1) = (visits (layr wd hg st t).1 (nbs wd hg ((layr wd hg st t).2.take i) ++ nb wd hg y ((wordsM wd hg y).take j))).1 ∧ ∀ e ∈ L, ∃ n : Nat, e.2.2 = nV n ∧ IsDist wd hg st e.1 n
          refine ⟨wl, rfl, ⟨_, SqL.of hwl⟩, for_list (K := K) (a := wl) (xs := wV (wordsM wd hg y)) PJ
            ⟨s3.trans s4, s4 _ _ hla3, hat3.same s4, hwl, L3, ls3, v6, v7, rfl, s4 _ _ hd3, s4 _ _ hlt3, hk3.same s4, hls3.same s4, hkeys3, hval3⟩ (fun j σ H5 _ p => SqL.of p.2.2.2.1) ?_ ?_⟩
          · rintro j x σ H5 hx ⟨s5, hla5, hat5, hwl5, L5, ls5, v6, v7, rfl, hd5, hlt5, hk5, hls5, hkeys5, hval5⟩
            obtain ⟨dd, hdd, rfl⟩ : ∃ dd, (wordsM wd hg y)[j]? = some dd ∧ x = .str (dS dd) := by
              unfold wV at hx
              rw [List.getElem?_map] at hx
              cases q : (wordsM wd hg y)[j]? with
              | none => rw [q] at hx; cases hx
              | some dd => rw [q] at hx; exact ⟨dd, rfl, (Option.some.inj hx).symm⟩
            obtain ⟨y', hst'⟩ := words_step hdd
            have V5 := vis_facts (s := st) (t := t) (i := i) F h6 S (nb_std (ds := (wordsM wd hg y).take j) F yS)
            have vs : visits (layr wd hg st t).1 (nbs wd hg ((layr wd hg st t).2.take i) ++ nb wd hg y ((wordsM wd hg y).take (j + 1))) = visit (visits (layr wd hg st t).1 (nbs wd hg ((layr wd hg st t).2.take i) ++ nb wd hg y ((wordsM wd hg y).take j))) y' := by
              rw [nb_take hdd hst', ← List.append_assoc, visits_snoc]
            have hty5 : TD H5 r (VI y) := by
              obtain ⟨y2, hy2, ht⟩ := hat5.get hr3
              rw [hy] at hy2
              cases hy2
              exact ht
            refine ⟨_, rfl, _, rfl, _, rfl, f, r, dd, wd, hg, y, rfl, sm_tup s5 hf, F, hty5, yS, fun hn => (by rw [hst'] at hn; cases hn), fun y2 hst2 p H6 np s6 hp => ?_⟩
            rw [hst'] at hst2
            cases hst2
            have s56 := s5.trans s6
            have hd6 := s6 _ _ hd5
            have hlt6 := s6 _ _ hlt5
            have hk6 := hk5.same s6
            have hls6 := hls5.same s6
            have hat6 := hat5.same s6
            refine ⟨_, rfl, _, rfl, L5, y', ⟨d, p, rfl, rfl, hd6, hk6.at, hp.sq⟩, _, rfl, ?_⟩
            refine iteN2 (fun e => ?_) fun e => ?_
            · -- a new one
              have ny : y' ∉ (visits (layr wd hg st t).1 (nbs wd hg ((layr wd hg st t).2.take i) ++ nb wd hg y ((wordsM wd hg y).take j))).1 := by
                rw [valX_isSome, hkeys5] at e
                exact of_decide_eq_false e
              have ny0 : y' ∉ (layr wd hg st t).1 := fun q => ny (V5.2.2.2.2 y' q)
              have hl5 : L5.length ≤ 720 := by
                have := V5.2.2.1
                rw [← hkeys5, List.length_map] at this
                exact this
              have hls5l : ls5.length ≤ 720 := by
                have := V5.2.2.2.1
                rw [← hls5.len] at this
                exact this
              obtain ⟨ee, hee, hey⟩ : ∃ e ∈ L5, e.1 = y := by
                have : y ∈ L5.map (·.1) := by rw [hkeys5]; exact V5.2.2.2.2 y (layr_sub t y ym)
                obtain ⟨e, m, q⟩ := List.mem_map.mp this
                exact ⟨e, m, q⟩
              obtain ⟨n, hn, hdist⟩ := hval5 ee hee
              have hnt : n = t := hdist.uniq (hey ▸ ((layr_facts t).2.2 y).mp ym)
              have hvx : valX L5 y = some (nV t) := by
                have := valX_mem (L := L5) (by rw [hkeys5]; exact V5.1) hee
                rw [hey, hn, hnt] at this
                exact this
              have hty6 := hty5.same s6
              have hv1 : visit (visits (layr wd hg st t).1 (nbs wd hg ((layr wd hg st t).2.take i) ++ nb wd hg y ((wordsM wd hg y).take j))) y' = ((visits (layr wd hg st t).1 (nbs wd hg ((layr wd hg st t).2.take i) ++ nb wd hg y ((wordsM wd hg y).take j))).1 ++ [y'], (visits (layr wd hg st t).1 (nbs wd hg ((layr wd hg st t).2.take i) ++ nb wd hg y ((wordsM wd hg y).take j))).2 ++ [y']) := by
                unfold visit
                rw [if_neg ny]
              have dlt : d ≠ lt := ne_of hd6 hlt6 (fun q => by unfold DX at q; cases q)
              have dla : d ≠ la := ne_of hd6 (s6 _ _ hla5) (fun q => by unfold DX at q; cases q)
              refine ⟨_, rfl, _, rfl, L5, y, nV t, ⟨d, r, rfl, rfl, hd6, hk6.at, hty6.sq⟩, hvx, _, _, rfl, rfl, ?_⟩
              refine ⟨_, rfl, _, rfl, d, p, L5, y', rfl, rfl, hd6, hk6.at, hp.sq, small1000 (by omega), ?_⟩
              rw [putX_new e]
              have hlt7 : (upd H6 d (DX P w d (L5 ++ [(y', p, V.int ((t : Int) + 1))]))) lt = some (.lst (ls5.map V.ref)) := by rw [upd_ne (Ne.symm dlt)]; exact hlt6
              refine ⟨_, rfl, .inl ⟨rfl, _, SqL.of hlt7⟩, _, rfl, lt, _, _, rfl, rfl, hlt7, (by rw [List.length_map]; exact small1000 (by omega)), ?_⟩
              refine ⟨same_ch nlt0 (same_ch nd0 s56), ?_, AtL.updN notT_lst hlt7 (AtL.updN notT_dx hd6 hat6), ?_, L5 ++ [(y', p, V.int ((t : Int) + 1))], ls5 ++ [p], some (.str (dS dd)), some (.ref p), rfl, ?_, ?_, fun e m => ?_, ?_, ?_, fun e m => ?_⟩
              · rw [upd_ne (Ne.symm lal), upd_ne (Ne.symm dla)]
                exact s6 _ _ hla5
              · rw [upd_ne nwt, upd_ne nwd]
                exact s6 _ _ hwl5
              · rw [upd_ne dlt, upd_same]
                rfl
              · rw [upd_same, List.map_append]
                rfl
              · refine TD.updN notT_lst hlt7 (TD.updN notT_dx hd6 ?_)
                rcases List.mem_append.mp m with m | m
                · exact hk6 e m
                · rw [List.mem_singleton.mp m]
                  exact hp
              · rw [vs, hv1]
                exact AtL.updN notT_lst hlt7 (AtL.updN notT_dx hd6 (hls6.snoc hp))
              · rw [vs, hv1, List.map_append, hkeys5]
                rfl
              · rcases List.mem_append.mp m with m | m
                · exact hval5 e m
                · rw [List.mem_singleton.mp m]
                  exact ⟨t + 1, rfl, new_dist ym hst' ny0⟩
            · -- met before
              have yy : y' ∈ (visits (layr wd hg st t).1 (nbs wd hg ((layr wd hg st t).2.take i) ++ nb wd hg y ((wordsM wd hg y).take j))).1 := by
                rw [valX_isSome, hkeys5] at e
                exact of_decide_eq_true e
              have hv1 : visit (visits (layr wd hg st t).1 (nbs wd hg ((layr wd hg st t).2.take i) ++ nb wd hg y ((wordsM wd hg y).take j))) y' = visits (layr wd hg st t).1 (nbs wd hg ((layr wd hg st t).2.take i) ++ nb wd hg y ((wordsM wd hg y).take j)) := by
                unfold visit
                rw [if_pos yy]
              refine ⟨s56, s6 _ _ hla5, hat6, s6 _ _ hwl5, L5, ls5, some (.str (dS dd)), some (.ref p), rfl, hd6, hlt6, hk6, ?_, ?_, hval5⟩
              · rw [vs, hv1]; exact hls6
              · rw [vs, hv1]; exact hkeys5
          · rintro σ H5 ⟨s5, hla5, hat5, hwl5, L5, ls5, v6, v7, rfl, hd5, hlt5, hk5, hls5, hkeys5, hval5⟩
            have ev : nbs wd hg ((layr wd hg st t).2.take i) ++ nb wd hg y ((wordsM wd hg y).take (wV (wordsM wd hg y)).length) = nbs wd hg ((layr wd hg st t).2.take (i + 1)) ++ [] := by
              rw [wV_len, List.take_length, List.append_nil, nbs_take hy]
            rw [ev] at hls5 hkeys5
            exact ⟨s5, hla5, hat5, L5, ls5, _, _, _, rfl, hd5, hlt5, hk5, hls5, hkeys5, hval5⟩
        · rintro σ H3 ⟨s3, hla3, hat3, L3, ls3, v5, v6, v7, rfl, hd3, hlt3, hk3, hls3, hkeys3, hval3⟩
          have ev : nbs wd hg ((layr wd hg st t).2.take (rs.map V.ref).length) ++ [] = nbs wd hg (layr wd hg st t).2 := by
            rw [List.length_map, hat.len, List.take_length, List.append_nil]
          rw [ev] at hls3 hkeys3
          exact ⟨_, rfl, s3, lt, L3, ls3, _, _, _, _, rfl, hd3, hlt3, hls3, hk3, hkeys3, hval3⟩
    · have el := of_decide_eq_true e
      exact ⟨_, rfl, k d _ L t nd0 (s2.trans se) (se _ _ hd) (hk.same se) hkeys el hval⟩
end
end Sf
namespace Sf
open PySem PySem.Spec PyProof.Rows L2
def spLaw (K : PySem.W.Frag) : Sp := fun vs H Q _ => ∃ (a : Addr) (ns : List Int), vs = [.ref a] ∧ SqL K H a (ns.map V.int) ∧ ns.length ≤ 63 ∧ ∀ H', Q (.bl true) H'
def keyOf (H : Hp) (v : V) : List Int := match v with
  | .ref t => (match H t with | some (.frz _ (.tup xs)) => xs.map (fun x => match x with | .int i => i | _ => 0) | _ => [])
  | _ => []
theorem keyOf_at {H : Hp} {t : Addr} {ns : List Int} (h : TD H t (VI ns)) : keyOf H (.ref t) = ns := by
  obtain ⟨o, _, e⟩ := h
  show (match H t with | some (.frz _ (.tup xs)) => xs.map (fun x => match x with | .int i => i | _ => 0) | _ => []) = ns
  rw [e]
  show (ns.map V.int).map _ = ns
  rw [List.map_map]
  exact List.map_id ns
theorem bd_std {n : Nat} {ns : List Int} (S : Std n ns) (h : n ≤ 16) : _root_.TS.Bd 16 ns := fun m hm => by
  have := S.mem.mp hm
  omega
section
variable {P : Program} {w : World} {K : PySem.W.Frag} {mg : Str → Option Value} {base : Heap}
theorem many_good {CF CS : Addr} {f v : Addr} {H : Hp} {wd hg : Nat} {st : List Int} {Q : VK} {E : XK} (hf : SqT K H f [nV wd, nV hg]) (F : Fl wd hg) (hs : TD H v (VI st)) (S : Std (wd * hg) st) (k : ∀ H', Same H H' → Q (nV (howM wd hg)) H') :
    spMany K CF CS [.ref f, .ref v] H Q E := by
  refine ⟨.ref f, .ref v, some (wd, hg), rfl, .good hf F, fun z => (by cases z), fun a b e => ?_⟩
  cases e
  exact ⟨some st, .good hs S, fun _ H1 s1 => k H1 s1, fun z => (by cases z)⟩
/-- the great floors -/
def GreatF (w h : Nat) : Prop := Fl w h ∧ (¬ (w = 1 ∨ h = 1) → howM w h = runO (w * h) (w * h - 2))
theorem great_44 : GreatF 4 4 := ⟨⟨by decide, by decide, by decide, by decide, by decide⟩, fun _ => by decide +kernel⟩
theorem great_33 : GreatF 3 3 := ⟨⟨by decide, by decide, by decide, by decide, by decide⟩, fun _ => by decide +kernel⟩
theorem great_42 : GreatF 4 2 := ⟨⟨by decide, by decide, by decide, by decide, by decide⟩, fun _ => by decide +kernel⟩
theorem great_24 : GreatF 2 4 := ⟨⟨by decide, by decide, by decide, by decide, by decide⟩, fun _ => by decide +kernel⟩
theorem great_34 : GreatF 3 4 := ⟨⟨by decide, by decide, by decide, by decide, by decide⟩, fun _ => by decide +kernel⟩
theorem great_41 : GreatF 4 1 := ⟨⟨by decide, by decide, by decide, by decide, by decide⟩, fun n => absurd (.inr rfl) n⟩
theorem great_14 : GreatF 1 4 := ⟨⟨by decide, by decide, by decide, by decide, by decide⟩, fun n => absurd (.inl rfl) n⟩
theorem seven_cases (n : Nat) : n % 7 = 0 ∨ n % 7 = 1 ∨ n % 7 = 2 ∨ n % 7 = 3 ∨ n % 7 = 4 ∨ n % 7 = 5 ∨ n % 7 = 6 := by omega
theorem notInK' {X : Cx} {K : PySem.W.Frag} (h : X.K = K) : OpR X (compareOp .NotIn) (rIn K true) := h ▸ op_notIn_seq
theorem call_isiK {X : Cx} {K : PySem.W.Frag} (h : X.K = K) : CallR X (.builtin "isinstance") (rIsi K) := h ▸ call_isi
set_option maxHeartbeats 2000000 in
theorem ok_law (T : Tx K mg) : FnD P w base CX0 9 T.d_law (spLaw K) := by
  have G1 : FnD P w base CX0 1 T.d_law_draw (spDraw K) := ok_draw T
  have G2 : FnD P w base CX0 1 T.d_law_floor (spSmall K) := ok_small T
  have G3 : FnD P w base CX0 2 T.d_law_standing (spStanding K) := ok_standing T
  have G4 : FnD P w base CX0 3 T.d_law_far (spFar P w K) := ok_far T
  have G5 : FnD P w base (L2.CX P w) 4 T.d_how_many (spMany K T.c_BadFloor.C T.c_BadStanding.C) := ok_how_many T
  have G6 : FnD P w base CX0 1 T.d_law_whole spWhole := ok_whole T
  have G7 : FnD P w base (L2.CX P w) 5 T.d_is_joined (spJoin K T.c_BadFloor.C T.c_BadStanding.C) := ok_is_joined T
  have G8 : FnD P w base CX0 1 T.d_law_orders spOrd := ok_orders T
  refine T.d_law.F.ok sc_law (fun vs H Q E h => ?_) (fun cdv A outer s H vs Q E hr h => ?_)
  · obtain ⟨a, ns, rfl, _⟩ := h
    rfl
  · obtain ⟨a, ns, rfl, hns, h63, k⟩ := h
    have nd := sc_law.nd
    have hu := hu_of hr
    have hr1 : Room 1 _ := hr.mono (by decide)
    have hr2 : Room 2 _ := hr.mono (by decide)
    have hr3 : Room 3 _ := hr.mono (by decide)
    have hr4 : Room 4 _ := hr.mono (by decide)
    have hr5 : Room 5 _ := hr.mono (by decide)
    refine ⟨_, (pss_cons (ps_set (i := 1) nd rfl (.inl rfl) (pe_d T.d_law_draw G1 hr1 pass0 (pa_cons (pv 0) (pa1 pe_int))))
      (pss_cons (ps_set (i := 2) nd rfl (.inl rfl) (pe_d T.d_law_floor G2 hr1 pass0 (pa1 (pv 1))))
      (pss_cons (ps_set (i := 3) nd rfl (.inl rfl) (pe_d T.d_law_standing G3 hr2 pass0 (pa_cons (pv 0) (pa_cons pe_int (pa1 (pv 2))))))
      (pss_cons (ps_set (i := 4) nd rfl (.inl rfl) (pe_d T.d_law_far G4 hr3 pass0 (pa_cons (pv 2) (pa1 (pv 3)))))
      (pss_cons (ps_set (i := 5) nd rfl (.inl rfl) (pe_d T.d_how_many G5 hr4 passL (pa_cons (pv 2) (pa1 (pv 3)))))
      (pss_cons (ps_if (PW.pt (pw_or (pt_not (pt_val (pe_d T.d_law_whole G6 hr1 pass0 (pa1 (pv 5))))) (pw_or1 (pt_cmpR op_ne (pv 5) (pe_b call_lenX T.b_len (pa1 (pv 4))) (nomark _))))) (pss_one (ps_ret pe_bl)) pss_nil)
      (pss_cons (ps_for PassesOwn.never rfl (pi_range1 (by rfl) T.b_range (pa1 pe_int)) (pg_name (i := 6) nd rfl (.inl rfl)) (pss_cons (ps_set (i := 7) nd rfl (.inl rfl) (pe_d T.d_law_standing G3 hr2 pass0 (pa_cons (pv 0) (pa_cons (pe_op op_add pe_int (pe_op op_mul pe_int (pv 6))) (pa1 (pv 2))))))
      (Evl.pss_cut (ps_if (pt_cmpR op_eq (pv 6) pe_int (nomark _)) (pss_one (ps_set (i := 7) nd rfl (.inl rfl) (pe_ix ix_list (pe_b cr_sortedTs T.b_sorted (pa1 (pe_t (call_listX rfl) T.b_list (pa1 (pv 4))))) (pe_op op_mod (pe_op op_fdiv (pv 1) pe_int) (pe_b call_lenX T.b_len (pa1 (pv 4)))) (fun _ _ => rfl)))) pss_nil)
      (pss_cons (ps_set (i := 8) nd rfl (.inl rfl) (pe_lst (pa_cons (pe_d T.d_is_joined G7 hr5 passL (pa_cons (pv 2) (pa_cons (pv 3) (pa1 (pv 7))))) (pa1 (pe_d T.d_is_joined G7 hr5 passL (pa_cons (pv 2) (pa_cons (pv 7) (pa1 (pv 3)))))))))
      (pss_one (ps_if (PW.pt (pw_or (pt_cmpR (op_neD hr.units) (pv 8) (pe_op op_rep (pe_lst (pa1 (pe_cmpR (op_inX hu) (pv 7) (pv 4) (by rfl)))) pe_int) (nomark _)) (pw_or1 (pt_not (pt_val (pe_b (cr_all rfl) T.b_all (pa1 (pe_lc (own := [("_law_one", 12)]) (g := gName 12) (by rfl) nd (pi_list (pv 8)) (blkOk_by (N := ["_law_script", "_law_number", "_law_floor_here", "_law_first", "_law_all_ones", "_law_found", "_law_k", "_law_other", "_law_told", "_law_great", "_law_many", "_law_due", "_law_one"]) (sc := defScope s_law) (by decide +kernel)) (fun _ _ _ _ _ => pg_name (i := 12) nd rfl (Or.inl rfl)) (fun _ _ _ _ _ => pts_nil) (fun _ _ _ _ _ => (pe_b (id := "isinstance") (call_isiK (K := K) rfl) T.b_isinstance (pa_cons (pv 12) (pa1 (pe_ty (T := "bool") T.b_bool))))))))))))) (pss_one (ps_ret pe_bl)) pss_nil))))))
      (Evl.pss_cut (ps_set (i := 9) nd rfl (.inl rfl) (pe_ix ix_list (pe_lst (pa_cons (pe_tup (pa_cons pe_int (pa1 pe_int))) (pa_cons (pe_tup (pa_cons pe_int (pa1 pe_int))) (pa_cons (pe_tup (pa_cons pe_int (pa1 pe_int))) (pa_cons (pe_tup (pa_cons pe_int (pa1 pe_int))) (pa_cons (pe_tup (pa_cons pe_int (pa1 pe_int))) (pa_cons (pe_tup (pa_cons pe_int (pa1 pe_int))) (pa1 (pe_tup (pa_cons pe_int (pa1 pe_int))))))))))) (pe_op op_mod (pe_op op_fdiv (pv 1) pe_int) pe_int) (fun _ _ => rfl)))
      (pss_cons (ps_set (i := 10) nd rfl (.inl rfl) (pe_op op_mul (pe_ix ix_tup (pv 9) pe_int (fun _ _ => rfl)) (pe_ix ix_tup (pv 9) pe_int (fun _ _ => rfl))))
      (pss_cons (ps_set (i := 11) nd rfl (.inl rfl) (pe_ifExp (pt_cmpR (notInK' (K := K) rfl) pe_int (pv 9) (by rfl)) (pe_d T.d_law_orders G8 hr1 pass0 (pa1 (pv 10))) (pv 10)))
      (pss_one (ps_ret (pe_cmpR op_eq (pe_d T.d_how_many G5 hr4 passL (pa_cons (pv 9) (pa1 (pe_d T.d_law_standing G3 hr2 pass0 (pa_cons (pv 0) (pa_cons pe_int (pa1 (pv 9)))))))) (pv 11) (nomark _)))))))))))))), ?_⟩
    refine ⟨_, rfl, a, ns, 0, rfl, hns, by decide, by decide, fun n0 H1 _ s1 => ?_⟩
    refine ⟨_, rfl, n0, rfl, fun f wd hg H2 nf M s2 hf => ?_⟩
    have F := M.F
    have s12 := s1.trans s2
    refine ⟨_, rfl, _, rfl, a, f, ns, 1, wd, hg, rfl, Same.seq s12 hns, by decide, by decide, hf, F, fun b st H3 nb S s3 hb => ?_⟩
    have s13 := s12.trans s3
    have hf3 := sm_tup s3 hf
    refine ⟨_, rfl, _, rfl, f, b, wd, hg, st, rfl, hf3, F, M.le, hb, S, fun d H4 L t nd4 s4 hd hk hkeys hend hval => ?_⟩
    have s14 := s13.trans s4
    have hf4 := sm_tup s4 hf3
    have hb4 := hb.same s4
    have reach : ∀ x, x ∈ L.map (·.1) ↔ Reach wd hg st x := fun x => by rw [hkeys]; exact layr_end hend x
    have knd : (L.map (·.1)).Nodup := by rw [hkeys]; exact (layr_facts t).1
    have kstd : ∀ x ∈ L.map (·.1), Std (wd * hg) x := fun x m => let ⟨n, p⟩ := (reach x).mp m; p.std F S
    have hlen : L.length = howM wd hg := by
      have := M.count S knd reach
      rw [List.length_map] at this
      exact this
    have hmem : ∀ x, Std (wd * hg) x → (valX L x).isSome = joinM wd hg st x := fun x X => by
      rw [valX_isSome, Bool.eq_iff_iff, decide_eq_true_iff, reach x]
      exact M.iff S X
    have hpos : 0 < L.length := by
      have : st ∈ L.map (·.1) := (reach st).mpr ⟨0, .nil⟩
      have := List.length_pos_of_mem this
      rw [List.length_map] at this
      exact this
    refine ⟨_, rfl, _, rfl, ?_⟩
    dsimp only [tNil]
    refine many_good hf4 F hb4 S fun H5 s5 => ?_
    have s15 := s14.trans s5
    have hd5 := s5 _ _ hd
    have hk5 := hk.same s5
    have hf5 := sm_tup s5 hf4
    have hb5 := hb4.same s5
    refine ⟨_, rfl, _, rfl, _, rfl, ?_⟩
    refine iteF ?_
    refine ⟨_, rfl, _, rfl, d, L, rfl, hd5, hk5.at, rfl, _, rfl, ?_⟩
    refine iteNF (by show V.int ((howM wd hg : Nat) : Int) = V.int ((L.length : Nat) : Int); rw [hlen]) ?_
    refine ⟨6, rfl, by decide, by decide, ?_⟩
    refine for_range (lo := 0) (n := 6) (fun i σ H6 => Same H5 H6 ∧ ∃ (u1 u2 u3 : Option V), σ = [some (.ref a), some (nV n0), some (.ref f), some (.ref b), some (.ref d), some (nV (howM wd hg)), u1, u2, u3, none, none, none, none])
      ⟨Same.refl _, none, none, none, rfl⟩ ?_ ?_
    · rintro i σ H6 hi ⟨s6, u1, u2, u3, rfl⟩
      have s16 := s15.trans s6
      refine ⟨_, rfl, _, rfl, _, _, rfl, rfl, .inl ⟨by decide, by decide⟩, _, _, rfl, rfl, _, rfl, a, f, ns, 10 + 10 * (0 + (i : Int)), wd, hg, rfl, Same.seq s16 hns, by omega, by omega, sm_tup s6 hf5, F, fun o x H7 no X s7 ho => ?_⟩
      have s67 := s6.trans s7
      refine ⟨fun σ H8 => Same H5 H8 ∧ ∃ (o : Addr) (x : List Int), σ = [some (.ref a), some (nV n0), some (.ref f), some (.ref b), some (.ref d), some (nV (howM wd hg)), some (.int (0 + (i : Int))), some (.ref o), u3, none, none, none, none] ∧ TD H8 o (VI x) ∧ Std (wd * hg) x, ?_, ?_⟩
      · refine ⟨_, rfl, rfl, _, rfl, ?_⟩
        refine ite2 (fun _ => ?_) fun _ => ⟨s67, o, x, rfl, ho, X⟩
        have hd7 := s67 _ _ hd5
        have hk7 := hk5.same s67
        refine ⟨_, rfl, d, L, rfl, hd7, fun p np => ?_⟩
        have sp : Same H7 (upd H7 p (.lst ((L.map fun e => e.2.1).map V.ref))) := same_upd np
        have hkp := hk7.same sp
        refine ⟨p, _, keyOf (upd H7 p (.lst ((L.map fun e => e.2.1).map V.ref))), wd * hg, 16, rfl, sql_upd, F.pos, fun y hy => ?_, fun zs q _ hst nq => ?_⟩
        · obtain ⟨t', ht', rfl⟩ := List.mem_map.mp hy
          obtain ⟨e, he, rfl⟩ := List.mem_map.mp ht'
          have hX := kstd e.1 (List.mem_map.mpr ⟨e, he, rfl⟩)
          have hT := hkp e he
          refine ⟨e.2.1, rfl, ?_, ?_, ?_⟩
          · rw [keyOf_at hT]; exact hT.sq
          · rw [keyOf_at hT]; exact hX.len
          · rw [keyOf_at hT]; exact bd_std hX (by have := M.le; omega)
        · have sq : Same (upd H7 p (.lst ((L.map fun e => e.2.1).map V.ref))) (upd (upd H7 p (.lst ((L.map fun e => e.2.1).map V.ref))) q (.lst zs)) := same_upd nq
          have s7q := sp.trans sq
          have hzl : zs.length = L.length := by
            have := hst.len
            rw [List.length_map, List.length_map] at this
            exact this
          refine ⟨_, rfl, _, _, rfl, rfl, ⟨by decide, by decide⟩, _, rfl, d, L, rfl, s7q _ _ hd7, (hk7.same s7q).at, ?_⟩
          refine ⟨_, _, rfl, rfl, (by show (0 : Int) < ((L.length : Nat) : Int); omega), ?_⟩
          have hlt : n0 / 16 % L.length < zs.length := by rw [hzl]; exact Nat.mod_lt _ hpos
          have hin := hst.perm.mem_iff.mp (List.getElem_mem hlt)
          obtain ⟨t', ht', et⟩ := List.mem_map.mp hin
          obtain ⟨e, he, rfl⟩ := List.mem_map.mp ht'
          refine ⟨q, zs, _, zs[n0 / 16 % L.length], rfl, rfl, sql_upd, at_of (j := n0 / 16 % L.length) rfl (List.getElem?_eq_getElem hlt), ?_⟩
          rw [← et]
          exact ⟨s67.trans s7q, e.2.1, e.1, rfl, (hkp e he).same sq, kstd e.1 (List.mem_map.mpr ⟨e, he, rfl⟩)⟩
      · rintro σ H8 ⟨s8, o, x, rfl, ho, X⟩
        have f8 := sm_tup s8 hf5
        have b8 := hb5.same s8
        refine ⟨_, rfl, _, rfl, _, rfl, ?_⟩
        dsimp only [tNil]
        refine join_good f8 F b8 S ho X fun H9 s9 => ?_
        refine ⟨_, rfl, _, rfl, _, rfl, ?_⟩
        dsimp only [tNil]
        refine join_good (sm_tup s9 f8) F (ho.same s9) X (b8.same s9) S fun H10 s10 => ?_
        refine ⟨(by show 2 ≤ sizeLine; decide), fun l nl => ?_⟩
        have s810 := s9.trans s10
        have sl := s810.trans (same_upd (o := .lst [V.bl (joinM wd hg st x), V.bl (joinM wd hg x st)]) nl)
        have hdl := (s8.trans sl) _ _ hd5
        have hkl := hk5.same (s8.trans sl)
        have hol := ho.same sl
        refine ⟨_, rfl, _, rfl, _, rfl, L, x, ⟨d, o, rfl, rfl, hdl, hkl.at, hol.sq⟩, (by show 1 ≤ sizeLine; decide), fun q nq => ?_⟩
        have hj := hmem x X
        have jc := join_comm (w := wd) (h := hg) (st := x) (st' := st)
        refine ⟨q, 2, _, rfl, rfl, upd_same, by decide, by decide, (by show 1 * 2 ≤ sizeLine; decide), fun r nr => ?_⟩
        have sq : Same (upd (upd H10 l (.lst [V.bl (joinM wd hg st x), V.bl (joinM wd hg x st)])) q (.lst [V.bl (valX L x).isSome])) (upd (upd (upd H10 l (.lst [V.bl (joinM wd hg st x), V.bl (joinM wd hg x st)])) q (.lst [V.bl (valX L x).isSome])) r (.lst [V.bl (valX L x).isSome, V.bl (valX L x).isSome])) := same_upd nr
        have sr := (same_upd (o := .lst [V.bl (valX L x).isSome]) nq).trans sq
        refine ⟨_, _, .lst (xs := [V.bl (joinM wd hg st x), V.bl (joinM wd hg x st)]) (SqL.of (sr _ _ upd_same)) (dpAll_B [joinM wd hg st x, joinM wd hg x st]), .lst (xs := [V.bl (valX L x).isSome, V.bl (valX L x).isSome]) (SqL.of upd_same) (dpAll_B [(valX L x).isSome, (valX L x).isSome]), shaped_b2 _ _, shaped_b2 _ _, _, rfl, ?_⟩
        rw [eqv_b2]
        refine iteNF ⟨hj.symm, by rw [hj, jc]⟩ ?_
        refine ⟨_, rfl, l, rfl, ⟨_, SqL.of (sr _ _ upd_same)⟩, fun D nD => ?_⟩
        have lD : l ≠ D := ne_of_none (sr _ _ upd_same) nD
        have base0 : Same H5 _ := s8.trans (sl.trans sr)
        refine lc_list (K := K) (a := l) (xs := [joinM wd hg st x, joinM wd hg x st].map V.bl) (fun i H11 => Same H5 H11 ∧ H11 l = some (.lst [V.bl (joinM wd hg st x), V.bl (joinM wd hg x st)]) ∧ H11 D = some (.lst ((List.replicate i true).map V.bl)))
          ⟨sm_upd base0 nD, by rw [upd_ne lD]; exact sr _ _ upd_same, upd_same⟩ (fun i H11 _ q => SqL.of q.2.1) ?_ ?_
        · rintro i z H11 hz ⟨s11, hl11, hD11⟩
          rw [List.getElem?_map] at hz
          obtain ⟨bb, hb1, rfl⟩ := Option.map_eq_some_iff.mp hz
          refine ⟨rfl, _, rfl, _, _, _, _, true, rfl, .ty "bool", .base (.bl bb), kit_ty (by decide +kernel), ?_⟩
          refine ⟨_, hD11, ?_, same_ch ((s8.trans sl).trans sr |>.free nD) s11, ?_, ?_⟩
          · have := (List.getElem?_eq_some_iff.mp hb1).1
            rw [List.length_map, List.length_replicate]
            exact small1000 (by simp at this; omega)
          · rw [upd_ne lD]; exact hl11
          · rw [upd_same, List.replicate_succ', List.map_append]
            rfl
        · rintro H11 ⟨s11, hl11, hD11⟩
          refine ⟨D, _, rfl, SqL.of hD11, _, rfl, ?_⟩
          exact iteF ⟨s11, _, _, _, rfl⟩
    · rintro σ H6 ⟨s6, u1, u2, u3, rfl⟩
      have s16 := s15.trans s6
      refine ⟨fun σ H7 => Same H6 H7 ∧ ∃ (g : Addr) (gw gh : Nat), σ = [some (.ref a), some (nV n0), some (.ref f), some (.ref b), some (.ref d), some (nV (howM wd hg)), u1, u2, u3, some (.ref g), none, none, none] ∧ SqT K H7 g [nV gw, nV gh] ∧ GreatF gw gh, ?_, ?_⟩
      · have two : (2 : Nat) ≤ sizeLine := by decide
        refine ⟨two, fun p0 m0 => ?_⟩
        refine ⟨two, fun p1 m1 => ?_⟩
        refine ⟨two, fun p2 m2 => ?_⟩
        refine ⟨two, fun p3 m3 => ?_⟩
        refine ⟨two, fun p4 m4 => ?_⟩
        refine ⟨two, fun p5 m5 => ?_⟩
        refine ⟨two, fun p6 m6 => ?_⟩
        refine ⟨(by show 7 ≤ sizeLine; decide), fun l nl => ?_⟩
        have z7 := same_upd (o := .lst [V.ref p0, V.ref p1, V.ref p2, V.ref p3, V.ref p4, V.ref p5, V.ref p6]) nl
        have z6 := (same_upd (o := .tup [.int 1, .int 4]) m6).trans z7
        have z5 := (same_upd (o := .tup [.int 4, .int 1]) m5).trans z6
        have z4 := (same_upd (o := .tup [.int 3, .int 4]) m4).trans z5
        have z3 := (same_upd (o := .tup [.int 2, .int 4]) m3).trans z4
        have z2 := (same_upd (o := .tup [.int 4, .int 2]) m2).trans z3
        have z1 := (same_upd (o := .tup [.int 3, .int 3]) m1).trans z2
        have z0 := (same_upd (o := .tup [.int 4, .int 4]) m0).trans z1
        rcases seven_cases (n0 / 512) with e | e | e | e | e | e | e
        · refine ⟨_, rfl, _, _, rfl, rfl, ⟨by decide, by decide⟩, _, _, rfl, rfl, (by show (0 : Int) < 7; decide), l, _, _, .ref p0, rfl, rfl, sql_upd, at_of (j := 0) (by omega) rfl, ?_⟩
          exact ⟨z0, p0, 4, 4, rfl, sm_tup z1 (sqt_upd (xs := [.int 4, .int 4])), great_44⟩
        · refine ⟨_, rfl, _, _, rfl, rfl, ⟨by decide, by decide⟩, _, _, rfl, rfl, (by show (0 : Int) < 7; decide), l, _, _, .ref p1, rfl, rfl, sql_upd, at_of (j := 1) (by omega) rfl, ?_⟩
          exact ⟨z0, p1, 3, 3, rfl, sm_tup z2 (sqt_upd (xs := [.int 3, .int 3])), great_33⟩
        · refine ⟨_, rfl, _, _, rfl, rfl, ⟨by decide, by decide⟩, _, _, rfl, rfl, (by show (0 : Int) < 7; decide), l, _, _, .ref p2, rfl, rfl, sql_upd, at_of (j := 2) (by omega) rfl, ?_⟩
          exact ⟨z0, p2, 4, 2, rfl, sm_tup z3 (sqt_upd (xs := [.int 4, .int 2])), great_42⟩
        · refine ⟨_, rfl, _, _, rfl, rfl, ⟨by decide, by decide⟩, _, _, rfl, rfl, (by show (0 : Int) < 7; decide), l, _, _, .ref p3, rfl, rfl, sql_upd, at_of (j := 3) (by omega) rfl, ?_⟩
          exact ⟨z0, p3, 2, 4, rfl, sm_tup z4 (sqt_upd (xs := [.int 2, .int 4])), great_24⟩
        · refine ⟨_, rfl, _, _, rfl, rfl, ⟨by decide, by decide⟩, _, _, rfl, rfl, (by show (0 : Int) < 7; decide), l, _, _, .ref p4, rfl, rfl, sql_upd, at_of (j := 4) (by omega) rfl, ?_⟩
          exact ⟨z0, p4, 3, 4, rfl, sm_tup z5 (sqt_upd (xs := [.int 3, .int 4])), great_34⟩
        · refine ⟨_, rfl, _, _, rfl, rfl, ⟨by decide, by decide⟩, _, _, rfl, rfl, (by show (0 : Int) < 7; decide), l, _, _, .ref p5, rfl, rfl, sql_upd, at_of (j := 5) (by omega) rfl, ?_⟩
          exact ⟨z0, p5, 4, 1, rfl, sm_tup z6 (sqt_upd (xs := [.int 4, .int 1])), great_41⟩
        · refine ⟨_, rfl, _, _, rfl, rfl, ⟨by decide, by decide⟩, _, _, rfl, rfl, (by show (0 : Int) < 7; decide), l, _, _, .ref p6, rfl, rfl, sql_upd, at_of (j := 6) (by omega) rfl, ?_⟩
          exact ⟨z0, p6, 1, 4, rfl, sm_tup z7 (sqt_upd (xs := [.int 1, .int 4])), great_14⟩
      · rintro σ H7 ⟨s7, g, gw, gh, rfl, hg7, GF⟩
        have G16 := GF.1.le
        have g4 := GF.1.w4
        have gg4 := GF.1.h4
        have gpos := GF.1.two
        have s17 := s16.trans s7
        refine ⟨_, rfl, g, _, 0, nV gw, rfl, rfl, hg7, rfl, _, rfl, g, _, 1, nV gh, rfl, rfl, hg7, rfl, _, _, rfl, rfl, .inl ⟨by omega, by omega⟩, ?_⟩
        have emul : (gw : Int) * (gh : Int) = ((gw * gh : Nat) : Int) := (Int.natCast_mul gw gh).symm
        have e : inV (.int 1) [nV gw, nV gh] = decide (gw = 1 ∨ gh = 1) := by
          show (((gw : Int) == 1) || (((gh : Int) == 1) || false)) = _
          by_cases h1 : gw = 1 <;> by_cases h2 : gh = 1 <;> simp [h1, h2] <;> omega
        have fin : ∀ (due : Nat), due = howM gw gh → ∀ H8, Same H7 H8 → ∀ o x H9, H8 o = none → Std (gw * gh) x → Same H8 H9 → TD H9 o (VI x) → spMany K T.c_BadFloor.C T.c_BadStanding.C [.ref g, .ref o] H9 (fun v H10 => v = nV due ∧ True) (fun _ _ _ => False) := fun due ed H8 s8 o x H9 no X s9 ho =>
          many_good (sm_tup (s8.trans s9) hg7) GF.1 ho X fun H10 s10 => ⟨by rw [ed], trivial⟩
        refine ⟨_, rfl, g, _, rfl, .inr hg7, rfl, rfl, ?_⟩
        show ∃ k, V.bl (if true = true then !inV (.int 1) [nV gw, nV gh] else inV (.int 1) [nV gw, nV gh]) = .bl k ∧ _
        rw [if_pos rfl, e]
        refine ⟨_, rfl, iteN2 (fun q => ?_) fun q => ?_⟩
        · have el := of_decide_eq_false q
          have ed := GF.2 el
          refine ⟨_, rfl, gw * gh, (by show [V.int ((gw : Int) * (gh : Int))] = _; rw [emul]), gpos, G16, ?_⟩
          refine ⟨_, rfl, _, rfl, _, rfl, a, g, ns, 80, gw, gh, rfl, Same.seq s17 hns, by decide, by decide, hg7, GF.1, fun o x H8 no X s8 ho => ?_⟩
          dsimp only [tNil]
          refine many_good (sm_tup s8 hg7) GF.1 ho X fun H9 s9 => ⟨_, rfl, rfl, ?_⟩
          rw [ed, decide_eq_true rfl]
          exact k _
        · have el := of_decide_eq_true q
          refine ⟨_, rfl, ?_⟩
          refine ⟨_, rfl, _, rfl, _, rfl, a, g, ns, 80, gw, gh, rfl, Same.seq s17 hns, by decide, by decide, hg7, GF.1, fun o x H8 no X s8 ho => ?_⟩
          dsimp only [tNil]
          refine many_good (sm_tup s8 hg7) GF.1 ho X fun H9 s9 => ⟨_, rfl, rfl, ?_⟩
          have ed : howM gw gh = gw * gh := by unfold howM; rw [if_pos el]
          have e2 : decide (nV (howM gw gh) = V.int ((gw : Int) * (gh : Int))) = true := decide_eq_true (by rw [ed, emul])
          show Q (.bl (decide (nV (howM gw gh) = V.int ((gw : Int) * (gh : Int))))) _
          rw [e2]
          exact k _
end
end Sf
namespace Sf
open PySem PySem.Spec PyProof.Rows L2

theorem all_mk {l : PySem.W.OpenLaw} {w : World} {K : PySem.W.Frag} {h : Heap} {mg : Str → Option Value} {fa : Addr} (X : K.In h) (G : h.Ns mainGlobals mg) (hfa : mg "law" = some (.ref fa))
    {f0 : Addr} {od0 an0 : Option Addr} {sl0 : Array (Option Value)} {oc0 kV0 dc0 pm0 cd0 ct0 : Value}
    {f1 : Addr} {od1 an1 : Option Addr} {sl1 : Array (Option Value)} {oc1 kV1 dc1 pm1 cd1 ct1 : Value}
    {f2 : Addr} {od2 an2 : Option Addr} {sl2 : Array (Option Value)} {oc2 kV2 dc2 pm2 cd2 ct2 : Value}
    {f3 : Addr} {od3 an3 : Option Addr} {sl3 : Array (Option Value)} {oc3 kV3 dc3 pm3 cd3 ct3 : Value}
    {f4 : Addr} {od4 an4 : Option Addr} {sl4 : Array (Option Value)} {oc4 kV4 dc4 pm4 cd4 ct4 : Value}
    {f5 : Addr} {od5 an5 : Option Addr} {sl5 : Array (Option Value)} {oc5 kV5 dc5 pm5 cd5 ct5 : Value}
    {f6 : Addr} {od6 an6 : Option Addr} {sl6 : Array (Option Value)} {oc6 kV6 dc6 pm6 cd6 ct6 : Value}
    {f7 : Addr} {od7 an7 : Option Addr} {sl7 : Array (Option Value)} {oc7 kV7 dc7 pm7 cd7 ct7 : Value}
    {f8 : Addr} {od8 an8 : Option Addr} {sl8 : Array (Option Value)} {oc8 kV8 dc8 pm8 cd8 ct8 : Value}
    {f9 : Addr} {od9 an9 : Option Addr} {sl9 : Array (Option Value)} {oc9 kV9 dc9 pm9 cd9 ct9 : Value}
    {f10 : Addr} {od10 an10 : Option Addr} {sl10 : Array (Option Value)} {oc10 kV10 dc10 pm10 cd10 ct10 : Value}
    {f11 : Addr} {od11 an11 : Option Addr} {sl11 : Array (Option Value)} {oc11 kV11 dc11 pm11 cd11 ct11 : Value}
    {f12 : Addr} {od12 an12 : Option Addr} {sl12 : Array (Option Value)} {oc12 kV12 dc12 pm12 cd12 ct12 : Value}
    {f13 : Addr} {od13 an13 : Option Addr} {sl13 : Array (Option Value)} {oc13 kV13 dc13 pm13 cd13 ct13 : Value}
    {f14 : Addr} {od14 an14 : Option Addr} {sl14 : Array (Option Value)} {oc14 kV14 dc14 pm14 cd14 ct14 : Value}
    {f15 : Addr} {od15 an15 : Option Addr} {sl15 : Array (Option Value)} {oc15 kV15 dc15 pm15 cd15 ct15 : Value}
    {f16 : Addr} {od16 an16 : Option Addr} {sl16 : Array (Option Value)} {oc16 kV16 dc16 pm16 cd16 ct16 : Value}
    {f17 : Addr} {od17 an17 : Option Addr} {sl17 : Array (Option Value)} {oc17 kV17 dc17 pm17 cd17 ct17 : Value}
    {f18 : Addr} {od18 an18 : Option Addr} {sl18 : Array (Option Value)} {oc18 kV18 dc18 pm18 cd18 ct18 : Value}
    {f19 : Addr} {od19 an19 : Option Addr} {sl19 : Array (Option Value)} {oc19 kV19 dc19 pm19 cd19 ct19 : Value}
    {C0 : Addr}
    {C1 : Addr}
    {C2 : Addr}
    {t0 : Tok}
    {t1 : Tok}
    (a0 : PySem.W.nsIn K mainGlobals "need_floor" = some (some (.ref f0))) (l0 : K.lookup f0 = some ⟨oc0, od0, .func (PySem.W.fnOf "need_floor" "need_floor" (defArgs s_need_floor) (defBody s_need_floor) (defScope s_need_floor) .none kV0 dc0 pm0 an0 cd0 ct0), sl0⟩) (c0 : PySem.W.codeIn K cd0 "need_floor" = true) (k0 : PySem.W.keepIn K (.ref f0) = true)
    (a1 : PySem.W.nsIn K mainGlobals "need_standing" = some (some (.ref f1))) (l1 : K.lookup f1 = some ⟨oc1, od1, .func (PySem.W.fnOf "need_standing" "need_standing" (defArgs s_need_standing) (defBody s_need_standing) (defScope s_need_standing) .none kV1 dc1 pm1 an1 cd1 ct1), sl1⟩) (c1 : PySem.W.codeIn K cd1 "need_standing" = true) (k1 : PySem.W.keepIn K (.ref f1) = true)
    (a2 : PySem.W.nsIn K mainGlobals "is_number" = some (some (.ref f2))) (l2 : K.lookup f2 = some ⟨oc2, od2, .func (PySem.W.fnOf "is_number" "is_number" (defArgs s_is_number) (defBody s_is_number) (defScope s_is_number) .none kV2 dc2 pm2 an2 cd2 ct2), sl2⟩) (c2 : PySem.W.codeIn K cd2 "is_number" = true) (k2 : PySem.W.keepIn K (.ref f2) = true)
    (a3 : PySem.W.nsIn K mainGlobals "count_places" = some (some (.ref f3))) (l3 : K.lookup f3 = some ⟨oc3, od3, .func (PySem.W.fnOf "count_places" "count_places" (defArgs s_count_places) (defBody s_count_places) (defScope s_count_places) .none kV3 dc3 pm3 an3 cd3 ct3), sl3⟩) (c3 : PySem.W.codeIn K cd3 "count_places" = true) (k3 : PySem.W.keepIn K (.ref f3) = true)
    (a4 : PySem.W.nsIn K mainGlobals "column_and_row" = some (some (.ref f4))) (l4 : K.lookup f4 = some ⟨oc4, od4, .func (PySem.W.fnOf "column_and_row" "column_and_row" (defArgs s_column_and_row) (defBody s_column_and_row) (defScope s_column_and_row) .none kV4 dc4 pm4 an4 cd4 ct4), sl4⟩) (c4 : PySem.W.codeIn K cd4 "column_and_row" = true) (k4 : PySem.W.keepIn K (.ref f4) = true)
    (a5 : PySem.W.nsIn K mainGlobals "side" = some (some (.ref f5))) (l5 : K.lookup f5 = some ⟨oc5, od5, .func (PySem.W.fnOf "side" "side" (defArgs s_side) (defBody s_side) (defScope s_side) .none kV5 dc5 pm5 an5 cd5 ct5), sl5⟩) (c5 : PySem.W.codeIn K cd5 "side" = true) (k5 : PySem.W.keepIn K (.ref f5) = true)
    (a6 : PySem.W.nsIn K mainGlobals "is_joined" = some (some (.ref f6))) (l6 : K.lookup f6 = some ⟨oc6, od6, .func (PySem.W.fnOf "is_joined" "is_joined" (defArgs s_is_joined) (defBody s_is_joined) (defScope s_is_joined) .none kV6 dc6 pm6 an6 cd6 ct6), sl6⟩) (c6 : PySem.W.codeIn K cd6 "is_joined" = true) (k6 : PySem.W.keepIn K (.ref f6) = true)
    (a7 : PySem.W.nsIn K mainGlobals "how_many" = some (some (.ref f7))) (l7 : K.lookup f7 = some ⟨oc7, od7, .func (PySem.W.fnOf "how_many" "how_many" (defArgs s_how_many) (defBody s_how_many) (defScope s_how_many) .none kV7 dc7 pm7 an7 cd7 ct7), sl7⟩) (c7 : PySem.W.codeIn K cd7 "how_many" = true) (k7 : PySem.W.keepIn K (.ref f7) = true)
    (a8 : PySem.W.nsIn K mainGlobals "is_line" = some (some (.ref f8))) (l8 : K.lookup f8 = some ⟨oc8, od8, .func (PySem.W.fnOf "is_line" "is_line" (defArgs s_is_line) (defBody s_is_line) (defScope s_is_line) .none kV8 dc8 pm8 an8 cd8 ct8), sl8⟩) (c8 : PySem.W.codeIn K cd8 "is_line" = true) (k8 : PySem.W.keepIn K (.ref f8) = true)
    (a9 : PySem.W.nsIn K mainGlobals "count_falls" = some (some (.ref f9))) (l9 : K.lookup f9 = some ⟨oc9, od9, .func (PySem.W.fnOf "count_falls" "count_falls" (defArgs s_count_falls) (defBody s_count_falls) (defScope s_count_falls) .none kV9 dc9 pm9 an9 cd9 ct9), sl9⟩) (c9 : PySem.W.codeIn K cd9 "count_falls" = true) (k9 : PySem.W.keepIn K (.ref f9) = true)
    (a10 : PySem.W.nsIn K mainGlobals "tiles_in_order" = some (some (.ref f10))) (l10 : K.lookup f10 = some ⟨oc10, od10, .func (PySem.W.fnOf "tiles_in_order" "tiles_in_order" (defArgs s_tiles_in_order) (defBody s_tiles_in_order) (defScope s_tiles_in_order) .none kV10 dc10 pm10 an10 cd10 ct10), sl10⟩) (c10 : PySem.W.codeIn K cd10 "tiles_in_order" = true) (k10 : PySem.W.keepIn K (.ref f10) = true)
    (a11 : PySem.W.nsIn K mainGlobals "_law_draw" = some (some (.ref f11))) (l11 : K.lookup f11 = some ⟨oc11, od11, .func (PySem.W.fnOf "_law_draw" "_law_draw" (defArgs s_law_draw) (defBody s_law_draw) (defScope s_law_draw) .none kV11 dc11 pm11 an11 cd11 ct11), sl11⟩) (c11 : PySem.W.codeIn K cd11 "_law_draw" = true) (k11 : PySem.W.keepIn K (.ref f11) = true)
    (a12 : PySem.W.nsIn K mainGlobals "_law_whole" = some (some (.ref f12))) (l12 : K.lookup f12 = some ⟨oc12, od12, .func (PySem.W.fnOf "_law_whole" "_law_whole" (defArgs s_law_whole) (defBody s_law_whole) (defScope s_law_whole) .none kV12 dc12 pm12 an12 cd12 ct12), sl12⟩) (c12 : PySem.W.codeIn K cd12 "_law_whole" = true) (k12 : PySem.W.keepIn K (.ref f12) = true)
    (a13 : PySem.W.nsIn K mainGlobals "_law_floor" = some (some (.ref f13))) (l13 : K.lookup f13 = some ⟨oc13, od13, .func (PySem.W.fnOf "_law_floor" "_law_floor" (defArgs s_law_floor) (defBody s_law_floor) (defScope s_law_floor) .none kV13 dc13 pm13 an13 cd13 ct13), sl13⟩) (c13 : PySem.W.codeIn K cd13 "_law_floor" = true) (k13 : PySem.W.keepIn K (.ref f13) = true)
    (a14 : PySem.W.nsIn K mainGlobals "_law_standing" = some (some (.ref f14))) (l14 : K.lookup f14 = some ⟨oc14, od14, .func (PySem.W.fnOf "_law_standing" "_law_standing" (defArgs s_law_standing) (defBody s_law_standing) (defScope s_law_standing) .none kV14 dc14 pm14 an14 cd14 ct14), sl14⟩) (c14 : PySem.W.codeIn K cd14 "_law_standing" = true) (k14 : PySem.W.keepIn K (.ref f14) = true)
    (a15 : PySem.W.nsIn K mainGlobals "_law_moved" = some (some (.ref f15))) (l15 : K.lookup f15 = some ⟨oc15, od15, .func (PySem.W.fnOf "_law_moved" "_law_moved" (defArgs s_law_moved) (defBody s_law_moved) (defScope s_law_moved) .none kV15 dc15 pm15 an15 cd15 ct15), sl15⟩) (c15 : PySem.W.codeIn K cd15 "_law_moved" = true) (k15 : PySem.W.keepIn K (.ref f15) = true)
    (a16 : PySem.W.nsIn K mainGlobals "_law_words" = some (some (.ref f16))) (l16 : K.lookup f16 = some ⟨oc16, od16, .func (PySem.W.fnOf "_law_words" "_law_words" (defArgs s_law_words) (defBody s_law_words) (defScope s_law_words) .none kV16 dc16 pm16 an16 cd16 ct16), sl16⟩) (c16 : PySem.W.codeIn K cd16 "_law_words" = true) (k16 : PySem.W.keepIn K (.ref f16) = true)
    (a17 : PySem.W.nsIn K mainGlobals "_law_far" = some (some (.ref f17))) (l17 : K.lookup f17 = some ⟨oc17, od17, .func (PySem.W.fnOf "_law_far" "_law_far" (defArgs s_law_far) (defBody s_law_far) (defScope s_law_far) .none kV17 dc17 pm17 an17 cd17 ct17), sl17⟩) (c17 : PySem.W.codeIn K cd17 "_law_far" = true) (k17 : PySem.W.keepIn K (.ref f17) = true)
    (a18 : PySem.W.nsIn K mainGlobals "_law_orders" = some (some (.ref f18))) (l18 : K.lookup f18 = some ⟨oc18, od18, .func (PySem.W.fnOf "_law_orders" "_law_orders" (defArgs s_law_orders) (defBody s_law_orders) (defScope s_law_orders) .none kV18 dc18 pm18 an18 cd18 ct18), sl18⟩) (c18 : PySem.W.codeIn K cd18 "_law_orders" = true) (k18 : PySem.W.keepIn K (.ref f18) = true)
    (a19 : PySem.W.nsIn K mainGlobals "law" = some (some (.ref f19))) (l19 : K.lookup f19 = some ⟨oc19, od19, .func (PySem.W.fnOf "law" "law" (defArgs s_law) (defBody s_law) (defScope s_law) .none kV19 dc19 pm19 an19 cd19 ct19), sl19⟩) (c19 : PySem.W.codeIn K cd19 "law" = true) (k19 : PySem.W.keepIn K (.ref f19) = true)
    (q0 : PySem.W.nsIn K mainGlobals "SlideError" = some (some (.ref C0))) (q0x : PySem.W.excIn K C0 [.type "ValueError", .type "Exception", .type "BaseException", .type "object"] "ValueError.__new__" = true) (q0k : PySem.W.keepIn K (.ref C0) = true) (q0b : PySem.W.subIn K (.ref C0) (.type "BaseException") = some true) (q0t : PySem.W.typeIn K (.ref C0) = some (.type "type"))
    (q1 : PySem.W.nsIn K mainGlobals "BadFloor" = some (some (.ref C1))) (q1x : PySem.W.excIn K C1 [.type "ValueError", .type "Exception", .type "BaseException", .type "object"] "ValueError.__new__" = true) (q1k : PySem.W.keepIn K (.ref C1) = true) (q1b : PySem.W.subIn K (.ref C1) (.type "BaseException") = some true) (q1t : PySem.W.typeIn K (.ref C1) = some (.type "type"))
    (q2 : PySem.W.nsIn K mainGlobals "BadStanding" = some (some (.ref C2))) (q2x : PySem.W.excIn K C2 [.type "ValueError", .type "Exception", .type "BaseException", .type "object"] "ValueError.__new__" = true) (q2k : PySem.W.keepIn K (.ref C2) = true) (q2b : PySem.W.subIn K (.ref C2) (.type "BaseException") = some true) (q2t : PySem.W.typeIn K (.ref C2) = some (.type "type"))
    (t0' : PySem.W.nsIn K mainGlobals "LONGEST_SIDE" = some (some (.int 4 t0)))
    (t1' : PySem.W.nsIn K mainGlobals "FEWEST_PLACES" = some (some (.int 2 t1)))
    (v_factorial : PySem.W.nsIn K mainGlobals "factorial" = some (some (.builtin "math.factorial")))
    (z_len : PySem.W.nsIn K mainGlobals "len" = some none)
    (z_sorted : PySem.W.nsIn K mainGlobals "sorted" = some none)
    (z_list : PySem.W.nsIn K mainGlobals "list" = some none)
    (z_range : PySem.W.nsIn K mainGlobals "range" = some none)
    (z_tuple : PySem.W.nsIn K mainGlobals "tuple" = some none)
    (z_type : PySem.W.nsIn K mainGlobals "type" = some none)
    (z_int : PySem.W.nsIn K mainGlobals "int" = some none)
    (z_isinstance : PySem.W.nsIn K mainGlobals "isinstance" = some none)
    (z_enumerate : PySem.W.nsIn K mainGlobals "enumerate" = some none)
    (z_all : PySem.W.nsIn K mainGlobals "all" = some none)
    (z_sum : PySem.W.nsIn K mainGlobals "sum" = some none)
    (z_bool : PySem.W.nsIn K mainGlobals "bool" = some none)
    (z_ValueError : PySem.W.nsIn K mainGlobals "ValueError" = some none) :
    ∃ fd : FuncData, (∀ (s : Shared) (v : Value), BindsTo s fd ⟨[v], []⟩ [("_law_script", v)]) ∧ ∀ base : Heap, K.In base → base.Ns mainGlobals mg → FnOk l.prog w K mg base CX0 9 fa fd ["_law_script"] (spLaw K) := by
  have e := hfa.symm.trans (PySem.W.mg_of X G a19)
  cases e
  let T : Tx K mg := {
    d_need_floor := ⟨f0, _, fun_mk (st := s_need_floor) l0 c0 k0, (fun_mk (st := s_need_floor) l0 c0 k0).binds (ps := ["floor"]) fun _ _ _ _ _ _ us hl => match us, hl with | [_], _ => rfl, PySem.W.mg_of X G a0⟩,
    d_need_standing := ⟨f1, _, fun_mk (st := s_need_standing) l1 c1 k1, (fun_mk (st := s_need_standing) l1 c1 k1).binds (ps := ["floor", "standing"]) fun _ _ _ _ _ _ us hl => match us, hl with | [_, _], _ => rfl, PySem.W.mg_of X G a1⟩,
    d_is_number := ⟨f2, _, fun_mk (st := s_is_number) l2 c2 k2, (fun_mk (st := s_is_number) l2 c2 k2).binds (ps := ["value"]) fun _ _ _ _ _ _ us hl => match us, hl with | [_], _ => rfl, PySem.W.mg_of X G a2⟩,
    d_count_places := ⟨f3, _, fun_mk (st := s_count_places) l3 c3 k3, (fun_mk (st := s_count_places) l3 c3 k3).binds (ps := ["floor"]) fun _ _ _ _ _ _ us hl => match us, hl with | [_], _ => rfl, PySem.W.mg_of X G a3⟩,
    d_column_and_row := ⟨f4, _, fun_mk (st := s_column_and_row) l4 c4 k4, (fun_mk (st := s_column_and_row) l4 c4 k4).binds (ps := ["floor", "place"]) fun _ _ _ _ _ _ us hl => match us, hl with | [_, _], _ => rfl, PySem.W.mg_of X G a4⟩,
    d_side := ⟨f5, _, fun_mk (st := s_side) l5 c5 k5, (fun_mk (st := s_side) l5 c5 k5).binds (ps := ["floor", "standing"]) fun _ _ _ _ _ _ us hl => match us, hl with | [_, _], _ => rfl, PySem.W.mg_of X G a5⟩,
    d_is_joined := ⟨f6, _, fun_mk (st := s_is_joined) l6 c6 k6, (fun_mk (st := s_is_joined) l6 c6 k6).binds (ps := ["floor", "one", "other"]) fun _ _ _ _ _ _ us hl => match us, hl with | [_, _, _], _ => rfl, PySem.W.mg_of X G a6⟩,
    d_how_many := ⟨f7, _, fun_mk (st := s_how_many) l7 c7 k7, (fun_mk (st := s_how_many) l7 c7 k7).binds (ps := ["floor", "standing"]) fun _ _ _ _ _ _ us hl => match us, hl with | [_, _], _ => rfl, PySem.W.mg_of X G a7⟩,
    d_is_line := ⟨f8, _, fun_mk (st := s_is_line) l8 c8 k8, (fun_mk (st := s_is_line) l8 c8 k8).binds (ps := ["floor"]) fun _ _ _ _ _ _ us hl => match us, hl with | [_], _ => rfl, PySem.W.mg_of X G a8⟩,
    d_count_falls := ⟨f9, _, fun_mk (st := s_count_falls) l9 c9 k9, (fun_mk (st := s_count_falls) l9 c9 k9).binds (ps := ["standing"]) fun _ _ _ _ _ _ us hl => match us, hl with | [_], _ => rfl, PySem.W.mg_of X G a9⟩,
    d_tiles_in_order := ⟨f10, _, fun_mk (st := s_tiles_in_order) l10 c10 k10, (fun_mk (st := s_tiles_in_order) l10 c10 k10).binds (ps := ["standing"]) fun _ _ _ _ _ _ us hl => match us, hl with | [_], _ => rfl, PySem.W.mg_of X G a10⟩,
    d_law_draw := ⟨f11, _, fun_mk (st := s_law_draw) l11 c11 k11, (fun_mk (st := s_law_draw) l11 c11 k11).binds (ps := ["_law_script", "_law_k"]) fun _ _ _ _ _ _ us hl => match us, hl with | [_, _], _ => rfl, PySem.W.mg_of X G a11⟩,
    d_law_whole := ⟨f12, _, fun_mk (st := s_law_whole) l12 c12 k12, (fun_mk (st := s_law_whole) l12 c12 k12).binds (ps := ["_law_found"]) fun _ _ _ _ _ _ us hl => match us, hl with | [_], _ => rfl, PySem.W.mg_of X G a12⟩,
    d_law_floor := ⟨f13, _, fun_mk (st := s_law_floor) l13 c13 k13, (fun_mk (st := s_law_floor) l13 c13 k13).binds (ps := ["_law_number"]) fun _ _ _ _ _ _ us hl => match us, hl with | [_], _ => rfl, PySem.W.mg_of X G a13⟩,
    d_law_standing := ⟨f14, _, fun_mk (st := s_law_standing) l14 c14 k14, (fun_mk (st := s_law_standing) l14 c14 k14).binds (ps := ["_law_script", "_law_k", "_law_floor_here"]) fun _ _ _ _ _ _ us hl => match us, hl with | [_, _, _], _ => rfl, PySem.W.mg_of X G a14⟩,
    d_law_moved := ⟨f15, _, fun_mk (st := s_law_moved) l15 c15 k15, (fun_mk (st := s_law_moved) l15 c15 k15).binds (ps := ["_law_floor_here", "_law_standing_here", "_law_word"]) fun _ _ _ _ _ _ us hl => match us, hl with | [_, _, _], _ => rfl, PySem.W.mg_of X G a15⟩,
    d_law_words := ⟨f16, _, fun_mk (st := s_law_words) l16 c16 k16, (fun_mk (st := s_law_words) l16 c16 k16).binds (ps := ["_law_floor_here", "_law_standing_here"]) fun _ _ _ _ _ _ us hl => match us, hl with | [_, _], _ => rfl, PySem.W.mg_of X G a16⟩,
    d_law_far := ⟨f17, _, fun_mk (st := s_law_far) l17 c17 k17, (fun_mk (st := s_law_far) l17 c17 k17).binds (ps := ["_law_floor_here", "_law_standing_here"]) fun _ _ _ _ _ _ us hl => match us, hl with | [_, _], _ => rfl, PySem.W.mg_of X G a17⟩,
    d_law_orders := ⟨f18, _, fun_mk (st := s_law_orders) l18 c18 k18, (fun_mk (st := s_law_orders) l18 c18 k18).binds (ps := ["_law_many"]) fun _ _ _ _ _ _ us hl => match us, hl with | [_], _ => rfl, PySem.W.mg_of X G a18⟩,
    d_law := ⟨fa, _, fun_mk (st := s_law) l19 c19 k19, (fun_mk (st := s_law) l19 c19 k19).binds (ps := ["_law_script"]) fun _ _ _ _ _ _ us hl => match us, hl with | [_], _ => rfl, PySem.W.mg_of X G a19⟩,
    c_SlideError := ⟨C0, PySem.W.mg_of X G q0, q0x, q0k, q0b, q0t⟩,
    c_BadFloor := ⟨C1, PySem.W.mg_of X G q1, q1x, q1k, q1b, q1t⟩,
    c_BadStanding := ⟨C2, PySem.W.mg_of X G q2, q2x, q2k, q2b, q2t⟩,
    k_LONGEST_SIDE := ⟨t0, PySem.W.mg_of X G t0'⟩,
    k_FEWEST_PLACES := ⟨t1, PySem.W.mg_of X G t1'⟩,
    i_factorial := PySem.W.mg_of X G v_factorial,
    b_len := PySem.W.mg_none_of X G z_len,
    b_sorted := PySem.W.mg_none_of X G z_sorted,
    b_list := PySem.W.mg_none_of X G z_list,
    b_range := PySem.W.mg_none_of X G z_range,
    b_tuple := PySem.W.mg_none_of X G z_tuple,
    b_type := PySem.W.mg_none_of X G z_type,
    b_int := PySem.W.mg_none_of X G z_int,
    b_isinstance := PySem.W.mg_none_of X G z_isinstance,
    b_enumerate := PySem.W.mg_none_of X G z_enumerate,
    b_all := PySem.W.mg_none_of X G z_all,
    b_sum := PySem.W.mg_none_of X G z_sum,
    b_bool := PySem.W.mg_none_of X G z_bool,
    b_ValueError := PySem.W.mg_none_of X G z_ValueError }
  exact ⟨T.d_law.fd, fun s v => .of_eq rfl, fun base _ _ => ok_law T⟩
theorem walk {l : PySem.W.OpenLaw} {q : Program} {loose : List Str} {XP : (Str → Option Value) → Heap → Prop} {YP : World → Heap → Prop} {d : DefRec} {K : Params → PySem.W.Frag} (hn : l.most = some 63) (hdf : d.params.defaults = [])
    (hY : ∀ (w : World) (h : Heap), YP w h → (K w.params).In h)
    (F : ∀ (w : World) (mg : Str → Option Value) (fa : Addr) (h : Heap), (K w.params).In h → h.Ns mainGlobals mg → mg d.name = some (.ref fa) →
      ∃ fd : FuncData, (∀ (s : Shared) (u : Value), BindsTo s fd ⟨[u], []⟩ [("_law_script", u)]) ∧ ∀ base : Heap, (K w.params).In base → base.Ns mainGlobals mg → FnOk l.prog w (K w.params) mg base CX0 9 fa fd ["_law_script"] (spLaw (K w.params))) :
    PySem.W.WalkO q loose XP YP l.row.toRowW d [] (fun f vs => PySem.call f vs) :=
  L2.walk_of (n := 63) (k := 9) (x := "_law_script") (CX := fun _ => CX0) (sp := fun w => spLaw (K w.params)) hn (by decide) hdf ⟨rfl, by decide, by decide⟩ hY F (fun _ _ a ns hl _ hS => ⟨a, ns, rfl, hS, hl, fun _ => rfl⟩) fun _ _ _ _ _ z => z
end Sf
open PySem PySem.W PyProof.Rows
set_option maxRecDepth 100000 in
set_option maxHeartbeats 0 in
theorem PySem.Challenge.cw_slidefloor_k05_all_that_are_joined_holds : PySem.Challenge.rw_slidefloor_k05_all_that_are_joined.Holds := by
  w_on; o_law; k_head; (case hw => w_witness2)
  k_fill
  refine Sf.walk (l := PySem.Challenge.rw_slidefloor_k05_all_that_are_joined) rfl rfl (fun w h Y => PySem.W.kIn_of Y) ?F
  case F =>
    intro w mg fa h KX G hmg
    refine' Sf.all_mk KX G hmg ?a0 ?l0 ?c0 ?k0 ?a1 ?l1 ?c1 ?k1 ?a2 ?l2 ?c2 ?k2 ?a3 ?l3 ?c3 ?k3 ?a4 ?l4 ?c4 ?k4 ?a5 ?l5 ?c5 ?k5 ?a6 ?l6 ?c6 ?k6 ?a7 ?l7 ?c7 ?k7 ?a8 ?l8 ?c8 ?k8 ?a9 ?l9 ?c9 ?k9 ?a10 ?l10 ?c10 ?k10 ?a11 ?l11 ?c11 ?k11 ?a12 ?l12 ?c12 ?k12 ?a13 ?l13 ?c13 ?k13 ?a14 ?l14 ?c14 ?k14 ?a15 ?l15 ?c15 ?k15 ?a16 ?l16 ?c16 ?k16 ?a17 ?l17 ?c17 ?k17 ?a18 ?l18 ?c18 ?k18 ?a19 ?l19 ?c19 ?k19 ?q0 ?q0x ?q0k ?q0b ?q0t ?q1 ?q1x ?q1k ?q1b ?q1t ?q2 ?q2x ?q2k ?q2b ?q2t ?t0' ?t1' ?v_factorial ?z_len ?z_sorted ?z_list ?z_range ?z_tuple ?z_type ?z_int ?z_isinstance ?z_enumerate ?z_all ?z_sum ?z_bool ?z_ValueError
    (case a0 => k_is)
    (case l0 => k_is)
    (case c0 => k_is)
    (case k0 => k_is)
    (case a1 => k_is)
    (case l1 => k_is)
    (case c1 => k_is)
    (case k1 => k_is)
    (case a2 => k_is)
    (case l2 => k_is)
    (case c2 => k_is)
    (case k2 => k_is)
    (case a3 => k_is)
    (case l3 => k_is)
    (case c3 => k_is)
    (case k3 => k_is)
    (case a4 => k_is)
    (case l4 => k_is)
    (case c4 => k_is)
    (case k4 => k_is)
    (case a5 => k_is)
    (case l5 => k_is)
    (case c5 => k_is)
    (case k5 => k_is)
    (case a6 => k_is)
    (case l6 => k_is)
    (case c6 => k_is)
    (case k6 => k_is)
    (case a7 => k_is)
    (case l7 => k_is)
    (case c7 => k_is)
    (case k7 => k_is)
    (case a8 => k_is)
    (case l8 => k_is)
    (case c8 => k_is)
    (case k8 => k_is)
    (case a9 => k_is)
    (case l9 => k_is)
    (case c9 => k_is)
    (case k9 => k_is)
    (case a10 => k_is)
    (case l10 => k_is)
    (case c10 => k_is)
    (case k10 => k_is)
    (case a11 => k_is)
    (case l11 => k_is)
    (case c11 => k_is)
    (case k11 => k_is)
    (case a12 => k_is)
    (case l12 => k_is)
    (case c12 => k_is)
    (case k12 => k_is)
    (case a13 => k_is)
    (case l13 => k_is)
    (case c13 => k_is)
    (case k13 => k_is)
    (case a14 => k_is)
    (case l14 => k_is)
    (case c14 => k_is)
    (case k14 => k_is)
    (case a15 => k_is)
    (case l15 => k_is)
    (case c15 => k_is)
    (case k15 => k_is)
    (case a16 => k_is)
    (case l16 => k_is)
    (case c16 => k_is)
    (case k16 => k_is)
    (case a17 => k_is)
    (case l17 => k_is)
    (case c17 => k_is)
    (case k17 => k_is)
    (case a18 => k_is)
    (case l18 => k_is)
    (case c18 => k_is)
    (case k18 => k_is)
    (case a19 => k_is)
    (case l19 => k_is)
    (case c19 => k_is)
    (case k19 => k_is)
    (case q0 => first | k_is | k_exc)
    (case q0x => k_exc)
    (case q0k => first | k_is | k_exc)
    (case q0b => first | k_is | k_exc)
    (case q0t => first | k_is | k_exc)
    (case q1 => first | k_is | k_exc)
    (case q1x => k_exc)
    (case q1k => first | k_is | k_exc)
    (case q1b => first | k_is | k_exc)
    (case q1t => first | k_is | k_exc)
    (case q2 => first | k_is | k_exc)
    (case q2x => k_exc)
    (case q2k => first | k_is | k_exc)
    (case q2b => first | k_is | k_exc)
    (case q2t => first | k_is | k_exc)
    (case t0' => k_is)
    (case t1' => k_is)
    (case v_factorial => k_is)
    (case z_len => k_is)
    (case z_sorted => k_is)
    (case z_list => k_is)
    (case z_range => k_is)
    (case z_tuple => k_is)
    (case z_type => k_is)
    (case z_int => k_is)
    (case z_isinstance => k_is)
    (case z_enumerate => k_is)
    (case z_all => k_is)
    (case z_sum => k_is)
    (case z_bool => k_is)
    (case z_ValueError => k_is)
