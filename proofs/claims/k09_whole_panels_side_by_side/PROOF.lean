import PyProof.Rows.All
import Wide.All
import OpenK.AllK
import Wide.FinOn
import HandS.ForMost
import HandS.TupMul
import HandS.TupAny
import HandS.SetFor
import HandS.Walk
import HandS.EndBits
import KE.GoesEnum
import PyProof.ReprRoads
import HandS.Zip
import HandS.NoneIn
import HandS.SortRule
import HandS.NamedTupSort
import HandS.TupLe
import KE.KSortTup
import HandS.Strs
import PyProof.ListNew
import PyProof.Rows.CountFlat
import HandS.More
import HandS.IsInst
import HandS.Conv
import KE.DataMinMax
import HandS.Star
import KE.SortData
import HandS.CallLocal
import KE.KDictDisplayH
import HandS.Style
import HandS.Dict
import HandS.ListItems
import KE.KExcIs
import HandS.Exc
import HandS.ExcIs
import HandS.ExcInit
import HandS.ExcField
import HandS.ExcOwn
import HandS.WordsExc
import HandS.RaiseMore
import HandS.DictComp
import KE.KDictSum
import HandS.SetBool
import HandS.TupSets
import KE.DataMinKey
import KE.DataCmp
import KE.LtData
import HandS.Lambda
import HandS.SortKw
import HandS.Deep
import HandS.Head0
import HandS.Head1
import HandS.Head2
import HandS.HeadHook1
import HandS.EndTab
import PySem.Challenge.RW_pressrelease_k09_whole_panels_side_by_si
set_option Elab.async false
set_option linter.all false
set_option maxRecDepth 100000
set_option maxHeartbeats 4000000
set_option genInjectivity false
set_option genSizeOfSpec false
namespace Pr
open PySem PySem.Spec PyProof.Rows L2
structure FnG (P : Program) (w : World) (K : PySem.W.Frag) (mg : Str → Option Value) (base : Heap) (k : Nat) (f : Addr) (fd : FuncData) (ps : List Str) (sp : Sp) : Prop where
  len : ∀ vs H Q E, sp vs H Q E → vs.length = ps.length
  go : ∀ (A : Around) (outer : List Env) (s : Shared) (H : Hp) (args : Args) (us : List Value) (vs : List V) (Q : VK) (E : XK), A.guards = some [] → Room k A →
    Env0 P w K mg base A outer s H → BindsTo s fd args (ps.zip us) → Vals vs us → sp vs H Q E →
    codeAny (model P w) A (.call (.ref f) args) (CR CX0 outer P w H s Q E) s
section
variable {P : Program} {w : World} {K : PySem.W.Frag} {mg : Str → Option Value} {base : Heap}
theorem FnG.of {k : Nat} {f : Addr} {fd : FuncData} {ps : List Str} {sp : Sp} (F : FnOk P w K mg base CX0 k f fd ps sp) : FnG P w K mg base k f fd ps sp :=
  ⟨F.len, fun A outer s H args us vs Q E _ hr => F.run A outer s H args us vs Q E hr⟩
/-- a def by its body, where no repr is under way -/
theorem okG {x qual : Str} {st : Stmt} {f : Addr} {fd : FuncData} {N ps : List Str} {k : Nat} {sp : Sp} (F : Fun K x qual st f fd) (S : FnScope N ps (defScope st))
    (len : ∀ vs H Q E, sp vs H Q E → vs.length = ps.length)
    (body : ∀ (cdv : Value) (A : Around) (outer : List Env) (s : Shared) (H : Hp) (vs : List V) (Q : VK) (E : XK), A.guards = some [] →
      Room k (A.deeper (envOfC qual (defScope st) s.heap.objs.size f cdv)) → sp vs H Q E →
      ∃ t, PSs (cxOf CX0 P w K mg base N qual (defScope st) f cdv A outer s H E).nox (defBody st) t ∧ t { nx := fun _ H' => Q .non H', rt := Q } (start N vs) H) :
    FnG P w K mg base (k + 1) f fd ps sp := by
  obtain ⟨oc, od, kV, doc, pm, an, cdv, ct, osl, rfl, lk, hcd⟩ := F.ex
  refine ⟨len, fun A outer s H args us vs Q E hg hr e0 hb r hsp => ?_⟩
  have hin : K.In s.heap := e0.mod.kin.keeps fun b o e => (e0.bs b o e).1
  have hlm : s.heap.NoLimit := e0.mod.nolimit.keeps fun b o e => (e0.bs b o e).1
  refine codeAny_call_function hr.depth (hin _ _ lk) rfl S.co S.gen rfl (PySem.W.codeRec_of hin hcd) (hb _ _ _ _ ?_)
  refine wpAny_newFunctionEnv_cells S.kind (fun ⟨n, v⟩ hy => ?_) fun env he s1 x => ?_
  · rcases S.par n (List.of_mem_zip hy).1 with q | q
    · exact .inl q
    · exact .inr ⟨q, PySem.W.cellsFrom_some _ _ _ (.inl q)⟩
  · subst he
    refine ⟨hlm.keeps x.toInCall.keep, codeAny_func ?_⟩
    obtain ⟨t, ht, hq⟩ := body cdv A outer s H vs Q E hg (hr.deeper _) hsp
    have I := inv_start (CX := CX0) (E := E) S hr.hd e0 (len _ _ _ _ hsp) r x
    refine wpAny_mono (ht.nox.run [] s1 (start N vs) H _ I hq) (fun fl s' hs => ?_) fun e s' hs => hs
    cases fl with
    | ret u => obtain ⟨v, σ', H', J, rv, q⟩ := hs; exact ⟨v, H', J.os, J.bare, J.base, J.hok, rv, q⟩
    | next => obtain ⟨σ', H', J, q⟩ := hs; exact ⟨V.non, H', J.os, J.bare, J.base, J.hok, rfl, q⟩
    | brk => obtain ⟨_, _, _, q⟩ := hs; exact q.elim
    | cont => obtain ⟨_, _, _, q⟩ := hs; exact q.elim
end
end Pr
namespace Pr
open PySem PySem.Spec PyProof.Rows L2
/-- a tuple of which it is known that it has no attributes of its own -/
def FT (H : Hp) (a : Addr) (xs : List V) : Prop := ∃ o : Obj, H a = some (.frz o (.tup xs)) ∧ o.dict = none
theorem FT.sq {K : PySem.W.Frag} {H : Hp} {a : Addr} {xs : List V} (h : FT H a xs) : SqT K H a xs := let ⟨o, e, _⟩ := h; .inl (.inr ⟨o, e⟩)
theorem FT.same {H H' : Hp} {a : Addr} {xs : List V} (e : Same H H') (h : FT H a xs) : FT H' a xs := let ⟨o, q, z⟩ := h; ⟨o, e _ _ q, z⟩
theorem same_sqT {K : PySem.W.Frag} {H H' : Hp} {a : Addr} {xs : List V} (e : Same H H') (h : SqT K H a xs) : SqT K H' a xs := by
  rcases h with (h | ⟨o, h⟩) | h
  · exact .inl (.inl (e _ _ h))
  · exact .inl (.inr ⟨o, e _ _ h⟩)
  · exact .inr h
section
variable {X : Cx}
def rTupF (K : PySem.W.Frag) : List V → Hp → VK → Prop := fun xs H Q => ∃ p ys, xs = [.ref p] ∧ SqL K H p ys ∧ ∀ l o, H l = none → o.dict = none → Q (.ref l) (upd H l (.frz o (.tup ys)))
theorem call_tupF : CallR X (.type "tuple") (rTupF X.K) := by
  intro pins s σ H xs us Q I r h
  obtain ⟨p, ys, rfl, hq, q⟩ := h
  obtain ⟨u, rfl, rx⟩ := vals1 r
  cases rx
  obtain ⟨its, r', pl, hz⟩ := I.list hq
  have hlen := r'.length
  refine call_tuple_list pl.isList (fun h' kp => ?_) (by simp only [List.size_toArray] <;> omega)
  have I1 : Inv X pins σ H { s with heap := h' } := I.kept (t' := s.toks) kp
  have I2 := I1.laid (t' := s.toks) (h' := h'.push { cls := .type "tuple", data := .seq its.toArray }) (a := h'.objs.size)
    (o := .frz { cls := .type "tuple", data := .seq its.toArray } (.tup ys)) (fun b o e => Heap.get?_push_of_some _ e) (Nat.le_refl _) ⟨Heap.get?_push_size _ rfl, hz, its, r', IsTup.new _ _⟩
  exact ⟨.ref h'.objs.size, _, I2, rfl, q _ _ (I1.hok.fresh (Nat.le_refl _)) rfl⟩
end
theorem tup_mul0 (l : Addr) (y : Value) (n : Nat) (dd : Option Addr) (sl : Array (Option Value)) (u : Tok) :
    Meets (Builtin.«tuple.__mul__» ⟨[.ref l, .int 0 u], []⟩) (fun _ R s => s.heap.get? l = some { cls := .type "tuple", dict := dd, data := .seq #[y] n, slots := sl } ∧
      R (.ok (.ret (Value.ref s.heap.objs.size))) { s with heap := s.heap.push { cls := Value.type "tuple", data := Data.seq #[] }, toks := s.toks }) :=
  .of_wp fun prog w A R s h => by
    obtain ⟨hp, g, d, tk, os⟩ := s
    obtain ⟨hl, h⟩ := h
    have f1 := AutoSeq1.idx_int
    wp_walk using AutoSeq1.wpAny_loadPart' hl
    exact ⟨_, rfl, h⟩
theorem tup_mul1 (l : Addr) (y : Value) (n : Nat) (dd : Option Addr) (sl : Array (Option Value)) (u : Tok) :
    Meets (Builtin.«tuple.__mul__» ⟨[.ref l, .int 1 u], []⟩) (fun _ R s => s.heap.get? l = some { cls := .type "tuple", dict := dd, data := .seq #[y] n, slots := sl } ∧ R (.ok (.ret (.ref l))) s) :=
  .of_wp fun prog w A R s h => by
    obtain ⟨hp, g, d, tk, os⟩ := s
    obtain ⟨hl, h⟩ := h
    have f1 := AutoSeq1.idx_int
    wp_walk using AutoSeq1.wpAny_loadPart' hl
    exact ⟨_, rfl, h⟩
section
variable {X : Cx}
def rRep1 (K : PySem.W.Frag) : R2 := fun x y H Q => ∃ l v, x = .ref l ∧ SqT K H l [v] ∧ ((y = .int 1 ∧ Q (.ref l) H) ∨ (y = .int 0 ∧ ∀ p, H p = none → Q (.ref p) (upd H p (.tup []))))
theorem op_rep1 : OpR X (binaryOp .Mult) (rRep1 X.K) := by
  intro pins s σ H x y v u Q I rx ry h
  obtain ⟨l, z, rfl, hT, h⟩ := h
  cases rx
  obtain ⟨its, r, ⟨⟨cls, dd, data, sl⟩, ho, hc, n, hd⟩, hs⟩ := I.tuple hT
  simp only at hc hd
  subst hc hd
  obtain ⟨a, rfl, ra⟩ := vals1 r
  rcases h with ⟨rfl, q⟩ | ⟨rfl, q⟩
  · obtain ⟨t, rfl⟩ := ry
    refine wpAny_binaryOp_repeat_ref (T := "tuple") (U := "int") (by decide) ⟨_, ho, rfl⟩ (fun s' => typeIs_int s' 1 t) noFill_tuple_mul F.fills_int_mul F.slot_int_rmul repeat_tuple F.slot_int_index.lookup
      (call_meets F.slot_int_rmul (typeIs_int s 1 t) F.entry_int_rmul (F.args_int_rmul_2 _ _) (int_rmul_tuple 1 t l #[a] n dd sl)
        ⟨ho, rfl, ⟨_, ho, rfl⟩, call_meets F.slot_tuple_mul ⟨_, ho, rfl⟩ F.entry_tuple_mul (F.args_tuple_mul_2 _ _) (tup_mul1 l a n dd sl t) ⟨ho, ?_⟩⟩)
    exact ⟨.ref l, H, I, rfl, q⟩
  · obtain ⟨t, rfl⟩ := ry
    refine wpAny_binaryOp_repeat_ref (T := "tuple") (U := "int") (by decide) ⟨_, ho, rfl⟩ (fun s' => typeIs_int s' 0 t) noFill_tuple_mul F.fills_int_mul F.slot_int_rmul repeat_tuple F.slot_int_index.lookup
      (call_meets F.slot_int_rmul (typeIs_int s 0 t) F.entry_int_rmul (F.args_int_rmul_2 _ _) (int_rmul_tuple 0 t l #[a] n dd sl)
        ⟨ho, rfl, ⟨_, ho, rfl⟩, call_meets F.slot_tuple_mul ⟨_, ho, rfl⟩ F.entry_tuple_mul (F.args_tuple_mul_2 _ _) (tup_mul0 l a n dd sl t) ⟨ho, ?_⟩⟩)
    refine ⟨.ref s.heap.objs.size, _, I.laid (t' := s.toks) (o := .tup []) (fun b ob q => Heap.get?_push_of_some _ q) (Nat.le_refl _) ?_, rfl, q _ (I.hok.fresh (Nat.le_refl _))⟩
    exact ⟨Nat.zero_le _, [], .nil, IsTup.new _ _⟩
end
theorem enum_newT (l : Addr) (items : Array Value) (n : Nat) (dct : Option Addr) (sl : Array (Option Value)) :
    Meets (Builtin.«enumerate.__new__» ⟨[.type "enumerate", .ref l], []⟩) (fun _ R s => s.heap.get? l = some { cls := .type "tuple", dict := dct, data := .seq items n, slots := sl } ∧
      R (.ok (.ret (.ref (s.heap.push { cls := .type "tuple_iterator", data := .fields #[.ref l, .int 0 0] }).objs.size)))
        { s with heap := (s.heap.push { cls := .type "tuple_iterator", data := .fields #[.ref l, .int 0 0] }).push { cls := .type "enumerate", data := .fields #[.none, .bool false, .ref s.heap.objs.size, rawInt 0, .none, .none] } }) :=
  .of_wp fun prog w A R s h => by
    obtain ⟨hp, g, d, tk, os⟩ := s; obtain ⟨hl, h⟩ := h
    have hsub := sub_enumerate
    have hL : Heap.IsTuple (Shared.heap ⟨hp, g, d, tk, os⟩) l items := ⟨_, hl, rfl, n, rfl⟩
    wp_walk using AutoSeq1.wpAny_loadPart' hl
    refine wpAny_stack_any fun st => wpAny_pure ?_
    split
    · rename_i c _ _ _ _ _
      cases (c == Value.type "enumerate") <;> (wp_walk using AutoSeq1.wpAny_loadPart' hl, wpAny_pyIter_tuple hL; exact ⟨_, rfl, h⟩)
    · wp_walk using AutoSeq1.wpAny_loadPart' hl, wpAny_pyIter_tuple hL
      exact ⟨_, rfl, h⟩
theorem call_enumT {prog : Program} {w : World} {A : Around} {E : Value → Shared → Prop} {s : Shared} {l : Addr} {items : Array Value} {Q : Value → Shared → Prop} (hL : s.heap.IsTuple l items)
    (h : ∀ h', IsEnum h' (s.heap.objs.size + 1) s.heap.objs.size 0 .none → h'.IsTupleIter s.heap.objs.size l 0 → h'.objs.size = s.heap.objs.size + 2 →
      (∀ b o, s.heap.get? b = some o → h'.get? b = some o) → Q (.ref (s.heap.objs.size + 1)) { s with heap := h' }) :
    wpAny (model prog w) A (call (.type "enumerate") [.ref l]) Q E s := by
  obtain ⟨⟨c, dct, dt, sl⟩, hl, hc, n, hd⟩ := hL
  simp only at hc hd
  subst hc hd
  refine callType_new F.called_enumerate (by decide) (F.typeCall_enumerate_1 _) (F.newCall_enumerate_1 _) (fun obj => F.args_object_init_2 obj _) F.entry_enumerate_new (enum_newT l items n dct sl) ⟨hl, ?_⟩
  generalize ho : ({ cls := .type "tuple_iterator", data := .fields #[.ref l, .int 0 0] } : Obj) = o1
  have f1 : o1.isFreed = false := by rw [← ho]; rfl
  generalize hp : ({ cls := .type "enumerate", data := .fields #[.none, .bool false, .ref s.heap.objs.size, rawInt 0, .none, .none] } : Obj) = o2
  have f2 : o2.isFreed = false := by rw [← hp]; rfl
  have hz : (s.heap.push o1).objs.size = s.heap.objs.size + 1 := Heap.size_push ..
  have hg := Heap.get?_push_size (s.heap.push o1) (o := o2) f2
  show _ ∧ _
  rw [hz] at hg ⊢
  have he : IsEnum ((s.heap.push o1).push o2) (s.heap.objs.size + 1) s.heap.objs.size 0 .none := by rw [hp.symm] at hg ⊢; exact hg
  refine ⟨⟨_, he, rfl⟩, h _ he ⟨_, Heap.get?_push_of_some _ (Heap.get?_push_size _ f1), by rw [← ho], by rw [← ho]; rfl⟩ (by rw [Heap.size_push, hz]) fun b o x => Heap.get?_push_of_some _ (Heap.get?_push_of_some _ x)⟩
/-- the tuple at a, each item in a new pair -/
def Itet (K : PySem.W.Frag) (a : Addr) : It :=
  ⟨fun i H => ∃ (xs : List V) (x : V), SqT K H a xs ∧ xs[i]? = some x, fun i H v H' => ∃ T x, v = .ref T ∧ H T = none ∧ H' = upd H T (.tup [.int (i : Nat), x]) ∧ ∀ xs, SqT K H a xs → xs[i]? = some x,
    fun i H => ∃ xs : List V, SqT K H a xs ∧ xs.length ≤ i⟩
theorem turn_enumT {P : Program} {w : World} {K : PySem.W.Frag} {elts : List Expr} {kk : Nat} {tpos : Pos} (a e it : Addr) :
    Turn P w K (.Tuple elts kk tpos) (Itet K a) [e, it] e (fun i h => (∃ old, IsEnum h e it ((i : Nat) : Int) old) ∧ h.IsTupleIter it a i ∧ e ≠ it) where
  mem := by simp
  obj := fun i h st b hb => by
    obtain ⟨⟨old, he⟩, ⟨o, ho, hc, hd⟩, _⟩ := st
    rcases (show b = e ∨ b = it by simpa using hb) with rfl | rfl
    · exact ⟨_, he, fun v q => nomatch q⟩
    · exact ⟨o, ho, fun v q => by rw [hd] at q; cases q⟩
  keep := fun i h h' st k => let ⟨⟨old, he⟩, hi, hne⟩ := st; ⟨⟨old, k e (by simp) _ he⟩, hi.at fun o q => k it (by simp) o q, hne⟩
  item := by
    intro X hP hw hK hc i pins s σ H E I hf st hg
    subst hP hw hK
    obtain ⟨⟨old, he⟩, hit, hne⟩ := st
    obtain ⟨xs, x, hq, hx⟩ := hg
    obtain ⟨its, rv, pt, hz⟩ := I.tuple hq
    have hT : s.heap.IsTuple a its.toArray := pt
    obtain ⟨u, hu, ru⟩ := rv.get hx
    have hel : e < s.heap.objs.size := Heap.lt_size he
    have hil : it < s.heap.objs.size := by obtain ⟨_, q, _⟩ := hit; exact Heap.lt_size q
    have nai : a ≠ it := fun z => by
      subst z
      obtain ⟨o1, q1, c1, _⟩ := hit
      obtain ⟨o2, q2, c2, _⟩ := hT
      rw [q1] at q2; cases q2
      rw [c1] at c2; exact absurd c2 (by decide)
    have nea : e ≠ a := fun z => by
      subst z
      obtain ⟨o2, q2, c2, _⟩ := hT
      have he' : s.heap.get? e = _ := he
      rw [he'] at q2; cases q2
      exact absurd (show Value.type "enumerate" = Value.type "tuple" from c2) (by decide)
    have hi : i < its.toArray.size := by
      have := (List.getElem?_eq_some_iff.mp hu).1
      simpa using this
    refine wpAny_pyNext_enum_itemD (Draws.tuple (A := X.A.in1) (I.ok.hd hc) it a nai its.toArray) he ⟨hit, hT⟩ hi hne (by simp [hne, nea]) fun y h' tk hy ho hit' hT' hsz hk => ?_
    obtain rfl : y = u := by
      have hy' : its.toArray[i]? = some y := hy
      rw [List.getElem?_toArray, hu] at hy'
      exact (Option.some.inj hy').symm
    refine ⟨_, rfl, wpAny_letOwnedTupleGo_enum (s := { s with heap := h', toks := tk + 1 }) ho fun h'' he' sb => ?_⟩
    have hT2 : h''.get? s.heap.objs.size = some { cls := .type "tuple", data := .seq #[.int i tk, y] } := (sb.2 _ (Nat.ne_of_gt hel)).trans hT'
    have new : ObjOk X.prog X.w (upd H s.heap.objs.size (.tup [.int (i : Nat), x])) h'' s.heap.objs.size (.tup [.int (i : Nat), x]) :=
      ⟨by show 2 ≤ sizeLine; decide, [.int i tk, y], .cons ⟨_, rfl⟩ (.cons ru .nil), ⟨_, hT2, rfl, _, rfl⟩⟩
    have I1 := I.turnedNew (t' := tk + 1) (ch := [e, it]) (fun b ob hb q => (sb.2 b (fun z => hb (by simp [z]))).trans (hk b ob (fun z => hb (by simp [z])) (fun z => hb (by simp [z])) q)) hf (Nat.le_refl _) new
    refine ⟨.ref s.heap.objs.size, _, I1, rfl, ⟨_, x, rfl, I.hok.fresh (Nat.le_refl _), rfl, fun ys hys => by rw [I.tuple_inj hys hq]; exact hx⟩, ⟨⟨y, ?_⟩, hit'.1.at fun o q => (sb.2 it (Ne.symm hne)).trans q, hne⟩, fun b hb => ?_⟩
    · rw [show ((i + 1 : Nat) : Int) = (i : Int) + 1 by omega]; exact he'
    · have hb' : b < s.heap.objs.size := by
        rcases (show b = e ∨ b = it by simpa using hb) with rfl | rfl
        · exact hel
        · exact hil
      rw [upd_ne (Nat.ne_of_lt hb')]
      exact (hf b hb).1
  done := by
    intro X hP hw hK hc i pins s σ H E I hf st hg
    subst hP hw hK
    obtain ⟨⟨old, he⟩, hit, hne⟩ := st
    obtain ⟨xs, hq, hx⟩ := hg
    obtain ⟨its, rv, pt, hz⟩ := I.tuple hq
    have hT : s.heap.IsTuple a its.toArray := pt
    obtain ⟨f0, f1, f2, f3, f4, f5⟩ := hf it (by simp)
    have hl := rv.length
    have hT : s.TypeIs (.ref e) "enumerate" := ⟨_, he, rfl⟩
    unfold pyNext
    refine wpAny_bind (wpAny_attempt (wpAny_callSpecial?_slot (name := Str.ofString "__next__") hT F.slot_enumerate_next (wpAny_call_entry F.slot_enumerate_next hT F.entry_enumerate_next ?_ (F.args_enumerate_next_1 _))))
    show wpAny _ _ (field (.ref e) 2 >>= _) _ _ _
    refine wpAny_bind (wpAny_field he rfl (x := .ref it) rfl ?_)
    refine wpAny_bind (wpAny_nextOf_tuple_end (I.ok.hd hc) hit pt (by simp; omega) fun h' x eb hx' => ?_)
    obtain ⟨o, ho, hcx⟩ := hx'
    refine wpAny_bind (wpAny_isInstance (T := "StopIteration") (b := true) ⟨o, ho, hcx⟩ isSubtype_stop ?_)
    exact wpAny_pure ⟨rfl, I.turned (t' := s.toks) (fun b o hb q => eb b o hb q) f0 f1 f3 f4 f5⟩
  self := fun A i s Q E st h => let ⟨⟨_, he⟩, _⟩ := st; wpAny_pyIter_enum he h
def iEnumT (K : PySem.W.Frag) (ta : TA) : TI := fun σ H R => ta σ H fun vs H1 => ∃ a xs, vs = [.ref a] ∧ SqT K H1 a xs ∧ R (Itet K a) H1
theorem pi_enumT {X : Cx} {e : Expr} {ta : TA} {p pos tpos : Pos} {elts : List Expr} {kk : Nat} (hg : Gl X "enumerate") (hm : X.mg "enumerate" = none) (ha : PA X [e] ta)
    (hs : starEach [e] X.env = [(false, eval e X.env)] := by rfl) : PI X (.Tuple elts kk tpos) (.Call (.Name "enumerate" p) [e] [] pos) (iEnumT X.K ta) := by
  refine ⟨fun pins s σ H R I h => Call_ (ld_blt I hg hm boot_enumerate (PyProof.Rows.callWith_type1 (thn (ha.run pos pins s σ H _ I h) fun us s1 ⟨vs, H1, I1, r1, a, xs, ex, hq, q⟩ => ?_) hs rfl))⟩
  subst ex
  obtain ⟨u, rfl, rx⟩ := vals1 r1
  cases rx
  obtain ⟨its, rv, pt, hz⟩ := I1.tuple hq
  refine call_enumT pt fun h' he hit hsz hk => wpAny_pyIter_enum he ?_
  refine ⟨s1.heap.objs.size + 1, [s1.heap.objs.size + 1, s1.heap.objs.size], _, _, H1, rfl, I1.kept (t' := s1.toks) hk, turn_enumT a (s1.heap.objs.size + 1) s1.heap.objs.size, ⟨⟨.none, he⟩, hit, Nat.succ_ne_self _⟩, fun b hb => ?_, q⟩
  have hle : s1.heap.objs.size ≤ b := by
    rcases (show b = s1.heap.objs.size + 1 ∨ b = s1.heap.objs.size by simpa using hb) with rfl | rfl
    · exact Nat.le_add_right _ _
    · exact Nat.le_refl _
  exact I1.fpOk hle (I1.hok.fresh hle)
theorem walk_enumT {K : PySem.W.Frag} {a : Addr} {xs : List V} : Walk (Itet K a) xs.length (fun H => SqT K H a xs) (YPair (fun i => some (.int (i : Nat))) (fun i => xs[i]?)) := by
  refine ⟨fun i _ hi q => ⟨xs, xs[i], q, by simp [hi]⟩, fun _ q => ⟨xs, q, Nat.le_refl _⟩, fun i H v H' _ q y => ?_⟩
  obtain ⟨T, x, h1, h2, h3, h4⟩ := y
  exact ⟨T, .int (i : Nat), x, h1, h2, h3, rfl, h4 xs q⟩
end Pr
namespace Pr
open PySem PySem.Spec PyProof.Rows L2
structure Shw (dep n : Nat) (d : PyData) : Prop where
  sh : d.showable = true
  nd : d.hasDict = false
  dp : d.depth ≤ dep
  ln : d.shown.length ≤ n
theorem Shw.mono {dep dep' n n' : Nat} {d : PyData} (h : Shw dep n d) (h1 : dep ≤ dep') (h2 : n ≤ n') : Shw dep' n' d := ⟨h.sh, h.nd, Nat.le_trans h.dp h1, Nat.le_trans h.ln h2⟩
theorem Shw.int {i : Int} {k : Nat} (h0 : 0 ≤ i) (hk : 0 < k) (hk2 : k ≤ 100) (h : i < 10 ^ k) : Shw 0 k (.int i) := by
  refine ⟨?_, by simp only [PyData.hasDict], by simp [PyData.depth], ?_⟩
  · simp only [PyData.showable, decide_eq_true_eq]
    by_cases hz : i.natAbs = 0
    · rw [hz]; decide
    · refine (Nat.log2_lt hz).mpr ?_
      have h1 : (i.natAbs : Int) < ((10 ^ k : Nat) : Int) := by
        rw [Int.natCast_pow]
        have : ((i.natAbs : Nat) : Int) = i := Int.natAbs_of_nonneg h0
        rw [this]; exact h
      have h2 : i.natAbs < 10 ^ k := by exact_mod_cast h1
      have h3 : (10 : Nat) ^ k ≤ 10 ^ 100 := Nat.pow_le_pow_right (by decide) hk2
      have h4 : (10 : Nat) ^ 100 < 2 ^ 1920 := by decide +kernel
      omega
  · simp only [PyData.shown]
    exact toString_length_le h0 hk h
theorem shownAll_map : ∀ ds : List PyData, PyData.shownAll ds = ds.map PyData.shown
  | [] => rfl
  | d :: r => by simp only [PyData.shownAll, List.map_cons, shownAll_map r]
theorem piled_le {n : Nat} : ∀ {ds : List PyData}, (∀ d ∈ ds, d.shown.length ≤ n) → piled (ds.map PyData.shown) ≤ ds.length * (n + 2)
  | [], _ => by simp [piled_nil]
  | d :: r, h => by
    have h1 := piled_le (ds := r) fun x hx => h x (List.mem_cons_of_mem _ hx)
    have h2 := h d List.mem_cons_self
    rw [List.map_cons, piled_cons, List.length_cons, Nat.succ_mul]
    omega
theorem showAll_of {dep n : Nat} : ∀ {ds : List PyData}, (∀ d ∈ ds, Shw dep n d) → PyData.showableAll ds = true ∧ PyData.hasDictAll ds = false ∧ PyData.depthAll ds ≤ dep
  | [], _ => ⟨by simp only [PyData.showableAll], by simp only [PyData.hasDictAll], by simp [PyData.depthAll]⟩
  | d :: r, h => by
    obtain ⟨h1, h2, h3⟩ := showAll_of (ds := r) fun x hx => h x (List.mem_cons_of_mem _ hx)
    have g := h d List.mem_cons_self
    refine ⟨by simp only [PyData.showableAll, g.sh, h1, Bool.and_self], by simp only [PyData.hasDictAll, g.nd, h2, Bool.or_self], ?_⟩
    simp only [PyData.depthAll]
    exact Nat.max_le.mpr ⟨g.dp, h3⟩
theorem tupleText_len (ts : List Str) : (tupleText ts).length ≤ piled ts + 3 := by
  unfold tupleText
  rw [strLen_append, strLen_append]
  have e1 : (("(" : Str)).length = 1 := by decide +kernel
  have e2 : ((if ts.length == 1 then ",)" else ")" : String) : Str).length ≤ 2 := by
    cases ts.length == 1 <;> decide +kernel
  by_cases h : ts = []
  · subst h
    have : (Str.join ", " ([] : List Str)).length = 0 := by decide +kernel
    omega
  · have := join_length_add ts h
    omega
theorem textFrom_le : ∀ (ts : List Str) (k : Nat) (acc : Str), (textFrom k acc ts).length ≤ acc.length + piled ts
  | [], k, acc => by simp [textFrom, piled_nil]
  | t :: r, k, acc => by
    have h := textFrom_le r (k + 1) (acc ++ (if k > 0 then ", " else "" : String) ++ t)
    rw [piled_cons]
    show (textFrom (k + 1) _ r).length ≤ _
    have e : ((if k > 0 then ", " else "" : String) : Str).length ≤ 2 := by split <;> decide +kernel
    rw [strLen_append, strLen_append] at h
    omega
theorem listText_len (ts : List Str) : (listText ts).length ≤ piled ts + 2 := by
  unfold listText
  rw [strLen_append]
  have h := textFrom_le ts 0 "["
  have e1 : (("[" : Str)).length = 1 := by decide +kernel
  have e2 : (("]" : Str)).length = 1 := by decide +kernel
  omega
theorem Shw.tuple {dep n m : Nat} {ds : List PyData} (h : ∀ d ∈ ds, Shw dep n d) (hm : ds.length ≤ m) : Shw (dep + 1) (m * (n + 2) + 3) (.tuple ds) := by
  obtain ⟨h1, h2, h3⟩ := showAll_of h
  refine ⟨by simp only [PyData.showable, h1], by simp only [PyData.hasDict, h2], by simp only [PyData.depth]; omega, ?_⟩
  simp only [PyData.shown]
  rw [shownAll_map]
  have a1 := tupleText_len (ds.map PyData.shown)
  have a2 := piled_le fun d hd => (h d hd).ln
  have a3 : ds.length * (n + 2) ≤ m * (n + 2) := Nat.mul_le_mul_right _ hm
  omega
theorem Shw.list {dep n m : Nat} {ds : List PyData} (h : ∀ d ∈ ds, Shw dep n d) (hm : ds.length ≤ m) : Shw (dep + 1) (m * (n + 2) + 3) (.list ds) := by
  obtain ⟨h1, h2, h3⟩ := showAll_of h
  refine ⟨by simp only [PyData.showable, h1], by simp only [PyData.hasDict, h2], by simp only [PyData.depth]; omega, ?_⟩
  simp only [PyData.shown]
  rw [shownAll_map]
  have a1 := listText_len (ds.map PyData.shown)
  have a2 := piled_le fun d hd => (h d hd).ln
  have a3 : ds.length * (n + 2) ≤ m * (n + 2) := Nat.mul_le_mul_right _ hm
  omega
/-- only what stands at a and c may have changed -/
def But (a c : Addr) (H H' : Hp) : Prop := ∀ b o, b ≠ a → b ≠ c → H b = some o → H' b = some o
theorem But.refl (a c : Addr) (H : Hp) : But a c H H := fun _ _ _ _ h => h
theorem But.trans {a c : Addr} {H H1 H2 : Hp} (x : But a c H H1) (y : But a c H1 H2) : But a c H H2 := fun b o h1 h2 h => y b o h1 h2 (x b o h1 h2 h)
theorem But.of {a c : Addr} {H H' : Hp} (x : Same H H') : But a c H H' := fun b o _ _ h => x b o h
theorem same_new {H : Hp} {p : Addr} {o : HO} (h : H p = none) : Same H (upd H p o) := fun b x e => by
  rw [upd_ne (ne_of_none e h)]; exact e
/-- the deck at a, its cells at c, m draws may still be made -/
def Deck (H : Hp) (a c : Addr) (m : Nat) : Prop :=
  ∃ (cells : List Int) (n : Nat), H a = some (.lst [.ref c, .int (n : Int)]) ∧ H c = some (.lst (cells.map V.int)) ∧ a ≠ c ∧ cells.length ≤ 63 ∧ n + m ≤ 1000000
theorem Deck.same {H H' : Hp} {a c : Addr} {m : Nat} (e : Same H H') (h : Deck H a c m) : Deck H' a c m :=
  let ⟨cs, n, h1, h2, h3⟩ := h; ⟨cs, n, e _ _ h1, e _ _ h2, h3⟩
theorem Deck.less {H : Hp} {a c : Addr} {m m' : Nat} (h : Deck H a c m) (z : m' ≤ m) : Deck H a c m' :=
  let ⟨cs, n, h1, h2, h3, h4, h5⟩ := h; ⟨cs, n, h1, h2, h3, h4, by omega⟩
theorem Deck.apart {H : Hp} {a c : Addr} {m : Nat} (h : Deck H a c m) {b : Addr} {o : HO} (e : H b = some o) (ho : ∀ xs, o ≠ .lst xs) : b ≠ a ∧ b ≠ c := by
  obtain ⟨cs, n, h1, h2, _⟩ := h
  exact ⟨ne_of e h1 (ho _), ne_of e h2 (ho _)⟩
theorem Deck.fresh {H : Hp} {a c : Addr} {m : Nat} (h : Deck H a c m) {b : Addr} (e : H b = none) : b ≠ a ∧ b ≠ c := by
  obtain ⟨cs, n, h1, h2, _⟩ := h
  exact ⟨Ne.symm (ne_of_none h1 e), Ne.symm (ne_of_none h2 e)⟩
theorem FT.but {H H' : Hp} {a c p : Addr} {m : Nat} {xs : List V} (d : Deck H a c m) (b : But a c H H') (h : FT H p xs) : FT H' p xs := by
  obtain ⟨o, e, z⟩ := h
  have q := d.apart e (fun _ => by intro z; cases z)
  exact ⟨o, b _ _ q.1 q.2 e, z⟩
theorem tup_but {H H' : Hp} {a c p : Addr} {m : Nat} {xs : List V} (d : Deck H a c m) (b : But a c H H') (h : H p = some (.tup xs)) : H' p = some (.tup xs) := by
  have q := d.apart h (fun _ => by intro z; cases z)
  exact b _ _ q.1 q.2 h
/-- a panel at p -/
def PanAt (H : Hp) (p : Addr) (pan : List (List Int)) : Prop := ∃ qs : List Addr, FT H p (qs.map V.ref) ∧ Paired (fun q l => FT H q (l.map V.int)) qs pan
theorem PanAt.same {H H' : Hp} {p : Addr} {pan : List (List Int)} (e : Same H H') (h : PanAt H p pan) : PanAt H' p pan :=
  let ⟨qs, h1, h2⟩ := h; ⟨qs, h1.same e, h2.mono fun _ _ x => x.same e⟩
theorem PanAt.but {H H' : Hp} {a c p : Addr} {m : Nat} {pan : List (List Int)} (d : Deck H a c m) (b : But a c H H') (h : PanAt H p pan) : PanAt H' p pan :=
  let ⟨qs, h1, h2⟩ := h; ⟨qs, h1.but d b, h2.mono fun _ _ x => x.but d b⟩
theorem paired_get {α β : Type} {F : α → β → Prop} : ∀ {l1 : List α} {l2 : List β}, Paired F l1 l2 → ∀ (i : Nat) (y : β), l2[i]? = some y → ∃ x, l1[i]? = some x ∧ F x y
  | _, _, .nil, i, y, h => by simp at h
  | _, _, .cons r t, 0, y, h => by simp at h; subst h; exact ⟨_, rfl, r⟩
  | _, _, .cons r t, i + 1, y, h => by
    obtain ⟨x, h1, h2⟩ := paired_get t i y (by simpa using h)
    exact ⟨x, by simpa using h1, h2⟩
/-- what the document calls a panel of at most ten buttons -/
structure Good (pan : List (List Int)) : Prop where
  pos : 1 ≤ pan.length
  few : pan.length ≤ 10
  up : ∀ l ∈ pan, l.Pairwise (· < ·)
  rng : ∀ l ∈ pan, ∀ x ∈ l, 0 ≤ x ∧ x < (pan.length : Int)
  own : ∀ (i : Nat) (l : List Int), pan[i]? = some l → (i : Int) ∉ l
def dInts (l : List Int) : PyData := .tuple (l.map PyData.int)
def dPan (pan : List (List Int)) : PyData := .tuple (pan.map dInts)
section
variable {K : PySem.W.Frag} {H : Hp}
theorem dpAll_ints : ∀ l : List Int, DpAll K H (l.map V.int) (l.map PyData.int)
  | [] => .nil
  | x :: r => .cons (.int x) (dpAll_ints r)
theorem dp_ints {q : Addr} {l : List Int} (h : SqT K H q (l.map V.int)) : Dp K H (.ref q) (dInts l) := .tup h (dpAll_ints l)
theorem dpAll_pan : ∀ {qs : List Addr} {pan : List (List Int)}, Paired (fun q l => FT H q (l.map V.int)) qs pan → DpAll K H (qs.map V.ref) (pan.map dInts)
  | _, _, .nil => .nil
  | _, _, .cons r t => .cons (dp_ints r.sq) (dpAll_pan t)
theorem PanAt.dp {p : Addr} {pan : List (List Int)} (h : PanAt H p pan) : Dp K H (.ref p) (dPan pan) := by
  obtain ⟨qs, h1, h2⟩ := h
  exact .tup h1.sq (dpAll_pan h2)
end
theorem pw_length {n : Nat} : ∀ {l : List Int} {lo : Int}, l.Pairwise (· < ·) → (∀ x ∈ l, lo ≤ x ∧ x < lo + n) → l.length ≤ n := by
  induction n with
  | zero =>
    intro l lo _ h
    cases l with
    | nil => exact Nat.le_refl _
    | cons x r => have := h x List.mem_cons_self; omega
  | succ n ih =>
    intro l lo hp h
    cases l with
    | nil => exact Nat.zero_le _
    | cons x r =>
      have hx := h x List.mem_cons_self
      rw [List.pairwise_cons] at hp
      have := ih (l := r) (lo := lo + 1) hp.2 fun y hy => by
        have h1 := hp.1 y hy
        have h2 := h y (List.mem_cons_of_mem _ hy)
        omega
      rw [List.length_cons]; omega
end Pr
namespace K09
open PySem PySem.Spec PyProof.Rows L2 Pr
def topS (i : Nat) : Stmt := PySem.Challenge.pw_pressrelease_k09_whole_panels_side_by_si.main.body.getD i (.Pass ⟨0, 0, 0, 0⟩)
abbrev sBes : Stmt := topS 8
abbrev sRows : Stmt := topS 10
abbrev sNo : Stmt := topS 12
abbrev sPressE : Stmt := topS 13
abbrev sJoin : Stmt := topS 14
abbrev sWith : Stmt := topS 15
abbrev sEff : Stmt := topS 16
abbrev sCnt : Stmt := topS 17
abbrev sAllE : Stmt := topS 18
abbrev sBtn : Stmt := topS 20
abbrev sPress : Stmt := topS 21
abbrev sChkR : Stmt := topS 22
abbrev sRun : Stmt := topS 23
abbrev sAny : Stmt := topS 25
abbrev sHeld : Stmt := topS 26
abbrev sGath : Stmt := topS 27
abbrev sCan : Stmt := topS 28
abbrev sWay : Stmt := topS 29
abbrev sReach2 : Stmt := topS 30
abbrev sBetw : Stmt := topS 31
abbrev sReset : Stmt := topS 33
abbrev sSReset : Stmt := topS 34
abbrev sDeck : Stmt := topS 36
abbrev sDraw : Stmt := topS 37
abbrev sPanel : Stmt := topS 38
abbrev sState : Stmt := topS 39
abbrev sRow : Stmt := topS 40
abbrev sJoined : Stmt := topS 41
abbrev sMixed : Stmt := topS 42
abbrev sNums : Stmt := topS 43
abbrev sWays : Stmt := topS 44
abbrev sLaw : Stmt := topS 45
theorem scDeck : FnScope ["_law_script", "_law_cell"] ["_law_script"] (defScope sDeck) := ⟨rfl, rfl, rfl, by decide +kernel, rfl, by decide +kernel, by decide +kernel⟩
theorem scDraw : FnScope ["_law_deck_here", "_law_limit", "_law_cell", "_law_index"] ["_law_deck_here", "_law_limit"] (defScope sDraw) := ⟨rfl, rfl, rfl, by decide +kernel, rfl, by decide +kernel, by decide +kernel⟩
theorem cut_ints (ns : List Int) (lo hi : Option Int) : ∃ ms : List Int, cutV (ns.map V.int) lo hi = ms.map V.int ∧ ms.length ≤ ns.length := by
  refine ⟨(ns.drop (HT.sIx ns.length 0 lo)).take (HT.sIx ns.length ns.length hi - HT.sIx ns.length 0 lo), ?_, ?_⟩
  · unfold cutV
    rw [List.length_map, List.map_take, List.map_drop]
  · rw [List.length_take, List.length_drop]; omega
theorem tyes {σ : L2.St} {H : Hp} {Q : Bool → Hp → Prop} (h : Q true H) : tYes σ H Q := h
theorem gen_heap {X : Hp} {R : Hp → Prop} (C : Hp → Prop) (hX : C X) (h : ∀ H', C H' → R H') : R X := h X hX
section
variable {P : Program} {w : World} {K : PySem.W.Frag} {mg : Str → Option Value} {base : Heap}
def spDeck (K : PySem.W.Frag) : Sp := fun vs H Q _ => ∃ (s : Addr) (ns : List Int), vs = [.ref s] ∧ SqL K H s (ns.map V.int) ∧ ns.length ≤ 63 ∧
  ∀ H' a c, Same H H' → Deck H' a c 1000000 → Q (.ref a) H'
theorem ok_deck {f : Addr} {fd : FuncData} {k : Nat} (F : Fun K "_law_deck" "_law_deck" sDeck f fd) (ma : mg "abs" = none) : FnOk P w K mg base CX0 (k + 1) f fd ["_law_script"] (spDeck K) := by
  refine F.ok scDeck (fun vs H Q E h => ?_) (fun cdv A outer s H vs Q E hr h => ?_)
  · obtain ⟨s, ns, rfl, _⟩ := h
    rfl
  · obtain ⟨sa, ns, rfl, hS, hlen, q⟩ := h
    refine ⟨_, pss_one (ps_ret (pe_lst (pa_cons
      (pe_lc (own := [("_law_cell", 1)]) (g := gName 1) (tt := tYes) rfl scDeck.nd (pi_list (pe_slice sl_list (pv 0) po_none (po_some pe_int)))
        (blkOk_by (own := [("_law_cell", 1)]) (N := ["_law_script", "_law_cell"]) (sc := defScope sDeck) (by decide +kernel))
        (fun _ _ _ _ _ => pg_name (i := 1) scDeck.nd rfl (Or.inl rfl)) (fun _ _ _ _ _ => pts_nil)
        (fun _ _ _ _ _ => pe_callB call_abs (by rfl) ma (by decide +kernel) (pa_cons (pv 1) pa_nil)))
      (pa_cons pe_int pa_nil)))), ?_⟩
    refine ⟨.ref sa, rfl, 63, rfl, sa, ns.map V.int, rfl, hS, fun l nl => ?_⟩
    obtain ⟨ms, em, lm⟩ := cut_ints ns none (some 63)
    rw [em]
    have s1 : Same H (upd H l (.lst (ms.map V.int))) := same_new nl
    refine ⟨l, rfl, ⟨_, .inl (.inl upd_same)⟩, fun D nD => ?_⟩
    refine lc_list (xs := ms.map V.int) (fun i H3 => Same (upd H l (.lst (ms.map V.int))) H3 ∧ ∃ cells : List Int, cells.length = i ∧ H3 D = some (.lst (cells.map V.int)))
      ⟨same_new nD, [], rfl, upd_same⟩ (fun i H3 _ hP => hP.1.seq (.inl (.inl upd_same))) (fun i x H3 hx hP => ?_) (fun H3 hP => ?_)
    · obtain ⟨sm, cells, hc, eD⟩ := hP
      rw [List.getElem?_map] at hx
      obtain ⟨z, hz, rfl⟩ : ∃ z, ms[i]? = some z ∧ x = V.int z := by
        cases e : ms[i]? with
        | none => rw [e] at hx; cases hx
        | some z => rw [e] at hx; exact ⟨z, rfl, (Option.some.inj hx).symm⟩
      have hi : i < ms.length := (List.getElem?_eq_some_iff.mp hz).1
      refine ⟨rfl, tyes (iteT ⟨_, rfl, _, rfl, cells.map V.int, eD, ?_, ?_, cells ++ [if z < 0 then -z else z], ?_, ?_⟩)⟩
      · rw [List.length_map]; exact small1000 (by omega)
      · intro b o e
        rw [upd_ne (ne_of_none e nD)]
        exact sm _ _ e
      · rw [List.length_append, hc]; rfl
      · rw [upd_same, List.map_append]; rfl
    · obtain ⟨sm, cells, hc, eD⟩ := hP
      rw [List.length_map] at hc
      refine ⟨by show 2 ≤ sizeLine; decide, fun p np => ?_⟩
      have nDp : D ≠ p := ne_of_none eD np
      refine q _ p D ((s1.trans sm).trans (same_new np)) ⟨cells, 0, upd_same, ?_, Ne.symm nDp, by omega, by omega⟩
      rw [upd_ne nDp]; exact eD
def spDraw : Sp := fun vs H Q _ => ∃ (a c : Addr) (m : Nat) (lim : Int), vs = [.ref a, .int lim] ∧ Deck H a c (m + 1) ∧ 0 < lim ∧ lim < 1000000 ∧
  ∀ H' r, But a c H H' → Deck H' a c m → 0 ≤ r → r < lim → Q (.int r) H'
theorem ok_draw {f : Addr} {fd : FuncData} {k : Nat} (F : Fun K "_law_draw" "_law_draw" sDraw f fd) (ml : mg "len" = none) : FnOk P w K mg base CX0 (k + 1) f fd ["_law_deck_here", "_law_limit"] spDraw := by
  refine F.ok scDraw (fun vs H Q E h => ?_) (fun cdv A outer s H vs Q E hr h => ?_)
  · obtain ⟨a, c, m, lim, rfl, _⟩ := h
    rfl
  · obtain ⟨a, c, m, lim, rfl, hD, l0, l1, q⟩ := h
    refine ⟨_, pss_cons (ps_asg (pe_op op_add (pe_ix ix_list (pv 0) pe_int (fun _ _ => rfl)) pe_int) (pg_sub (pv 0) pe_int set_list))
      (pss_cons (ps_asg (pe_tup (pa_cons pe_int (pa_cons (pe_un un_neg pe_int) pa_nil))) (pg_tup rfl (pgs_cons (pg_name (i := 2) scDraw.nd rfl (.inl rfl)) (pgs_cons (pg_name (i := 3) scDraw.nd rfl (.inl rfl)) pgs_nil))))
      (pss_cons (ps_if (pt_cmpR op_gt (pe_callB call_len_seq (by rfl) ml PySem.boot_len (pa_cons (pe_ix ix_list (pv 0) pe_int (fun _ _ => rfl)) pa_nil)) pe_int (nomark _))
        (pss_cons (ps_set (i := 3) scDraw.nd rfl (.inl rfl) (pe_op op_mod (pe_ix ix_list (pv 0) pe_int (fun _ _ => rfl)) (pe_callB call_len_seq (by rfl) ml PySem.boot_len (pa_cons (pe_ix ix_list (pv 0) pe_int (fun _ _ => rfl)) pa_nil))))
          (pss_one (ps_set (i := 2) scDraw.nd rfl (.inl rfl) (pe_ix ix_list (pe_ix ix_list (pv 0) pe_int (fun _ _ => rfl)) (pv 3) (fun _ _ => rfl)))))
        pss_nil)
      (pss_cons (ps_if (pt_cmpR op_ge (pv 2) (pe_op op_pow pe_int pe_int) (nomark _))
        (pss_cons (ps_asg (pe_op op_fdiv (pv 2) (pv 1)) (pg_sub (pe_ix ix_list (pv 0) pe_int (fun _ _ => rfl)) (pv 3) set_list))
          (pss_one (ps_ret (pe_op op_mod (pv 2) (pv 1)))))
        pss_nil)
      (pss_one (ps_ret (pe_op op_mod (pe_op op_fdiv (pe_op op_mod (pe_op op_pow (pe_op op_add (pe_op op_add (pe_op op_mod (pv 2) pe_int) (pe_op op_mul pe_int (pe_ix ix_list (pv 0) pe_int (fun _ _ => rfl)))) pe_int) pe_int) pe_int) pe_int) (pv 1))))))), ?_⟩
    obtain ⟨cells, n, ha, hc, nac, hlen, hn⟩ := hD
    refine ⟨.ref a, rfl, a, _, 1, .int n, rfl, rfl, .inl (.inl ha), atI_nat (j := 1) rfl, n, 1, rfl, rfl, .ref a, rfl, a, _, 1, 1, rfl, rfl, ha, rfl, ?_⟩
    refine gen_heap (fun H1 => H1 a = some (.lst [.ref c, .int ((n : Int) + 1)]) ∧ H1 c = some (.lst (cells.map V.int)) ∧ But a c H H1) ⟨upd_same, by rw [upd_ne (Ne.symm nac)]; exact hc, fun b o h1 _ e => by rw [upd_ne h1]; exact e⟩ fun H1 ⟨ha1, hc1, b1⟩ => ?_
    refine ⟨1, rfl, by show 2 ≤ sizeLine; decide, fun T nT => ⟨T, _, rfl, .inl (.inl upd_same), rfl, _, _, rfl, _, _, rfl, rfl, ?_⟩⟩
    have s2 : Same H1 (upd H1 T (.tup [.int 0, .int (-1)])) := same_new nT
    refine gen_heap (fun H2 => H2 a = some (.lst [.ref c, .int ((n : Int) + 1)]) ∧ H2 c = some (.lst (cells.map V.int)) ∧ But a c H H2) ⟨s2 _ _ ha1, s2 _ _ hc1, b1.trans (But.of s2)⟩ fun H2 ⟨ha2, hc2, b2⟩ => ?_
    have hcs : SqL K H2 c (cells.map V.int) := .inl (.inl hc2)
    have has : SqL K H2 a [.ref c, .int ((n : Int) + 1)] := .inl (.inl ha2)
    -- the end of the walk, from any cell
    have fin : ∀ (z ix : Int) (j : Nat), (10 ^ 18 ≤ z → ixN cells.length ix = some j) →
        tSeq (tIfS (tTest (tOp (rI0 fun i j => V.bl (decide (j ≤ i))) (tVar 2) (tOp (rI CPow fun i j => V.int (i ^ j.toNat)) (tC (V.int 10)) (tC (V.int 18)))))
          (tSeq (tAsg (tOp (rI CDiv fun i j => V.int (i / j)) (tVar 2) (tVar 1)) (gSub (tOp (rIxL K) (tVar 0) (tC (V.int 0))) (tVar 3) rSetL))
            (tRet (tOp (rI (fun x j => 0 < j) fun i j => V.int (i % j)) (tVar 2) (tVar 1)))) tNext)
        (tRet (tOp (rI (fun x j => 0 < j) fun i j => V.int (i % j)) (tOp (rI CDiv fun i j => V.int (i / j)) (tOp (rI (fun x j => 0 < j) fun i j => V.int (i % j)) (tOp (rI CPow fun i j => V.int (i ^ j.toNat))
          (tOp (rI0 fun i j => V.int (i + j)) (tOp (rI0 fun i j => V.int (i + j)) (tOp (rI (fun x j => 0 < j) fun i j => V.int (i % j)) (tVar 2) (tC (V.int 2147483587)))
            (tOp (rI CMul fun i j => V.int (i * j)) (tC (V.int 7919)) (tOp (rIxL K) (tVar 0) (tC (V.int 1))))) (tC (V.int 1))) (tC (V.int 5))) (tC (V.int 2147483647))) (tC (V.int 7))) (tVar 1)))
        { nx := fun _ H' => Q .non H', rt := Q } [some (.ref a), some (.int lim), some (.int z), some (.int ix)] H2 := by
      intro z ix j hj
      refine ⟨.int z, rfl, 10, 18, rfl, rfl, ⟨by decide, by decide, by decide⟩, z, _, rfl, rfl, _, rfl, ite2 (fun e => ?_) (fun e => ?_)⟩
      · have ez : (10 : Int) ^ 18 ≤ z := of_decide_eq_true e
        refine ⟨.int z, rfl, .int lim, rfl, z, lim, rfl, rfl, ⟨l0, by omega⟩, .ref a, rfl, a, _, 0, .ref c, rfl, rfl, has, rfl, .int ix, rfl, c, _, ix, j, rfl, rfl, hc2, by rw [List.length_map]; exact hj ez,
          .int z, rfl, .int lim, rfl, z, lim, rfl, rfl, l0, ?_⟩
        refine q _ _ (b2.trans fun b o _ h2 e => by rw [upd_ne h2]; exact e) ⟨cells.set j (z / lim), n + 1, ?_, ?_, nac, by rw [List.length_set]; exact hlen, by omega⟩ (Int.emod_nonneg _ (by omega)) (Int.emod_lt_of_pos _ l0)
        · rw [upd_ne nac, ha2]; rfl
        · rw [upd_same, List.map_set]
      · have m1 : 0 ≤ z % 2147483587 := Int.emod_nonneg _ (by decide)
        have m2 : z % 2147483587 < 2147483587 := Int.emod_lt_of_pos _ (by decide)
        refine ⟨.int z, rfl, z, 2147483587, rfl, rfl, (by show (0 : Int) < 2147483587; decide), .ref a, rfl, a, _, 1, .int ((n : Int) + 1), rfl, rfl, has, rfl, 7919, (n : Int) + 1, rfl, rfl, .inl ⟨by decide, by decide⟩, _, _, rfl, rfl, _, 1, rfl, rfl, _, 5, rfl, rfl, ⟨by decide, by decide, ?_⟩,
          _, 2147483647, rfl, rfl, (by show (0 : Int) < 2147483647; decide), _, 7, rfl, rfl, ⟨by decide, by decide⟩, .int lim, rfl, _, lim, rfl, rfl, l0, ?_⟩
        · omega
        · exact q _ _ b2 ⟨cells, n + 1, by rw [ha2]; rfl, hc2, nac, hlen, by omega⟩ (Int.emod_nonneg _ (by omega)) (Int.emod_lt_of_pos _ l0)
    refine ⟨.ref a, rfl, a, _, 0, .ref c, rfl, rfl, has, rfl, c, _, rfl, .inl hcs, _, 0, rfl, rfl, _, rfl, ite2 (fun e => ?_) (fun e => ?_)⟩
    · have ez : (0 : Int) < ((cells.map V.int).length : Int) := of_decide_eq_true e
      rw [List.length_map] at ez
      have l2 := Int.emod_nonneg ((n : Int) + 1) (show ((cells.length : Int)) ≠ 0 by omega)
      have l3 := Int.emod_lt_of_pos ((n : Int) + 1) ez
      obtain ⟨j, hj⟩ : ∃ j : Nat, ((n : Int) + 1) % (cells.length : Int) = (j : Int) := ⟨_, (Int.toNat_of_nonneg l2).symm⟩
      have hjl : j < cells.length := by omega
      have gj : (cells.map V.int)[j]? = some (.int cells[j]) := by rw [List.getElem?_map, List.getElem?_eq_getElem hjl]; rfl
      refine ⟨.ref a, rfl, a, _, 1, .int ((n : Int) + 1), rfl, rfl, has, rfl, .ref a, rfl, a, _, 0, .ref c, rfl, rfl, has, rfl, c, _, rfl, .inl hcs, _, _, rfl, rfl, by rw [List.length_map]; exact ez, ?_⟩
      refine ⟨.ref a, rfl, a, _, 0, .ref c, rfl, rfl, has, rfl, _, rfl, c, _, _, _, rfl, rfl, hcs, by rw [List.length_map, hj]; exact atI_nat gj, ?_⟩
      rw [List.length_map]
      refine fin _ (((n : Int) + 1) % (cells.length : Int)) j fun _ => ?_
      rw [hj]
      unfold ixN
      rw [if_pos (by omega), if_pos (by omega)]; rfl
    · refine fin 0 (-1) 0 fun h => ?_
      exact absurd h (by decide)
end
end K09
namespace K09
open PySem PySem.Spec PyProof.Rows L2 Pr
def nPanel : List Str := ["_law_deck_here", "_law_most", "_law_count", "_law_way", "_law_found", "_law_button", "_law_others", "_law_kept", "_law_other"]
theorem scPanel : FnScope nPanel ["_law_deck_here", "_law_most"] (defScope sPanel) := ⟨rfl, rfl, rfl, by decide +kernel, rfl, by decide +kernel, by decide +kernel⟩
theorem pick5 {y : Int} (h0 : 0 ≤ y) (h1 : y < 5) : ∃ v : Int, atI [V.int 3, .int 2, .int 6, .int 1, .int 4] y = some (.int v) ∧ 0 < v ∧ v < 1000000 := by
  obtain rfl | rfl | rfl | rfl | rfl : y = 0 ∨ y = 1 ∨ y = 2 ∨ y = 3 ∨ y = 4 := by omega
  · exact ⟨3, rfl, by decide, by decide⟩
  · exact ⟨2, rfl, by decide, by decide⟩
  · exact ⟨6, rfl, by decide, by decide⟩
  · exact ⟨1, rfl, by decide, by decide⟩
  · exact ⟨4, rfl, by decide, by decide⟩
section
variable {P : Program} {w : World} {K : PySem.W.Frag} {mg : Str → Option Value} {base : Heap}
/-- found.append(tuple(kept)) -/
theorem panel_append {D : Ends} {σ : L2.St} {a c F K7 : Addr} {m : Nat} {qs : List Addr} {pan : List (List Int)} {l : List Int} {H H8 : Hp} (h4 : σ[4]? = some (some (.ref F))) (h7 : σ[7]? = some (some (.ref K7)))
    (nF : H F = none) (b8 : But a c H H8) (D8 : Deck H8 a c m) (Fa : F ≠ a) (Fc : F ≠ c) (hF : H8 F = some (.lst (qs.map V.ref))) (hqs : Paired (fun q l => FT H8 q (l.map V.int)) qs pan) (hK : H8 K7 = some (.lst (l.map V.int))) (few : qs.length ≤ 100)
    (nx : ∀ H9 q', But a c H H9 → Deck H9 a c m → H9 F = some (.lst ((qs ++ [q']).map V.ref)) → Paired (fun q l => FT H9 q (l.map V.int)) (qs ++ [q']) (pan ++ [l]) → D.nx σ H9) :
    tDrop (tBM K "list" rAppend (tVar 4) (tCons (tCB (rTupF K) (tCons (tVar 7) tNil)) tNil)) D σ H8 := by
  refine ⟨.ref F, h4, .inl ⟨rfl, _, .inl (.inl hF)⟩, .ref K7, h7, K7, _, rfl, .inl (.inl hK), fun p o np ho => ?_⟩
  have sp : Same H8 (upd H8 p (.frz o (.tup (l.map V.int)))) := same_new np
  have pF : p ≠ F := Ne.symm (ne_of_none hF np)
  refine ⟨F, _, .ref p, rfl, rfl, sp _ _ hF, by rw [List.length_map]; exact small1000 (by omega), ?_⟩
  have keep : ∀ b o', b ≠ F → H8 b = some o' → (upd (upd H8 p (.frz o (.tup (l.map V.int)))) F (.lst (qs.map V.ref ++ [.ref p]))) b = some o' := fun b o' hb e => by
    rw [upd_ne hb]; exact sp _ _ e
  have ftk : ∀ q xs, FT H8 q xs → FT (upd (upd H8 p (.frz o (.tup (l.map V.int)))) F (.lst (qs.map V.ref ++ [.ref p]))) q xs := fun q xs ⟨oq, e, z⟩ => ⟨oq, keep q _ (ne_of e hF (by intro z; cases z)) e, z⟩
  refine nx _ p ?_ ?_ ?_ ?_
  · intro b o' h1 h2 e
    exact keep b o' (ne_of_none e nF) (b8 b o' h1 h2 e)
  · obtain ⟨cs, n, e1, e2, e3⟩ := D8
    exact ⟨cs, n, keep _ _ (Ne.symm Fa) e1, keep _ _ (Ne.symm Fc) e2, e3⟩
  · rw [upd_same, List.map_append]; rfl
  · refine Paired.snoc (hqs.mono fun q l h => ftk q _ h) ⟨o, ?_, ho⟩
    rw [upd_ne pF, upd_same]
theorem sub_snoc {acc os : List Int} {k : Nat} {z : Int} (h : acc.Sublist (os.take k)) (hz : os[k]? = some z) : (acc ++ [z]).Sublist (os.take (k + 1)) := by
  rw [List.take_add_one, hz]
  exact h.append (List.Sublist.refl _)
theorem sub_skip {acc os : List Int} {k : Nat} (h : acc.Sublist (os.take k)) : acc.Sublist (os.take (k + 1)) := by
  rw [List.take_add_one]
  exact h.trans (List.sublist_append_left _ _)
theorem map_get {os : List Int} {k : Nat} {x : V} (h : (os.map V.int)[k]? = some x) : ∃ z, os[k]? = some z ∧ x = .int z := by
  rw [List.getElem?_map] at h
  cases e : os[k]? with
  | none => rw [e] at h; cases h
  | some z => rw [e] at h; exact ⟨z, rfl, (Option.some.inj h).symm⟩
def spPanel : Sp := fun vs H Q _ => ∃ (a c : Addr) (m : Nat) (most : Int), vs = [.ref a, .int most] ∧ Deck H a c (m + 200) ∧ 1 ≤ most ∧ most ≤ 10 ∧
  ∀ H' p pan, But a c H H' → Deck H' a c m → PanAt H' p pan → Good pan → (pan.length : Int) ≤ most → Q (.ref p) H'
theorem ok_panel {f fD : Addr} {fd fdD : FuncData} {k : Nat} (F : Fun K "_law_panel" "_law_panel" sPanel f fd) (FD : Fun K "_law_draw" "_law_draw" sDraw fD fdD) (bD : Binds K fdD ["_law_deck_here", "_law_limit"] []) (gD : mg "_law_draw" = some (.ref fD))
    (ml : mg "len" = none) (mr : mg "range" = none) (mt : mg "tuple" = none) : FnOk P w K mg base CX0 (k + 2) f fd ["_law_deck_here", "_law_most"] spPanel := by
  have GD : FnOk P w K mg base CX0 (k + 1) fD fdD ["_law_deck_here", "_law_limit"] spDraw := ok_draw FD ml
  refine F.ok scPanel (fun vs H Q E h => ?_) (fun cdv A outer s H vs Q E hr h => ?_)
  · obtain ⟨a, c, m, most, rfl, _⟩ := h
    rfl
  · obtain ⟨a, c, m, most, rfl, hD, m1, m2, q⟩ := h
    refine ⟨_, pss_cons (ps_asg (pe_tup (pa_cons (pe_ix ix_list (pe_lst (pa_cons (pe_op op_add pe_int (pe_call GD hr (by rfl) gD FD.kp bD .nil pass0 (pa_cons (pv 0) (pa_cons (pv 1) pa_nil)))) (pa_cons (pv 1) pa_nil)))
            (pe_call GD hr (by rfl) gD FD.kp bD .nil pass0 (pa_cons (pv 0) (pa_cons pe_int pa_nil))) (fun _ _ => rfl))
          (pa_cons (pe_call GD hr (by rfl) gD FD.kp bD .nil pass0 (pa_cons (pv 0) (pa_cons pe_int pa_nil))) pa_nil)))
        (pg_tup rfl (pgs_cons (pg_name (i := 2) scPanel.nd rfl (.inr rfl)) (pgs_cons (pg_name (i := 3) scPanel.nd rfl (.inr rfl)) pgs_nil))))
      (pss_cons (ps_set (i := 4) scPanel.nd rfl (.inl rfl) (pe_lst pa_nil))
      (pss_cons (ps_for PassesOwn.never rfl (pi_range1 (by rfl) mr (pa_cons (pv 2) pa_nil)) (pg_name (i := 5) scPanel.nd rfl (.inr rfl))
        (pss_cons (ps_setLc (i := 6) (own := [("_law_other", 8)]) (g := gName 8) rfl scPanel.nd rfl rfl (sw_true rfl rfl rfl (by decide +kernel)) (pi_range1 (by rfl) mr (pa_cons (pv 2) pa_nil))
            (blkOk_by (own := [("_law_other", 8)]) (N := nPanel) (sc := defScope sPanel) (by decide +kernel)) (fun _ _ _ _ _ => pg_name (i := 8) scPanel.nd rfl (Or.inl rfl))
            (fun _ _ _ _ _ => pts_one (pt_cmpR op_ne (pv 8) (pv 5) (nomark _))) (fun _ _ _ _ _ => pv 8))
        (pss_cons (ps_setLc (i := 7) (own := [("_law_other", 8)]) (g := gName 8) rfl scPanel.nd rfl rfl (sw_true rfl rfl rfl (by decide +kernel)) (pi_list (pv 6))
            (blkOk_by (own := [("_law_other", 8)]) (N := nPanel) (sc := defScope sPanel) (by decide +kernel)) (fun _ _ _ _ _ => pg_name (i := 8) scPanel.nd rfl (Or.inl rfl))
            (fun _ _ _ _ _ => pts_one (pt_cmpR op_eq (pe_call GD hr (by rfl) gD FD.kp bD .nil pass0 (pa_cons (pv 0) (pa_cons (pe_ix (show IxR _ (rIxL K) from ix_list) (pe_lst (pa_cons pe_int (pa_cons pe_int (pa_cons pe_int (pa_cons pe_int (pa_cons pe_int pa_nil)))))) (pv 3) (fun _ _ => rfl)) pa_nil))) pe_int (nomark _)))
            (fun _ _ _ _ _ => pv 8))
        (pss_cons (ps_if (pt_cmpR op_eq (pv 3) pe_int (nomark _))
          (pss_one (ps_setLc (i := 7) (own := [("_law_other", 8)]) (g := gName 8) rfl scPanel.nd rfl rfl (sw_true rfl rfl rfl (by decide +kernel)) (pi_list (pv 6))
            (blkOk_by (own := [("_law_other", 8)]) (N := nPanel) (sc := defScope sPanel) (by decide +kernel)) (fun _ _ _ _ _ => pg_name (i := 8) scPanel.nd rfl (Or.inl rfl))
            (fun _ _ _ _ _ => pts_one (pt_cmpR op_eq (pv 8) (pe_op op_mod (pe_op op_add (pv 5) pe_int) (pv 2)) (nomark _)))
            (fun _ _ _ _ _ => pv 8))) pss_nil)
        (pss_one (ps_expr (pe_bm PySem.F.plainAttrs_list PySem.F.slot_list_append PySem.F.type_list_append mt_append (pv 4) (pa_cons (pe_callTy call_tupF (by rfl) mt (by decide +kernel) (pa_cons (pv 7) pa_nil)) pa_nil))))))))
      (pss_one (ps_ret (pe_callTy call_tupF (by rfl) mt (by decide +kernel) (pa_cons (pv 4) pa_nil)))))), ?_⟩
    refine ⟨.ref a, rfl, .int most, rfl, a, c, m + 199, most, rfl, hD.less (by omega), by omega, by omega, fun H1 r1 b1 D1 r1a r1b => ?_⟩
    refine ⟨1, r1, rfl, rfl, .int most, rfl, by show 2 ≤ sizeLine; decide, fun L nL => ?_⟩
    have sL : Same H1 (upd H1 L (.lst [.int (1 + r1), .int most])) := same_new nL
    refine ⟨.ref a, rfl, a, c, m + 198, 2, rfl, D1.same sL, by decide, by decide, fun H2 r2 b2 D2 r2a r2b => ?_⟩
    have hL : H2 L = some (.lst [.int (1 + r1), .int most]) := b2 _ _ (D1.fresh nL).1 (D1.fresh nL).2 upd_same
    obtain ⟨n, hn, n1, n2, n3⟩ : ∃ n : Int, atI [V.int (1 + r1), V.int most] r2 = some (.int n) ∧ 1 ≤ n ∧ n ≤ 10 ∧ n ≤ most := by
      obtain rfl | rfl : r2 = 0 ∨ r2 = 1 := by omega
      · exact ⟨1 + r1, rfl, by omega, by omega, by omega⟩
      · exact ⟨most, rfl, m1, m2, Int.le_refl _⟩
    refine ⟨L, _, r2, .int n, rfl, rfl, .inl (.inl hL), hn, .ref a, rfl, a, c, m + 197, 5, rfl, D2, by decide, by decide, fun H3 y b3 D3 y0 y5 => ?_⟩
    refine ⟨by show 2 ≤ sizeLine; decide, fun T nT => ⟨T, _, rfl, .inl (.inl upd_same), rfl, _, _, rfl, _, _, rfl, rfl, ?_⟩⟩
    refine gen_heap (fun H4 => But a c H H4 ∧ Deck H4 a c (m + 197)) ⟨(((b1.trans (But.of sL)).trans b2).trans b3).trans (But.of (same_new nT)), D3.same (same_new nT)⟩ fun H4 ⟨b4, D4⟩ => ?_
    -- found = []
    refine ⟨Nat.zero_le _, fun F nF => ?_⟩
    have hnF : H F = none := by
      cases e : H F with
      | none => rfl
      | some o =>
        have := b4 F o (D4.fresh nF).1 (D4.fresh nF).2 e
        rw [nF] at this; cases this
    have FD' := D4.fresh nF
    -- the loop over the buttons
    obtain ⟨nn, rfl⟩ : ∃ nn : Nat, n = (nn : Int) := ⟨n.toNat, (Int.toNat_of_nonneg (by omega)).symm⟩
    refine ⟨_, rfl, _, rfl, by omega, by omega, ?_⟩
    refine for_range (n := nn) (fun i σ H5 => But a c H H5 ∧ Deck H5 a c (m + 10 * (10 - i)) ∧ i ≤ nn ∧
        (∃ (qs : List Addr) (pan : List (List Int)), H5 F = some (.lst (qs.map V.ref)) ∧ Paired (fun q l => FT H5 q (l.map V.int)) qs pan ∧ pan.length = i ∧
          ∀ (j : Nat) (l : List Int), pan[j]? = some l → l.Pairwise (· < ·) ∧ ∀ x ∈ l, 0 ≤ x ∧ x < (nn : Int) ∧ x ≠ (j : Int)) ∧
        ∃ x5 x6 x7 x8, σ = [some (.ref a), some (.int most), some (.int (nn : Int)), some (.int y), some (.ref F), x5, x6, x7, x8]) ?_ ?_ ?_
    · refine ⟨b4.trans (But.of (same_new nF)), (D4.same (same_new nF)).less (by omega), Nat.zero_le _, ⟨[], [], upd_same, .nil, rfl, fun j l h => by simp at h⟩, none, none, none, none, rfl⟩
    · intro i σ H5 hi hP
      obtain ⟨b5, D5, _, ⟨qs, pan, hF, hqs, hpl, hpan⟩, x5, x6, x7, x8, rfl⟩ := hP
      -- others
      refine ⟨_, rfl, _, rfl, by omega, by omega, fun O nO => ?_⟩
      refine lc_range (n := nn) (fun k H6 => Same H5 H6 ∧ ∃ acc : List Int, H6 O = some (.lst (acc.map V.int)) ∧ acc.length ≤ k ∧ acc.Pairwise (· < ·) ∧ ∀ x ∈ acc, 0 ≤ x ∧ x < (k : Int) ∧ x ≠ (i : Int))
        ⟨same_new nO, [], upd_same, Nat.le_refl _, List.Pairwise.nil, fun x h => by cases h⟩ (fun k H6 hk hP => ?_) (fun H6 hP => ?_)
      · obtain ⟨s6, acc, eO, al, ap, am⟩ := hP
        have am' : ∀ x ∈ acc, 0 ≤ x ∧ x < ((k + 1 : Nat) : Int) ∧ x ≠ (i : Int) := fun x hx => by have := am x hx; omega
        refine ⟨rfl, .int (0 + (k : Int)), rfl, .int (0 + (i : Int)), rfl, rfl, _, rfl, ite2 (fun e => ?_) (fun e => ?_)⟩
        · have hne : (k : Int) ≠ (i : Int) := fun z => by
            rw [show (0 + (k : Int)) = (0 + (i : Int)) by omega] at e
            simp at e
          refine ⟨_, rfl, acc.map V.int, eO, by rw [List.length_map]; exact small1000 (by omega), ?_, acc ++ [0 + (k : Int)], ?_, by rw [List.length_append]; show acc.length + 1 ≤ k + 1; omega, ?_, ?_⟩
          · intro b o e
            rw [upd_ne (ne_of_none e nO)]
            exact s6 _ _ e
          · rw [upd_same, List.map_append]; rfl
          · rw [List.pairwise_append]
            refine ⟨ap, List.pairwise_singleton _ _, fun x hx z hz => ?_⟩
            have := am x hx
            rw [List.mem_singleton.mp hz]; omega
          · intro x hx
            rcases List.mem_append.mp hx with h | h
            · exact am' x h
            · rw [List.mem_singleton.mp h]; omega
        · exact ⟨s6, acc, eO, by omega, ap, am'⟩
      · obtain ⟨s6, os, eO, ol, op, om⟩ := hP
        have D6 := D5.same s6
        have oO := D5.fresh nO
        have olen : os.length ≤ 10 := by omega
        -- kept
        refine ⟨.ref O, rfl, O, rfl, ⟨_, .inl (.inl eO)⟩, fun T2 nT2 => ?_⟩
        have oT := D6.fresh nT2
        refine lc_list (xs := os.map V.int) (fun k H7 => But a c H6 H7 ∧ Deck H7 a c (m + 10 * (10 - i) - k) ∧ ∃ acc : List Int, H7 T2 = some (.lst (acc.map V.int)) ∧ acc.Sublist (os.take k))
          ⟨But.of (same_new nT2), (D6.same (same_new nT2)).less (by omega), [], upd_same, List.nil_sublist _⟩ (fun k H7 _ hP => .inl (.inl (hP.1 _ _ oO.1 oO.2 eO))) (fun k x H7 hx hP => ?_) (fun H7 hP => ?_)
        · obtain ⟨b7, D7, acc, eT, as⟩ := hP
          obtain ⟨z, hz, rfl⟩ := map_get hx
          have hk : k < os.length := (List.getElem?_eq_some_iff.mp hz).1
          obtain ⟨v, hv, v0, v1⟩ := pick5 y0 y5
          refine ⟨rfl, .ref a, rfl, by show 5 ≤ sizeLine; decide, fun L nL => ⟨.int y, rfl, L, _, y, .int v, rfl, rfl, .inl (.inl upd_same), hv, a, c, m + 10 * (10 - i) - (k + 1), v, rfl,
            (D7.same (same_new nL)).less (by omega), v0, v1, fun H8 r b8 D8 r0 r1 => ⟨rfl, _, rfl, ite2 (fun e => ?_) (fun e => ?_)⟩⟩⟩
          all_goals
            have b78 : But a c H7 H8 := (But.of (same_new nL)).trans b8
            have eT8 : H8 T2 = some (.lst (acc.map V.int)) := b78 _ _ oT.1 oT.2 eT
          · refine ⟨_, rfl, acc.map V.int, eT8, ?_, ?_, ?_, acc ++ [z], ?_, sub_snoc as hz⟩
            · have := as.length_le
              rw [List.length_take] at this
              rw [List.length_map]; exact small1000 (by omega)
            · intro b o h1 h2 e
              rw [upd_ne (ne_of_none e nT2)]
              exact b78 _ _ h1 h2 (b7 _ _ h1 h2 e)
            · obtain ⟨cs, n, e1, e2, e3⟩ := D8
              exact ⟨cs, n, by rw [upd_ne (Ne.symm oT.1)]; exact e1, by rw [upd_ne (Ne.symm oT.2)]; exact e2, e3⟩
            · rw [upd_same, List.map_append]; rfl
          · exact ⟨b7.trans b78, D8, acc, eT8, sub_skip as⟩
        · obtain ⟨b7, D7, kp, eT, as⟩ := hP
          rw [List.length_map] at D7
          have fine : ∀ l : List Int, l.Sublist os → l.Pairwise (· < ·) ∧ ∀ x ∈ l, 0 ≤ x ∧ x < (nn : Int) ∧ x ≠ (i : Int) := fun l hl => ⟨op.sublist hl, fun x hx => om x (hl.subset hx)⟩
          have b57 : But a c H5 H7 := (But.of s6).trans b7
          have eF7 := b57 _ _ FD'.1 FD'.2 hF
          have ft7 : Paired (fun q l => FT H7 q (l.map V.int)) qs pan := hqs.mono fun q l h => h.but D5 b57
          have eO7 := b7 _ _ oO.1 oO.2 eO
          have close : ∀ (l : List Int) (H9 : Hp) (q' : Addr) (x5 x6 x7 x8 : Option V), l.Sublist os → But a c H H9 → Deck H9 a c (m + 10 * (10 - (i + 1))) → H9 F = some (.lst ((qs ++ [q']).map V.ref)) → Paired (fun q l => FT H9 q (l.map V.int)) (qs ++ [q']) (pan ++ [l]) →
              But a c H H9 ∧ Deck H9 a c (m + 10 * (10 - (i + 1))) ∧ i + 1 ≤ nn ∧ (∃ (qs : List Addr) (pan : List (List Int)), H9 F = some (.lst (qs.map V.ref)) ∧ Paired (fun q l => FT H9 q (l.map V.int)) qs pan ∧ pan.length = i + 1 ∧
                ∀ (j : Nat) (l : List Int), pan[j]? = some l → l.Pairwise (· < ·) ∧ ∀ x ∈ l, 0 ≤ x ∧ x < (nn : Int) ∧ x ≠ (j : Int)) := by
            intro l H9 q' x5 x6 x7 x8 hl g1 g2 g3 g4
            refine ⟨g1, g2, hi, _, _, g3, g4, by rw [List.length_append, hpl]; rfl, fun j l' hj => ?_⟩
            by_cases hji : j < i
            · rw [List.getElem?_append_left (by omega)] at hj
              exact hpan j l' hj
            · rw [List.getElem?_append_right (by omega), hpl] at hj
              obtain rfl : j = i := by
                have := (List.getElem?_eq_some_iff.mp hj).1
                rw [List.length_singleton] at this; omega
              rw [Nat.sub_self] at hj
              obtain rfl : l = l' := by simpa using hj
              exact fine _ hl
          have few : qs.length ≤ 100 := by rw [hqs.length, hpl]; omega
          refine ⟨.int y, rfl, rfl, _, rfl, ite2 (fun e => ?_) (fun e => ?_)⟩
          · -- kept once more
            refine ⟨.ref O, rfl, O, rfl, ⟨_, .inl (.inl eO7)⟩, fun T3 nT3 => ?_⟩
            have oT3 := D7.fresh nT3
            refine lc_list (xs := os.map V.int) (fun k H8 => Same H7 H8 ∧ ∃ acc : List Int, H8 T3 = some (.lst (acc.map V.int)) ∧ acc.Sublist (os.take k))
              ⟨same_new nT3, [], upd_same, List.nil_sublist _⟩ (fun k H8 _ hP => .inl (.inl (hP.1 _ _ eO7))) (fun k x H8 hx hP => ?_) (fun H8 hP => ?_)
            · obtain ⟨s8, acc, eT3, as3⟩ := hP
              obtain ⟨z, hz, rfl⟩ := map_get hx
              refine ⟨rfl, .int z, rfl, .int (0 + (i : Int)), rfl, _, 1, rfl, rfl, .int (nn : Int), rfl, _, _, rfl, rfl, (by show (0 : Int) < (nn : Int); omega), rfl, _, rfl, ite2 (fun e => ?_) (fun e => ?_)⟩
              · refine ⟨_, rfl, acc.map V.int, eT3, ?_, ?_, acc ++ [z], ?_, sub_snoc as3 hz⟩
                · have := as3.length_le
                  rw [List.length_take] at this
                  rw [List.length_map]; exact small1000 (by omega)
                · intro b o e
                  rw [upd_ne (ne_of_none e nT3)]
                  exact s8 _ _ e
                · rw [upd_same, List.map_append]; rfl
              · exact ⟨s8, acc, eT3, sub_skip as3⟩
            · obtain ⟨s8, l3, eT3, as3⟩ := hP
              rw [List.length_map, List.take_length] at as3
              refine panel_append (m := m + 10 * (10 - (i + 1))) (l := l3) rfl rfl hnF ((b5.trans b57).trans (But.of s8)) ((D7.same s8).less (by omega)) FD'.1 FD'.2 (s8 _ _ eF7) (ft7.mono fun _ _ h => h.same s8) eT3 few fun H9 q' g1 g2 g3 g4 => ?_
              obtain ⟨r1, r2, r3, r4⟩ := close l3 H9 q' none none none none as3 g1 g2 g3 g4
              exact ⟨r1, r2, r3, r4, _, _, _, _, rfl⟩
          · rw [List.length_map, List.take_length] at as
            refine panel_append (m := m + 10 * (10 - (i + 1))) (l := kp) rfl rfl hnF (b5.trans b57) (D7.less (by omega)) FD'.1 FD'.2 eF7 ft7 eT few fun H9 q' g1 g2 g3 g4 => ?_
            obtain ⟨r1, r2, r3, r4⟩ := close kp H9 q' none none none none as g1 g2 g3 g4
            exact ⟨r1, r2, r3, r4, _, _, _, _, rfl⟩
    · intro σ H5 hP
      obtain ⟨b5, D5, _, ⟨qs, pan, hF, hqs, hpl, hpan⟩, x5, x6, x7, x8, rfl⟩ := hP
      refine ⟨.ref F, rfl, F, _, rfl, .inl (.inl hF), fun l o nl ho => ?_⟩
      have sl : Same H5 (upd H5 l (.frz o (.tup (qs.map V.ref)))) := same_new nl
      refine q _ l pan (b5.trans (But.of sl)) ((D5.same sl).less (by omega)) ⟨qs, ⟨o, upd_same, ho⟩, hqs.mono fun _ _ z => z.same sl⟩ ?_ (by omega)
      have hnn : (pan.length : Int) = (nn : Int) := by omega
      refine ⟨by omega, by omega, fun l hl => ?_, fun l hl => ?_, fun j l hl h => ?_⟩
      · obtain ⟨j, hj⟩ := List.getElem?_of_mem hl
        exact (hpan j l hj).1
      · obtain ⟨j, hj⟩ := List.getElem?_of_mem hl
        intro x hx
        have := (hpan j l hj).2 x hx
        exact ⟨this.1, by omega⟩
      · exact ((hpan j l hl).2 _ h).2.2 rfl
end
end K09
namespace Pr
open PySem PySem.Spec PyProof.Rows L2
def intL (n : Nat) : List Int := (List.range n).map fun i : Nat => (i : Int)
theorem mem_intL {n : Nat} {x : Int} : x ∈ intL n ↔ 0 ≤ x ∧ x < (n : Int) := by
  unfold intL
  rw [List.mem_map]
  constructor
  · rintro ⟨i, hi, rfl⟩
    have := List.mem_range.mp hi
    omega
  · rintro ⟨h0, h1⟩
    exact ⟨x.toNat, List.mem_range.mpr (by omega), Int.toNat_of_nonneg h0⟩
theorem intL_up (n : Nat) : (intL n).Pairwise (· < ·) := by
  unfold intL
  rw [List.pairwise_map]
  exact List.pairwise_lt_range.imp fun {a b} (h : a < b) => by omega
theorem intL_len (n : Nat) : (intL n).length = n := by unfold intL; rw [List.length_map, List.length_range]
/-- a state of n buttons -/
structure Asc (n : Nat) (st : List Int) : Prop where
  up : st.Pairwise (· < ·)
  rng : ∀ x ∈ st, 0 ≤ x ∧ x < (n : Int)
theorem Asc.nil (n : Nat) : Asc n [] := ⟨List.Pairwise.nil, fun _ h => by cases h⟩
theorem Asc.full (n : Nat) : Asc n (intL n) := ⟨intL_up n, fun _ h => mem_intL.mp h⟩
theorem Asc.filter (n : Nat) (f : Int → Bool) : Asc n ((intL n).filter f) := ⟨(intL_up n).filter f, fun _ h => mem_intL.mp (List.mem_filter.mp h).1⟩
theorem Asc.len {n : Nat} {st : List Int} (h : Asc n st) : st.length ≤ n := pw_length (lo := 0) h.up fun x hx => by have := h.rng x hx; omega
theorem asc_ext : ∀ {l1 l2 : List Int}, l1.Pairwise (· < ·) → l2.Pairwise (· < ·) → (∀ x, x ∈ l1 ↔ x ∈ l2) → l1 = l2
  | [], [], _, _, _ => rfl
  | [], y :: r, _, _, h => absurd ((h y).mpr List.mem_cons_self) (by simp)
  | x :: r, [], _, _, h => absurd ((h x).mp List.mem_cons_self) (by simp)
  | x :: r, y :: t, h1, h2, h => by
    rw [List.pairwise_cons] at h1 h2
    have exy : x = y := by
      rcases List.mem_cons.mp ((h x).mp List.mem_cons_self) with e | e
      · exact e
      · rcases List.mem_cons.mp ((h y).mpr List.mem_cons_self) with e' | e'
        · exact e'.symm
        · have a1 := h2.1 x e
          have a2 := h1.1 y e'
          omega
    subst exy
    have : r = t := asc_ext h1.2 h2.2 fun z => by
      constructor
      · intro hz
        rcases List.mem_cons.mp ((h z).mp (List.mem_cons_of_mem _ hz)) with e | e
        · have := h1.1 z hz; omega
        · exact e
      · intro hz
        rcases List.mem_cons.mp ((h z).mpr (List.mem_cons_of_mem _ hz)) with e | e
        · have := h2.1 z hz; omega
        · exact e
    rw [this]
theorem Asc.eq {n : Nat} {st : List Int} (h : Asc n st) : (intL n).filter (fun x => decide (x ∈ st)) = st :=
  asc_ext ((intL_up n).filter _) h.up fun x => by
    rw [List.mem_filter, decide_eq_true_eq, mem_intL]
    exact ⟨fun q => q.2, fun q => ⟨h.rng x q, q⟩⟩
def pressM (pan : List (List Int)) (st : List Int) (b : Int) : List Int := (intL pan.length).filter fun x => decide (x = b ∨ (x ∈ st ∧ x ∉ pan.getD b.toNat []))
def runM (pan : List (List Int)) (st : List Int) (row : List Int) : List Int := row.foldl (pressM pan) st
theorem pressM_asc (pan : List (List Int)) (st : List Int) (b : Int) : Asc pan.length (pressM pan st b) := Asc.filter _ _
theorem runM_asc {pan : List (List Int)} : ∀ {row st : List Int}, Asc pan.length st → Asc pan.length (runM pan st row)
  | [], _, h => h
  | b :: r, st, _ => runM_asc (row := r) (pressM_asc pan st b)
theorem mem_pressM {pan : List (List Int)} {st : List Int} {b x : Int} : x ∈ pressM pan st b ↔ (0 ≤ x ∧ x < (pan.length : Int)) ∧ (x = b ∨ (x ∈ st ∧ x ∉ pan.getD b.toNat [])) := by
  unfold pressM
  rw [List.mem_filter, decide_eq_true_eq, mem_intL]
theorem runM_take {pan : List (List Int)} {st row : List Int} {k : Nat} {b : Int} (h : row[k]? = some b) : runM pan st (row.take (k + 1)) = pressM pan (runM pan st (row.take k)) b := by
  unfold runM
  rw [List.take_add_one, h, List.foldl_append]; rfl
/-- what press_button makes: the kept ones and the button, sorted -/
theorem press_sorted {pan : List (List Int)} {st : List Int} {b : Int} {ns : List Int} (hs : Asc pan.length st) (h0 : 0 ≤ b) (h1 : b < (pan.length : Int))
    (hp : ns.Perm (st.filter (fun x => decide (x ≠ b ∧ x ∉ pan.getD b.toNat [])) ++ [b])) (hle : ns.Pairwise (· ≤ ·)) : ns = pressM pan st b := by
  have nd0 : (st.filter (fun x => decide (x ≠ b ∧ x ∉ pan.getD b.toNat [])) ++ [b]).Nodup := by
    refine List.nodup_append.mpr ⟨(hs.up.imp fun {x y} (q : x < y) => by omega : st.Nodup).filter _, by simp, fun x hx y hy e => ?_⟩
    rw [List.mem_singleton] at hy
    have := (List.mem_filter.mp hx).2
    rw [decide_eq_true_eq] at this
    exact this.1 (e.trans hy)
  have nd : ns.Nodup := hp.nodup_iff.mpr nd0
  have up : ns.Pairwise (· < ·) := (hle.and nd).imp fun {x y} (q : x ≤ y ∧ x ≠ y) => by omega
  refine asc_ext up (pressM_asc pan st b).up fun x => ?_
  rw [hp.mem_iff, mem_pressM, List.mem_append, List.mem_filter, decide_eq_true_eq, List.mem_singleton]
  constructor
  · rintro (⟨a1, a2⟩ | a)
    · exact ⟨hs.rng x a1, .inr ⟨a1, a2.2⟩⟩
    · subst a; exact ⟨⟨h0, h1⟩, .inl rfl⟩
  · rintro ⟨_, a | a⟩
    · exact .inr a
    · by_cases e : x = b
      · exact .inr e
      · exact .inl ⟨a.1, e, a.2⟩
end Pr
namespace Pr
open PySem PySem.Spec PyProof.Rows L2
abbrev wSame : Str := "same"
abbrev wOn : Str := "on"
abbrev wOff : Str := "off"
/-- a press of b behind, where c had the word w -/
def wordM (pan : List (List Int)) (c : Int) (w : Str) (b : Int) : Str := if b = c then wOn else if c ∈ pan.getD b.toNat [] then wOff else w
def wordsM (pan : List (List Int)) (row : List Int) (c : Int) : Str := row.foldl (wordM pan c) wSame
def effM (pan : List (List Int)) (row : List Int) : List Str := (List.range pan.length).map fun c : Nat => wordsM pan row (c : Int)
def onM (l : List Int) (b : Int) (c : Nat) : Str := if (c : Int) ∈ l then wOff else if (c : Int) = b then wOn else wSame
def pressW (pan : List (List Int)) (b : Int) : List Str := (List.range pan.length).map (onM (pan.getD b.toNat []) b)
def joinM (xs ys : List Str) : List Str := List.zipWith (fun e l => if l = wSame then e else l) xs ys
theorem effM_len (pan : List (List Int)) (row : List Int) : (effM pan row).length = pan.length := by unfold effM; rw [List.length_map, List.length_range]
theorem pressW_len (pan : List (List Int)) (b : Int) : (pressW pan b).length = pan.length := by unfold pressW; rw [List.length_map, List.length_range]
theorem joinM_len {xs ys : List Str} (h : xs.length = ys.length) : (joinM xs ys).length = ys.length := by unfold joinM; rw [List.length_zipWith, h, Nat.min_self]
theorem effM_nil (pan : List (List Int)) : effM pan [] = List.replicate pan.length wSame := by
  unfold effM
  show (List.range pan.length).map (fun _ => wSame) = _
  rw [List.map_const', List.length_range]
theorem same_ne_on : wSame ≠ wOn := by decide +kernel
theorem same_ne_off : wSame ≠ wOff := by decide +kernel
theorem Good.own' {pan : List (List Int)} (g : Good pan) {b : Int} (h0 : 0 ≤ b) (h1 : b < (pan.length : Int)) : b ∉ pan.getD b.toNat [] := by
  have hb : b.toNat < pan.length := by omega
  have := g.own b.toNat pan[b.toNat] (List.getElem?_eq_getElem hb)
  rw [List.getD_eq_getElem?_getD, List.getElem?_eq_getElem hb]
  rw [Int.toNat_of_nonneg h0] at this
  exact this
theorem wordM_join {pan : List (List Int)} (g : Good pan) {b : Int} (h0 : 0 ≤ b) (h1 : b < (pan.length : Int)) (c : Nat) (w : Str) :
    (if onM (pan.getD b.toNat []) b c = wSame then w else onM (pan.getD b.toNat []) b c) = wordM pan (c : Int) w b := by
  unfold onM wordM
  by_cases e : (c : Int) ∈ pan.getD b.toNat []
  · have hne : b ≠ (c : Int) := fun z => g.own' h0 h1 (z ▸ e)
    rw [if_pos e, if_neg hne, if_pos e, if_neg (Ne.symm same_ne_off)]
  · rw [if_neg e, if_neg e]
    by_cases e2 : (c : Int) = b
    · rw [if_pos e2, if_pos e2.symm, if_neg (Ne.symm same_ne_on)]
    · rw [if_neg e2, if_pos rfl, if_neg (Ne.symm e2)]
theorem eff_step {pan : List (List Int)} (g : Good pan) {b : Int} (h0 : 0 ≤ b) (h1 : b < (pan.length : Int)) (row : List Int) : joinM (effM pan row) (pressW pan b) = effM pan (row ++ [b]) := by
  unfold joinM effM pressW
  rw [List.zipWith_map, List.zipWith_self]
  refine List.map_congr_left fun c _ => ?_
  rw [wordM_join g h0 h1]
  unfold wordsM
  rw [List.foldl_append]; rfl
theorem eff_take {pan : List (List Int)} (g : Good pan) {row : List Int} {k : Nat} {b : Int} (hk : row[k]? = some b) (h0 : 0 ≤ b) (h1 : b < (pan.length : Int)) : joinM (effM pan (row.take k)) (pressW pan b) = effM pan (row.take (k + 1)) := by
  rw [eff_step g h0 h1, List.take_add_one, hk]; rfl
theorem word3 (pan : List (List Int)) (c : Int) : ∀ row : List Int, wordsM pan row c = wSame ∨ wordsM pan row c = wOn ∨ wordsM pan row c = wOff := by
  intro row
  unfold wordsM
  have : ∀ (l : List Int) (w : Str), (w = wSame ∨ w = wOn ∨ w = wOff) → (l.foldl (wordM pan c) w = wSame ∨ l.foldl (wordM pan c) w = wOn ∨ l.foldl (wordM pan c) w = wOff) := by
    intro l
    induction l with
    | nil => exact fun w h => h
    | cons b r ih =>
      intro w h
      rw [List.foldl_cons]
      refine ih _ ?_
      unfold wordM
      split
      · exact .inr (.inl rfl)
      · split
        · exact .inr (.inr rfl)
        · exact h
  exact this row _ (.inl rfl)
theorem eff3 {pan : List (List Int)} {row : List Int} {x : Str} (h : x ∈ effM pan row) : x = wSame ∨ x = wOn ∨ x = wOff := by
  unfold effM at h
  obtain ⟨c, _, rfl⟩ := List.mem_map.mp h
  exact word3 pan c row
theorem set_map_range {α : Type} (f : Nat → α) (n j : Nat) (v : α) : ((List.range n).map f).set j v = (List.range n).map fun c => if c = j then v else f c := by
  refine List.ext_getElem? fun i => ?_
  rw [List.getElem?_set, List.getElem?_map]
  by_cases h : i < n
  · rw [List.getElem?_map, List.getElem?_range h, List.length_map, List.length_range]
    by_cases e : j = i
    · subst e; rw [if_pos rfl, if_pos h]; simp
    · rw [if_neg e]; simp [Ne.symm e]
  · rw [List.getElem?_map, List.getElem?_eq_none (by rw [List.length_range]; omega), List.length_map, List.length_range]
    by_cases e : j = i
    · subst e; rw [if_pos rfl, if_neg h]; rfl
    · rw [if_neg e]; rfl
theorem replicate_map_range {α : Type} (n : Nat) (v : α) : List.replicate n v = (List.range n).map fun _ => v := by
  rw [List.map_const', List.length_range]
def dStrs (l : List Str) : PyData := .tuple (l.map PyData.str)
theorem dpAll_strs {K : PySem.W.Frag} {H : Hp} : ∀ l : List Str, DpAll K H (l.map V.str) (l.map PyData.str)
  | [] => .nil
  | x :: r => .cons (.str x) (dpAll_strs r)
theorem dp_strs {K : PySem.W.Frag} {H : Hp} {q : Addr} {l : List Str} (h : SqT K H q (l.map V.str)) : Dp K H (.ref q) (dStrs l) := .tup h (dpAll_strs l)
section
variable {X : Cx}
def rRepS (K : PySem.W.Frag) : R2 := fun x y H Q => rRep1 K x y H Q ∨ rRepT K x y H Q
theorem op_repS : OpR X (binaryOp .Mult) (rRepS X.K) := by
  intro pins s σ H x y v u Q I rx ry h
  rcases h with h | h
  · exact op_rep1 pins s σ H x y v u Q I rx ry h
  · exact op_repT pins s σ H x y v u Q I rx ry h
end
theorem rep_flat {α : Type} (n : Nat) (v : α) : (List.replicate n [v]).flatten = List.replicate n v := by
  induction n with
  | zero => rfl
  | succ n ih => rw [List.replicate_succ, List.flatten_cons, ih]; rfl
theorem walk_zipT {K : PySem.W.Frag} {a b : Addr} {xs ys : List V} {n : Nat} (hn : n = min xs.length ys.length) : Walk (RZ.ItzT K a b) n (fun H => SqT K H a xs ∧ SqT K H b ys) (YPair (fun i => xs[i]?) (fun i => ys[i]?)) := by
  subst hn
  refine ⟨fun i _ hi q => ?_, fun _ q => ⟨xs, ys, q.1, q.2, by omega⟩, fun i H v H' _ q y => ?_⟩
  · have h1 : i < xs.length := by omega
    have h2 : i < ys.length := by omega
    exact ⟨xs, ys, xs[i], ys[i], q.1, q.2, by simp [h1], by simp [h2]⟩
  · obtain ⟨T, x, z, h1, h2, h3, h4, h5⟩ := y
    exact ⟨T, x, z, h1, h2, h3, h4 xs q.1, h5 ys q.2⟩
theorem str_get {os : List Str} {k : Nat} {x : V} (h : (os.map V.str)[k]? = some x) : ∃ z, os[k]? = some z ∧ x = .str z := by
  rw [List.getElem?_map] at h
  cases e : os[k]? with
  | none => rw [e] at h; cases h
  | some z => rw [e] at h; exact ⟨z, rfl, (Option.some.inj h).symm⟩
theorem int_get {os : List Int} {k : Nat} {x : V} (h : (os.map V.int)[k]? = some x) : ∃ z, os[k]? = some z ∧ x = .int z := by
  rw [List.getElem?_map] at h
  cases e : os[k]? with
  | none => rw [e] at h; cases h
  | some z => rw [e] at h; exact ⟨z, rfl, (Option.some.inj h).symm⟩
theorem joinM_get {xs ys : List Str} {i : Nat} {x y : Str} (hx : xs[i]? = some x) (hy : ys[i]? = some y) : (joinM xs ys)[i]? = some (if y = wSame then x else y) := by
  unfold joinM
  rw [List.getElem?_zipWith, hx, hy]
theorem ixN_nat {n j : Nat} (h : j < n) : ixN n (j : Int) = some j := by
  unfold ixN
  rw [if_pos (by omega), if_pos (by omega)]; rfl
theorem gen_heap {X : Hp} {R : Hp → Prop} (C : Hp → Prop) (hX : C X) (h : ∀ H', C H' → R H') : R X := h X hX
theorem gen_name {i : Nat} {v : V} {σ : L2.St} {X : Hp} {D : L2.St → Hp → Prop} (C : Hp → Prop) (hX : C X) (h : ∀ H', C H' → gName i v σ H' D) : gName i v σ X D := h X hX
theorem tyes {σ : L2.St} {H : Hp} {Q : Bool → Hp → Prop} (h : Q true H) : tYes σ H Q := h
theorem inV_ints {b : Int} (l : List Int) : inV (.int b) (l.map V.int) = decide (b ∈ l) := by
  unfold inV
  rw [List.any_map, Bool.eq_iff_iff, List.any_eq_true, decide_eq_true_eq]
  constructor
  · rintro ⟨x, hx, e⟩
    have e' : x = b := by simpa [eqV] using e
    rw [← e']; exact hx
  · intro h
    exact ⟨b, h, by simp [eqV]⟩
theorem flat_ints : ∀ l : List Int, (l.map V.int).all flatV = true
  | [] => rfl
  | x :: r => by rw [List.map_cons, List.all_cons, flat_ints r]; rfl
end Pr
namespace Pr
open PySem PySem.Spec PyProof.Rows L2
def PanT (K : PySem.W.Frag) (H : Hp) (p : Addr) (pan : List (List Int)) : Prop := ∃ qs : List Addr, SqT K H p (qs.map V.ref) ∧ Paired (fun q l => SqT K H q (l.map V.int)) qs pan
section
variable {K : PySem.W.Frag} {H H' : Hp} {p : Addr} {pan : List (List Int)}
theorem PanT.same (e : Same H H') (h : PanT K H p pan) : PanT K H' p pan :=
  let ⟨qs, h1, h2⟩ := h; ⟨qs, same_sqT e h1, h2.mono fun _ _ x => same_sqT e x⟩
theorem PanAt.t (h : PanAt H p pan) : PanT K H p pan :=
  let ⟨qs, h1, h2⟩ := h; ⟨qs, h1.sq, h2.mono fun _ _ x => x.sq⟩
theorem panT_at (h : PanT K H p pan) {b : Int} (h0 : 0 ≤ b) (h1 : b < (pan.length : Int)) :
    ∃ (qs : List Addr) (q : Addr), SqT K H p (qs.map V.ref) ∧ atI (qs.map V.ref) b = some (.ref q) ∧ SqT K H q ((pan.getD b.toNat []).map V.int) ∧ qs.length = pan.length := by
  obtain ⟨qs, hq, hqs⟩ := h
  obtain ⟨n, rfl⟩ : ∃ n : Nat, b = (n : Int) := ⟨b.toNat, (Int.toNat_of_nonneg h0).symm⟩
  have hn : n < pan.length := by omega
  obtain ⟨q', g1, g2⟩ := paired_get hqs n pan[n] (List.getElem?_eq_getElem hn)
  refine ⟨qs, q', hq, atI_nat (by rw [List.getElem?_map, g1]; rfl), ?_, hqs.length⟩
  rw [Int.toNat_natCast, List.getD_eq_getElem?_getD, List.getElem?_eq_getElem hn]
  exact g2
theorem PanT.len (h : PanT K H p pan) : ∃ xs : List V, SqT K H p xs ∧ xs.length = pan.length :=
  let ⟨qs, h1, h2⟩ := h; ⟨_, h1, by rw [List.length_map, h2.length]⟩
theorem dpAll_panT : ∀ {qs : List Addr} {pan : List (List Int)}, Paired (fun q l => SqT K H q (l.map V.int)) qs pan → DpAll K H (qs.map V.ref) (pan.map dInts)
  | _, _, .nil => .nil
  | _, _, .cons r t => .cons (dp_ints r) (dpAll_panT t)
theorem PanT.dp (h : PanT K H p pan) : Dp K H (.ref p) (dPan pan) := let ⟨_, h1, h2⟩ := h; .tup h1 (dpAll_panT h2)
end
def metB (pan : List (List Int)) (row : List Int) (c : Int) : Prop := c ∈ row ∨ ∃ b ∈ row, c ∈ pan.getD b.toNat []
theorem words_same {pan : List (List Int)} {c : Int} : ∀ (row : List Int) (w : Str), row.foldl (wordM pan c) w = wSame ↔ w = wSame ∧ ¬ metB pan row c
  | [], w => by
    refine ⟨fun h => ⟨h, fun z => z.elim (fun q => by cases q) fun ⟨_, q, _⟩ => by cases q⟩, fun h => h.1⟩
  | b :: r, w => by
    rw [List.foldl_cons, words_same r]
    unfold wordM metB
    by_cases h1 : b = c
    · rw [if_pos h1]
      refine ⟨fun h => absurd h.1.symm same_ne_on, fun h => absurd ?_ h.2⟩
      exact .inl (by rw [h1]; exact List.mem_cons_self)
    · rw [if_neg h1]
      by_cases h2 : c ∈ pan.getD b.toNat []
      · rw [if_pos h2]
        refine ⟨fun h => absurd h.1.symm same_ne_off, fun h => absurd ?_ h.2⟩
        exact .inr ⟨b, List.mem_cons_self, h2⟩
      · rw [if_neg h2]
        refine and_congr_right fun _ => not_congr ⟨fun h => ?_, fun h => ?_⟩
        · rcases h with h | ⟨d, h3, h4⟩
          · exact .inl (List.mem_cons_of_mem _ h)
          · exact .inr ⟨d, List.mem_cons_of_mem _ h3, h4⟩
        · rcases h with h | ⟨d, h3, h4⟩
          · exact .inl ((List.mem_cons.mp h).resolve_left (Ne.symm h1))
          · rcases List.mem_cons.mp h3 with e | e
            · subst e; exact absurd h4 h2
            · exact .inr ⟨d, e, h4⟩
theorem inV_strs {b : Str} (l : List Str) : inV (.str b) (l.map V.str) = decide (b ∈ l) := by
  unfold inV
  rw [List.any_map, Bool.eq_iff_iff, List.any_eq_true, decide_eq_true_eq]
  constructor
  · rintro ⟨x, hx, e⟩
    have e' : x = b := by simpa [eqV] using e
    rw [← e']; exact hx
  · intro h
    exact ⟨b, h, by simp [eqV]⟩
end Pr
namespace Pr
open PySem PySem.Spec PyProof.Rows L2 PySem.W
/-- v is a tuple that holds these numbers -/
def IsTI (h : Heap) (v : Value) (ns : List Int) : Prop :=
  ∃ (a : Addr) (dd : Option Addr) (items : Array Value) (n : Nat) (sl : Array (Option Value)), v = .ref a ∧ h.get? a = some { cls := .type "tuple", dict := dd, data := .seq items n, slots := sl } ∧ IntsAre items.toList ns
theorem IsTI.keeps {h h' : Heap} {v : Value} {ns : List Int} (x : IsTI h v ns) (k : ∀ b o, v = .ref b → h.get? b = some o → h'.get? b = some o) : IsTI h' v ns := by
  obtain ⟨a, dd, items, n, sl, e, g, i⟩ := x
  exact ⟨a, dd, items, n, sl, e, k _ _ e g, i⟩
theorem IsTI.type {M : Model} {h : Heap} {v : Value} {ns : List Int} (x : IsTI h v ns) : Looks M h (typeOf v) (.type "tuple") := by
  obtain ⟨a, dd, items, n, sl, rfl, g, i⟩ := x
  exact (Looks.ld g).andThen .now
section
variable {prog : Program} {w : World} {A : Around} {E : Value → Shared → Prop} {s : Shared}
theorem call_ltT {a b : Addr} {dd dd2 : Option Addr} {items items2 : Array Value} {n n2 : Nat} {sl sl2 : Array (Option Value)} {ns ms : List Int} {Q : Value → Shared → Prop} (ga : s.heap.get? a = some { cls := .type "tuple", dict := dd, data := .seq items n, slots := sl })
    (gb : s.heap.get? b = some { cls := .type "tuple", dict := dd2, data := .seq items2 n2, slots := sl2 }) (ia : IntsAre items.toList ns) (ib : IntsAre items2.toList ms) (iv : Looks (model prog w) s.heap (isInstance (.ref a) (.type "tuple")) true)
    (iu : ∀ M : Model, Looks M s.heap (isInstance (.ref b) (.type "tuple")) true) (h : Q (.bool (HT.lexLt ns ms)) s) : wpAny (model prog w) A (call (.builtin "tuple.__lt__") [.ref a, .ref b]) Q E s := by
  refine wpAny_call (codeAny_call_builtin PySem.F.slot_tuple_lt.plain PySem.F.entry_tuple_lt (@check_slot (model prog w) _ _ _ "tuple.__lt__" "tuple" "__lt__" (.ref a) [.ref b] [] _ (by decide +kernel) (by decide +kernel) iv (PySem.F.args_tuple_lt_2 _ _) ?_))
  refine wpAny_mono (NtL.nt_lt_ints a b (.type "tuple") (.type "tuple") items items2 n n2 dd dd2 sl sl2 ns ms ia ib prog w _ (wants Q E) s ⟨ga, gb, iu, h⟩) (fun fin s' q => ?_) fun _ _ z => z
  cases fin with
  | done f => exact q
  | again c => exact q
theorem lt_ti {v u : Value} {ns ms : List Int} {Q : Bool → Shared → Prop} (hu : A.units < cLine) (hv : IsTI s.heap v ns) (hw : IsTI s.heap u ms) (h : Q (HT.lexLt ns ms) s) : wpAny (model prog w) A (keyLt' oneType' v u) Q E s := by
  have iu : ∀ M : Model, Looks M s.heap (isInstance u (.type "tuple")) true := fun M => (hw.type (M := M)).andThen (Looks.of_pure (by rfl))
  obtain ⟨a, dd, items, n, sl, rfl, ga, ia⟩ := hv
  obtain ⟨b, dd2, items2, n2, sl2, rfl, gb, ib⟩ := hw
  have iv : Looks (model prog w) s.heap (isInstance (.ref a) (.type "tuple")) true := (Looks.ld ga).andThen (Looks.of_pure (by rfl))
  rw [keyLt'_oneType, oneLt'_eq]
  simp only [if_true]
  refine wpAny_bind (wpAny_cRoomFor hu ?_)
  refine wpAny_bind (wpAny_callSpecialIfBound?_slot (T := "tuple") ⟨_, ga, rfl⟩ PySem.F.slot_tuple_lt (call_ltT ga gb ia ib iv iu ?_))
  exact wpAny_truthy_bool h
/-- the kind of keys: the first one is the empty tuple -/
theorem mapM_by {α β : Type} {M : Model} {f : α → Sem β} (g : α → β) : ∀ (l : List α) {Q : List β → Shared → Prop}, (∀ v ∈ l, ∀ (Q' : β → Shared → Prop), Q' (g v) s → wpAny M A (f v) Q' E s) → Q (l.map g) s → wpAny M A (l.mapM f) Q E s
  | [], _, _, h => by rw [List.mapM_nil]; exact wpAny_pure h
  | x :: l, Q, hf, h => by
    rw [List.mapM_cons]
    exact wpAny_bind (hf x (.head _) _ (wpAny_bind (mapM_by g l (Q := fun bs s' => wpAny M A (pure (g x :: bs)) Q E s') (fun v hv => hf v (.tail _ hv)) (wpAny_pure h))))
def firstIn (h : Heap) (v : Value) : Option Value := match v with
  | .ref a => match h.get? a with
    | some ⟨_, _, .seq its _, _⟩ => its[0]?
    | _ => none
  | _ => none
theorem kind_ti {v₁ v₂ : Value} {rest : List Value} {k : Value → List Int} {Q : SortKind → Shared → Prop} (hv : ∀ v ∈ v₁ :: v₂ :: rest, IsTI s.heap v (k v)) (h1 : k v₁ = []) (h : Q oneType' s) :
    wpAny (model prog w) A (keyKind' (v₁ :: v₂ :: rest).toArray) Q E s := by
  rw [kat_kind_eq, List.mapM_toArray, map_eq_pure_bind]
  have e0 : firstIn s.heap v₁ = none := by
    obtain ⟨a, dd, items, n, sl, e, g, i⟩ := hv v₁ List.mem_cons_self
    rw [h1] at i
    have hi := i.length
    subst e
    unfold firstIn
    simp only [g]
    rw [Array.getElem?_eq_none]
    simpa using hi
  refine wpAny_bind (wpAny_bind (mapM_by (firstIn s.heap) _ (fun v hm Q' hq => ?_) (wpAny_pure ?_)))
  · obtain ⟨a, dd, items, n, sl, e, g, i⟩ := hv v hm
    rw [kas_first_eq]
    refine wpAny_bind ((hv v hm).type.here ?_)
    rw [if_neg (by decide)]
    subst e
    unfold firstIn at hq
    simp only [g] at hq
    exact wpAny_bind (listItems_at g rfl (wpAny_pure hq))
  · rw [if_neg (by simp [e0]), if_neg (by simp [e0])]
    rw [oneTypeOnly'_eq, List.mapM_toArray, map_eq_pure_bind]
    refine wpAny_bind (wpAny_bind (wpAny_bind (kas_mapM (r := Value.type "tuple") _ (fun v hm Q' hq => (hv v hm).type.here hq) (wpAny_pure ?_))))
    have hall : ((List.map (fun _ => Value.type "tuple") (v₁ :: v₂ :: rest)).toArray.all fun x => x == Value.type "tuple") = true := by
      simp only [List.all_toArray, List.all_map, List.all_eq_true]
      intro _ _
      rfl
    have h0 : (List.map (fun _ => Value.type "tuple") (v₁ :: v₂ :: rest)).toArray[0]? = some (Value.type "tuple") := by simp
    rw [h0]
    simp only [hall, if_true]
    exact wpAny_pure (wpAny_pure h)
theorem ti_cmp {vs : List Value} {k : Value → List Int} (hu : A.units < cLine) (hv : ∀ v ∈ vs, IsTI s.heap v (k v)) : SrtO.Cmp prog w A s oneType' (fun p => p.1 ∈ vs) (SrtO.lt2 fun v u => HT.lexLt (k v) (k u)) := by
  intro p q hp hq
  exact lt_ti (Q := fun r s' => s' = s ∧ r = HT.lexLt (k p.1) (k q.1)) (E := fun _ _ => False) hu (hv p.1 hp) (hv q.1 hq) ⟨rfl, rfl⟩
theorem ti_sortable {a : Addr} {vs : List Value} {k : Value → List Int} (h2 : 2 ≤ vs.length) (hu : A.units < cLine) (hv : ∀ v ∈ vs, IsTI s.heap v (k v)) (h1 : (vs.head?.map k) = some []) (ha : ∀ v ∈ vs, v ≠ .ref a) :
    SrtO.SortableO prog w A s a vs fun v u => HT.lexLt (k v) (k u) := by
  intro h' keep
  have hv' : ∀ v ∈ vs, IsTI h' v (k v) := fun v hm => (hv v hm).keeps fun b o e g => keep b o (fun z => ha v hm (by rw [e, z])) g
  refine ⟨oneType', fun Q E hq => ?_, ti_cmp (s := { s with heap := h' }) hu hv'⟩
  match vs, h2, hv', h1 with
  | v₁ :: v₂ :: rest, _, hv', h1 => exact kind_ti (s := { s with heap := h' }) (k := k) hv' (by simpa using h1) hq
end
section
variable {X : Cx}
/-- sorted(xs), xs a list of tuples of ints, the first one () -/
def rSortedTI (K : PySem.W.Frag) : List V → Hp → VK → Prop := fun vs H Q => ∃ (a : Addr) (ts : List Addr) (k : Addr → List Int), vs = [V.ref a] ∧ SqL K H a (ts.map V.ref) ∧ (∀ t ∈ ts, SqT K H t ((k t).map V.int)) ∧ (ts.head?.map k) = some [] ∧
  ∀ (ts' : List Addr) (p : Addr), ts'.Perm ts → ts'.Pairwise (fun p q => HT.lexLt (k q) (k p) = false) → H p = none → Q (.ref p) (upd H p (.lst (ts'.map V.ref)))
theorem cr_sortedTI (hu : X.A.units + 64 < cLine) : CallR X (.builtin "sorted") (rSortedTI X.K) := by
  intro pins s σ H vs us Q I r h
  obtain ⟨a, ts, k, rfl, hs, hx, h0, q⟩ := h
  obtain ⟨its, rv, hl, hz⟩ := I.list hs
  obtain ⟨u, rfl, ru⟩ := vals1 r
  obtain rfl : u = Value.ref a := ru
  have ei := nts_of rv
  have hv : ∀ u ∈ its, IsTI s.heap u (k (adO u)) := fun u hm => by
    rw [ei] at hm
    obtain ⟨t, ht, rfl⟩ := List.mem_map.mp hm
    obtain ⟨its2, r2, ⟨⟨cls, dd, data, sl⟩, ho, hc, n, hd⟩, hz2⟩ := I.tuple (hx t ht)
    simp only at hc hd
    subst hc hd
    exact ⟨t, dd, its2.toArray, n, sl, rfl, ho, (by simpa using ints_of_vals r2 : IntsAre its2.toArray.toList (k t))⟩
  have hh : its.head?.map (fun u => k (adO u)) = some [] := by
    rw [ei]
    cases ts with
    | nil => simp at h0
    | cons t ts => simpa [adO] using h0
  refine SrtO.sorted_ord (NtL.swo_lexL fun u => k (adO u)) hl.isList (by rw [← rv.length]; exact hz) (fun h2 h₁ b hb kk => ti_sortable (s := { s with heap := h₁ }) h2 (by simp only [Around.in1_units]; omega) (fun v hm => (hv v hm).keeps fun c o _ e => (kk c o e).2) hh fun v hm z => ?_) fun out h1 h2 => ?_
  · obtain ⟨c, dd, items, n, sl, e, g, i⟩ := hv v hm
    rw [e] at z
    exact (kk c _ g).1 (Value.ref.inj z)
  · have eo : out = (out.map adO).map Value.ref := ref_map fun u hm => by
      have hm' : u ∈ its := h2.perm.mem_iff.mp hm
      rw [ei] at hm'
      obtain ⟨t, _, e⟩ := List.mem_map.mp hm'
      exact ⟨t, e.symm⟩
    have hp : (out.map adO).Perm ts := by
      have p1 := h2.perm.map adO
      rw [ei, ad_map] at p1
      exact p1
    have hs' : (out.map adO).Pairwise (fun p q => HT.lexLt (k q) (k p) = false) := List.pairwise_map.mpr (h1.imp fun {x y} z => z)
    have hlen : ((out.map adO).map V.ref).length ≤ sizeLine := by
      rw [List.length_map, hp.length_eq]
      rw [List.length_map] at hz
      exact hz
    have rvo : Vals ((out.map adO).map V.ref) out := by
      have z := of_nts (out.map adO)
      rw [← eo] at z
      exact z
    obtain ⟨n, hn⟩ := sortedAll_at s.heap its out.toArray
    exact ⟨.ref (s.heap.objs.size + 1), upd H _ (.lst ((out.map adO).map V.ref)), I.laid (t' := s.toks) (fun b o e => sortedAll_old e) (Nat.le_succ _) ⟨hlen, out, n, rvo, hn⟩, rfl, q _ _ hp hs' (I.hok.fresh (Nat.le_succ _))⟩
end
end Pr
namespace Pr
open PySem PySem.Spec PyProof.Rows L2
theorem nodup_few : ∀ (m : Nat) (l : List Int), l.Nodup → (∀ x ∈ l, 0 ≤ x ∧ x < (m : Int)) → l.length ≤ m
  | 0, l, _, h => by
    cases l with
    | nil => exact Nat.le_refl _
    | cons x r => have := h x List.mem_cons_self; omega
  | m + 1, l, hn, h => by
    have ih := nodup_few m (l.erase (m : Int)) (hn.erase _) fun x hx => by
      have h1 := (hn.mem_erase_iff.mp hx)
      have h2 := h x h1.2
      have h3 := h1.1
      omega
    have hl := List.length_erase (a := (m : Int)) (l := l)
    split at hl <;> omega
end Pr
namespace Pr
open PySem PySem.Spec PyProof.Rows L2
end Pr
namespace Pr
open PySem PySem.Spec PyProof.Rows L2
section
variable {X : Cx}
/-- t + u, one way on -/
def rCatS (K : PySem.W.Frag) : R2 := fun x y H Q => ∃ a b xs ys, x = .ref a ∧ y = .ref b ∧ SqT K H a xs ∧ SqT K H b ys ∧ xs.length + ys.length ≤ sizeLine ∧ ∀ p H', Same H H' → SqT K H' p (xs ++ ys) → Q (.ref p) H'
theorem op_catS : OpR X (binaryOp .Add) (rCatS X.K) := by
  intro pins s σ H x y u1 u2 Q I rx ry h
  obtain ⟨a, b, xs, ys, rfl, rfl, ha, hb, hz, q⟩ := h
  refine op_catA pins s σ H _ _ u1 u2 Q I rx ry ⟨a, b, xs, ys, rfl, rfl, ha, hb, hz, fun e => q b H (Same.refl _) ?_, fun _ e => q a H (Same.refl _) ?_, fun _ _ p np => q p _ (same_new np) (.inl (.inl upd_same))⟩
  · rw [e]; exact hb
  · rw [e, List.append_nil]; exact ha
end
end Pr
namespace Pr
open PySem PySem.Spec PyProof.Rows L2
mutual
inductive Dq (K : PySem.W.Frag) (N : Addr → Prop) (H : Hp) : V → PyData → Prop
  | non : Dq K N H .non .none
  | bl (b : Bool) : Dq K N H (.bl b) (.bool b)
  | int (i : Int) : Dq K N H (.int i) (.int i)
  | str (x : Str) : Dq K N H (.str x) (.str x)
  | lst {l : Addr} {xs : List V} {ds : List PyData} : l ≠ sysModules → ¬ N l → H l = some (.lst xs) → DqAll K N H xs ds → Dq K N H (.ref l) (.list ds)
  | tup {l : Addr} {xs : List V} {ds : List PyData} : SqT K H l xs → DqAll K N H xs ds → Dq K N H (.ref l) (.tuple ds)
  | dct0 {l : Addr} : H l = some (.dK []) → Dq K N H (.ref l) (.dict [])
  | dct1 {l : Addr} {x : Str} {i : Int} : H l = some (.dK [(Sum.inr x, .int i)]) → Dq K N H (.ref l) (.dict [(.str x, .int i)])
inductive DqAll (K : PySem.W.Frag) (N : Addr → Prop) (H : Hp) : List V → List PyData → Prop
  | nil : DqAll K N H [] []
  | cons {v : V} {vs : List V} {d : PyData} {ds : List PyData} : Dq K N H v d → DqAll K N H vs ds → DqAll K N H (v :: vs) (d :: ds)
end
section
variable {K : PySem.W.Frag} {N : Addr → Prop} {a c : Addr} {H H' : Hp}
theorem DqAll.length : ∀ {vs : List V} {ds : List PyData}, DqAll K N H vs ds → vs.length = ds.length
  | _, _, .nil => rfl
  | _, _, .cons _ t => by rw [List.length_cons, List.length_cons, t.length]
theorem DqAll.append : ∀ {vs us : List V} {ds es : List PyData}, DqAll K N H vs ds → DqAll K N H us es → DqAll K N H (vs ++ us) (ds ++ es)
  | _, _, _, _, .nil, h => h
  | _, _, _, _, .cons r t, h => .cons r (t.append h)
theorem DqAll.get : ∀ {vs : List V} {ds : List PyData}, DqAll K N H vs ds → ∀ (i : Nat) (v : V), vs[i]? = some v → ∃ d, ds[i]? = some d ∧ Dq K N H v d
  | _, _, .nil, i, v, h => by simp at h
  | _, _, .cons r t, 0, v, h => by simp at h; subst h; exact ⟨_, rfl, r⟩
  | _, _, .cons r t, i + 1, v, h => by
    obtain ⟨d, h1, h2⟩ := t.get i v (by simpa using h)
    exact ⟨d, by simpa using h1, h2⟩
theorem DqAll.take : ∀ (n : Nat) {vs : List V} {ds : List PyData}, DqAll K N H vs ds → DqAll K N H (vs.take n) (ds.take n)
  | 0, _, _, _ => by simpa using DqAll.nil
  | n + 1, _, _, .nil => .nil
  | n + 1, _, _, .cons r t => .cons r (t.take n)
theorem DqAll.drop : ∀ (n : Nat) {vs : List V} {ds : List PyData}, DqAll K N H vs ds → DqAll K N H (vs.drop n) (ds.drop n)
  | 0, _, _, h => h
  | n + 1, _, _, .nil => .nil
  | n + 1, _, _, .cons r t => t.drop n
theorem DqAll.reverse : ∀ {vs : List V} {ds : List PyData}, DqAll K N H vs ds → DqAll K N H vs.reverse ds.reverse
  | _, _, .nil => .nil
  | _, _, .cons r t => by rw [List.reverse_cons, List.reverse_cons]; exact t.reverse.append (.cons r .nil)
mutual
theorem Dq.keep (hs : ∀ l o, ¬ N l → H l = some o → H' l = some o) (ht : ∀ l xs, SqT K H l xs → SqT K H' l xs) (hk : ∀ l kvs, H l = some (.dK kvs) → H' l = some (.dK kvs)) : ∀ (d : PyData) (v : V), Dq K N H v d → Dq K N H' v d
  | .none, _, h => by cases h; exact .non
  | .bool b, _, h => by cases h; exact .bl b
  | .int i, _, h => by cases h; exact .int i
  | .str x, _, h => by cases h; exact .str x
  | .list ds, _, h => by
    cases h with
    | lst h1 h2 e q => exact .lst h1 h2 (hs _ _ h2 e) (Dq.keepAll hs ht hk ds _ q)
  | .tuple ds, _, h => by
    cases h with
    | tup e q => exact .tup (ht _ _ e) (Dq.keepAll hs ht hk ds _ q)
  | .dict kvs, _, h => by
    cases h with
    | dct0 e => exact .dct0 (hk _ _ e)
    | dct1 e => exact .dct1 (hk _ _ e)
theorem Dq.keepAll (hs : ∀ l o, ¬ N l → H l = some o → H' l = some o) (ht : ∀ l xs, SqT K H l xs → SqT K H' l xs) (hk : ∀ l kvs, H l = some (.dK kvs) → H' l = some (.dK kvs)) : ∀ (ds : List PyData) (vs : List V), DqAll K N H vs ds → DqAll K N H' vs ds
  | [], _, h => by cases h; exact .nil
  | d :: ds, _, h => by
    cases h with
    | cons r t => exact .cons (Dq.keep hs ht hk d _ r) (Dq.keepAll hs ht hk ds _ t)
end
theorem Deck.sqT {m : Nat} (D : Deck H a c m) (b : But a c H H') {l : Addr} {xs : List V} (h : SqT K H l xs) : SqT K H' l xs := by
  rcases h with (h | ⟨o, h⟩) | h
  · exact .inl (.inl (b _ _ (D.apart h (fun _ => by intro z; cases z)).1 (D.apart h (fun _ => by intro z; cases z)).2 h))
  · exact .inl (.inr ⟨o, b _ _ (D.apart h (fun _ => by intro z; cases z)).1 (D.apart h (fun _ => by intro z; cases z)).2 h⟩)
  · exact .inr h
theorem Deck.dk {m : Nat} (D : Deck H a c m) (l : Addr) (kvs : List (Key × V)) (h : H l = some (.dK kvs)) : l ≠ a ∧ l ≠ c := D.apart h (fun _ => by intro z; cases z)
theorem apart_N (na : N a) (nc : N c) {l : Addr} (h : ¬ N l) : l ≠ a ∧ l ≠ c := ⟨fun e => h (by rw [e]; exact na), fun e => h (by rw [e]; exact nc)⟩
theorem Dq.but {m : Nat} (na : N a) (nc : N c) (D : Deck H a c m) (b : But a c H H') {v : V} {d : PyData} (h : Dq K N H v d) : Dq K N H' v d :=
  Dq.keep (fun l o h1 e => b l o (apart_N na nc h1).1 (apart_N na nc h1).2 e) (fun _ _ e => D.sqT b e) (fun l kvs e => b _ _ (D.dk l kvs e).1 (D.dk l kvs e).2 e) d v h
theorem DqAll.but {m : Nat} (na : N a) (nc : N c) (D : Deck H a c m) (b : But a c H H') {v : List V} {d : List PyData} (h : DqAll K N H v d) : DqAll K N H' v d :=
  Dq.keepAll (fun l o h1 e => b l o (apart_N na nc h1).1 (apart_N na nc h1).2 e) (fun _ _ e => D.sqT b e) (fun l kvs e => b _ _ (D.dk l kvs e).1 (D.dk l kvs e).2 e) d v h
mutual
theorem Dq.same (e : Same H H') : ∀ (d : PyData) (v : V), Dq K N H v d → Dq K N H' v d
  | .none, _, h => by cases h; exact .non
  | .bool b, _, h => by cases h; exact .bl b
  | .int i, _, h => by cases h; exact .int i
  | .str x, _, h => by cases h; exact .str x
  | .list ds, _, h => by
    cases h with
    | lst h1 h2 q r => exact .lst h1 h2 (e _ _ q) (Dq.sameAll e ds _ r)
  | .tuple ds, _, h => by
    cases h with
    | tup q r => exact .tup (same_sqT e q) (Dq.sameAll e ds _ r)
  | .dict kvs, _, h => by
    cases h with
    | dct0 q => exact .dct0 (e _ _ q)
    | dct1 q => exact .dct1 (e _ _ q)
theorem Dq.sameAll (e : Same H H') : ∀ (ds : List PyData) (vs : List V), DqAll K N H vs ds → DqAll K N H' vs ds
  | [], _, h => by cases h; exact .nil
  | d :: ds, _, h => by
    cases h with
    | cons r t => exact .cons (Dq.same e d _ r) (Dq.sameAll e ds _ t)
end
/-- its built-in type -/
def tyD : PyData → String
  | .none => "NoneType"
  | .bool _ => "bool"
  | .int _ => "int"
  | .str _ => "str"
  | .list _ => "list"
  | .tuple _ => "tuple"
  | .dict _ => "dict"
theorem tyT {l : Addr} {xs : List V} (h : SqT K H l xs) : TyX K H (.ref l) (.type "tuple") := by
  rcases h with (h | ⟨o, h⟩) | ⟨o, its, n, h, hc, _⟩
  · exact .base (.tup h)
  · exact .fTuple h
  · exact .kTuple h hc
theorem Dq.ty {v : V} {d : PyData} (h : Dq K N H v d) : TyX K H v (.type (tyD d)) := by
  cases h with
  | non => exact .base .non
  | bl b => exact .base (.bl b)
  | int i => exact .base (.int i)
  | str x => exact .base (.str x)
  | lst _ _ e _ => exact .base (.lst e)
  | tup e _ => exact tyT e
  | dct0 e => exact .base (.dK e)
  | dct1 e => exact .base (.dK e)
end
section
variable {X : Cx} {pins : List (Addr × Obj)} {σ : L2.St} {H : Hp} {s : Shared} {N : Addr → Prop}
mutual
theorem Dq.reads (I : Inv X pins σ H s) : ∀ (d : PyData) (v : V) (u : Value), Dq X.K N H v d → RelV v u → ∃ as, Reads s.heap u d as ∧ sysModules ∉ as
  | .none, _, _, h, r => by
    cases h; cases r; exact ⟨_, Reads.none, by simp⟩
  | .bool b, _, _, h, r => by
    cases h; cases r; exact ⟨_, Reads.bool b, by simp⟩
  | .int i, _, _, h, r => by
    cases h; obtain ⟨t, rfl⟩ := r; exact ⟨_, Reads.int i t, by simp⟩
  | .str x, _, _, h, r => by
    cases h; obtain ⟨t, rfl⟩ := r; exact ⟨_, Reads.str x t, by simp⟩
  | .list ds, _, _, h, r => by
    cases h with
    | lst h1 _ hs ha =>
      cases r
      obtain ⟨_, its, n, rv, ho⟩ := I.hok _ _ hs
      obtain ⟨as, hr, hn⟩ := Dq.readsAll I ds _ its ha rv
      exact ⟨_, Reads.list ho rfl rfl hr, by simp [hn, Ne.symm h1]⟩
  | .tuple ds, _, _, h, r => by
    cases h with
    | tup hs ha =>
      cases r
      obtain ⟨its, rv, ⟨o, ho, hc, n, hd⟩, _⟩ := I.tuple hs
      obtain ⟨as, hr, hn⟩ := Dq.readsAll I ds _ its ha rv
      exact ⟨_, Reads.tuple ho hc hd hr, hn⟩
  | .dict _, _, _, h, r => by
    cases h with
    | dct0 e =>
      cases r
      obtain ⟨_, ns, vs, kv, o, es, ep, ho, hc, hd, _, hp, _⟩ := I.hok _ _ e
      cases kv
      have he : es.toList = [] := by cases hes : es.toList with
        | nil => rfl
        | cons x y => rw [hes] at hp; cases hp
      have ns' := of_decide_eq_false (show decide (_ = sysModules) = false by simpa using ns)
      refine ⟨_, Reads.dict (kvs := []) ho hc.1 hd (by rw [he]; exact .nil) (by rw [he]; exact .nil), ?_⟩
      simp [Ne.symm ns']
    | @dct1 l x i e =>
      cases r
      obtain ⟨_, ns, vs, kv, o, es, ep, ho, hc, hd, _, hp, _⟩ := I.hok _ _ e
      cases kv with
      | @cons p q l1 l2 kq kr =>
        cases kr
        obtain ⟨h1, t, h2⟩ := kq
        obtain ⟨en, he, hk, hv⟩ : ∃ en, es.toList = [en] ∧ keyIs q.1 en.key = true ∧ en.val = q.2 := by
          cases hes : es.toList with
          | nil => rw [hes] at hp; cases hp
          | cons x y =>
            rw [hes] at hp
            cases hp with
            | cons p1 p2 p3 => cases p3; exact ⟨x, rfl, p1, p2⟩
        have h1' : (Sum.inr x : Key) = q.1 := h1
        rw [← h1'] at hk
        obtain ⟨t', hk'⟩ := Value.isStrOf_shape (show Value.isStrOf x en.key = true from hk)
        have ns' := of_decide_eq_false (show decide (_ = sysModules) = false by simpa using ns)
        refine ⟨_, Reads.dict (kvs := [(.str x, .int i)]) ho hc.1 hd (as := [] ++ []) (bs := [] ++ []) ?_ ?_, ?_⟩
        · rw [he]; show ReadsAll _ [en.key] _ _; rw [hk']; exact .cons (.str x t') .nil
        · rw [he]; show ReadsAll _ [en.val] _ _; rw [hv, h2]; exact .cons (.int i t) .nil
        · simp [Ne.symm ns']
theorem Dq.readsAll (I : Inv X pins σ H s) : ∀ (ds : List PyData) (vs : List V) (us : List Value), DqAll X.K N H vs ds → Vals vs us → ∃ as, ReadsAll s.heap us ds as ∧ sysModules ∉ as
  | [], _, _, h, r => by
    cases h; cases r; exact ⟨_, ReadsAll.nil, by simp⟩
  | d :: ds, _, _, h, r => by
    cases h with
    | cons h1 h2 =>
      cases r with
      | cons r1 r2 =>
        obtain ⟨as, q1, n1⟩ := Dq.reads I d _ _ h1 r1
        obtain ⟨bs, q2, n2⟩ := Dq.readsAll I ds _ _ h2 r2
        exact ⟨_, ReadsAll.cons q1 q2, by simp [n1, n2]⟩
end
end
structure Shq (dep n : Nat) (d : PyData) : Prop where
  sh : d.showable = true
  dp : d.depth ≤ dep
  ln : d.shown.length ≤ n
theorem Shq.mono {dep dep' n n' : Nat} {d : PyData} (h : Shq dep n d) (h1 : dep ≤ dep') (h2 : n ≤ n') : Shq dep' n' d := ⟨h.sh, Nat.le_trans h.dp h1, Nat.le_trans h.ln h2⟩
theorem shqAll {dep n : Nat} : ∀ {ds : List PyData}, (∀ d ∈ ds, Shq dep n d) → PyData.showableAll ds = true ∧ PyData.depthAll ds ≤ dep
  | [], _ => ⟨by simp only [PyData.showableAll], by simp [PyData.depthAll]⟩
  | d :: r, h => by
    obtain ⟨h1, h3⟩ := shqAll (ds := r) fun x hx => h x (List.mem_cons_of_mem _ hx)
    have g := h d List.mem_cons_self
    refine ⟨by simp only [PyData.showableAll, g.sh, h1, Bool.and_self], ?_⟩
    simp only [PyData.depthAll]
    exact Nat.max_le.mpr ⟨g.dp, h3⟩
theorem Shq.tuple {dep n m : Nat} {ds : List PyData} (h : ∀ d ∈ ds, Shq dep n d) (hm : ds.length ≤ m) : Shq (dep + 1) (m * (n + 2) + 3) (.tuple ds) := by
  obtain ⟨h1, h3⟩ := shqAll h
  refine ⟨by simp only [PyData.showable, h1], by simp only [PyData.depth]; omega, ?_⟩
  simp only [PyData.shown]
  rw [shownAll_map]
  have a1 := tupleText_len (ds.map PyData.shown)
  have a2 := piled_le fun d hd => (h d hd).ln
  have a3 : ds.length * (n + 2) ≤ m * (n + 2) := Nat.mul_le_mul_right _ hm
  omega
theorem Shq.list {dep n m : Nat} {ds : List PyData} (h : ∀ d ∈ ds, Shq dep n d) (hm : ds.length ≤ m) : Shq (dep + 1) (m * (n + 2) + 3) (.list ds) := by
  obtain ⟨h1, h3⟩ := shqAll h
  refine ⟨by simp only [PyData.showable, h1], by simp only [PyData.depth]; omega, ?_⟩
  simp only [PyData.shown]
  rw [shownAll_map]
  have a1 := listText_len (ds.map PyData.shown)
  have a2 := piled_le fun d hd => (h d hd).ln
  have a3 : ds.length * (n + 2) ≤ m * (n + 2) := Nat.mul_le_mul_right _ hm
  omega
end Pr
namespace Pr
open PySem PySem.Spec PyProof.Rows L2
section
variable {X : Cx} {es : List Expr} {t : TA} {pos : Pos}
def rListG (K : PySem.W.Frag) : List V → Hp → VK → Prop := fun xs H Q => ∃ p ys, xs = [.ref p] ∧ SqT K H p ys ∧ ∀ l, H l = none → l ≠ sysModules → Q (.ref l) (upd H l (.lst ys))
theorem call_listG : CallR X (.type "list") (rListG X.K) := by
  intro pins s σ H xs us Q I r h
  obtain ⟨p, ys, rfl, hq, q⟩ := h
  obtain ⟨u, rfl, rx⟩ := vals1 r
  cases rx
  obtain ⟨its, r', ⟨o, ho, hc, n, hd⟩, hz⟩ := I.tuple hq
  have hlen := r'.length
  refine call_list_seq p (.inr rfl) ho hc hd (fun h' c' kp e => ?_) (by simp only [List.size_toArray] <;> omega)
  exact ⟨.ref s.heap.objs.size, _, I.laid (t' := s.toks) kp (Nat.le_refl _) (show ObjOk X.prog X.w _ h' _ (.lst ys) from ⟨hz, its, c', r', e⟩), rfl, q _ (I.hok.fresh (Nat.le_refl _)) (Nat.ne_of_gt I.big)⟩
end
end Pr
namespace K09
open PySem PySem.Spec PyProof.Rows L2 Pr
theorem scNo : FnScope ["panel"] ["panel"] (defScope sNo) := ⟨rfl, rfl, rfl, by decide +kernel, rfl, by decide +kernel, by decide +kernel⟩
theorem scPressE : FnScope ["panel", "button", "words", "other"] ["panel", "button"] (defScope sPressE) := ⟨rfl, rfl, rfl, by decide +kernel, rfl, by decide +kernel, by decide +kernel⟩
def nJoin : List Str := ["first", "second", "early", "late"]
theorem scJoin : FnScope nJoin ["first", "second"] (defScope sJoin) := ⟨rfl, rfl, rfl, by decide +kernel, rfl, by decide +kernel, by decide +kernel⟩
theorem scWith : FnScope ["panel", "effect", "button"] ["panel", "effect", "button"] (defScope sWith) := ⟨rfl, rfl, rfl, by decide +kernel, rfl, by decide +kernel, by decide +kernel⟩
theorem scEff : FnScope ["panel", "row", "effect", "button"] ["panel", "row"] (defScope sEff) := ⟨rfl, rfl, rfl, by decide +kernel, rfl, by decide +kernel, by decide +kernel⟩
section
variable {P : Program} {w : World} {K : PySem.W.Frag} {mg : Str → Option Value} {base : Heap}
def spNo (K : PySem.W.Frag) : Sp := fun vs H Q _ => ∃ (p : Addr) (pan : List (List Int)), vs = [.ref p] ∧ PanT K H p pan ∧ Good pan ∧
  ∀ H' t, Same H H' → H' t = some (.tup ((effM pan []).map V.str)) → Q (.ref t) H'
theorem ok_no {f : Addr} {fd : FuncData} {k : Nat} (F : Fun K "no_effect" "no_effect" sNo f fd) (ml : mg "len" = none) : FnOk P w K mg base CX0 (k + 1) f fd ["panel"] (spNo K) := by
  refine F.ok scNo (fun vs H Q E h => ?_) (fun cdv A outer s H vs Q E hr h => ?_)
  · obtain ⟨p, pan, rfl, _⟩ := h
    rfl
  · obtain ⟨p, pan, rfl, hp, hg, q⟩ := h
    refine ⟨_, pss_one (ps_ret (pe_op op_repS (pe_tup (pa_cons pe_str pa_nil)) (pe_callB call_len_seq (by rfl) ml PySem.boot_len (pa_cons (pv 0) pa_nil)))), ?_⟩
    obtain ⟨qs, hq, hqs⟩ := id hp
    have hl : (qs.map V.ref).length = pan.length := by rw [List.length_map, hqs.length]
    have few := hg.few
    have pos := hg.pos
    refine ⟨by show 1 ≤ sizeLine; decide, fun T nT => ?_⟩
    have sT : Same H (upd H T (.tup [.str wSame])) := same_new nT
    refine ⟨.ref p, rfl, p, _, rfl, .inr (same_sqT sT hq), ?_⟩
    rw [hl]
    by_cases e : pan.length = 1
    · refine .inl ⟨T, .str wSame, rfl, .inl (.inl upd_same), .inl ⟨by rw [e]; rfl, q _ T sT ?_⟩⟩
      rw [upd_same, effM_nil, e]; rfl
    · refine .inr ⟨T, (pan.length : Int), _, rfl, rfl, .inl (.inl upd_same), by simp, by omega, by omega, by show 1 ≤ 1000; decide, fun t nt => q _ t (sT.trans (same_new nt)) ?_⟩
      rw [upd_same, rep_flat, effM_nil, List.map_replicate, Int.toNat_natCast]
def spPressE (K : PySem.W.Frag) : Sp := fun vs H Q _ => ∃ (p : Addr) (pan : List (List Int)) (b : Int), vs = [.ref p, .int b] ∧ PanT K H p pan ∧ Good pan ∧ 0 ≤ b ∧ b < (pan.length : Int) ∧
  ∀ H' t, Same H H' → H' t = some (.tup ((pressW pan b).map V.str)) → Q (.ref t) H'
theorem ok_pressE {f fN : Addr} {fd fdN : FuncData} {k : Nat} (F : Fun K "press_effect" "press_effect" sPressE f fd) (FN : Fun K "no_effect" "no_effect" sNo fN fdN) (bN : Binds K fdN ["panel"] []) (gN : mg "no_effect" = some (.ref fN))
    (ml : mg "len" = none) (mli : mg "list" = none) (mt : mg "tuple" = none) : FnOk P w K mg base CX0 (k + 2) f fd ["panel", "button"] (spPressE K) := by
  have GN : FnOk P w K mg base CX0 (k + 1) fN fdN ["panel"] (spNo K) := ok_no FN ml
  refine F.ok scPressE (fun vs H Q E h => ?_) (fun cdv A outer s H vs Q E hr h => ?_)
  · obtain ⟨p, pan, b, rfl, _⟩ := h
    rfl
  · obtain ⟨p, pan, b, rfl, hp, hg, b0, b1, q⟩ := h
    refine ⟨_, pss_cons (ps_set (i := 2) scPressE.nd rfl (.inl rfl) (pe_callTy call_list_of (by rfl) mli (by decide +kernel) (pa_cons (pe_call GN hr (by rfl) gN FN.kp bN .nil pass0 (pa_cons (pv 0) pa_nil)) pa_nil)))
      (pss_cons (ps_asg pe_str (pg_sub (pv 2) (pv 1) set_list))
      (pss_cons (ps_for PassesOwn.never rfl (pi_tup (pe_ix ix_tup (pv 0) (pv 1) (fun _ _ => rfl))) (pg_name (i := 3) scPressE.nd rfl (.inl rfl))
        (pss_one (ps_asg pe_str (pg_sub (pv 2) (pv 3) set_list))))
      (pss_one (ps_ret (pe_callTy call_tuple_of (by rfl) mt (by decide +kernel) (pa_cons (pv 2) pa_nil)))))), ?_⟩
    refine ⟨.ref p, rfl, p, pan, rfl, hp, hg, fun H1 t s1 et => ?_⟩
    refine ⟨t, _, rfl, .inr (.inl (.inl et)), fun W nW => ?_⟩
    have s2 : Same H (upd H1 W (.lst ((effM pan []).map V.str))) := s1.trans (same_new nW)
    have nW' : H W = none := s1.free nW
    obtain ⟨bn, rfl⟩ : ∃ bn : Nat, b = (bn : Int) := ⟨b.toNat, (Int.toNat_of_nonneg b0).symm⟩
    have hbn : bn < pan.length := by omega
    refine ⟨.ref W, rfl, .int (bn : Int), rfl, W, _, _, bn, rfl, rfl, upd_same, ixN_nat (by rw [List.length_map, effM_len]; exact hbn), ?_⟩
    obtain ⟨qs, q', hq, ha, hr', _⟩ := panT_at hp (b := (bn : Int)) b0 b1
    have s3 : Same H (upd (upd H1 W (.lst ((effM pan []).map V.str))) W (.lst (((effM pan []).map V.str).set bn (.str wOn)))) := fun x o e => by
      rw [upd_ne (ne_of_none e nW')]; exact s2 _ _ e
    refine ⟨.ref p, rfl, .int (bn : Int), rfl, p, _, _, .ref q', rfl, rfl, same_sqT s3 hq, ha, q', rfl, ⟨_, same_sqT s3 hr'⟩, ?_⟩
    generalize hl0 : pan.getD ((bn : Int)).toNat [] = l at hr'
    have hin : ∀ x ∈ l, 0 ≤ x ∧ x < (pan.length : Int) := fun x hx => by
      rw [← hl0, Int.toNat_natCast, List.getD_eq_getElem?_getD, List.getElem?_eq_getElem hbn] at hx
      exact hg.rng _ (List.getElem_mem hbn) x hx
    refine for_tup (xs := l.map V.int) (fun i σ H4 => Same H H4 ∧ H4 W = some (.lst (((List.range pan.length).map (onM (l.take i) (bn : Int))).map V.str)) ∧ ∃ x3, σ = [some (.ref p), some (.int (bn : Int)), some (.ref W), x3])
      ⟨s3, ?_, none, rfl⟩ (fun i σ H4 _ hP => same_sqT hP.1 hr') (fun i x σ H4 hx hP => ?_) (fun σ H4 hP => ?_)
    · rw [upd_same, effM_nil, replicate_map_range, List.map_map, set_map_range, List.map_map]
      refine congrArg _ (congrArg _ (List.map_congr_left fun c _ => ?_))
      show (if c = bn then V.str wOn else V.str wSame) = V.str (onM [] (bn : Int) c)
      unfold onM
      have e0 : ¬ ((c : Int) ∈ ([] : List Int)) := by simp
      by_cases e : c = bn
      · have e1 : (c : Int) = (bn : Int) := by omega
        rw [if_pos e, if_neg e0, if_pos e1]
      · have e1 : ¬ (c : Int) = (bn : Int) := by omega
        rw [if_neg e, if_neg e0, if_neg e1]
    · obtain ⟨s4, eW, x3, rfl⟩ := hP
      obtain ⟨z, hz, rfl⟩ := int_get hx
      have hzr := hin z (List.mem_of_getElem? hz)
      obtain ⟨zn, rfl⟩ : ∃ zn : Nat, z = (zn : Int) := ⟨z.toNat, (Int.toNat_of_nonneg hzr.1).symm⟩
      refine ⟨.ref W, rfl, .int (zn : Int), rfl, W, _, _, zn, rfl, rfl, eW, ixN_nat (by rw [List.length_map, List.length_map, List.length_range]; omega), ?_, ?_, _, rfl⟩
      · intro b o e
        rw [upd_ne (ne_of_none e nW')]; exact s4 _ _ e
      · rw [upd_same, List.map_map, set_map_range, List.map_map]
        refine congrArg _ (congrArg _ (List.map_congr_left fun c _ => ?_))
        show (if c = zn then V.str wOff else V.str (onM (l.take i) (bn : Int) c)) = V.str (onM (l.take (i + 1)) (bn : Int) c)
        unfold onM
        rw [List.take_add_one, hz]
        by_cases e : c = zn
        · rw [if_pos e, if_pos (by rw [e]; simp)]
        · have hne : (c : Int) ≠ (zn : Int) := by omega
          rw [if_neg e]
          congr 1
          by_cases e2 : (c : Int) ∈ l.take i
          · rw [if_pos e2, if_pos (List.mem_append_left _ e2)]
          · rw [if_neg e2, if_neg fun h => (List.mem_append.mp h).elim e2 fun h => hne (by simpa using h)]
    · obtain ⟨s4, eW, x3, rfl⟩ := hP
      rw [List.length_map, List.take_length] at eW
      refine ⟨.ref W, rfl, W, _, rfl, .inl ⟨.inl (.inl eW), fun t nt => q _ t (s4.trans (same_new nt)) ?_⟩⟩
      rw [upd_same]
      unfold pressW
      rw [hl0]
def spJoin (K : PySem.W.Frag) : Sp := fun vs H Q _ => ∃ (a b : Addr) (xs ys : List Str), vs = [.ref a, .ref b] ∧ SqT K H a (xs.map V.str) ∧ SqT K H b (ys.map V.str) ∧ xs.length = ys.length ∧ ys.length ≤ 100 ∧
  ∀ H' t, Same H H' → H' t = some (.tup ((joinM xs ys).map V.str)) → Q (.ref t) H'
theorem ok_join {f : Addr} {fd : FuncData} {k : Nat} (F : Fun K "joined_effect" "joined_effect" sJoin f fd) (mz : mg "zip" = none) (mt : mg "tuple" = none) : FnOk P w K mg base CX0 (k + 1) f fd ["first", "second"] (spJoin K) := by
  refine F.ok scJoin (fun vs H Q E h => ?_) (fun cdv A outer s H vs Q E hr h => ?_)
  · obtain ⟨a, b, xs, ys, rfl, _⟩ := h
    rfl
  · obtain ⟨a, b, xs, ys, rfl, ha, hb, hl, few, q⟩ := h
    refine ⟨_, pss_one (ps_ret (pe_callTy call_tuple_of (by rfl) mt (by decide +kernel) (pa_cons
      (pe_lc (own := [("early", 2), ("late", 3)]) (g := gTup K 2 (gCons (gName 2) (gCons (gName 3) gNil))) (tt := tYes) rfl scJoin.nd (RZ.pi_zipA (by rfl) mz (pa_cons (pv 0) (pa_cons (pv 1) pa_nil)))
        (blkOk_by (own := [("early", 2), ("late", 3)]) (N := nJoin) (sc := defScope sJoin) (by decide +kernel))
        (fun _ _ _ _ _ => pg_tup rfl (pgs_cons (pg_name (i := 2) scJoin.nd rfl (Or.inl rfl)) (pgs_cons (pg_name (i := 3) scJoin.nd rfl (Or.inl rfl)) pgs_nil)))
        (fun _ _ _ _ _ => pts_nil)
        (fun _ _ _ _ _ => pe_ifExp (pt_cmpR op_eq (pv 3) pe_str (nomark _)) (pv 2) (pv 3))) pa_nil))), ?_⟩
    refine ⟨.ref a, rfl, .ref b, rfl, a, b, _, _, rfl, .inr ⟨ha, hb, fun D nD => ?_⟩⟩
    have hjl := joinM_len hl
    refine lc_it (walk_zipT (n := ys.length) (xs := xs.map V.str) (ys := ys.map V.str) (by rw [List.length_map, List.length_map, hl, Nat.min_self])) (fun i H3 => Same H H3 ∧ H3 D = some (.lst (((joinM xs ys).take i).map V.str))) ⟨same_new nD, upd_same⟩
      (fun i H3 _ hP => ⟨same_sqT hP.1 ha, same_sqT hP.1 hb⟩) (fun i x H3 H4 hi hP hY => ?_) (fun H3 hP => ?_)
    · obtain ⟨s3, eD⟩ := hP
      obtain ⟨T, x1, x2, rfl, nT, rfl, e1, e2⟩ := hY
      obtain ⟨y1, f1, rfl⟩ := str_get e1
      obtain ⟨y2, f2, rfl⟩ := str_get e2
      have sT : Same H3 (upd H3 T (.tup [.str y1, .str y2])) := same_new nT
      have eD4 := sT _ _ eD
      have g := joinM_get f1 f2
      have fin : ∀ v : V, v = .str (if y2 = wSame then y1 else y2) → ∃ acc, (upd H3 T (.tup [.str y1, .str y2])) D = some (.lst acc) ∧ acc.length < sizeLine ∧ Same H (upd (upd H3 T (.tup [.str y1, .str y2])) D (.lst (acc ++ [v]))) ∧
          (upd (upd H3 T (.tup [.str y1, .str y2])) D (.lst (acc ++ [v]))) D = some (.lst (((joinM xs ys).take (i + 1)).map V.str)) := by
        intro v hv
        refine ⟨_, eD4, ?_, ?_, ?_⟩
        · rw [List.length_map, List.length_take]; exact small1000 (by omega)
        · intro b' o e
          rw [upd_ne (ne_of_none e nD)]
          exact sT _ _ (s3 _ _ e)
        · rw [upd_same, List.take_add_one, g, List.map_append, hv]; rfl
      refine ⟨T, _, rfl, .inl (.inl upd_same), rfl, _, _, rfl, _, _, rfl, rfl, rfl, tyes (iteT ⟨.str y2, rfl, rfl, _, rfl, ite2 (fun e => ?_) (fun e => ?_)⟩)⟩
      · have e' : y2 = wSame := V.str.inj (of_decide_eq_true e)
        exact ⟨.str y1, rfl, fin _ (by rw [if_pos e'])⟩
      · have e' : y2 ≠ wSame := fun z => e (by rw [z]; exact decide_eq_true rfl)
        exact ⟨.str y2, rfl, fin _ (by rw [if_neg e'])⟩
    · obtain ⟨s3, eD⟩ := hP
      rw [List.take_of_length_le (by rw [hjl]; exact Nat.le_refl _)] at eD
      refine ⟨D, _, rfl, .inl ⟨.inl (.inl eD), fun t nt => ?_⟩⟩
      exact q _ t (s3.trans (same_new nt)) upd_same
def spWith (K : PySem.W.Frag) : Sp := fun vs H Q _ => ∃ (p t : Addr) (pan : List (List Int)) (xs : List Str) (b : Int), vs = [.ref p, .ref t, .int b] ∧ PanT K H p pan ∧ Good pan ∧ SqT K H t (xs.map V.str) ∧ xs.length = pan.length ∧ 0 ≤ b ∧ b < (pan.length : Int) ∧
  ∀ H' u, Same H H' → H' u = some (.tup ((joinM xs (pressW pan b)).map V.str)) → Q (.ref u) H'
theorem ok_with {f fN fP fJ : Addr} {fd fdN fdP fdJ : FuncData} {k : Nat} (F : Fun K "effect_with_press" "effect_with_press" sWith f fd) (FN : Fun K "no_effect" "no_effect" sNo fN fdN) (bN : Binds K fdN ["panel"] []) (gN : mg "no_effect" = some (.ref fN))
    (FP : Fun K "press_effect" "press_effect" sPressE fP fdP) (bP : Binds K fdP ["panel", "button"] []) (gP : mg "press_effect" = some (.ref fP))
    (FJ : Fun K "joined_effect" "joined_effect" sJoin fJ fdJ) (bJ : Binds K fdJ ["first", "second"] []) (gJ : mg "joined_effect" = some (.ref fJ))
    (ml : mg "len" = none) (mli : mg "list" = none) (mt : mg "tuple" = none) (mz : mg "zip" = none) : FnOk P w K mg base CX0 (k + 3) f fd ["panel", "effect", "button"] (spWith K) := by
  have GP : FnOk P w K mg base CX0 (k + 2) fP fdP ["panel", "button"] (spPressE K) := ok_pressE FP FN bN gN ml mli mt
  have GJ : FnOk P w K mg base CX0 (k + 2) fJ fdJ ["first", "second"] (spJoin K) := ok_join FJ mz mt
  refine F.ok scWith (fun vs H Q E h => ?_) (fun cdv A outer s H vs Q E hr h => ?_)
  · obtain ⟨p, t, pan, xs, b, rfl, _⟩ := h
    rfl
  · obtain ⟨p, t, pan, xs, b, rfl, hp, hg, ht, hxl, b0, b1, q⟩ := h
    refine ⟨_, pss_one (ps_ret (pe_call GJ hr (by rfl) gJ FJ.kp bJ .nil pass0 (pa_cons (pv 1) (pa_cons (pe_call GP hr (by rfl) gP FP.kp bP .nil pass0 (pa_cons (pv 0) (pa_cons (pv 2) pa_nil))) pa_nil)))), ?_⟩
    have few := hg.few
    refine ⟨.ref t, rfl, .ref p, rfl, .int b, rfl, p, pan, b, rfl, hp, hg, b0, b1, fun H1 u s1 eu => ?_⟩
    exact ⟨t, u, xs, pressW pan b, rfl, same_sqT s1 ht, .inl (.inl eu), by rw [pressW_len, hxl], by rw [pressW_len]; omega, fun H2 v s2 ev => q _ v (s1.trans s2) ev⟩
def spEff (K : PySem.W.Frag) : Sp := fun vs H Q _ => ∃ (p r : Addr) (pan : List (List Int)) (row : List Int), vs = [.ref p, .ref r] ∧ PanT K H p pan ∧ Good pan ∧ SqT K H r (row.map V.int) ∧ (∀ x ∈ row, 0 ≤ x ∧ x < (pan.length : Int)) ∧
  ∀ H' u, Same H H' → H' u = some (.tup ((effM pan row).map V.str)) → Q (.ref u) H'
theorem ok_eff {f fN fP fJ fW : Addr} {fd fdN fdP fdJ fdW : FuncData} {k : Nat} (F : Fun K "effect_of" "effect_of" sEff f fd) (FN : Fun K "no_effect" "no_effect" sNo fN fdN) (bN : Binds K fdN ["panel"] []) (gN : mg "no_effect" = some (.ref fN))
    (FP : Fun K "press_effect" "press_effect" sPressE fP fdP) (bP : Binds K fdP ["panel", "button"] []) (gP : mg "press_effect" = some (.ref fP))
    (FJ : Fun K "joined_effect" "joined_effect" sJoin fJ fdJ) (bJ : Binds K fdJ ["first", "second"] []) (gJ : mg "joined_effect" = some (.ref fJ))
    (FW : Fun K "effect_with_press" "effect_with_press" sWith fW fdW) (bW : Binds K fdW ["panel", "effect", "button"] []) (gW : mg "effect_with_press" = some (.ref fW))
    (ml : mg "len" = none) (mli : mg "list" = none) (mt : mg "tuple" = none) (mz : mg "zip" = none) : FnOk P w K mg base CX0 (k + 4) f fd ["panel", "row"] (spEff K) := by
  have GN : FnOk P w K mg base CX0 (k + 3) fN fdN ["panel"] (spNo K) := ok_no FN ml
  have GW : FnOk P w K mg base CX0 (k + 3) fW fdW ["panel", "effect", "button"] (spWith K) := ok_with FW FN bN gN FP bP gP FJ bJ gJ ml mli mt mz
  refine F.ok scEff (fun vs H Q E h => ?_) (fun cdv A outer s H vs Q E hr h => ?_)
  · obtain ⟨p, r, pan, row, rfl, _⟩ := h
    rfl
  · obtain ⟨p, r, pan, row, rfl, hp, hg, hrow, hin, q⟩ := h
    refine ⟨_, pss_cons (ps_set (i := 2) scEff.nd rfl (.inl rfl) (pe_call GN hr (by rfl) gN FN.kp bN .nil pass0 (pa_cons (pv 0) pa_nil)))
      (pss_cons (ps_for PassesOwn.never rfl (pi_tup (pv 1)) (pg_name (i := 3) scEff.nd rfl (.inl rfl))
        (pss_one (ps_set (i := 2) scEff.nd rfl (.inl rfl) (pe_call GW hr (by rfl) gW FW.kp bW .nil pass0 (pa_cons (pv 0) (pa_cons (pv 2) (pa_cons (pv 3) pa_nil)))))))
      (pss_one (ps_ret (pv 2)))), ?_⟩
    refine ⟨.ref p, rfl, p, pan, rfl, hp, hg, fun H1 t s1 et => ?_⟩
    refine ⟨.ref r, rfl, r, rfl, ⟨_, same_sqT s1 hrow⟩, ?_⟩
    refine for_tup (xs := row.map V.int) (fun i σ H2 => Same H H2 ∧ ∃ u x3, H2 u = some (.tup ((effM pan (row.take i)).map V.str)) ∧ σ = [some (.ref p), some (.ref r), some (.ref u), x3])
      ⟨s1, t, _, et, rfl⟩ (fun i σ H2 _ hP => same_sqT hP.1 hrow) (fun i x σ H2 hx hP => ?_) (fun σ H2 hP => ?_)
    · obtain ⟨s2, u, x3, eu, rfl⟩ := hP
      obtain ⟨b, hb, rfl⟩ := int_get hx
      have hbr := hin b (List.mem_of_getElem? hb)
      refine ⟨.ref p, rfl, .ref u, rfl, .int b, rfl, p, u, pan, _, b, rfl, hp.same s2, hg, .inl (.inl eu), effM_len _ _, hbr.1, hbr.2, fun H3 v s3 ev => ⟨s2.trans s3, v, _, ?_, rfl⟩⟩
      rw [ev, eff_take hg hb hbr.1 hbr.2]
    · obtain ⟨s2, u, x3, eu, rfl⟩ := hP
      rw [List.length_map, List.take_length] at eu
      exact ⟨.ref u, rfl, q _ u s2 eu⟩
end
end K09
namespace Pr
open PySem PySem.Spec PyProof.Rows L2
/-- n items of which P holds -/
def AllP (P : PyData → Prop) (n : Nat) (ds : List PyData) : Prop := ds.length = n ∧ ∀ d ∈ ds, P d
/-- a tuple of at most n items of which P holds -/
def TupP (P : PyData → Prop) (n : Nat) (d : PyData) : Prop := ∃ ds, d = .tuple ds ∧ ds.length ≤ n ∧ ∀ x ∈ ds, P x
theorem AllP.nil {P : PyData → Prop} : AllP P 0 [] := ⟨rfl, fun _ h => by cases h⟩
theorem AllP.cons {P : PyData → Prop} {n : Nat} {d : PyData} {ds : List PyData} (h : P d) (r : AllP P n ds) : AllP P (n + 1) (d :: ds) :=
  ⟨by rw [List.length_cons, r.1], fun x hx => by
    rcases List.mem_cons.mp hx with rfl | hx
    · exact h
    · exact r.2 x hx⟩
theorem AllP.append {P : PyData → Prop} {n m : Nat} {ds es : List PyData} (h : AllP P n ds) (r : AllP P m es) : AllP P (n + m) (ds ++ es) :=
  ⟨by rw [List.length_append, h.1, r.1], fun x hx => (List.mem_append.mp hx).elim (h.2 x) (r.2 x)⟩
theorem AllP.mono {P P' : PyData → Prop} {n : Nat} {ds : List PyData} (h : AllP P n ds) (f : ∀ d, P d → P' d) : AllP P' n ds := ⟨h.1, fun d hd => f d (h.2 d hd)⟩
theorem TupP.mono {P P' : PyData → Prop} {n m : Nat} {d : PyData} (h : TupP P n d) (f : ∀ d, P d → P' d) (hm : n ≤ m) : TupP P' m d :=
  let ⟨ds, e, l, q⟩ := h; ⟨ds, e, Nat.le_trans l hm, fun x hx => f x (q x hx)⟩
end Pr
namespace Pr
open PySem PySem.Spec PyProof.Rows L2
def isB : PyData → Bool
  | .bool _ => true
  | _ => false
theorem isB_kit {K : PySem.W.Frag} (d : PyData) : PySem.W.kitOne K (.type (tyD d)) (.type "bool") = some (isB d) := by
  cases d with
  | none => exact kit_ty (show kitB "NoneType" "bool" = some false by decide +kernel)
  | bool _ => exact kit_ty (show kitB "bool" "bool" = some true by decide +kernel)
  | int _ => exact kit_ty (show kitB "int" "bool" = some false by decide +kernel)
  | str _ => exact kit_ty (show kitB "str" "bool" = some false by decide +kernel)
  | list _ => exact kit_ty (show kitB "list" "bool" = some false by decide +kernel)
  | tuple _ => exact kit_ty (show kitB "tuple" "bool" = some false by decide +kernel)
  | dict _ => exact kit_ty (show kitB "dict" "bool" = some false by decide +kernel)
def isI : PyData → Bool
  | .bool _ => true
  | .int _ => true
  | _ => false
theorem isI_kit {K : PySem.W.Frag} (d : PyData) : PySem.W.kitOne K (.type (tyD d)) (.type "int") = some (isI d) := by
  cases d with
  | none => exact kit_ty (show kitB "NoneType" "int" = some false by decide +kernel)
  | bool _ => exact kit_ty (show kitB "bool" "int" = some true by decide +kernel)
  | int _ => exact kit_ty (show kitB "int" "int" = some true by decide +kernel)
  | str _ => exact kit_ty (show kitB "str" "int" = some false by decide +kernel)
  | list _ => exact kit_ty (show kitB "list" "int" = some false by decide +kernel)
  | tuple _ => exact kit_ty (show kitB "tuple" "int" = some false by decide +kernel)
  | dict _ => exact kit_ty (show kitB "dict" "int" = some false by decide +kernel)
def isT : PyData → Bool
  | .tuple _ => true
  | _ => false
theorem isT_kit {K : PySem.W.Frag} (d : PyData) : PySem.W.kitOne K (.type (tyD d)) (.type "tuple") = some (isT d) := by
  cases d with
  | none => exact kit_ty (show kitB "NoneType" "tuple" = some false by decide +kernel)
  | bool _ => exact kit_ty (show kitB "bool" "tuple" = some false by decide +kernel)
  | int _ => exact kit_ty (show kitB "int" "tuple" = some false by decide +kernel)
  | str _ => exact kit_ty (show kitB "str" "tuple" = some false by decide +kernel)
  | list _ => exact kit_ty (show kitB "list" "tuple" = some false by decide +kernel)
  | tuple _ => exact kit_ty (show kitB "tuple" "tuple" = some true by decide +kernel)
  | dict _ => exact kit_ty (show kitB "dict" "tuple" = some false by decide +kernel)
def isBtn (n : Int) : PyData → Bool
  | .int i => decide (0 ≤ i) && decide (i < n)
  | _ => false
theorem eqv_intsL : ∀ (ns ms : List Int), PyData.eqvAll (ns.map PyData.int) (ms.map PyData.int) = decide (ns = ms)
  | [], [] => by simp [PyData.eqvAll]
  | [], _ :: _ => by simp [PyData.eqvAll]
  | _ :: _, [] => by simp [PyData.eqvAll]
  | x :: r, y :: t => by
    simp only [List.map_cons, PyData.eqvAll, PyData.eqv, eqv_intsL r t]
    by_cases h : x = y <;> by_cases h2 : r = t <;> simp [h, h2]
theorem canLay_ints : ∀ ns : List Int, PyData.canLayAll0 (ns.map PyData.int) = true ∧ PyData.depthAll (ns.map PyData.int) = 0
  | [] => ⟨by simp [PyData.canLayAll0], by simp [PyData.depthAll]⟩
  | x :: r => by
    obtain ⟨h1, h2⟩ := canLay_ints r
    exact ⟨by simp [PyData.canLayAll0, PyData.canLay0, h1], by simp [PyData.depthAll, PyData.depth, h2]⟩
end Pr
namespace Pr
open PySem PySem.Spec PyProof.Rows L2
end Pr
namespace Pr
open PySem PySem.Spec PyProof.Rows L2
mutual
def lf : PyData → Bool
  | .list _ => false
  | .dict _ => false
  | .tuple ds => lfAll ds
  | .none => true
  | .bool _ => true
  | .int _ => true
  | .str _ => true
def lfAll : List PyData → Bool
  | [] => true
  | d :: r => lf d && lfAll r
end
theorem lfAll_of {ds : List PyData} (h : ∀ d ∈ ds, lf d = true) : lfAll ds = true := by
  induction ds with
  | nil => simp [lfAll]
  | cons d r ih => simp [lfAll, h d List.mem_cons_self, ih fun x hx => h x (List.mem_cons_of_mem _ hx)]
theorem lf_tup {ds : List PyData} (h : ∀ d ∈ ds, lf d = true) : lf (.tuple ds) = true := by simp only [lf]; exact lfAll_of h
theorem lf_ints (l : List Int) : lf (dInts l) = true := lf_tup fun d hd => by
  obtain ⟨x, _, rfl⟩ := List.mem_map.mp hd
  simp only [lf]
theorem lf_pan (p : List (List Int)) : lf (dPan p) = true := lf_tup fun d hd => by
  obtain ⟨x, _, rfl⟩ := List.mem_map.mp hd
  exact lf_ints x
theorem lf_strs (l : List Str) : lf (dStrs l) = true := lf_tup fun d hd => by
  obtain ⟨x, _, rfl⟩ := List.mem_map.mp hd
  simp only [lf]
def Kp (H H' : Hp) : Prop := (∀ b xs, H b = some (.tup xs) → H' b = some (.tup xs)) ∧ ∀ b o u, H b = some (.frz o u) → H' b = some (.frz o u)
theorem Kp.refl (H : Hp) : Kp H H := ⟨fun _ _ h => h, fun _ _ _ h => h⟩
theorem Kp.trans {H H1 H2 : Hp} (x : Kp H H1) (y : Kp H1 H2) : Kp H H2 := ⟨fun b xs h => y.1 b xs (x.1 b xs h), fun b o u h => y.2 b o u (x.2 b o u h)⟩
theorem Kp.of {H H' : Hp} (x : Same H H') : Kp H H' := ⟨fun b xs h => x b _ h, fun b o u h => x b _ h⟩
theorem Kp.upd {H : Hp} {D : Addr} {xs : List V} {o : HO} (h : H D = some (.lst xs)) : Kp H (upd H D o) :=
  ⟨fun b ys e => by rw [upd_ne (ne_of e h (by intro z; cases z))]; exact e, fun b q u e => by rw [upd_ne (ne_of e h (by intro z; cases z))]; exact e⟩
theorem Kp.but {H H' : Hp} {a c : Addr} {m : Nat} (d : Deck H a c m) (b : But a c H H') : Kp H H' :=
  ⟨fun p xs e => let q := d.apart e (fun _ => by intro z; cases z); b _ _ q.1 q.2 e, fun p o u e => let q := d.apart e (fun _ => by intro z; cases z); b _ _ q.1 q.2 e⟩
theorem FT.kp {H H' : Hp} {a : Addr} {xs : List V} (e : Kp H H') (h : FT H a xs) : FT H' a xs := let ⟨o, q, z⟩ := h; ⟨o, e.2 _ _ _ q, z⟩
theorem PanAt.kp {H H' : Hp} {p : Addr} {pan : List (List Int)} (e : Kp H H') (h : PanAt H p pan) : PanAt H' p pan :=
  let ⟨qs, h1, h2⟩ := h; ⟨qs, h1.kp e, h2.mono fun _ _ x => x.kp e⟩
section
variable {K : PySem.W.Frag} {H H' : Hp}
theorem sqT_kp {a : Addr} {xs : List V} (e : Kp H H') (h : SqT K H a xs) : SqT K H' a xs := by
  rcases h with (h | ⟨o, h⟩) | h
  · exact .inl (.inl (e.1 _ _ h))
  · exact .inl (.inr ⟨o, e.2 _ _ _ h⟩)
  · exact .inr h
mutual
theorem dp_same (e : Same H H') : ∀ (d : PyData) (v : V), Dp K H v d → Dp K H' v d
  | .none, _, h => by cases h; exact .non
  | .bool _, _, h => by cases h; exact .bl _
  | .int _, _, h => by cases h; exact .int _
  | .str _, _, h => by cases h; exact .str _
  | .list ds, _, h => by cases h with | lst q r => exact .lst (e.seq q) (dpAll_same e ds _ r)
  | .tuple ds, _, h => by cases h with | tup q r => exact .tup (same_sqT e q) (dpAll_same e ds _ r)
  | .dict _, _, h => by cases h
theorem dpAll_same (e : Same H H') : ∀ (ds : List PyData) (vs : List V), DpAll K H vs ds → DpAll K H' vs ds
  | [], _, h => by cases h; exact .nil
  | d :: r, _, h => by cases h with | cons x y => exact .cons (dp_same e d _ x) (dpAll_same e r _ y)
end
mutual
theorem dp_kp (e : Kp H H') : ∀ (d : PyData) (v : V), lf d = true → Dp K H v d → Dp K H' v d
  | .none, _, _, h => by cases h; exact .non
  | .bool _, _, _, h => by cases h; exact .bl _
  | .int _, _, _, h => by cases h; exact .int _
  | .str _, _, _, h => by cases h; exact .str _
  | .list ds, _, z, h => by simp [lf] at z
  | .tuple ds, _, z, h => by cases h with | tup q r => exact .tup (sqT_kp e q) (dpAll_kp e ds _ (by simpa [lf] using z) r)
  | .dict _, _, _, h => by cases h
theorem dpAll_kp (e : Kp H H') : ∀ (ds : List PyData) (vs : List V), lfAll ds = true → DpAll K H vs ds → DpAll K H' vs ds
  | [], _, _, h => by cases h; exact .nil
  | d :: r, _, z, h => by
    simp only [lfAll, Bool.and_eq_true] at z
    cases h with | cons x y => exact .cons (dp_kp e d _ z.1 x) (dpAll_kp e r _ z.2 y)
end
theorem _root_.L2.Dp.sm {d : PyData} {v : V} (h : Dp K H v d) (e : Same H H') : Dp K H' v d := dp_same e d v h
theorem _root_.L2.DpAll.sm {ds : List PyData} {vs : List V} (h : DpAll K H vs ds) (e : Same H H') : DpAll K H' vs ds := dpAll_same e ds vs h
theorem _root_.L2.Dp.kp {d : PyData} {v : V} (h : Dp K H v d) (e : Kp H H') (z : lf d = true := by first | exact lf_pan _ | exact lf_ints _ | exact lf_strs _ | rfl | assumption) : Dp K H' v d := dp_kp e d v z h
theorem _root_.L2.DpAll.length {ds : List PyData} : ∀ {vs : List V}, DpAll K H vs ds → vs.length = ds.length := by
  induction ds with
  | nil => intro vs h; cases h; rfl
  | cons d r ih => intro vs h; cases h with | cons x y => simp [ih y]
theorem _root_.L2.DpAll.get {ds : List PyData} : ∀ {vs : List V}, DpAll K H vs ds → ∀ (i : Nat) (d : PyData), ds[i]? = some d → ∃ v, vs[i]? = some v ∧ Dp K H v d := by
  induction ds with
  | nil => intro vs h i d e; simp at e
  | cons d' r ih =>
    intro vs h i d e
    cases h with
    | cons x y =>
      cases i with
      | zero => simp at e; subst e; exact ⟨_, rfl, x⟩
      | succ i => obtain ⟨v, h1, h2⟩ := ih y i d (by simpa using e); exact ⟨v, by simpa using h1, h2⟩
theorem _root_.L2.DpAll.append {d1 d2 : List PyData} : ∀ {v1 v2 : List V}, DpAll K H v1 d1 → DpAll K H v2 d2 → DpAll K H (v1 ++ v2) (d1 ++ d2) := by
  induction d1 with
  | nil => intro v1 v2 h g; cases h; exact g
  | cons d r ih => intro v1 v2 h g; cases h with | cons x y => exact .cons x (ih y g)
theorem _root_.L2.DpAll.take {ds : List PyData} : ∀ {vs : List V} (n : Nat), DpAll K H vs ds → DpAll K H (vs.take n) (ds.take n) := by
  induction ds with
  | nil => intro vs n h; cases h; simp; exact .nil
  | cons d r ih =>
    intro vs n h
    cases h with
    | cons x y =>
      cases n with
      | zero => simp; exact .nil
      | succ n => simpa using DpAll.cons x (ih n y)
theorem _root_.L2.DpAll.drop {ds : List PyData} : ∀ {vs : List V} (n : Nat), DpAll K H vs ds → DpAll K H (vs.drop n) (ds.drop n) := by
  induction ds with
  | nil => intro vs n h; cases h; simp; exact .nil
  | cons d r ih =>
    intro vs n h
    cases h with
    | cons x y =>
      cases n with
      | zero => simpa using DpAll.cons x y
      | succ n => simpa using ih n y
theorem _root_.L2.DpAll.reverse {ds : List PyData} : ∀ {vs : List V}, DpAll K H vs ds → DpAll K H vs.reverse ds.reverse := by
  induction ds with
  | nil => intro vs h; cases h; exact .nil
  | cons d r ih =>
    intro vs h
    cases h with
    | cons x y => rw [List.reverse_cons, List.reverse_cons]; exact DpAll.append (ih y) (.cons x .nil)
theorem dpAll_intsV : ∀ {l : List Int} {vs : List V}, DpAll K H vs (l.map PyData.int) → vs = l.map V.int
  | [], _, h => by cases h; rfl
  | x :: r, _, h => by
    rw [List.map_cons] at h
    cases h with | cons a b => cases a; rw [dpAll_intsV b]; rfl
theorem dpAll_blsV : ∀ {l : List Bool} {vs : List V}, DpAll K H vs (l.map PyData.bool) → vs = l.map V.bl
  | [], _, h => by cases h; rfl
  | x :: r, _, h => by
    rw [List.map_cons] at h
    cases h with | cons a b => cases a; rw [dpAll_blsV b]; rfl
theorem _root_.L2.Dp.tupI {v : V} {ds : List PyData} (h : Dp K H v (.tuple ds)) : ∃ a xs, v = .ref a ∧ SqT K H a xs ∧ DpAll K H xs ds := by cases h with | tup q r => exact ⟨_, _, rfl, q, r⟩
theorem _root_.L2.Dp.lstI {v : V} {ds : List PyData} (h : Dp K H v (.list ds)) : ∃ a xs, v = .ref a ∧ SqL K H a xs ∧ DpAll K H xs ds := by cases h with | lst q r => exact ⟨_, _, rfl, q, r⟩
theorem _root_.L2.Dp.intsI {v : V} {l : List Int} (h : Dp K H v (dInts l)) : ∃ a, v = .ref a ∧ SqT K H a (l.map V.int) := by
  obtain ⟨a, xs, rfl, q, r⟩ := Dp.tupI h
  rw [dpAll_intsV r] at q
  exact ⟨a, rfl, q⟩
end
section
variable (K : PySem.W.Frag)
def Gv (t : TE) (σ : L2.St) (H : Hp) (d : PyData) : Prop := ∀ H1, Same H H1 → ∀ Q : VK, (∀ v H', Same H1 H' → Dp K H' v d → Q v H') → t σ H1 Q
/-- a list that is tracked -/
def GvL (t : TE) (σ : L2.St) (H : Hp) (ds : List PyData) : Prop := ∀ H1, Same H H1 → ∀ Q : VK, (∀ a vs H', Same H1 H' → H' a = some (.lst vs) → DpAll K H' vs ds → Q (.ref a) H') → t σ H1 Q
/-- a new list -/
def GvN (t : TE) (σ : L2.St) (H : Hp) (ds : List PyData) : Prop := ∀ H1, Same H H1 → ∀ Q : VK, (∀ a vs H', Same H1 H' → H1 a = none → H' a = some (.lst vs) → DpAll K H' vs ds → Q (.ref a) H') → t σ H1 Q
def GvA (t : TA) (σ : L2.St) (H : Hp) (ds : List PyData) : Prop := ∀ H1, Same H H1 → ∀ Q : List V → Hp → Prop, (∀ vs H', Same H1 H' → DpAll K H' vs ds → Q vs H') → t σ H1 Q
def GvT (t : TT) (σ : L2.St) (H : Hp) (b : Bool) : Prop := ∀ H1, Same H H1 → ∀ Q : Bool → Hp → Prop, (∀ H', Same H1 H' → Q b H') → t σ H1 Q
/-- what a walk gives, while what it goes over stays as R says -/
def GvI (R : Hp → Hp → Prop) (wi : TI) (σ : L2.St) (H : Hp) (ds : List PyData) : Prop := ∀ H1, Same H H1 → ∀ Q : It → Hp → Prop,
  (∀ J H', Same H1 H' → Walk J ds.length (R H') (fun i h x h' => Same h h' ∧ ∃ d, ds[i]? = some d ∧ Dp K h' x d) → Q J H') → wi σ H1 Q
end
section
variable {K : PySem.W.Frag} {σ : L2.St} {H H' : Hp} {t ta tb : TE} {d e : PyData} {ds : List PyData} {ta' : TA} {tt uu : TT} {b c : Bool}
theorem GvN.gl (h : GvN K t σ H ds) : GvL K t σ H ds := fun H1 s Q q => h H1 s Q fun a vs H' s' _ e dv => q a vs H' s' e dv
theorem GvN.at (h : GvN K t σ H ds) {Q : VK} (q : ∀ a vs H', Same H H' → H a = none → H' a = some (.lst vs) → DpAll K H' vs ds → Q (.ref a) H') : t σ H Q := h H (Same.refl _) Q q
theorem GvN.to {es : List PyData} (h : GvN K t σ H ds) (q : ds = es) : GvN K t σ H es := q ▸ h
theorem GvN.gv (h : GvN K t σ H ds) : Gv K t σ H (.list ds) := fun H1 s Q q => h H1 s Q fun a vs H' s' _ e dv => q _ H' s' (.lst (.inl (.inl e)) dv)
theorem GvL.gv (h : GvL K t σ H ds) : Gv K t σ H (.list ds) := fun H1 s Q q => h H1 s Q fun a vs H' s' e dv => q _ H' s' (.lst (.inl (.inl e)) dv)
theorem GvL.at (h : GvL K t σ H ds) {Q : VK} (q : ∀ a vs H', Same H H' → H' a = some (.lst vs) → DpAll K H' vs ds → Q (.ref a) H') : t σ H Q := h H (Same.refl _) Q q
theorem GvL.to {es : List PyData} (h : GvL K t σ H ds) (q : ds = es) : GvL K t σ H es := q ▸ h
theorem gl_var {i : Nat} {a : Addr} {vs : List V} (h : σ[i]? = some (some (.ref a))) (e : H a = some (.lst vs)) (hd : DpAll K H vs ds) : GvL K (tVar i) σ H ds := fun H1 s Q q => ⟨_, h, q a vs H1 (Same.refl _) (s _ _ e) (hd.sm s)⟩
theorem Gv.at (h : Gv K t σ H d) {Q : VK} (q : ∀ v H', Same H H' → Dp K H' v d → Q v H') : t σ H Q := h H (Same.refl _) Q q
theorem Gv.sm (h : Gv K t σ H d) (s : Same H H') : Gv K t σ H' d := fun H1 s1 => h H1 (s.trans s1)
theorem Gv.to (h : Gv K t σ H d) (q : d = e) : Gv K t σ H e := q ▸ h
theorem GvT.at (h : GvT tt σ H b) {Q : Bool → Hp → Prop} (q : ∀ H', Same H H' → Q b H') : tt σ H Q := h H (Same.refl _) Q q
theorem GvT.to (h : GvT tt σ H b) (q : b = c) : GvT tt σ H c := q ▸ h
theorem gv_var {i : Nat} {v : V} (h : σ[i]? = some (some v)) (hd : Dp K H v d) : Gv K (tVar i) σ H d := fun H1 s Q q => ⟨v, h, q v H1 (Same.refl _) (hd.sm s)⟩
theorem gv_int {i : Int} : Gv K (tC (.int i)) σ H (.int i) := fun H1 _ Q q => q _ H1 (Same.refl _) (.int i)
theorem gv_bl {x : Bool} : Gv K (tC (.bl x)) σ H (.bool x) := fun H1 _ Q q => q _ H1 (Same.refl _) (.bl x)
theorem gv_non : Gv K (tC .non) σ H .none := fun H1 _ Q q => q _ H1 (Same.refl _) .non
theorem gva_nil : GvA K tNil σ H [] := fun H1 _ Q q => q [] H1 (Same.refl _) .nil
theorem gva_cons {tr : TA} (h : Gv K t σ H d) (g : GvA K tr σ H ds) : GvA K (tCons t tr) σ H (d :: ds) := fun H1 s Q q =>
  h H1 s _ fun v H2 s2 d2 => g H2 (s.trans s2) _ fun vs H3 s3 d3 => q _ H3 (s2.trans s3) (.cons (d2.sm s3) d3)
theorem gva_starT {es : List PyData} {tr : TA} (h : Gv K t σ H (.tuple es)) (g : GvA K tr σ H ds) : GvA K (StX.tStar K t tr) σ H (es ++ ds) := fun H1 s Q q =>
  h H1 s _ fun v H2 s2 d2 => by
    obtain ⟨a, xs, rfl, hq, hr⟩ := d2.tupI
    exact ⟨a, xs, rfl, .inl hq, g H2 (s.trans s2) _ fun vs H3 s3 d3 => q _ H3 (s2.trans s3) (DpAll.append (hr.sm s3) d3)⟩
theorem gva_starL {es : List PyData} {tr : TA} (h : Gv K t σ H (.list es)) (g : GvA K tr σ H ds) : GvA K (StX.tStar K t tr) σ H (es ++ ds) := fun H1 s Q q =>
  h H1 s _ fun v H2 s2 d2 => by
    obtain ⟨a, xs, rfl, hq, hr⟩ := d2.lstI
    exact ⟨a, xs, rfl, .inr hq, g H2 (s.trans s2) _ fun vs H3 s3 d3 => q _ H3 (s2.trans s3) (DpAll.append (hr.sm s3) d3)⟩
theorem small5 {n : Nat} (h : n ≤ 100000) : n < sizeLine := Nat.lt_of_le_of_lt h (by decide)
theorem gv_tup (h : GvA K ta' σ H ds) (hl : ds.length ≤ sizeLine := by first | decide | exact Nat.le_of_lt (small5 (by simp only [List.length_cons, List.length_nil]; decide))) : Gv K (tTup ta') σ H (.tuple ds) := fun H1 s Q q => h H1 s _ fun vs H2 s2 d2 =>
  ⟨by rw [d2.length]; exact hl, fun p np => q _ _ (s2.trans (same_new np)) (.tup (.inl (.inl upd_same)) (d2.sm (same_new np)))⟩
theorem gn_lst (h : GvA K ta' σ H ds) (hl : ds.length ≤ sizeLine := by first | decide | exact Nat.le_of_lt (small5 (by simp only [List.length_cons, List.length_nil]; decide))) : GvN K (tLst ta') σ H ds := fun H1 s Q q => h H1 s _ fun vs H2 s2 d2 =>
  ⟨by rw [d2.length]; exact hl, fun p np => q _ _ _ (s2.trans (same_new np)) (s2.free np) upd_same (d2.sm (same_new np))⟩
theorem gl_lst (h : GvA K ta' σ H ds) (hl : ds.length ≤ sizeLine := by first | decide | exact Nat.le_of_lt (small5 (by simp only [List.length_cons, List.length_nil]; decide))) : GvL K (tLst ta') σ H ds := (gn_lst h hl).gl
theorem gv_lst (h : GvA K ta' σ H ds) (hl : ds.length ≤ sizeLine := by first | decide | exact Nat.le_of_lt (small5 (by simp only [List.length_cons, List.length_nil]; decide))) : Gv K (tLst ta') σ H (.list ds) := (gl_lst h hl).gv
theorem gv_op2 {r : R2} (ha : Gv K ta σ H d) (hb : Gv K tb σ H e) {f : PyData} (hr : ∀ x y H1 Q, Same H H1 → Dp K H1 x d → Dp K H1 y e → (∀ v H', Same H1 H' → Dp K H' v f → Q v H') → r x y H1 Q) : Gv K (tOp r ta tb) σ H f := fun H1 s Q q =>
  ha H1 s _ fun x H2 s2 d2 => hb H2 (s.trans s2) _ fun y H3 s3 d3 => hr x y H3 Q ((s.trans s2).trans s3) (d2.sm s3) d3 fun v H4 s4 d4 => q v H4 ((s2.trans s3).trans s4) d4
theorem gv_I0 {g : Int → Int → V} {i j : Int} (ha : Gv K ta σ H (.int i)) (hb : Gv K tb σ H (.int j)) {f : PyData} (hf : ∀ H, Dp K H (g i j) f) : Gv K (tOp (rI0 g) ta tb) σ H f :=
  gv_op2 ha hb fun x y H1 Q s hx hy q => by cases hx; cases hy; exact ⟨i, j, rfl, rfl, q _ _ (Same.refl _) (hf _)⟩
theorem gv_add {i j : Int} (ha : Gv K ta σ H (.int i)) (hb : Gv K tb σ H (.int j)) : Gv K (tOp (rI0 fun i j => V.int (i + j)) ta tb) σ H (.int (i + j)) := gv_I0 ha hb fun _ => .int _
theorem gv_sub {i j : Int} (ha : Gv K ta σ H (.int i)) (hb : Gv K tb σ H (.int j)) : Gv K (tOp (rI0 fun i j => V.int (i - j)) ta tb) σ H (.int (i - j)) := gv_I0 ha hb fun _ => .int _
theorem gv_eqI {i j : Int} (ha : Gv K ta σ H (.int i)) (hb : Gv K tb σ H (.int j)) : Gv K (tOp rEq ta tb) σ H (.bool (decide (i = j))) :=
  gv_op2 ha hb fun x y H1 Q s hx hy q => by
    cases hx; cases hy
    refine ⟨rfl, q _ _ (Same.refl _) ?_⟩
    rw [show decide (V.int i = V.int j) = decide (i = j) from decide_eq_decide.mpr ⟨fun h => V.int.inj h, fun h => by rw [h]⟩]
    exact .bl _
theorem gv_neI {i j : Int} (ha : Gv K ta σ H (.int i)) (hb : Gv K tb σ H (.int j)) : Gv K (tOp rNe ta tb) σ H (.bool (!decide (i = j))) :=
  gv_op2 ha hb fun x y H1 Q s hx hy q => by
    cases hx; cases hy
    refine ⟨rfl, q _ _ (Same.refl _) ?_⟩
    rw [show decide (V.int i = V.int j) = decide (i = j) from decide_eq_decide.mpr ⟨fun h => V.int.inj h, fun h => by rw [h]⟩]
    exact .bl _
theorem gv_eqD (ha : Gv K ta σ H d) (hb : Gv K tb σ H e) (h1 : SeqAt.shaped d = true) (h2 : SeqAt.shaped e = true) : Gv K (tOp (rEqD K) ta tb) σ H (.bool (PyData.eqv d e)) :=
  gv_op2 ha hb fun x y H1 Q s hx hy q => ⟨d, e, hx, hy, h1, h2, q _ _ (Same.refl _) (.bl _)⟩
theorem gv_neD (ha : Gv K ta σ H d) (hb : Gv K tb σ H e) (h1 : SeqAt.shaped d = true) (h2 : SeqAt.shaped e = true) : Gv K (tOp (rNeD K) ta tb) σ H (.bool (!PyData.eqv d e)) :=
  gv_op2 ha hb fun x y H1 Q s hx hy q => ⟨d, e, hx, hy, h1, h2, q _ _ (Same.refl _) (.bl _)⟩
theorem inV_intsG {b : Int} (l : List Int) : inV (.int b) (l.map V.int) = decide (b ∈ l) := by
  unfold inV
  rw [List.any_map, Bool.eq_iff_iff, List.any_eq_true, decide_eq_true_eq]
  constructor
  · rintro ⟨x, hx, e⟩
    have e' : x = b := by simpa [eqV] using e
    rw [← e']; exact hx
  · intro h
    exact ⟨b, h, by simp [eqV]⟩
theorem flat_intsG : ∀ l : List Int, (l.map V.int).all flatV = true
  | [] => rfl
  | x :: r => by rw [List.map_cons, List.all_cons, flat_intsG r]; rfl
theorem gv_inT {neg : Bool} {i : Int} {l : List Int} (ha : Gv K ta σ H (.int i)) (hb : Gv K tb σ H (dInts l)) : Gv K (tOp (rIn K neg) ta tb) σ H (.bool (if neg then !decide (i ∈ l) else decide (i ∈ l))) :=
  gv_op2 ha hb fun x y H1 Q s hx hy q => by
    cases hx
    obtain ⟨a, rfl, hq⟩ := hy.intsI
    refine ⟨a, _, rfl, .inr hq, rfl, flat_intsG l, ?_⟩
    rw [inV_intsG]
    exact q _ _ (Same.refl _) (.bl _)
theorem gv_inL {neg : Bool} {i : Int} {l : List Int} (ha : Gv K ta σ H (.int i)) (hb : Gv K tb σ H (.list (l.map PyData.int))) : Gv K (tOp (rIn K neg) ta tb) σ H (.bool (if neg then !decide (i ∈ l) else decide (i ∈ l))) :=
  gv_op2 ha hb fun x y H1 Q s hx hy q => by
    cases hx
    obtain ⟨a, xs, rfl, hq, hr⟩ := hy.lstI
    rw [dpAll_intsV hr] at hq
    refine ⟨a, _, rfl, .inl hq, rfl, flat_intsG l, ?_⟩
    rw [inV_intsG]
    exact q _ _ (Same.refl _) (.bl _)
theorem gv_ixT {i : Int} {j : Nat} (ha : Gv K ta σ H (.tuple ds)) (hb : Gv K tb σ H (.int i)) (hi : i = (j : Int)) (hj : ds[j]? = some d) : Gv K (tOp (rIxT K) ta tb) σ H d :=
  gv_op2 ha hb fun x y H1 Q s hx hy q => by
    cases hy
    obtain ⟨a, xs, rfl, hq, hr⟩ := hx.tupI
    obtain ⟨v, hv, dv⟩ := hr.get j d hj
    exact ⟨a, xs, i, v, rfl, rfl, hq, by rw [hi]; exact atI_nat hv, q _ _ (Same.refl _) dv⟩
theorem gv_ixL {i : Int} {j : Nat} (ha : Gv K ta σ H (.list ds)) (hb : Gv K tb σ H (.int i)) (hi : i = (j : Int)) (hj : ds[j]? = some d) : Gv K (tOp (rIxL K) ta tb) σ H d :=
  gv_op2 ha hb fun x y H1 Q s hx hy q => by
    cases hy
    obtain ⟨a, xs, rfl, hq, hr⟩ := hx.lstI
    obtain ⟨v, hv, dv⟩ := hr.get j d hj
    exact ⟨a, xs, i, v, rfl, rfl, hq, by rw [hi]; exact atI_nat hv, q _ _ (Same.refl _) dv⟩
theorem gv_pan {i : Int} {pan : List (List Int)} (ha : Gv K ta σ H (dPan pan)) (hb : Gv K tb σ H (.int i)) (h0 : 0 ≤ i) (h1 : i < (pan.length : Int)) : Gv K (tOp (rIxT K) ta tb) σ H (dInts (pan.getD i.toNat [])) := by
  refine gv_ixT (j := i.toNat) ha hb (by omega) ?_
  rw [List.getElem?_map, List.getD_eq_getElem?_getD, List.getElem?_eq_getElem (by omega)]; rfl
theorem gv_cb {r : List V → Hp → VK → Prop} (h : GvA K ta' σ H ds) {f : PyData} (hr : ∀ vs H1 Q, Same H H1 → DpAll K H1 vs ds → (∀ v H', Same H1 H' → Dp K H' v f → Q v H') → r vs H1 Q) : Gv K (tCB r ta') σ H f := fun H1 s Q q =>
  h H1 s _ fun vs H2 s2 d2 => hr vs H2 Q (s.trans s2) d2 fun v H3 s3 d3 => q v H3 (s2.trans s3) d3
theorem dpAll1 {vs : List V} (h : DpAll K H vs [d]) : ∃ v, vs = [v] ∧ Dp K H v d := by
  cases h with | cons x y => cases y; exact ⟨_, rfl, x⟩
theorem dpAll2 {vs : List V} (h : DpAll K H vs [d, e]) : ∃ v u, vs = [v, u] ∧ Dp K H v d ∧ Dp K H u e := by
  cases h with | cons x y => obtain ⟨u, rfl, z⟩ := dpAll1 y; exact ⟨_, _, rfl, x, z⟩
theorem dpAll3 {f : PyData} {vs : List V} (h : DpAll K H vs [d, e, f]) : ∃ v u w, vs = [v, u, w] ∧ Dp K H v d ∧ Dp K H u e ∧ Dp K H w f := by
  cases h with | cons x y => obtain ⟨u, w, rfl, z⟩ := dpAll2 y; exact ⟨_, _, _, rfl, x, z⟩
def rLenG (K : PySem.W.Frag) : List V → Hp → VK → Prop := fun xs H Q => ∃ p ys, xs = [V.ref p] ∧ (SqL K H p ys ∨ SqT K H p ys) ∧ Q (.int ys.length) H
theorem cr_lenG {X : Cx} : CallR X (.builtin "len") (rLenG X.K) := call_len_seq
def rTupG (K : PySem.W.Frag) : List V → Hp → VK → Prop := fun xs H Q => ∃ p ys, xs = [V.ref p] ∧ ((SqL K H p ys ∧ ∀ l, H l = none → Q (.ref l) (upd H l (.tup ys))) ∨ (SqT K H p ys ∧ Q (.ref p) H))
theorem cr_tupG {X : Cx} : CallR X (.type "tuple") (rTupG X.K) := call_tuple_of
theorem gv_lenT (h : Gv K t σ H (.tuple ds)) : Gv K (tCB (rLenG K) (tCons t tNil)) σ H (.int ds.length) :=
  gv_cb (gva_cons h gva_nil) fun vs H1 Q s hd q => by
    obtain ⟨v, rfl, hv⟩ := dpAll1 hd
    obtain ⟨a, xs, rfl, hq, hr⟩ := hv.tupI
    exact ⟨a, xs, rfl, .inr hq, by rw [hr.length]; exact q _ _ (Same.refl _) (.int _)⟩
theorem gv_lenL (h : Gv K t σ H (.list ds)) : Gv K (tCB (rLenG K) (tCons t tNil)) σ H (.int ds.length) :=
  gv_cb (gva_cons h gva_nil) fun vs H1 Q s hd q => by
    obtain ⟨v, rfl, hv⟩ := dpAll1 hd
    obtain ⟨a, xs, rfl, hq, hr⟩ := hv.lstI
    exact ⟨a, xs, rfl, .inl hq, by rw [hr.length]; exact q _ _ (Same.refl _) (.int _)⟩
theorem gv_tupL (h : Gv K t σ H (.list ds)) : Gv K (tCB (rTupG K) (tCons t tNil)) σ H (.tuple ds) :=
  gv_cb (gva_cons h gva_nil) fun vs H1 Q s hd q => by
    obtain ⟨v, rfl, hv⟩ := dpAll1 hd
    obtain ⟨a, xs, rfl, hq, hr⟩ := hv.lstI
    exact ⟨a, xs, rfl, .inl ⟨hq, fun l nl => q _ _ (same_new nl) (.tup (.inl (.inl upd_same)) (hr.sm (same_new nl)))⟩⟩
theorem gn_lstT (h : Gv K t σ H (.tuple ds)) : GvN K (tCB (rListG K) (tCons t tNil)) σ H ds := fun H1 s Q q => h H1 s _ fun v H2 s2 d2 => by
    obtain ⟨a, xs, rfl, hq, hr⟩ := d2.tupI
    exact ⟨a, xs, rfl, hq, fun l nl _ => q _ _ _ (s2.trans (same_new nl)) (s2.free nl) upd_same (hr.sm (same_new nl))⟩
/-- the ascending one of the same numbers -/
def srt (l : List Int) : List Int := l.mergeSort (fun a b => decide (a ≤ b))
theorem srt_perm (l : List Int) : (srt l).Perm l := List.mergeSort_perm _ _
theorem srt_up (l : List Int) : (srt l).Pairwise (· ≤ ·) := by
  have := List.pairwise_mergeSort (le := fun a b : Int => decide (a ≤ b)) (fun a b c h1 h2 => by simp at *; omega) (fun a b => by simp; omega) l
  exact this.imp fun h => by simpa using h
theorem perm_up_eq : ∀ {l1 l2 : List Int}, l1.Perm l2 → l1.Pairwise (· ≤ ·) → l2.Pairwise (· ≤ ·) → l1 = l2 := by
  intro l1
  induction l1 with
  | nil => intro l2 h _ _; exact (List.nil_perm.mp h).symm
  | cons x r ih =>
    intro l2 h h1 h2
    cases l2 with
    | nil => exact absurd h.symm (by simp)
    | cons y s =>
      rw [List.pairwise_cons] at h1 h2
      have hxy : x = y := by
        have hx : x ∈ y :: s := h.subset List.mem_cons_self
        have hy : y ∈ x :: r := h.symm.subset List.mem_cons_self
        rcases List.mem_cons.mp hx with e | e
        · exact e
        · rcases List.mem_cons.mp hy with e' | e'
          · exact e'.symm
          · have := h1.1 y e'
            have := h2.1 x e
            omega
      subst hxy
      rw [ih (List.Perm.cons_inv h) h1.2 h2.2]
theorem srt_eq {l m : List Int} (h : m.Perm l) (u : m.Pairwise (· ≤ ·)) : srt l = m := perm_up_eq ((srt_perm l).trans h.symm) (srt_up l) u
theorem gv_sortL {l : List Int} (h : Gv K t σ H (.list (l.map PyData.int))) (hl : l.length < 64) : Gv K (tCB (rSorted K) (tCons t tNil)) σ H (.list ((srt l).map PyData.int)) :=
  gv_cb (gva_cons h gva_nil) fun vs H1 Q s hd q => by
    obtain ⟨v, rfl, hv⟩ := dpAll1 hd
    obtain ⟨a, xs, rfl, hq, hr⟩ := hv.lstI
    rw [dpAll_intsV hr] at hq
    refine ⟨a, l, rfl, hq, hl, fun ns' p hp hu np => ?_⟩
    rw [← srt_eq hp hu]
    exact q _ _ (same_new np) (.lst (.inl (.inl upd_same)) (dpAll_ints _))
theorem gv_all {l : List Bool} (h : Gv K t σ H (.list (l.map PyData.bool))) : Gv K (tCB (rAll K) (tCons t tNil)) σ H (.bool (l.all id)) :=
  gv_cb (gva_cons h gva_nil) fun vs H1 Q s hd q => by
    obtain ⟨v, rfl, hv⟩ := dpAll1 hd
    obtain ⟨a, xs, rfl, hq, hr⟩ := hv.lstI
    rw [dpAll_blsV hr] at hq
    exact ⟨a, l, rfl, hq, q _ _ (Same.refl _) (.bl _)⟩
theorem gv_any {l : List Bool} (h : Gv K t σ H (.list (l.map PyData.bool))) : Gv K (tCB (rAny K) (tCons t tNil)) σ H (.bool (l.any id)) :=
  gv_cb (gva_cons h gva_nil) fun vs H1 Q s hd q => by
    obtain ⟨v, rfl, hv⟩ := dpAll1 hd
    obtain ⟨a, xs, rfl, hq, hr⟩ := hv.lstI
    rw [dpAll_blsV hr] at hq
    exact ⟨a, l, rfl, hq, q _ _ (Same.refl _) (.bl _)⟩
theorem gvt_test (h : Gv K t σ H (.bool b)) : GvT (tTest t) σ H b := fun H1 s Q q => h H1 s _ fun v H2 s2 d2 => by cases d2; exact ⟨b, rfl, q _ s2⟩
theorem gvt_b (h : Gv K t σ H (.bool b)) : GvT (tB t) σ H b := fun H1 s Q q => h H1 s _ fun v H2 s2 d2 => by cases d2; exact ⟨b, rfl, q _ s2⟩
theorem gvt_not (h : GvT tt σ H b) : GvT (tNot tt) σ H (!b) := fun H1 s Q q => h H1 s _ fun H2 s2 => q _ s2
theorem gvt_yes : GvT tYes σ H true := fun H1 s Q q => q H1 (Same.refl _)
theorem gvt_and (h : GvT tt σ H b) (g : ∀ H', Same H H' → b = true → GvT uu σ H' c) : GvT (tAnd tt uu) σ H (b && c) := fun H1 s Q q => h H1 s _ fun H2 s2 => by
  cases b with
  | true => rw [if_pos rfl]; exact g H2 (s.trans s2) rfl H2 (Same.refl _) _ fun H3 s3 => q _ (s2.trans s3)
  | false => rw [if_neg Bool.false_ne_true]; exact q _ s2
theorem gvt_or (h : GvT tt σ H b) (g : ∀ H', Same H H' → b = false → GvT uu σ H' c) : GvT (tOr tt uu) σ H (b || c) := fun H1 s Q q => h H1 s _ fun H2 s2 => by
  cases b with
  | true => rw [if_pos rfl]; exact q _ s2
  | false => rw [if_neg Bool.false_ne_true]; exact g H2 (s.trans s2) rfl H2 (Same.refl _) _ fun H3 s3 => q _ (s2.trans s3)
/-- a def that only computes -/
def spP (K : PySem.W.Frag) {α : Type} (δ : α → List PyData) (C : α → Prop) (f : α → PyData) : Sp := fun vs H Q _ => ∃ a, DpAll K H vs (δ a) ∧ C a ∧ ∀ v H', Same H H' → Dp K H' v (f a) → Q v H'
theorem gv_call {α : Type} {δ : α → List PyData} {C : α → Prop} {f : α → PyData} {E : XK} (a : α) (h : GvA K ta' σ H (δ a)) (hc : C a) : Gv K (tCall (spP K δ C f) [] E ta') σ H (f a) := fun H1 s Q q =>
  h H1 s _ fun vs H2 s2 d2 => ⟨a, by rw [List.append_nil]; exact d2, hc, fun v H3 s3 d3 => q v H3 (s2.trans s3) d3⟩
end
section
variable {K : PySem.W.Frag} {R : Hp → Hp → Prop} {σ : L2.St} {H : Hp} {t : TE} {ta : TA} {ds : List PyData}
theorem gvi_list (h : Gv K t σ H (.list ds)) : GvI K Same (iList K t) σ H ds := fun H1 s Q q => h H1 s _ fun v H2 s2 d2 => by
  obtain ⟨a, xs, rfl, hq, hr⟩ := d2.lstI
  refine ⟨a, rfl, ⟨xs, hq⟩, q _ H2 s2 ?_⟩
  rw [← hr.length]
  refine walk_list.mono (fun h e => e.seq hq) fun i h x h' hi e y => ?_
  obtain ⟨rfl, y⟩ := y
  have hi' : i < ds.length := by rw [← hr.length]; exact hi
  obtain ⟨v, hv, dv⟩ := hr.get i ds[i] (List.getElem?_eq_getElem hi')
  rw [hv] at y; cases y
  exact ⟨Same.refl _, ds[i], List.getElem?_eq_getElem hi', dv.sm e⟩
theorem gvi_tup (h : Gv K t σ H (.tuple ds)) : GvI K Same (iTup K t) σ H ds := fun H1 s Q q => h H1 s _ fun v H2 s2 d2 => by
  obtain ⟨a, xs, rfl, hq, hr⟩ := d2.tupI
  refine ⟨a, rfl, ⟨xs, hq⟩, q _ H2 s2 ?_⟩
  rw [← hr.length]
  refine walk_tup.mono (fun h e => same_sqT e hq) fun i h x h' hi e y => ?_
  obtain ⟨rfl, y⟩ := y
  have hi' : i < ds.length := by rw [← hr.length]; exact hi
  obtain ⟨v, hv, dv⟩ := hr.get i ds[i] (List.getElem?_eq_getElem hi')
  rw [hv] at y; cases y
  exact ⟨Same.refl _, ds[i], List.getElem?_eq_getElem hi', dv.sm e⟩
theorem gvi_tupK (h : Gv K t σ H (.tuple ds)) (z : lfAll ds = true) : GvI K Kp (iTup K t) σ H ds := fun H1 s Q q => h H1 s _ fun v H2 s2 d2 => by
  obtain ⟨a, xs, rfl, hq, hr⟩ := d2.tupI
  refine ⟨a, rfl, ⟨xs, hq⟩, q _ H2 s2 ?_⟩
  rw [← hr.length]
  refine walk_tup.mono (fun h e => sqT_kp e hq) fun i h x h' hi e y => ?_
  obtain ⟨rfl, y⟩ := y
  have hi' : i < ds.length := by rw [← hr.length]; exact hi
  obtain ⟨v, hv, dv⟩ := (dpAll_kp e _ _ z hr).get i ds[i] (List.getElem?_eq_getElem hi')
  rw [hv] at y; cases y
  exact ⟨Same.refl _, ds[i], List.getElem?_eq_getElem hi', dv⟩
theorem gvi_range {n : Nat} (h : Gv K t σ H (.int n)) (hn : n < 2 ^ 62) : GvI K R (iRng1 (tCons t tNil)) σ H ((List.range n).map fun i : Nat => PyData.int (i : Int)) := fun H1 s Q q => h H1 s _ fun v H2 s2 d2 => by
  cases d2
  refine ⟨(n : Int), rfl, by omega, by omega, q _ H2 s2 ?_⟩
  rw [List.length_map, List.length_range, Int.toNat_natCast]
  refine walk_range.mono (fun _ _ => trivial) fun i h x h' hi e y => ?_
  obtain ⟨rfl, rfl⟩ := y
  refine ⟨Same.refl _, .int (i : Int), ?_, ?_⟩
  · rw [List.getElem?_map, List.getElem?_range hi]; rfl
  · dsimp only; rw [Int.zero_add]; exact .int _
theorem gvi_enumT {α : Type} {δ : α → PyData} {as : List α} (h : Gv K t σ H (.tuple (as.map δ))) : GvI K Same (iEnumT K (tCons t tNil)) σ H (as.zipIdx.map fun x => .tuple [.int (x.2 : Nat), δ x.1]) := fun H1 s Q q => h H1 s _ fun v H2 s2 d2 => by
  obtain ⟨a, xs, rfl, hq, hr⟩ := d2.tupI
  refine ⟨a, xs, rfl, hq, q _ H2 s2 ?_⟩
  have hl : xs.length = as.length := by rw [hr.length, List.length_map]
  rw [List.length_map, List.length_zipIdx, ← hl]
  refine walk_enumT.mono (fun h e => same_sqT e hq) fun i h x h' hi e y => ?_
  obtain ⟨T, x1, x2, rfl, nT, rfl, e1, e2⟩ := y
  cases e1
  have hi' : i < as.length := by omega
  obtain ⟨v, hv, dv⟩ := hr.get i (δ as[i]) (by rw [List.getElem?_map, List.getElem?_eq_getElem hi']; rfl)
  replace e2 : xs[i]? = some x2 := e2
  rw [hv] at e2; cases e2
  have sT : Same h (upd h T (.tup [.int (i : Nat), x2])) := same_new nT
  refine ⟨sT, .tuple [.int (i : Nat), δ as[i]], ?_, .tup (.inl (.inl upd_same)) (.cons (.int _) (.cons ((dv.sm e).sm sT) .nil))⟩
  rw [List.getElem?_map, List.getElem?_zipIdx, List.getElem?_eq_getElem hi']
  simp
/-- what a comprehension has gathered when D is the new list -/
def LcP (K : PySem.W.Frag) (H1 : Hp) (D : Addr) (ds : Nat → List PyData) (k : Nat) (H2 : Hp) : Prop := (∀ b o, b ≠ D → H1 b = some o → H2 b = some o) ∧ ∃ acc, H2 D = some (.lst acc) ∧ DpAll K H2 acc (ds k) ∧ acc.length ≤ k
theorem lcP_yes {H1 H5 H2 : Hp} {D : Addr} {ds : Nat → List PyData} {k : Nat} {acc : List V} {y : V} {d : PyData} (h : ∀ b o, b ≠ D → H1 b = some o → H2 b = some o) (s25 : Same H2 H5) (eD : H2 D = some (.lst acc)) (ha : DpAll K H2 acc (ds k)) (la : acc.length ≤ k) (dy : Dp K H5 y d)
    (e : ds (k + 1) = ds k ++ [d]) (z : lfAll (ds (k + 1)) = true) : LcP K H1 D ds (k + 1) (upd H5 D (.lst (acc ++ [y]))) := by
  refine ⟨fun b o hb q => by rw [upd_ne hb]; exact s25 _ _ (h b o hb q), acc ++ [y], upd_same, ?_, by rw [List.length_append]; show acc.length + 1 ≤ k + 1; omega⟩
  refine dpAll_kp (Kp.upd (s25 _ _ eD)) _ _ z ?_
  rw [e]
  exact DpAll.append (ha.sm s25) (.cons dy .nil)
theorem lcP_no {H1 H3 H2 : Hp} {D : Addr} {ds : Nat → List PyData} {k : Nat} {acc : List V} (h : ∀ b o, b ≠ D → H1 b = some o → H2 b = some o) (s23 : Same H2 H3) (eD : H2 D = some (.lst acc)) (ha : DpAll K H2 acc (ds k)) (la : acc.length ≤ k)
    (e : ds (k + 1) = ds k) : LcP K H1 D ds (k + 1) H3 :=
  ⟨fun b o hb q => s23 _ _ (h b o hb q), acc, s23 _ _ eD, by rw [e]; exact ha.sm s23, by omega⟩
theorem fil_take {α : Type} {as : List α} {p : α → Bool} {f : α → PyData} {k : Nat} (hk : k < as.length) : (((as.take (k + 1)).filter p).map f) = ((as.take k).filter p).map f ++ if p as[k] then [f as[k]] else [] := by
  rw [List.take_add_one, List.getElem?_eq_getElem hk, Option.toList_some, List.filter_append, List.map_append]
  cases h : p as[k] with
  | true => rw [List.filter_cons_of_pos h]; rfl
  | false => rw [List.filter_cons_of_neg (by rw [h]; exact Bool.false_ne_true)]; rfl
theorem lf_fil {α : Type} {as : List α} {p : α → Bool} {f : α → PyData} (h : ∀ a ∈ as, lf (f a) = true) (k : Nat) : lfAll (((as.take k).filter p).map f) = true := lfAll_of fun d hd => by
  obtain ⟨a, ha, rfl⟩ := List.mem_map.mp hd
  exact h a (List.mem_of_mem_take (List.mem_filter.mp ha).1)
/-- a comprehension, its target one name -/
theorem gn_lc {wi : TI} {tt : TT} {te : TE} {i : Nat} {α : Type} {δ : α → PyData} {as : List α} {p : α → Bool} {f : α → PyData} (hI : GvI K Same wi σ H (as.map δ))
    (hb : ∀ a v H1, a ∈ as → Same H H1 → Dp K H1 v (δ a) → GvT tt ((σ.set i none).set i (some v)) H1 (p a) ∧ (p a = true → Gv K te ((σ.set i none).set i (some v)) H1 (f a)))
    (hf : ∀ a ∈ as, lf (f a) = true) (hn : as.length ≤ 100000) : GvN K (tLc wi (gName i) tt te [i]) σ H ((as.filter p).map f) := by
  intro H0 s0 Q q
  refine hI H0 s0 _ fun J H1 s1 w D nD => ?_
  rw [List.length_map] at w
  refine lc_it w (LcP K H1 D fun k => ((as.take k).filter p).map f) ⟨fun b o hb e => by rw [upd_ne hb]; exact e, [], upd_same, .nil, Nat.zero_le _⟩ (fun k H2 _ hP b o e => hP.1 b o (ne_of_none e nD) e) (fun k x H2 H3 hk hP hY => ?_) (fun H2 hP => ?_)
  · obtain ⟨s2, acc, eD, hacc, la⟩ := hP
    obtain ⟨s3, d, hd, dx⟩ := hY
    rw [List.getElem?_map, List.getElem?_eq_getElem hk] at hd
    cases hd
    have sH : Same H H3 := (s0.trans s1).trans fun b o e => s3 _ _ (s2 b o (ne_of_none e nD) e)
    obtain ⟨g1, g2⟩ := hb as[k] x H3 (List.getElem_mem _) sH dx
    refine ⟨by show ((σ.set i none).set i (some x)).set i none = σ.set i none; rw [List.set_set, List.set_set], g1.at fun H4 s4 => ?_⟩
    cases hp : p as[k] with
    | true =>
      rw [if_pos rfl]
      refine (g2 hp).sm s4 |>.at fun y H5 s5 dy => ⟨acc, s5 _ _ (s4 _ _ (s3 _ _ eD)), small5 (by omega), ?_⟩
      exact lcP_yes s2 ((s3.trans s4).trans s5) eD hacc la dy (by rw [fil_take hk, hp]; rfl) (lf_fil hf _)
    | false =>
      rw [if_neg Bool.false_ne_true]
      exact lcP_no s2 (s3.trans s4) eD hacc la (by rw [fil_take hk, hp]; exact List.append_nil _)
  · obtain ⟨s2, acc, eD, hacc, la⟩ := hP
    replace hacc : DpAll K H2 acc (((as.take as.length).filter p).map f) := hacc
    rw [List.take_length] at hacc
    exact q _ _ H2 (s1.trans fun b o e => s2 b o (ne_of_none e nD) e) (s1.free nD) eD hacc
theorem gl_lc {wi : TI} {tt : TT} {te : TE} {i : Nat} {α : Type} {δ : α → PyData} {as : List α} {p : α → Bool} {f : α → PyData} (hI : GvI K Same wi σ H (as.map δ))
    (hb : ∀ a v H1, a ∈ as → Same H H1 → Dp K H1 v (δ a) → GvT tt ((σ.set i none).set i (some v)) H1 (p a) ∧ (p a = true → Gv K te ((σ.set i none).set i (some v)) H1 (f a)))
    (hf : ∀ a ∈ as, lf (f a) = true) (hn : as.length ≤ 100000) : GvL K (tLc wi (gName i) tt te [i]) σ H ((as.filter p).map f) := (gn_lc hI hb hf hn).gl
theorem gv_lc {wi : TI} {tt : TT} {te : TE} {i : Nat} {α : Type} {δ : α → PyData} {as : List α} {p : α → Bool} {f : α → PyData} (hI : GvI K Same wi σ H (as.map δ))
    (hb : ∀ a v H1, a ∈ as → Same H H1 → Dp K H1 v (δ a) → GvT tt ((σ.set i none).set i (some v)) H1 (p a) ∧ (p a = true → Gv K te ((σ.set i none).set i (some v)) H1 (f a)))
    (hf : ∀ a ∈ as, lf (f a) = true) (hn : as.length ≤ 100000) : Gv K (tLc wi (gName i) tt te [i]) σ H (.list ((as.filter p).map f)) := (gl_lc hI hb hf hn).gv
theorem gs_ret {t : TE} {d : PyData} {D : Ends} (h : Gv K t σ H d) (q : ∀ v H', Same H H' → Dp K H' v d → D.rt v H') : tRet t D σ H := h.at q
theorem gs_if {c : TT} {b : Bool} {t u : TS} {D : Ends} (h : GvT c σ H b) (h1 : b = true → ∀ H', Same H H' → t D σ H') (h2 : b = false → ∀ H', Same H H' → u D σ H') : tIfS c t u D σ H := h.at fun H' s => by
  cases b with
  | true => rw [if_pos rfl]; exact h1 rfl H' s
  | false => rw [if_neg Bool.false_ne_true]; exact h2 rfl H' s
/-- a loop: Pv by the heap at its start, the turn, the slots and the heap -/
theorem gs_for {wi : TI} {g : TG} {tb : TS} {D : Ends} {ds : List PyData} (hI : GvI K R wi σ H ds) (Pv : Hp → Nat → L2.St → Hp → Prop) (h0 : ∀ H1, Same H H1 → Pv H1 0 σ H1) (hS : ∀ H1 k σ' H', Same H H1 → Pv H1 k σ' H' → R H1 H')
    (hs : ∀ H1 k x d σ' H' H'', Same H H1 → ds[k]? = some d → Pv H1 k σ' H' → Same H' H'' → Dp K H'' x d → g x σ' H'' fun σ2 H2 => tb { D with nx := Pv H1 (k + 1), ct := Pv H1 (k + 1), bk := D.nx } σ2 H2)
    (hd : ∀ H1 σ' H', Same H H1 → Pv H1 ds.length σ' H' → D.nx σ' H') : tFor wi g tb D σ H := by
  refine hI H (Same.refl _) _ fun J H1 s1 w => ?_
  refine for_it w (Pv H1) (h0 H1 s1) (fun k σ' H' _ hP => hS H1 k σ' H' s1 hP) (fun k x σ' H' H'' hk hP hY => ?_) (fun σ' H' hP => hd H1 σ' H' s1 hP)
  obtain ⟨s3, d, hd', dx⟩ := hY
  exact hs H1 k x d σ' H' H'' s1 hd' hP s3 dx
end
end Pr
namespace Pr
open PySem PySem.Spec PyProof.Rows L2
section
variable {K : PySem.W.Frag} {σ : L2.St} {H : Hp} {t ta tb : TE} {d e : PyData} {ds es : List PyData}
theorem gs_set1 {i : Nat} {u : TS} {D : Ends} (h : Gv K t σ H d) (q : ∀ v H', Same H H' → Dp K H' v d → u D (σ.set i (some v)) H') : tSeq (tAsg t (gName i)) u D σ H := h.at fun v H' s dv => q v H' s dv
/-- a test that comes out false, what stands under it not reached -/
theorem gs_no {c : TT} {t u : TS} {D : Ends} {b : Bool} (h : GvT c σ H b) (hb : b = false) (h2 : ∀ H', Same H H' → u D σ H') : tSeq (tIfS c t tNext) u D σ H := gs_if h (fun e => by rw [hb] at e; cases e) fun _ => h2
theorem gs_noN {c : TT} {t : TS} {D : Ends} {b : Bool} (h : GvT c σ H b) (hb : b = false) (h2 : ∀ H', Same H H' → D.nx σ H') : tIfS c t tNext D σ H := gs_if h (fun e => by rw [hb] at e; cases e) fun _ => h2
/-- for i in range(n) -/
theorem gs_range {n i : Nat} {tb : TS} {D : Ends} (h : Gv K t σ H (.int n)) (hn : n < 2 ^ 62) (Pv : Hp → Nat → L2.St → Hp → Prop) (h0 : ∀ H1, Same H H1 → Pv H1 0 σ H1)
    (hs : ∀ H1 k σ' H', Same H H1 → k < n → Pv H1 k σ' H' → tb { D with nx := Pv H1 (k + 1), ct := Pv H1 (k + 1), bk := D.nx } (σ'.set i (some (.int (k : Int)))) H')
    (hd : ∀ H1 σ' H', Same H H1 → Pv H1 n σ' H' → D.nx σ' H') : tFor (iRng1 (tCons t tNil)) (gName i) tb D σ H := by
  refine h.at fun v H1 s1 d1 => ?_
  cases d1
  refine ⟨(n : Int), rfl, by omega, by omega, ?_⟩
  rw [Int.toNat_natCast]
  refine for_range (Pv H1) (h0 H1 s1) (fun k σ' H' hk hP => ?_) (fun σ' H' hP => hd H1 σ' H' s1 hP)
  rw [Int.zero_add]
  exact hs H1 k σ' H' s1 hk hP
/-- for x in a list or a tuple -/
theorem gs_each {i : Nat} {tb : TS} {D : Ends} {R : Hp → Hp → Prop} {wi : TI} {α : Type} {δ : α → PyData} {as : List α} (hI : GvI K R wi σ H (as.map δ)) (Pv : Hp → Nat → L2.St → Hp → Prop) (h0 : ∀ H1, Same H H1 → Pv H1 0 σ H1) (hS : ∀ H1 k σ' H', Same H H1 → Pv H1 k σ' H' → R H1 H')
    (hs : ∀ H1 k a v σ' H' H'', Same H H1 → as[k]? = some a → Pv H1 k σ' H' → Same H' H'' → Dp K H'' v (δ a) → tb { D with nx := Pv H1 (k + 1), ct := Pv H1 (k + 1), bk := D.nx } (σ'.set i (some v)) H'')
    (hd : ∀ H1 σ' H', Same H H1 → Pv H1 as.length σ' H' → D.nx σ' H') : tFor wi (gName i) tb D σ H := by
  refine gs_for hI Pv h0 hS (fun H1 k x d σ' H' H'' s1 hd' hP s2 dx => ?_) (fun H1 σ' H' s1 hP => hd H1 σ' H' s1 (by rwa [List.length_map] at hP))
  rw [List.getElem?_map] at hd'
  cases e : as[k]? with
  | none => rw [e] at hd'; cases hd'
  | some a => rw [e] at hd'; cases hd'; exact hs H1 k a x σ' H' H'' s1 e hP s2 dx
/-- for a, b in pairs -/
theorem gs_each2 {i j : Nat} {tb : TS} {D : Ends} {R : Hp → Hp → Prop} {wi : TI} {α : Type} {δ1 δ2 : α → PyData} {as : List α} (hI : GvI K R wi σ H (as.map fun a => .tuple [δ1 a, δ2 a])) (Pv : Hp → Nat → L2.St → Hp → Prop) (h0 : ∀ H1, Same H H1 → Pv H1 0 σ H1) (hS : ∀ H1 k σ' H', Same H H1 → Pv H1 k σ' H' → R H1 H')
    (hs : ∀ H1 k a v u σ' H' H'', Same H H1 → as[k]? = some a → Pv H1 k σ' H' → Same H' H'' → Dp K H'' v (δ1 a) → Dp K H'' u (δ2 a) → tb { D with nx := Pv H1 (k + 1), ct := Pv H1 (k + 1), bk := D.nx } ((σ'.set i (some v)).set j (some u)) H'')
    (hd : ∀ H1 σ' H', Same H H1 → Pv H1 as.length σ' H' → D.nx σ' H') : tFor wi (gTup K 2 (gCons (gName i) (gCons (gName j) gNil))) tb D σ H := by
  refine gs_for hI Pv h0 hS (fun H1 k x d σ' H' H'' s1 hd' hP s2 dx => ?_) (fun H1 σ' H' s1 hP => hd H1 σ' H' s1 (by rwa [List.length_map] at hP))
  rw [List.getElem?_map] at hd'
  cases e : as[k]? with
  | none => rw [e] at hd'; cases hd'
  | some a =>
    rw [e] at hd'; cases hd'
    obtain ⟨T, xs, rfl, hT, hr⟩ := dx.tupI
    obtain ⟨v, u, rfl, dv, du⟩ := dpAll2 hr
    exact ⟨T, [v, u], rfl, hT, rfl, v, [u], rfl, u, [], rfl, rfl, hs H1 k a v u σ' H' H'' s1 e hP s2 dv du⟩
theorem gn_cat (ha : GvL K ta σ H ds) (hb : GvL K tb σ H es) (hn : ds.length + es.length ≤ 100000) : GvN K (tOp rCat ta tb) σ H (ds ++ es) := fun H1 s Q q =>
  ha H1 s _ fun a xs H2 s2 ea da => hb H2 (s.trans s2) _ fun b ys H3 s3 eb db =>
    ⟨a, b, xs, ys, rfl, rfl, s3 _ _ ea, eb, by rw [da.length, db.length]; exact Nat.le_of_lt (small5 hn), fun p np => q _ _ _ ((s2.trans s3).trans (same_new np)) ((s2.trans s3).free np) upd_same (DpAll.append (da.sm (s3.trans (same_new np))) (db.sm (same_new np)))⟩
theorem gl_cat (ha : GvL K ta σ H ds) (hb : GvL K tb σ H es) (hn : ds.length + es.length ≤ 100000) : GvL K (tOp rCat ta tb) σ H (ds ++ es) := (gn_cat ha hb hn).gl
theorem gs_setN {i : Nat} {u : TS} {D : Ends} (h : GvN K t σ H ds) (q : ∀ a vs H', Same H H' → H a = none → H' a = some (.lst vs) → DpAll K H' vs ds → u D (σ.set i (some (.ref a))) H') : tSeq (tAsg t (gName i)) u D σ H := h.at fun a vs H' s n e dv => q a vs H' s n e dv
/-- tuple(range(n)) -/
theorem gv_tupRg {n : Nat} (h : Gv K t σ H (.int n)) (hn : n ≤ 100000) : Gv K (tTupRg (tRg1 t)) σ H (dInts ((List.range n).map fun i : Nat => (i : Int))) := fun H1 s Q q => h H1 s _ fun v H2 s2 d2 => by
  cases d2
  refine ⟨_, rfl, ⟨by omega, by omega, by omega, by omega, ?_⟩, fun p np => q _ _ (s2.trans (same_new np)) ?_⟩
  · have := small5 hn; omega
  · refine dp_ints (.inl (.inl ?_))
    rw [upd_same]
    unfold rgV
    rw [List.map_map, Int.sub_zero, Int.toNat_natCast]
    congr 2
    refine List.map_congr_left fun i _ => ?_
    show V.int (0 + (i : Int)) = V.int (i : Int)
    rw [Int.zero_add]
theorem gv_catT (ha : Gv K ta σ H (.tuple ds)) (hb : Gv K tb σ H (.tuple es)) (hn : ds.length + es.length ≤ 100000) : Gv K (tOp (rCatS K) ta tb) σ H (.tuple (ds ++ es)) :=
  gv_op2 ha hb fun x y H1 Q s hx hy q => by
    obtain ⟨a, xs, rfl, hq, hr⟩ := hx.tupI
    obtain ⟨b, ys, rfl, hq2, hr2⟩ := hy.tupI
    exact ⟨a, b, xs, ys, rfl, rfl, hq, hq2, by rw [hr.length, hr2.length]; exact Nat.le_of_lt (small5 hn), fun p H' s' hp => q _ _ s' (.tup hp (DpAll.append (hr.sm s') (hr2.sm s')))⟩
end
end Pr
namespace Pr
open PySem PySem.Spec PyProof.Rows L2
theorem gv_andV {K : PySem.W.Frag} {σ : L2.St} {H : Hp} {ta tb : TE} {b c : Bool} (ha : Gv K ta σ H (.bool b)) (hb : b = true → Gv K tb σ H (.bool c)) : Gv K (tAndV ta tb) σ H (.bool (b && c)) := fun H1 s Q q => ha H1 s _ fun v H2 s2 d2 => by
  cases d2
  refine ⟨b, rfl, ?_⟩
  cases b with
  | true => rw [if_pos rfl]; exact hb rfl H2 (s.trans s2) _ fun v H3 s3 d3 => q v H3 (s2.trans s3) d3
  | false => rw [if_neg Bool.false_ne_true]; exact q _ _ s2 (.bl false)
theorem gv_orV {K : PySem.W.Frag} {σ : L2.St} {H : Hp} {ta tb : TE} {b c : Bool} (ha : Gv K ta σ H (.bool b)) (hb : b = false → Gv K tb σ H (.bool c)) : Gv K (tOrV ta tb) σ H (.bool (b || c)) := fun H1 s Q q => ha H1 s _ fun v H2 s2 d2 => by
  cases d2
  refine ⟨b, rfl, ?_⟩
  cases b with
  | true => rw [if_pos rfl]; exact q _ _ s2 (.bl true)
  | false => rw [if_neg Bool.false_ne_true]; exact hb rfl H2 (s.trans s2) _ fun v H3 s3 d3 => q v H3 (s2.trans s3) d3
/-- each of 0 .. n - 1 once -/
structure IsP (n : Nat) (nm : List Int) : Prop where
  len : nm.length = n
  nd : nm.Nodup
  rng : ∀ x ∈ nm, 0 ≤ x ∧ x < (n : Int)
/-- what button b is called -/
def nmOf (nm : List Int) (x : Int) : Int := nm.getD x.toNat 0
theorem IsP.at {n : Nat} {nm : List Int} (h : IsP n nm) {x : Int} (h0 : 0 ≤ x) (h1 : x < (n : Int)) : nm[x.toNat]? = some (nmOf nm x) := by
  unfold nmOf
  rw [List.getD_eq_getElem?_getD, List.getElem?_eq_getElem (by rw [h.len]; omega)]; rfl
theorem nd_get {l : List Int} (h : l.Nodup) {i j : Nat} {x : Int} (hi : l[i]? = some x) (hj : l[j]? = some x) : i = j := by
  obtain ⟨w1, z1⟩ := List.getElem?_eq_some_iff.mp hi
  obtain ⟨w2, z2⟩ := List.getElem?_eq_some_iff.mp hj
  have hp := List.pairwise_iff_getElem.mp h
  rcases Nat.lt_trichotomy i j with lt | e | lt
  · exact absurd (z1.trans z2.symm) (hp _ _ w1 w2 lt)
  · exact e
  · exact absurd (z2.trans z1.symm) (hp _ _ w2 w1 lt)
theorem IsP.inj {n : Nat} {nm : List Int} (h : IsP n nm) {x y : Int} (h0 : 0 ≤ x) (h1 : x < (n : Int)) (h2 : 0 ≤ y) (h3 : y < (n : Int)) (e : nmOf nm x = nmOf nm y) : x = y := by
  have a := h.at h0 h1
  have b := h.at h2 h3
  rw [← e] at b
  have := nd_get h.nd a b
  omega
end Pr
namespace Pr
open PySem PySem.Spec PyProof.Rows L2
section
variable {κ : Type} [DecidableEq κ]
abbrev BL (κ : Type) := List (κ × List Int)
def addK (L : BL κ) (k : κ) (r : List Int) : BL κ := if k ∈ L.map (·.1) then L else L ++ [(k, r)]
/-- what the first m presses of one thing add -/
def procB (step : κ → Nat → κ) (L : BL κ) (k : κ) (r : List Int) (m : Nat) : BL κ := (List.range m).foldl (fun L b => addK L (step k b) (r ++ [(b : Int)])) L
theorem procB_succ (step : κ → Nat → κ) (L : BL κ) (k : κ) (r : List Int) (m : Nat) : procB step L k r (m + 1) = addK (procB step L k r m) (step k m) (r ++ [(m : Int)]) := by
  unfold procB; rw [List.range_succ, List.foldl_append]; rfl
def bfsN (step : κ → Nat → κ) (n : Nat) (s : κ) : Nat → BL κ
  | 0 => [(s, [])]
  | i + 1 => match (bfsN step n s i)[i]? with
    | none => bfsN step n s i
    | some x => procB step (bfsN step n s i) x.1 x.2 n
theorem addK_pre (L : BL κ) (k : κ) (r : List Int) : L <+: addK L k r := by
  unfold addK; split
  · exact List.prefix_refl _
  · exact List.prefix_append _ _
theorem procB_pre (step : κ → Nat → κ) (L : BL κ) (k : κ) (r : List Int) : ∀ m, L <+: procB step L k r m
  | 0 => List.prefix_refl _
  | m + 1 => by rw [procB_succ]; exact (procB_pre step L k r m).trans (addK_pre _ _ _)
variable {step : κ → Nat → κ} {n : Nat} {s : κ}
theorem bfs_step {i : Nat} {x : κ × List Int} (h : (bfsN step n s i)[i]? = some x) : bfsN step n s (i + 1) = procB step (bfsN step n s i) x.1 x.2 n := by
  simp only [bfsN, h]
theorem bfs_succ_pre (i : Nat) : bfsN step n s i <+: bfsN step n s (i + 1) := by
  show bfsN step n s i <+: match (bfsN step n s i)[i]? with | none => bfsN step n s i | some x => procB step (bfsN step n s i) x.1 x.2 n
  split
  · exact List.prefix_refl _
  · exact procB_pre _ _ _ _ _
theorem bfs_pre {i j : Nat} (h : i ≤ j) : bfsN step n s i <+: bfsN step n s j := by
  induction j with
  | zero => have : i = 0 := by omega
            subst this; exact List.prefix_refl _
  | succ j ih =>
    by_cases e : i = j + 1
    · subst e; exact List.prefix_refl _
    · exact (ih (by omega)).trans (bfs_succ_pre j)
theorem pre_get {α : Type} {l1 l2 : List α} (h : l1 <+: l2) {i : Nat} (hi : i < l1.length) : l2[i]? = l1[i]? := by
  obtain ⟨t, rfl⟩ := h
  rw [List.getElem?_append_left hi]
theorem addK_all {P : κ → Prop} {L : BL κ} {k : κ} {r : List Int} (h : ∀ x ∈ L, P x.1) (hk : P k) : ∀ x ∈ addK L k r, P x.1 := by
  unfold addK; split
  · exact h
  · intro x hx
    rcases List.mem_append.mp hx with hx | hx
    · exact h x hx
    · rw [List.mem_singleton.mp hx]; exact hk
theorem addK_nd {L : BL κ} {k : κ} {r : List Int} (h : (L.map (·.1)).Nodup) : ((addK L k r).map (·.1)).Nodup := by
  unfold addK; split
  · exact h
  · rename_i hk
    rw [List.map_append, List.nodup_append]
    exact ⟨h, by simp, fun a ha b hb => by rintro rfl; exact hk (by rw [List.mem_singleton.mp hb] at ha; exact ha)⟩
theorem procB_all {P : κ → Prop} {L : BL κ} {k : κ} {r : List Int} (h : ∀ x ∈ L, P x.1) : ∀ m, (∀ b, b < m → P (step k b)) → ∀ x ∈ procB step L k r m, P x.1
  | 0, _ => h
  | m + 1, hk => by rw [procB_succ]; exact addK_all (procB_all h m fun b hb => hk b (by omega)) (hk m (by omega))
theorem procB_nd {L : BL κ} {k : κ} {r : List Int} (h : (L.map (·.1)).Nodup) : ∀ m, ((procB step L k r m).map (·.1)).Nodup
  | 0 => h
  | m + 1 => by rw [procB_succ]; exact addK_nd (procB_nd h m)
theorem bfs_nd (i : Nat) : ((bfsN step n s i).map (·.1)).Nodup := by
  induction i with
  | zero => show ([s]).Nodup; simp
  | succ i ih =>
    show (List.map (fun x : κ × List Int => x.1) (match (bfsN step n s i)[i]? with | none => bfsN step n s i | some x => procB step (bfsN step n s i) x.1 x.2 n)).Nodup
    split
    · exact ih
    · exact procB_nd ih n
theorem bfs_all {P : κ → Prop} (h0 : P s) (hs : ∀ k b, P k → b < n → P (step k b)) (i : Nat) : ∀ x ∈ bfsN step n s i, P x.1 := by
  induction i with
  | zero => intro x hx; rw [List.mem_singleton.mp hx]; exact h0
  | succ i ih =>
    show ∀ x ∈ (match (bfsN step n s i)[i]? with | none => bfsN step n s i | some x => procB step (bfsN step n s i) x.1 x.2 n), P x.1
    split
    · exact ih
    · rename_i x hx
      exact procB_all ih n fun b hb => hs _ _ (ih _ (List.mem_of_getElem? hx)) hb
theorem bfs_stop {i : Nat} (h : (bfsN step n s i).length ≤ i) {j : Nat} (hj : i ≤ j) : bfsN step n s j = bfsN step n s i := by
  induction j with
  | zero => have : i = 0 := by omega
            subst this; rfl
  | succ j ih =>
    by_cases e : i = j + 1
    · subst e; rfl
    · have ih := ih (by omega)
      show (match (bfsN step n s j)[j]? with | none => bfsN step n s j | some x => procB step (bfsN step n s j) x.1 x.2 n) = _
      rw [ih, List.getElem?_eq_none (by omega)]
/-- rows are short: the row of a thing is as long as its level -/
theorem procB_rows {L : BL κ} {k : κ} {r : List Int} {N : Nat} (h : ∀ x ∈ L, x.2.length ≤ N ∧ ∀ y ∈ x.2, 0 ≤ y ∧ y < (n : Int)) (hr : r.length + 1 ≤ N ∧ ∀ y ∈ r, 0 ≤ y ∧ y < (n : Int)) : ∀ m, m ≤ n → ∀ x ∈ procB step L k r m, x.2.length ≤ N ∧ ∀ y ∈ x.2, 0 ≤ y ∧ y < (n : Int)
  | 0, _ => h
  | m + 1, hm => by
    rw [procB_succ]
    unfold addK
    split
    · exact procB_rows h hr m (by omega)
    · intro x hx
      rcases List.mem_append.mp hx with hx | hx
      · exact procB_rows h hr m (by omega) x hx
      · rw [List.mem_singleton.mp hx]
        refine ⟨by rw [List.length_append]; exact hr.1, fun y hy => ?_⟩
        rcases List.mem_append.mp hy with hy | hy
        · exact hr.2 y hy
        · rw [List.mem_singleton.mp hy]; omega
theorem bfs_rows (i : Nat) : ∀ x ∈ bfsN step n s i, x.2.length ≤ i ∧ ∀ y ∈ x.2, 0 ≤ y ∧ y < (n : Int) := by
  induction i with
  | zero => intro x hx; rw [List.mem_singleton.mp hx]; exact ⟨Nat.le_refl _, fun y hy => by cases hy⟩
  | succ i ih =>
    have ih' : ∀ x ∈ bfsN step n s i, x.2.length ≤ i + 1 ∧ ∀ y ∈ x.2, 0 ≤ y ∧ y < (n : Int) := fun x hx => ⟨by have := (ih x hx).1; omega, (ih x hx).2⟩
    show ∀ x ∈ (match (bfsN step n s i)[i]? with | none => bfsN step n s i | some x => procB step (bfsN step n s i) x.1 x.2 n), _
    split
    · exact ih'
    · rename_i x hx
      have hx' := ih x (List.mem_of_getElem? hx)
      exact procB_rows ih' ⟨by omega, hx'.2⟩ n (Nat.le_refl _)
end
/-- the number whose digits to the base b these are -/
def enc (b : Nat) : Nat → (Nat → Nat) → Nat
  | 0, _ => 0
  | n + 1, d => d 0 + b * enc b n fun i => d (i + 1)
theorem enc_lt {b : Nat} : ∀ (n : Nat) (d : Nat → Nat), (∀ i, i < n → d i < b) → enc b n d < b ^ n
  | 0, _, _ => by simp [enc]
  | n + 1, d, h => by
    have h0 := h 0 (by omega)
    have h1 := enc_lt n (fun i => d (i + 1)) fun i hi => h (i + 1) (by omega)
    show d 0 + b * enc b n (fun i => d (i + 1)) < b ^ (n + 1)
    rw [Nat.pow_succ]
    have h2 : b * (enc b n (fun i => d (i + 1)) + 1) ≤ b * b ^ n := Nat.mul_le_mul_left _ h1
    rw [Nat.mul_add, Nat.mul_one] at h2
    rw [Nat.mul_comm (b ^ n) b]
    omega
theorem enc_inj {b : Nat} : ∀ (n : Nat) (d e : Nat → Nat), (∀ i, i < n → d i < b) → (∀ i, i < n → e i < b) → enc b n d = enc b n e → ∀ i, i < n → d i = e i
  | 0, _, _, _, _, _, i, hi => by omega
  | n + 1, d, e, hd, he, h, i, hi => by
    have h' : d 0 + b * enc b n (fun i => d (i + 1)) = e 0 + b * enc b n (fun i => e (i + 1)) := h
    have d0 := hd 0 (by omega)
    have e0 := he 0 (by omega)
    have hb : 0 < b := by omega
    have z : d 0 = e 0 := by
      have := congrArg (· % b) h'
      simp only [Nat.add_mul_mod_self_left] at this
      rwa [Nat.mod_eq_of_lt d0, Nat.mod_eq_of_lt e0] at this
    have z2 : enc b n (fun i => d (i + 1)) = enc b n (fun i => e (i + 1)) := by
      rw [z] at h'
      exact Nat.eq_of_mul_eq_mul_left hb (Nat.add_left_cancel h')
    cases i with
    | zero => exact z
    | succ i => exact enc_inj n _ _ (fun i hi => hd (i + 1) (by omega)) (fun i hi => he (i + 1) (by omega)) z2 i (by omega)
/-- things with different digits are few -/
theorem few_of {κ : Type} {b n : Nat} {P : κ → Prop} {dig : κ → Nat → Nat} (hd : ∀ k i, P k → i < n → dig k i < b) (inj : ∀ k k', P k → P k' → (∀ i, i < n → dig k i = dig k' i) → k = k') {ks : List κ} (nd : ks.Nodup) (h : ∀ k ∈ ks, P k) : ks.length ≤ b ^ n := by
  have := nodup_few (b ^ n) (ks.map fun k => ((enc b n (dig k) : Nat) : Int)) ?_ ?_
  · rwa [List.length_map] at this
  · rw [List.nodup_iff_pairwise_ne, List.pairwise_map]
    refine List.Pairwise.imp_of_mem ?_ (List.nodup_iff_pairwise_ne.mp nd)
    intro k k' hk hk' ne e
    refine ne (inj k k' (h k hk) (h k' hk') ?_)
    exact enc_inj n _ _ (fun i hi => hd k i (h k hk) hi) (fun i hi => hd k' i (h k' hk') hi) (by omega)
  · intro x hx
    obtain ⟨k, hk, rfl⟩ := List.mem_map.mp hx
    have := enc_lt n (dig k) fun i hi => hd k i (h k hk) hi
    exact ⟨by omega, by exact_mod_cast this⟩
/-- states of n buttons -/
theorem few_states {n : Nat} {ks : List (List Int)} (nd : ks.Nodup) (h : ∀ k ∈ ks, Asc n k) : ks.length ≤ 2 ^ n := by
  refine few_of (P := Asc n) (dig := fun k i => if (i : Int) ∈ k then 1 else 0) (fun k i _ _ => by split <;> omega) (fun k k' hk hk' hh => ?_) nd h
  refine asc_ext hk.up hk'.up fun x => ?_
  have key : ∀ {l l' : List Int}, Asc n l → (∀ i, i < n → (if (i : Int) ∈ l then 1 else 0 : Nat) = if (i : Int) ∈ l' then 1 else 0) → ∀ {x : Int}, x ∈ l → x ∈ l' := fun {l l'} hl hh {x} hx => by
    have r := hl.rng x hx
    have := hh x.toNat (by omega)
    rw [show ((x.toNat : Nat) : Int) = x by omega, if_pos hx] at this
    by_cases h : x ∈ l'
    · exact h
    · rw [if_neg h] at this; omega
  exact ⟨key hk hh, key hk' fun i hi => (hh i hi).symm⟩
end Pr
namespace Pr
open PySem PySem.Spec PyProof.Rows L2 PySem.W
theorem lexLt_lt : ∀ xs ys : List Int, HT.lexLt xs ys = decide (xs < ys)
  | [], [] => by simp [HT.lexLt]
  | [], y :: ys => by simp [HT.lexLt]
  | x :: xs, [] => by simp [HT.lexLt]
  | x :: xs, y :: ys => by
    rw [HT.lexLt_cons, lexLt_lt xs ys]
    by_cases e : x = y
    · subst e
      rw [if_pos rfl]
      exact decide_eq_decide.mpr (by simp [List.cons_lt_cons_iff])
    · rw [if_neg e]
      exact decide_eq_decide.mpr (by simp [List.cons_lt_cons_iff, e])
theorem lex_total (a b : List Int) : HT.lexLt a b = false ∨ HT.lexLt b a = false := by
  rw [lexLt_lt, lexLt_lt, decide_eq_false_iff_not, decide_eq_false_iff_not]
  by_cases h : a < b
  · exact .inr (List.lt_asymm h)
  · exact .inl h
theorem lex_trans {a b c : List Int} (h1 : HT.lexLt b a = false) (h2 : HT.lexLt c b = false) : HT.lexLt c a = false := by
  rw [lexLt_lt, decide_eq_false_iff_not] at *
  have h1 : a ≤ b := h1
  have h2 : b ≤ c := h2
  exact (List.le_trans h1 h2 : a ≤ c)
theorem lex_anti {a b : List Int} (h1 : HT.lexLt b a = false) (h2 : HT.lexLt a b = false) : a = b := by
  rw [lexLt_lt, decide_eq_false_iff_not] at *
  exact List.le_antisymm (show a ≤ b from h1) (show b ≤ a from h2)
/-- the ascending one of the same rows -/
def srtT (ks : List (List Int)) : List (List Int) := ks.mergeSort fun a b => !HT.lexLt b a
theorem srtT_perm (ks : List (List Int)) : (srtT ks).Perm ks := List.mergeSort_perm _ _
theorem srtT_up (ks : List (List Int)) : (srtT ks).Pairwise fun a b => HT.lexLt b a = false := by
  have := List.pairwise_mergeSort (le := fun a b : List Int => !HT.lexLt b a) (fun a b c h1 h2 => by simp at *; exact lex_trans h1 h2) (fun a b => by
    rcases lex_total a b with h | h <;> simp [h]) ks
  exact this.imp fun h => by simpa using h
theorem permT_eq : ∀ {l1 l2 : List (List Int)}, l1.Perm l2 → l1.Pairwise (fun a b => HT.lexLt b a = false) → l2.Pairwise (fun a b => HT.lexLt b a = false) → l1 = l2 := by
  intro l1
  induction l1 with
  | nil => intro l2 h _ _; exact (List.nil_perm.mp h).symm
  | cons x r ih =>
    intro l2 h h1 h2
    cases l2 with
    | nil => exact absurd h.symm (by simp)
    | cons y s =>
      rw [List.pairwise_cons] at h1 h2
      have hxy : x = y := by
        have hx : x ∈ y :: s := h.subset List.mem_cons_self
        have hy : y ∈ x :: r := h.symm.subset List.mem_cons_self
        rcases List.mem_cons.mp hx with e | e
        · exact e
        · rcases List.mem_cons.mp hy with e' | e'
          · exact e'.symm
          · exact lex_anti (h1.1 y e') (h2.1 x e)
      subst hxy
      rw [ih (List.Perm.cons_inv h) h1.2 h2.2]
theorem srtT_eq {l m : List (List Int)} (h : m.Perm l) (u : m.Pairwise fun a b => HT.lexLt b a = false) : srtT l = m := permT_eq ((srtT_perm l).trans h.symm) (srtT_up l) u
section
variable {X : Cx}
def rSortTup (K : PySem.W.Frag) : List V → Hp → VK → Prop := fun vs H Q => ∃ (a : Addr) (ts : List Addr) (k : Addr → List Int), vs = [V.ref a] ∧ SqL K H a (ts.map V.ref) ∧ (∀ t ∈ ts, SqT K H t ((k t).map V.int)) ∧ ((∀ t ∈ ts, k t ≠ []) ∨ (ts.head?.map k) = some []) ∧
  ∀ (ts' : List Addr) (p : Addr), ts'.Perm ts → ts'.Pairwise (fun p q => HT.lexLt (k q) (k p) = false) → H p = none → Q (.ref p) (upd H p (.lst (ts'.map V.ref)))
theorem each_map_ref {R : Value → Addr → Prop} : ∀ {out : List Value} {ts : List Addr}, EachIs (fun v t => v = Value.ref t) out ts → out = ts.map Value.ref
  | _, _, .nil => rfl
  | _, _, .cons e t => by rw [e, each_map_ref (R := R) t]; rfl
theorem cr_sortTup (hu : X.A.units + 64 < cLine) : CallR X (.builtin "sorted") (rSortTup X.K) := by
  intro pins s σ H vs us Q I r h
  obtain ⟨a, ts, k, rfl, hs, hx, h0, q⟩ := h
  rcases h0 with h0 | h0
  · obtain ⟨its, rv, hl, hz⟩ := I.list hs
    obtain ⟨u, rfl, ru⟩ := vals1 r
    obtain rfl : u = Value.ref a := ru
    have ei := nts_of rv
    have hlen : its.length = ts.length := by rw [← rv.length, List.length_map]
    have er : EachIs (fun v t => ∃ as, Reads s.heap v (.tuple ((k t).map PyData.int)) as) its ts := by
      rw [ei]
      have : ∀ (l : List Addr), (∀ t ∈ l, t ∈ ts) → EachIs (fun v t => ∃ as, Reads s.heap v (.tuple ((k t).map PyData.int)) as) (l.map Value.ref) l := fun l => by
        induction l with
        | nil => intro _; exact .nil
        | cons t l ih => intro hm; exact .cons (Dp.reads I _ _ _ (dp_ints (hx t (hm t List.mem_cons_self))) rfl) (ih fun x hx => hm x (List.mem_cons_of_mem _ hx))
      exact this ts fun _ h => h
    have e0 : EachIs (fun v t => v = Value.ref t) its ts := by
      rw [ei]
      have : ∀ (l : List Addr), EachIs (fun v t => v = Value.ref t) (l.map Value.ref) l := fun l => by
        induction l with
        | nil => exact .nil
        | cons t l ih => exact .cons rfl ih
      exact this ts
    refine sorted_data (enc := fun t => .tuple ((k t).map PyData.int)) hl.isList e0 er (fun d hd d' hd' => ?_) (.inl fun d hd => ?_) (by rw [List.length_map] at hz; exact hz) (fun b hb => ?_) fun out ol oe => ?_
    · obtain ⟨t, _, rfl⟩ := List.mem_map.mp hd
      obtain ⟨t', _, rfl⟩ := List.mem_map.mp hd'
      show alike (.tuple _) (.tuple _) = true
      simp only [alike]
      exact alike_ints _ _
    · obtain ⟨t, ht, rfl⟩ := List.mem_map.mp hd
      cases e : k t with
      | nil => exact absurd e (h0 t ht)
      | cons x r => exact ⟨.int x, r.map PyData.int, rfl⟩
    · show X.A.units + 2 + (PyData.tuple ((k b).map PyData.int)).depth < cLine
      simp only [PyData.depth, depth_ints]; omega
    · have eo := each_map_ref (R := fun _ _ => True) oe
      have le : dataLe false (fun t => PyData.tuple ((k t).map PyData.int)) = fun p q => !HT.lexLt (k q) (k p) := by
        funext p q
        show (!dataLt (.tuple ((k q).map .int)) (.tuple ((k p).map .int))) = _
        rw [dataLt_tuple]
        show (!rowLt ((k q).map .int) ((k p).map .int)) = _
        rw [dataLt_ints, lexLt_lt]
      have hp : (ts.mergeSort (dataLe false fun t => PyData.tuple ((k t).map PyData.int))).Perm ts := List.mergeSort_perm _ _
      have hs' : (ts.mergeSort (dataLe false fun t => PyData.tuple ((k t).map PyData.int))).Pairwise (fun p q => HT.lexLt (k q) (k p) = false) := by
        rw [le]
        have := List.pairwise_mergeSort (le := fun p q : Addr => !HT.lexLt (k q) (k p)) (fun a b c h1 h2 => by simp at *; exact lex_trans h1 h2) (fun a b => by rcases lex_total (k a) (k b) with h | h <;> simp [h]) ts
        exact this.imp fun h => by simpa using h
      have hl2 : ((ts.mergeSort (dataLe false fun t => PyData.tuple ((k t).map PyData.int))).map V.ref).length ≤ sizeLine := by
        rw [List.length_map, hp.length_eq]; rw [List.length_map] at hz; exact hz
      have rvo : Vals ((ts.mergeSort (dataLe false fun t => PyData.tuple ((k t).map PyData.int))).map V.ref) out := by
        rw [eo]; exact of_nts _
      obtain ⟨n, hn⟩ := sortedAll_at s.heap its out.toArray
      exact ⟨.ref (s.heap.objs.size + 1), upd H _ (.lst ((ts.mergeSort (dataLe false fun t => PyData.tuple ((k t).map PyData.int))).map V.ref)), I.laid (t' := s.toks) (fun b o e => sortedAll_old e) (Nat.le_succ _) ⟨hl2, out, n, rvo, hn⟩, rfl, q _ _ hp hs' (I.hok.fresh (Nat.le_succ _))⟩
  · exact cr_sortedTI hu pins s σ H [V.ref a] us Q I r ⟨a, ts, k, rfl, hs, hx, h0, q⟩
end
end Pr
namespace Pr
open PySem PySem.Spec PyProof.Rows L2
section
variable {X : Cx}
/-- {k: v}, k a tuple; the new dict stands empty while the pair is made -/
def tDispT (tk tv : TE) : TE := fun σ H Q => ∀ p, H p = none → tPairs [(tk, tv)] σ (upd H p (.dT [])) fun ps H2 => H2 p = some (.dT []) ∧ ∃ (y : V) (b : Addr) (ks : List Key), ps = [(V.ref b, y)] ∧ H2 b = some (.tup (ks.map kV)) ∧ Q (.ref p) (upd H2 p (.dT [(ks, y)]))
theorem pe_dispT {k v : Expr} {tk tv : TE} {pos : Pos} (hu : X.A.units + 1 < cLine) (hk : PE X k tk) (hv : PE X v tv) : PE X (.Dict [some k] [v] pos) (tDispT tk tv) := by
  refine ⟨fun pins s σ H Q I q => ?_⟩
  have hn := I.hok.fresh (Nat.le_refl s.heap.objs.size)
  have I1 := I.laid (a := s.heap.objs.size) (o := .dT []) (h' := s.heap.push { cls := .type "dict", data := .dict #[] }) (t' := s.toks) (fun _ _ q => Heap.get?_push_of_some _ q) (Nat.le_refl _) (dt_empty s.heap I.big)
  have e0 := zip_pairTrees [some k] [v] X.env pos rfl rfl
  rw [arm_eval_Dict, e0, dictDisplay_pairs _ (by simp [pairTrees]) (by simp [pairTrees])]
  refine wpAny_bind (wpAny_standAt (wpAny_bind (wpAny_subDictH (knd := tupleKind (mixKind X.prog X.w)) (show X.A.units < cLine by omega) (by simp [pairTrees]) ?_)))
  have hp : PPs X pos [some k] [v] [(tk, tv)] := pps_cons hk hv pps_nil
  refine thn (hp.run pins _ σ _ _ I1 (q _ hn)) fun ws s2 ⟨ps, H2, I2, rel, e, y, b, ks, ep, eb, q2⟩ => ?_
  subst ep
  cases rel with
  | @cons _ wv _ bs r1 r2 =>
    cases r2
    obtain ⟨w1, w2⟩ := wv
    obtain ⟨rb, ry⟩ := r1
    obtain rfl : w1 = Value.ref b := rb
    obtain ⟨z, hd, xs, rx, dd⟩ := dt_of I2.hok e
    cases rx
    refine ⟨[(ks, b, w2)], ⟨rfl, rfl, key_of I2.hok eb, trivial⟩, dd, fun h' tk' dd' hs => ?_⟩
    refine wpAny_pure ⟨.ref s.heap.objs.size, _, ?_, rfl, q2⟩
    obtain ⟨qo, es, epo, hq, h2, h3, h4, _, h5⟩ := dd'
    refine d_write I2 (by rw [e]; exact True.intro) hs ⟨qo, hq⟩ ⟨by show 1 ≤ sizeLine; decide, hd, _, .cons ⟨rfl, ?_, ry⟩ .nil, qo, es, epo, hq, h2, h3, h4, h5⟩
    rw [upd_ne (ne_of eb e (fun z => nomatch z))]
    exact eb
end
def kInt (k : List Int) : List Key := k.map Sum.inl
theorem kInt_kV (k : List Int) : (kInt k).map kV = k.map V.int := by unfold kInt; rw [List.map_map]; rfl
theorem val_zip {κ : Type} [DecidableEq κ] : ∀ {ks : List κ} {vs : List V} {i : Nat} {k : κ} {v : V}, ks.Nodup → ks[i]? = some k → vs[i]? = some v → valV (ks.zip vs) k = some v
  | [], _, _, _, _, _, h, _ => by simp at h
  | _ :: _, [], _, _, _, _, _, h => by simp at h
  | a :: ks, b :: vs, 0, k, v, nd, h1, h2 => by
    simp at h1 h2; subst h1 h2
    rw [List.zip_cons_cons]; exact valV_pos rfl
  | a :: ks, b :: vs, i + 1, k, v, nd, h1, h2 => by
    rw [List.nodup_cons] at nd
    have h1' : ks[i]? = some k := by simpa using h1
    rw [List.zip_cons_cons, valV_neg (fun e => nd.1 (by rw [show a = k from e]; exact List.mem_of_getElem? h1'))]
    exact val_zip nd.2 h1' (by simpa using h2)
theorem val_zip_none {κ : Type} [DecidableEq κ] : ∀ {ks : List κ} {vs : List V} {k : κ}, k ∉ ks → valV (ks.zip vs) k = none
  | [], _, _, _ => rfl
  | _ :: _, [], _, _ => by rw [List.zip_nil_right]; rfl
  | a :: ks, b :: vs, k, h => by
    rw [List.zip_cons_cons, valV_neg (fun e => h (by rw [show a = k from e]; exact List.mem_cons_self))]
    exact val_zip_none fun z => h (List.mem_cons_of_mem _ z)
/-- the dict of the things found, each with its row -/
def DictB (K : PySem.W.Frag) (H : Hp) (d : Addr) (L : BL (List Key)) : Prop := ∃ vs, H d = some (.dT ((L.map (·.1)).zip vs)) ∧ DpAll K H vs (L.map fun x => dInts x.2)
theorem DictB.same {K : PySem.W.Frag} {H H' : Hp} {d : Addr} {L : BL (List Key)} (h : DictB K H d L) (s : Same H H') : DictB K H' d L := let ⟨vs, e, dv⟩ := h; ⟨vs, s _ _ e, dv.sm s⟩
theorem DictB.get {K : PySem.W.Frag} {H : Hp} {d a : Addr} {L : BL (List Key)} {i : Nat} {x : List Key × List Int} (h : DictB K H d L) (nd : (L.map (·.1)).Nodup) (hx : L[i]? = some x) (ea : H a = some (.tup (x.1.map kV))) : ∃ v, DGet H d (.ref a) (some v) ∧ Dp K H v (dInts x.2) := by
  obtain ⟨vs, e, dv⟩ := h
  obtain ⟨v, hv, dx⟩ := dv.get i (dInts x.2) (by rw [List.getElem?_map, hx]; rfl)
  refine ⟨v, ?_, dx⟩
  have := DGet.t (k := x.1) e ea
  rwa [val_zip nd (by rw [List.getElem?_map, hx]; rfl) hv] at this
theorem DictB.none {K : PySem.W.Frag} {H : Hp} {d a : Addr} {L : BL (List Key)} {k : List Key} (h : DictB K H d L) (hk : k ∉ L.map (·.1)) (ea : H a = some (.tup (k.map kV))) : DGet H d (.ref a) none := by
  obtain ⟨vs, e, dv⟩ := h
  have := DGet.t (k := k) e ea
  rwa [val_zip_none hk] at this
theorem DictB.some {K : PySem.W.Frag} {H : Hp} {d a : Addr} {L : BL (List Key)} {k : List Key} (h : DictB K H d L) (nd : (L.map (·.1)).Nodup) (hk : k ∈ L.map (·.1)) (ea : H a = some (.tup (k.map kV))) : ∃ v, DGet H d (.ref a) (some v) := by
  obtain ⟨x, hx, rfl⟩ := List.mem_map.mp hk
  obtain ⟨i, hi⟩ := List.getElem?_of_mem hx
  obtain ⟨v, g, _⟩ := h.get nd hi ea
  exact ⟨v, g⟩
/-- the heap but for what stands at d and at l -/
def But2 (d l : Addr) (H H' : Hp) : Prop := ∀ b o, b ≠ d → b ≠ l → H b = some o → H' b = some o
theorem kp_dT {H : Hp} {d : Addr} {kvs : List (List Key × V)} {o : HO} (h : H d = some (.dT kvs)) : Kp H (upd H d o) :=
  ⟨fun b ys e => by rw [upd_ne (ne_of e h (by intro z; cases z))]; exact e, fun b q u e => by rw [upd_ne (ne_of e h (by intro z; cases z))]; exact e⟩
theorem lf_rows {L : BL (List Key)} : lfAll (L.map fun x => dInts x.2) = true := lfAll_of fun d hd => by
  obtain ⟨x, _, rfl⟩ := List.mem_map.mp hd
  exact lf_ints _
/-- a new thing is put into it -/
theorem DictB.put {K : PySem.W.Frag} {H : Hp} {d a : Addr} {L : BL (List Key)} {k : List Key} {r : List Int} {v : V} (h : DictB K H d L) (hk : k ∉ L.map (·.1)) (ea : H a = .some (.tup (k.map kV))) (dv : Dp K H v (dInts r)) (hl : L.length < 100000) :
    ∃ H', DPut H d (.ref a) v H' ∧ DictB K H' d (L ++ [(k, r)]) ∧ Kp H H' ∧ ∀ b o, b ≠ d → H b = .some o → H' b = .some o := by
  obtain ⟨vs, e, dvs⟩ := h
  have lv : vs.length = L.length := by rw [dvs.length, List.length_map]
  refine ⟨_, DPut.t (k := k) (v := v) e ea (by rw [List.length_zip, List.length_map, lv, Nat.min_self]; exact small5 (by omega)), ?_, kp_dT e, fun b o hb eb => by rw [upd_ne hb]; exact eb⟩
  rw [putK_new v (val_zip_none hk)]
  refine ⟨vs ++ [v], ?_, ?_⟩
  · rw [upd_same, List.map_append, List.zip_append (by rw [List.length_map, lv])]; rfl
  · refine dpAll_kp (kp_dT e) _ _ lf_rows ?_
    rw [List.map_append]
    exact DpAll.append dvs (.cons dv .nil)
end Pr
namespace Pr
open PySem PySem.Spec PyProof.Rows L2
theorem ok_app {a b : Str} (ha : PyData.strOk a = true) (hb : PyData.strOk b = true) : PyData.strOk (a ++ b) = true := by
  unfold PyData.strOk at ha hb ⊢
  show (a.cps ++ b.cps).all _ = true
  rw [Array.all_append, ha, hb]; rfl
theorem ok_of (s : String) : PyData.strOk (Str.ofString s) = true := by
  unfold PyData.strOk
  rw [Str.ofString_eq_toList, Array.all_eq_true_iff_forall_mem]
  intro x hx
  rw [List.mem_toArray, List.mem_map] at hx
  obtain ⟨c, _, rfl⟩ := hx
  rw [decide_eq_true_eq]
  have := c.valid
  rcases this with h | h
  · exact Nat.lt_trans h (by decide)
  · exact h.2
theorem ok_join {sep : Str} (hs : PyData.strOk sep = true) : ∀ {ts : List Str}, (∀ t ∈ ts, PyData.strOk t = true) → PyData.strOk (Str.join sep ts) = true
  | [], _ => by show PyData.strOk Str.empty = true; decide +kernel
  | [x], h => h x List.mem_cons_self
  | x :: y :: r, h => by
    show PyData.strOk (x ++ sep ++ Str.join sep (y :: r)) = true
    exact ok_app (ok_app (h x List.mem_cons_self) hs) (ok_join hs fun t ht => h t (List.mem_cons_of_mem _ ht))
theorem shp_of {d : PyData} (h : d.canLay0 = true) (hd : d.depth ≤ 64) : SeqAt.shaped d = true := by
  unfold SeqAt.shaped
  rw [h, decide_eq_true hd]; rfl
end Pr
namespace Pr
open PySem PySem.Spec PyProof.Rows L2
/-- a new tuple -/
def GvU (K : PySem.W.Frag) (t : TE) (σ : L2.St) (H : Hp) (ds : List PyData) : Prop := ∀ H1, Same H H1 → ∀ Q : VK, (∀ a vs H', Same H1 H' → H1 a = none → H' a = some (.tup vs) → DpAll K H' vs ds → Q (.ref a) H') → t σ H1 Q
section
variable {K : PySem.W.Frag} {σ : L2.St} {H : Hp} {t ta tb : TE} {d e : PyData} {ds es : List PyData}
theorem GvU.at (h : GvU K t σ H ds) {Q : VK} (q : ∀ a vs H', Same H H' → H a = none → H' a = some (.tup vs) → DpAll K H' vs ds → Q (.ref a) H') : t σ H Q := h H (Same.refl _) Q q
theorem GvU.gv (h : GvU K t σ H ds) : Gv K t σ H (.tuple ds) := fun H1 s Q q => h H1 s Q fun a vs H' s' _ e dv => q _ H' s' (.tup (.inl (.inl e)) dv)
theorem gu_tupL (h : Gv K t σ H (.list ds)) : GvU K (tCB (rTupG K) (tCons t tNil)) σ H ds := fun H1 s Q q => h H1 s _ fun v H2 s2 d2 => by
  obtain ⟨a, xs, rfl, hq, hr⟩ := d2.lstI
  exact ⟨a, xs, rfl, .inl ⟨hq, fun l nl => q _ _ _ (s2.trans (same_new nl)) (s2.free nl) upd_same (hr.sm (same_new nl))⟩⟩
end
section
variable {X : Cx}
def rSortTP (K : PySem.W.Frag) : List V → Hp → VK → Prop := fun vs H Q => ∃ (a : Addr) (ts : List (Addr × List Int)), vs = [V.ref a] ∧ SqL K H a (ts.map fun p => V.ref p.1) ∧ (∀ p ∈ ts, SqT K H p.1 (p.2.map V.int)) ∧ ((∀ p ∈ ts, p.2 ≠ []) ∨ (ts.head?.map (·.2)) = some []) ∧
  ∀ (ts' : List (Addr × List Int)) (p : Addr), ts'.Perm ts → ts'.Pairwise (fun p q => HT.lexLt q.2 p.2 = false) → H p = none → Q (.ref p) (upd H p (.lst (ts'.map fun p => V.ref p.1)))
theorem cr_sortTP (hu : X.A.units + 64 < cLine) : CallR X (.builtin "sorted") (rSortTP X.K) := by
  intro pins s σ H vs us Q I r h
  obtain ⟨a, ts, rfl, hs, hx, h0, q⟩ := h
  have uq : ∀ p ∈ ts, ∀ p' ∈ ts, p.1 = p'.1 → p.2 = p'.2 := fun p hp p' hp' e => by
    have h1 := hx p hp
    have h2 := hx p' hp'
    rw [← e] at h2
    have := I.tuple_inj h1 h2
    exact List.map_inj_right (fun x y h => V.int.inj h) |>.mp this
  have hk : ∀ p ∈ ts, ((ts.find? fun z => decide (z.1 = p.1)).map (·.2)).getD [] = p.2 := fun p hp => by
    cases e : ts.find? fun z => decide (z.1 = p.1) with
    | none => have := List.find?_eq_none.mp e p hp; simp at this
    | some z =>
      have h1 := List.mem_of_find?_eq_some e
      have h2 : z.1 = p.1 := by simpa using List.find?_some e
      exact uq z h1 p hp h2
  have et : (ts.map (·.1)).map (fun t => (t, ((ts.find? fun z => decide (z.1 = t)).map (·.2)).getD [])) = ts := by
    rw [List.map_map]
    conv => rhs; rw [← List.map_id ts]
    exact List.map_congr_left fun p hp => by simp only [Function.comp]; rw [hk p hp]; rfl
  refine cr_sortTup hu pins s σ H _ us Q I r ⟨a, ts.map (·.1), fun t => ((ts.find? fun z => decide (z.1 = t)).map (·.2)).getD [], rfl, by rw [List.map_map]; exact hs, fun t ht => ?_, ?_, fun ts' p hp hu' np => ?_⟩
  · obtain ⟨p, hp, rfl⟩ := List.mem_map.mp ht
    have := hk p hp
    dsimp only
    rw [this]; exact hx p hp
  · rcases h0 with h0 | h0
    · refine .inl fun t ht => ?_
      obtain ⟨p, hp, rfl⟩ := List.mem_map.mp ht
      have := hk p hp
      dsimp only
      rw [this]; exact h0 p hp
    · refine .inr ?_
      cases ts with
      | nil => simp at h0
      | cons p ts =>
        have := hk p List.mem_cons_self
        rw [List.map_cons, List.head?_cons, Option.map_some, this]
        simpa using h0
  · have := q (ts'.map fun t => (t, ((ts.find? fun z => decide (z.1 = t)).map (·.2)).getD [])) p (by have := hp.map (fun t => (t, ((ts.find? fun z => decide (z.1 = t)).map (·.2)).getD [])); rwa [et] at this) (by rw [List.pairwise_map]; exact hu') np
    rw [List.map_map] at this
    exact this
end
theorem pairs_of {K : PySem.W.Frag} {H : Hp} : ∀ {ks : List (List Int)} {vs : List V}, DpAll K H vs (ks.map dInts) → ∃ ts : List (Addr × List Int), vs = ts.map (fun p => V.ref p.1) ∧ ks = ts.map (·.2) ∧ ∀ p ∈ ts, SqT K H p.1 (p.2.map V.int)
  | [], _, h => by cases h; exact ⟨[], rfl, rfl, fun _ h => by cases h⟩
  | k :: ks, _, h => by
    rw [List.map_cons] at h
    cases h with
    | cons x y =>
      obtain ⟨a, rfl, hq⟩ := x.intsI
      obtain ⟨ts, rfl, rfl, hh⟩ := pairs_of y
      refine ⟨(a, k) :: ts, rfl, rfl, fun p hp => ?_⟩
      rcases List.mem_cons.mp hp with rfl | hp
      · exact hq
      · exact hh p hp
theorem gn_sortT {K : PySem.W.Frag} {σ : L2.St} {H : Hp} {t : TE} {ks : List (List Int)} (h : Gv K t σ H (.list (ks.map dInts))) (h0 : (∀ k ∈ ks, k ≠ []) ∨ ks.head? = some []) : GvN K (tCB (rSortTP K) (tCons t tNil)) σ H ((srtT ks).map dInts) := fun H1 s Q q => h H1 s _ fun v H2 s2 d2 => by
  obtain ⟨a, xs, rfl, hq, hr⟩ := d2.lstI
  obtain ⟨ts, rfl, rfl, hh⟩ := pairs_of hr
  refine ⟨a, ts, rfl, hq, hh, ?_, fun ts' p hp hu np => ?_⟩
  · rcases h0 with h0 | h0
    · exact .inl fun p hp => h0 _ (List.mem_map.mpr ⟨p, hp, rfl⟩)
    · exact .inr (by rw [← List.head?_map]; exact h0)
  · have e : srtT (ts.map (·.2)) = ts'.map (·.2) := srtT_eq (hp.map _) (by rw [List.pairwise_map]; exact hu)
    refine q _ _ _ (s2.trans (same_new np)) (s2.free np) upd_same ?_
    rw [e]
    have : ∀ (l : List (Addr × List Int)), (∀ p ∈ l, p ∈ ts) → DpAll K H2 (l.map fun p => V.ref p.1) ((l.map (·.2)).map dInts) := fun l => by
      induction l with
      | nil => intro _; exact .nil
      | cons z l ih => intro hm; exact .cons (dp_ints (hh z (hm z List.mem_cons_self))) (ih fun x hx => hm x (List.mem_cons_of_mem _ hx))
    exact (this ts' fun p hp' => hp.subset hp').sm (same_new np)
def unK (k : List Key) : List Int := k.map fun x => match x with | .inl i => i | .inr _ => 0
theorem unK_kInt (l : List Int) : unK (kInt l) = l := by unfold unK kInt; rw [List.map_map]; exact List.map_id l
def stepP (pan : List (List Int)) (k : List Key) (b : Nat) : List Key := kInt (pressM pan (unK k) (b : Int))
def PKs (n : Nat) (k : List Key) : Prop := ∃ st, k = kInt st ∧ Asc n st
theorem pks_step {pan : List (List Int)} {k : List Key} {b : Nat} (h : PKs pan.length k) : PKs pan.length (stepP pan k b) := ⟨_, rfl, pressM_asc _ _ _⟩
theorem bfs_few {pan : List (List Int)} (few : pan.length ≤ 10) {k : List Key} (h : PKs pan.length k) (i : Nat) : (bfsN (stepP pan) pan.length k i).length ≤ 1024 := by
  have nd := bfs_nd (step := stepP pan) (n := pan.length) (s := k) i
  have hp := bfs_all (P := PKs pan.length) (step := stepP pan) (n := pan.length) h (fun k b hk _ => pks_step hk) i
  have := few_states (n := pan.length) (ks := (bfsN (stepP pan) pan.length k i).map fun x => unK x.1) ?_ ?_
  · rw [List.length_map] at this
    exact Nat.le_trans this (Nat.pow_le_pow_right (by decide) few)
  · rw [List.nodup_iff_pairwise_ne, List.pairwise_map]
    rw [List.nodup_iff_pairwise_ne, List.pairwise_map] at nd
    refine List.Pairwise.imp_of_mem ?_ nd
    intro x y hx hy ne e
    obtain ⟨a, ea, _⟩ := hp x hx
    obtain ⟨b, eb, _⟩ := hp y hy
    rw [ea, eb, unK_kInt, unK_kInt] at e
    exact ne (by rw [ea, eb, e])
  · intro z hz
    obtain ⟨x, hx, rfl⟩ := List.mem_map.mp hz
    obtain ⟨a, ea, ha⟩ := hp x hx
    rw [ea, unK_kInt]; exact ha
/-- the states that are reached, in the order in which they are found -/
def foundM (pan : List (List Int)) (st : List Int) : BL (List Key) := bfsN (stepP pan) pan.length (kInt st) 1024
def reachM (pan : List (List Int)) (st : List Int) : List (List Int) := (foundM pan st).map fun x => unK x.1
theorem reach_asc {pan : List (List Int)} {st : List Int} (h : Asc pan.length st) : ∀ k ∈ reachM pan st, Asc pan.length k := fun k hk => by
  obtain ⟨x, hx, rfl⟩ := List.mem_map.mp hk
  obtain ⟨a, ea, ha⟩ := bfs_all (P := PKs pan.length) (step := stepP pan) (n := pan.length) ⟨st, rfl, h⟩ (fun k b hk _ => pks_step hk) 1024 x hx
  rw [ea, unK_kInt]; exact ha
theorem reach_len {pan : List (List Int)} (few : pan.length ≤ 10) {st : List Int} (h : Asc pan.length st) : (reachM pan st).length ≤ 1024 := by
  unfold reachM; rw [List.length_map]; exact bfs_few few ⟨st, rfl, h⟩ 1024
theorem found_key {pan : List (List Int)} {st : List Int} (h : Asc pan.length st) : ∀ x ∈ foundM pan st, kInt (unK x.1) = x.1 := fun x hx => by
  obtain ⟨a, ea, ha⟩ := bfs_all (P := PKs pan.length) (step := stepP pan) (n := pan.length) ⟨st, rfl, h⟩ (fun k b hk _ => pks_step hk) 1024 x hx
  rw [ea, unK_kInt]
theorem reach_sortable {pan : List (List Int)} {st : List Int} (h : Asc pan.length st) : (∀ k ∈ reachM pan st, k ≠ []) ∨ (reachM pan st).head? = some [] := by
  have pre := bfs_pre (step := stepP pan) (n := pan.length) (s := kInt st) (Nat.zero_le 1024)
  have h0 : (reachM pan st).head? = some st := by
    obtain ⟨t, ht⟩ := pre
    unfold reachM foundM
    rw [← ht]
    show some (unK (kInt st)) = some st
    rw [unK_kInt]
  by_cases e : st = []
  · right; rw [h0, e]
  · left
    intro k hk
    obtain ⟨x, hx, rfl⟩ := List.mem_map.mp hk
    have := bfs_all (P := fun k => unK k ≠ []) (step := stepP pan) (n := pan.length) (s := kInt st) (by rw [unK_kInt]; exact e) (fun k b _ hb => by
      show unK (kInt (pressM pan (unK k) (b : Int))) ≠ []
      rw [unK_kInt]
      intro z
      have : (b : Int) ∈ pressM pan (unK k) (b : Int) := mem_pressM.mpr ⟨⟨by omega, by omega⟩, .inl rfl⟩
      rw [z] at this; cases this) 1024 x hx
    exact this
end Pr
namespace Pr
open PySem PySem.Spec PyProof.Rows L2
def rListT (K : PySem.W.Frag) : List V → Hp → VK → Prop := fun xs H Q => ∃ d kvs, xs = [V.ref d] ∧ Rd H d (.dT kvs) ∧ ∀ p bs, H p = none → IsKeys H kvs bs → Q (.ref p) (upd H p (.lst (bs.map V.ref)))
theorem cr_listT {X : Cx} (hc : X.calm = true) : CallR X (.type "list") (rListT X.K) := call_list_dT hc
/-- a dict of rows -/
def GvDB (K : PySem.W.Frag) (t : TE) (σ : L2.St) (H : Hp) (L : BL (List Key)) : Prop := ∀ H1, Same H H1 → ∀ Q : VK, (∀ d H', Same H1 H' → DictB K H' d L → Q (.ref d) H') → t σ H1 Q
theorem keys_dp {K : PySem.W.Frag} {H : Hp} : ∀ {L : BL (List Key)} {vs : List V} {bs : List Addr}, vs.length = L.length → (∀ x ∈ L, kInt (unK x.1) = x.1) → IsKeys H ((L.map (·.1)).zip vs) bs → DpAll K H (bs.map V.ref) (L.map fun x => dInts (unK x.1))
  | [], [], _, _, _, h => by cases h; exact .nil
  | x :: L, v :: vs, _, hl, hk, h => by
    unfold IsKeys at h
    rw [List.map_cons, List.zip_cons_cons] at h
    cases h with
    | cons e t =>
      refine .cons (dp_ints (.inl (.inl ?_))) (keys_dp (by simpa using hl) (fun y hy => hk y (List.mem_cons_of_mem _ hy)) t)
      dsimp only at e
      rw [e, ← kInt_kV, hk x List.mem_cons_self]
theorem gv_listT {K : PySem.W.Frag} {σ : L2.St} {H : Hp} {t : TE} {L : BL (List Key)} (h : GvDB K t σ H L) (hk : ∀ x ∈ L, kInt (unK x.1) = x.1) : Gv K (tCB (rListT K) (tCons t tNil)) σ H (.list (L.map fun x => dInts (unK x.1))) := fun H1 s Q q => h H1 s _ fun d H2 s2 hd => by
  obtain ⟨vs, e, dv⟩ := hd
  refine ⟨d, _, rfl, .inl e, fun p bs np hb => q _ _ (s2.trans (same_new np)) (.lst (.inl (.inl upd_same)) ((keys_dp ?_ hk hb).sm (same_new np)))⟩
  rw [dv.length, List.length_map]
/-- the states that are reached, sorted, as data -/
def dReach (pan : List (List Int)) (st : List Int) : PyData := .tuple ((srtT (reachM pan st)).map dInts)
theorem gv_reach {K : PySem.W.Frag} {σ : L2.St} {H : Hp} {t : TE} {pan : List (List Int)} {st : List Int} (h : GvDB K t σ H (foundM pan st)) (hst : Asc pan.length st) : Gv K (tCB (rTupG K) (tCons (tCB (rSortTP K) (tCons (tCB (rListT K) (tCons t tNil)) tNil)) tNil)) σ H (dReach pan st) := by
  refine gv_tupL (gn_sortT ((gv_listT h (found_key hst)).to ?_) (reach_sortable hst)).gv
  unfold reachM; rw [List.map_map]; rfl
end Pr
namespace L2
theorem Room.u1 {k : Nat} {A : PySem.Around} (r : Room k A) : A.units + 1 < PySem.cLine := Nat.lt_of_le_of_lt (Nat.add_le_add_left (show 1 ≤ 64 by decide) _) r.units
end L2
namespace Pr
open PySem PySem.Spec PyProof.Rows L2
section
variable {K : PySem.W.Frag} {σ : L2.St} {H : Hp} {t ta tb : TE} {d e : PyData}
theorem gv_neB {i j : Bool} (ha : Gv K ta σ H (.bool i)) (hb : Gv K tb σ H (.bool j)) : Gv K (tOp rNe ta tb) σ H (.bool (!decide (i = j))) :=
  gv_op2 ha hb fun x y H1 Q s hx hy q => by
    cases hx; cases hy
    refine ⟨rfl, q _ _ (Same.refl _) ?_⟩
    have : decide (V.bl i = V.bl j) = decide (i = j) := by cases i <;> cases j <;> rfl
    rw [this]; exact .bl _
/-- what the dict says of a thing -/
def wayOf (L : BL (List Key)) (k : List Key) : PyData := match L.find? fun x => decide (x.1 = k) with
  | some x => dInts x.2
  | none => .none
theorem way_get {L : BL (List Key)} {dd g : Addr} {k : List Key} (h : DictB K H dd L) (nd : (L.map (·.1)).Nodup) (eg : H g = some (.tup (k.map kV))) : ∃ o, DGet H dd (.ref g) o ∧ Dp K H (o.getD .non) (wayOf L k) := by
  unfold wayOf
  cases e : L.find? fun x => decide (x.1 = k) with
  | none =>
    refine ⟨none, h.none (fun hk => ?_) eg, .non⟩
    obtain ⟨x, hx, rfl⟩ := List.mem_map.mp hk
    have := List.find?_eq_none.mp e x hx
    simp at this
  | some x =>
    have hx := List.mem_of_find?_eq_some e
    have e2 : x.1 = k := by simpa using List.find?_some e
    subst e2
    obtain ⟨i, hi⟩ := List.getElem?_of_mem hx
    obtain ⟨v, g1, g2⟩ := h.get nd hi eg
    exact ⟨some v, g1, g2⟩
theorem dictB_is {dd : Addr} {L : BL (List Key)} (h : DictB K H dd L) : IsD H dd := let ⟨vs, e, _⟩ := h; .inr ⟨_, .inl e⟩
theorem gv_get1 {L : BL (List Key)} {j : Nat} {g : Addr} {gl : List Int} (h : GvDB K t σ H L) (nd : (L.map (·.1)).Nodup) (hj : σ[j]? = some (some (.ref g))) (eg : H g = some (.tup (gl.map V.int))) : Gv K (tDGet1 t (tVar j)) σ H (wayOf L (kInt gl)) := fun H1 s Q q => h H1 s _ fun dd H2 s2 hd => by
  obtain ⟨o, h1, h2⟩ := way_get hd nd (k := kInt gl) (by rw [kInt_kV]; exact s2 _ _ (s _ _ eg))
  exact ⟨dd, rfl, dictB_is hd, .ref g, hj, o, h1, q _ H2 s2 h2⟩
end
theorem found_nd (pan : List (List Int)) (st : List Int) : ((foundM pan st).map (·.1)).Nodup := bfs_nd 1024
theorem wayOf_lf (L : BL (List Key)) (k : List Key) : lf (wayOf L k) = true := by
  unfold wayOf
  split
  · exact lf_ints _
  · simp only [lf]
theorem way_shw {pan : List (List Int)} (few : pan.length ≤ 10) (st : List Int) (k : List Key) : wayOf (foundM pan st) k = .none ∨ ∃ r : List Int, wayOf (foundM pan st) k = dInts r ∧ r.length ≤ 1024 ∧ ∀ x ∈ r, 0 ≤ x ∧ x < 10 := by
  unfold wayOf
  cases e : (foundM pan st).find? fun x => decide (x.1 = k) with
  | none => exact .inl rfl
  | some x =>
    have hx := List.mem_of_find?_eq_some e
    have := bfs_rows (step := stepP pan) (n := pan.length) (s := kInt st) 1024 x hx
    exact .inr ⟨x.2, rfl, by have := this.1; omega, fun y hy => by have := this.2 y hy; omega⟩
end Pr
namespace Pr
open PySem PySem.Spec PyProof.Rows L2
def Rel (pan : List (List Int)) (st : List Int) (x y : Int) : Prop := x ∈ st ∧ y ∈ st ∧ y ∈ pan.getD x.toNat []
def Pth (pan : List (List Int)) (st : List Int) : Nat → Int → Int → Prop
  | 0, x, y => x = y
  | m + 1, x, y => ∃ z, Rel pan st x z ∧ Pth pan st m z y
section
variable {pan : List (List Int)} {st : List Int}
theorem Pth.join : ∀ {a b : Nat} {x y z : Int}, Pth pan st a x y → Pth pan st b y z → Pth pan st (a + b) x z
  | 0, b, x, y, z, h1, h2 => by rw [Nat.zero_add]; rw [show x = y from h1]; exact h2
  | a + 1, b, x, y, z, ⟨u, r, h1⟩, h2 => by
    rw [show a + 1 + b = (a + b) + 1 by omega]
    exact ⟨u, r, Pth.join h1 h2⟩
theorem Pth.ends : ∀ {m : Nat} {x y : Int}, Pth pan st (m + 1) x y → x ∈ st ∧ y ∈ st
  | 0, x, y, ⟨z, r, h⟩ => ⟨r.1, by rw [← show z = y from h]; exact r.2.1⟩
  | m + 1, x, y, ⟨z, r, h⟩ => ⟨r.1, (Pth.ends h).2⟩
end
def Closed (pan : List (List Int)) (C : List Int) : Prop := ∀ b ∈ C, ∃ c ∈ pan.getD b.toNat [], c ∈ C
structure IsHeld (pan : List (List Int)) (st hs : List Int) : Prop where
  up : hs.Pairwise (· < ·)
  sub : ∀ x ∈ hs, x ∈ st
  closed : Closed pan hs
  most : ∀ C : List Int, Closed pan C → (∀ x ∈ C, x ∈ st) → ∀ x ∈ C, x ∈ hs
theorem nodup_sub : ∀ {l s : List Int}, l.Nodup → (∀ x ∈ l, x ∈ s) → l.length ≤ s.length
  | [], s, _, _ => Nat.zero_le _
  | x :: r, s, hn, h => by
    rw [List.nodup_cons] at hn
    have hx := h x List.mem_cons_self
    have ih := nodup_sub (l := r) (s := s.erase x) hn.2 fun y hy => (List.mem_erase_of_ne (fun e => hn.1 (by rw [← e]; exact hy))).mpr (h y (List.mem_cons_of_mem _ hy))
    rw [List.length_erase_of_mem hx] at ih
    have := List.length_pos_of_mem hx
    rw [List.length_cons]; omega
theorem IsHeld.uniq {pan : List (List Int)} {st h1 h2 : List Int} (a : IsHeld pan st h1) (b : IsHeld pan st h2) : h1 = h2 :=
  asc_ext a.up b.up fun x => ⟨fun h => b.most h1 a.closed a.sub x h, fun h => a.most h2 b.closed b.sub x h⟩
def relB (pan : List (List Int)) (os : List Int) (b : Int) : Bool := (pan.getD b.toNat []).any fun c => decide (c ∈ os)
theorem relB_iff {pan : List (List Int)} {os : List Int} {b : Int} : relB pan os b = true ↔ ∃ c ∈ pan.getD b.toNat [], c ∈ os := by
  unfold relB
  rw [List.any_eq_true]
  exact ⟨fun ⟨c, h1, h2⟩ => ⟨c, h1, of_decide_eq_true h2⟩, fun ⟨c, h1, h2⟩ => ⟨c, h1, decide_eq_true h2⟩⟩
/-- on the way to the held buttons -/
structure Hold (pan : List (List Int)) (st hs : List Int) : Prop where
  up : hs.Pairwise (· < ·)
  sub : ∀ x ∈ hs, x ∈ st
  most : ∀ C : List Int, Closed pan C → (∀ x ∈ C, x ∈ st) → ∀ x ∈ C, x ∈ hs
theorem Hold.step {pan : List (List Int)} {st hs : List Int} (h : Hold pan st hs) : Hold pan st (hs.filter (relB pan hs)) := by
  refine ⟨h.up.filter _, fun x hx => h.sub x (List.mem_filter.mp hx).1, fun C hC hs' x hx => List.mem_filter.mpr ⟨h.most C hC hs' x hx, relB_iff.mpr ?_⟩⟩
  obtain ⟨c, h1, h2⟩ := hC x hx
  exact ⟨c, h1, h.most C hC hs' c h2⟩
theorem Hold.done {pan : List (List Int)} {st hs : List Int} (h : Hold pan st hs) (hl : ¬ (hs.filter (relB pan hs)).length < hs.length) : IsHeld pan st hs := by
  have e : (hs.filter (relB pan hs)).length = hs.length := Nat.le_antisymm (List.length_filter_le _ _) (by omega)
  exact ⟨h.up, h.sub, fun b hb => relB_iff.mp (List.length_filter_eq_length_iff.mp e b hb), h.most⟩
/-- rows[x] holds the ends of ways of at most 2 ^ k links, and ends of ways only -/
structure Rch (pan : List (List Int)) (st : List Int) (k : Nat) (rows : List (List Int)) : Prop where
  len : rows.length = pan.length
  sound : ∀ (x : Nat) (l : List Int) (y : Int), rows[x]? = some l → y ∈ l → ∃ m, 1 ≤ m ∧ Pth pan st m (x : Int) y
  full : ∀ (x : Nat) (l : List Int) (y : Int) (m : Nat), rows[x]? = some l → 1 ≤ m → m ≤ 2 ^ k → Pth pan st m (x : Int) y → y ∈ l
theorem Rch.rng {pan : List (List Int)} {st : List Int} {k : Nat} {rows : List (List Int)} (h : Rch pan st k rows) (hs : ∀ x ∈ st, 0 ≤ x ∧ x < (pan.length : Int)) {x : Nat} {l : List Int} (hl : rows[x]? = some l) {y : Int} (hy : y ∈ l) : 0 ≤ y ∧ y < (pan.length : Int) := by
  obtain ⟨m, hm, p⟩ := h.sound x l y hl hy
  obtain ⟨m, rfl⟩ : ∃ k, m = k + 1 := ⟨m - 1, by omega⟩
  exact hs y (Pth.ends p).2
end Pr
namespace Pr
open PySem PySem.Spec PyProof.Rows L2
/-- what b releases -/
abbrev relM (pan : List (List Int)) (b : Int) : List Int := pan.getD b.toNat []
/-- buttons of the panel -/
def InP (pan : List (List Int)) (b : Int) : Prop := 0 ≤ b ∧ b < (pan.length : Int)
theorem runM_app {pan : List (List Int)} {st r1 r2 : List Int} : runM pan st (r1 ++ r2) = runM pan (runM pan st r1) r2 := by unfold runM; rw [List.foldl_append]
/-- which buttons may be pressed on the way to the goal -/
def PrOk (pan : List (List Int)) (goal hs G : List Int) (b : Int) : Prop := (b ∈ goal ∧ b ∉ hs) ∨ (b ∈ G ∧ ∀ x ∈ relM pan b, x ∉ hs)
structure IsGath (pan : List (List Int)) (goal hs G : List Int) : Prop where
  rng : ∀ x ∈ G, InP pan x
  out : ∀ x ∈ G, x ∉ goal
  clos : ∀ b, PrOk pan goal hs G b → ∀ x ∈ relM pan b, x ∉ goal → x ∈ G
  rank : ∃ r : Int → Nat, (∀ g ∈ G, 1 ≤ r g) ∧ ∀ g ∈ G, ∃ b, PrOk pan goal hs G b ∧ g ∈ relM pan b ∧ (b ∈ goal ∨ r b < r g)
section
variable {pan : List (List Int)} {goal hs G : List Int}
/-- a button of the goal that is not held releases no held one -/
theorem free_of (hh : IsHeld pan goal hs) {b : Int} (hb : b ∈ goal) (hn : b ∉ hs) : ∀ x ∈ relM pan b, x ∉ hs := fun x hx hxs => by
  refine hn (hh.most (b :: hs) ?_ ?_ b List.mem_cons_self)
  · intro y hy
    rcases List.mem_cons.mp hy with rfl | hy
    · exact ⟨x, hx, List.mem_cons_of_mem _ hxs⟩
    · obtain ⟨z, h1, h2⟩ := hh.closed y hy
      exact ⟨z, h1, List.mem_cons_of_mem _ h2⟩
  · intro y hy
    rcases List.mem_cons.mp hy with rfl | hy
    · exact hb
    · exact hh.sub y hy
theorem PrOk.free (hh : IsHeld pan goal hs) {b : Int} (h : PrOk pan goal hs G b) : ∀ x ∈ relM pan b, x ∉ hs := by
  rcases h with ⟨h1, h2⟩ | ⟨_, h2⟩
  · exact free_of hh h1 h2
  · exact h2
/-- what must hold of a state from which the goal is reached -/
def CanG (goal hs G st : List Int) : Prop := (∀ x ∈ hs, x ∈ st) ∧ ∀ x ∈ st, x ∈ goal ∨ x ∈ G
theorem can_goal (hh : IsHeld pan goal hs) : CanG goal hs G goal := ⟨hh.sub, fun _ h => .inl h⟩
theorem can_pred (own : ∀ (i : Nat) (l : List Int), pan[i]? = some l → (i : Int) ∉ l) (hh : IsHeld pan goal hs) (hG : IsGath pan goal hs G) {st : List Int} (hst : Asc pan.length st) {b : Int} (hb : InP pan b) (h : CanG goal hs G (pressM pan st b)) : CanG goal hs G st := by
  have bt : b ∈ pressM pan st b := mem_pressM.mpr ⟨hb, .inl rfl⟩
  have selfN : b ∉ relM pan b := by
    have hl : b.toNat < pan.length := by have := hb; unfold InP at this; omega
    have := own b.toNat pan[b.toNat] (List.getElem?_eq_getElem hl)
    unfold relM
    rw [List.getD_eq_getElem?_getD, List.getElem?_eq_getElem hl]
    rw [Int.toNat_of_nonneg hb.1] at this
    exact this
  have notrel : ∀ x ∈ relM pan b, x ∉ pressM pan st b := fun x hx hm => by
    rcases (mem_pressM.mp hm).2 with rfl | ⟨_, h2⟩
    · exact selfN hx
    · exact h2 hx
  have nrel : ∀ x ∈ relM pan b, x ∉ hs := fun x hx hxs => notrel x hx (h.1 x hxs)
  have bn : b ∉ hs := fun hbs => by
    obtain ⟨z, h1, h2⟩ := hh.closed b hbs
    exact nrel z h1 h2
  have ok : PrOk pan goal hs G b := by
    rcases h.2 b bt with h1 | h1
    · exact .inl ⟨h1, bn⟩
    · exact .inr ⟨h1, nrel⟩
  refine ⟨fun x hx => ?_, fun x hx => ?_⟩
  · rcases (mem_pressM.mp (h.1 x hx)).2 with rfl | ⟨h1, _⟩
    · exact absurd hx bn
    · exact h1
  · by_cases hr : x ∈ relM pan b
    · by_cases hg : x ∈ goal
      · exact .inl hg
      · exact .inr (hG.clos b ok x hr hg)
    · exact h.2 x (mem_pressM.mpr ⟨hst.rng x hx, .inr ⟨hx, hr⟩⟩)
theorem can_of_run (own : ∀ (i : Nat) (l : List Int), pan[i]? = some l → (i : Int) ∉ l) (hh : IsHeld pan goal hs) (hG : IsGath pan goal hs G) : ∀ {row st : List Int}, Asc pan.length st → (∀ b ∈ row, InP pan b) → runM pan st row = goal → CanG goal hs G st
  | [], st, hst, _, e => by
    have : st = goal := e
    rw [this]; exact can_goal hh
  | b :: row, st, hst, hr, e => can_pred own hh hG hst (hr b List.mem_cons_self) (can_of_run own hh hG (pressM_asc pan st b) (fun c hc => hr c (List.mem_cons_of_mem _ hc)) e)
/-- pressing buttons of a list, none of which releases a held one: the held stay, only what is pressed is new -/
theorem run_keep {row : List Int} : ∀ {st : List Int}, (∀ b ∈ row, InP pan b ∧ ∀ x ∈ relM pan b, x ∉ hs) → (∀ x ∈ hs, InP pan x) → (∀ x ∈ hs, x ∈ st) → (∀ x ∈ hs, x ∈ runM pan st row) ∧ ∀ x ∈ runM pan st row, x ∈ row ∨ x ∈ st := by
  induction row with
  | nil => intro st _ _ h; exact ⟨h, fun x hx => .inr hx⟩
  | cons b row ih =>
    intro st hr hi h
    have hb := hr b List.mem_cons_self
    have := ih (st := pressM pan st b) (fun c hc => hr c (List.mem_cons_of_mem _ hc)) hi (fun x hx => mem_pressM.mpr ⟨hi x hx, .inr ⟨h x hx, fun z => hb.2 x z hx⟩⟩)
    refine ⟨this.1, fun x hx => ?_⟩
    rcases this.2 x hx with h1 | h1
    · exact .inl (List.mem_cons_of_mem _ h1)
    · rcases (mem_pressM.mp h1).2 with rfl | ⟨h2, _⟩
      · exact .inl List.mem_cons_self
      · exact .inr h2
/-- what is released by a pressed button, and is not pressed itself, is gone -/
theorem run_gone {row : List Int} : ∀ {st : List Int} {x : Int}, x ∉ row → ((∃ b ∈ row, x ∈ relM pan b) ∨ x ∉ st) → x ∉ runM pan st row := by
  induction row with
  | nil =>
    intro st x _ h
    rcases h with ⟨b, hb, _⟩ | h
    · cases hb
    · exact h
  | cons b row ih =>
    intro st x hn h
    have n1 : x ≠ b := fun z => hn (z ▸ List.mem_cons_self)
    have n2 : x ∉ row := fun z => hn (List.mem_cons_of_mem _ z)
    refine ih (st := pressM pan st b) n2 ?_
    rcases h with ⟨c, hc, hx⟩ | h
    · rcases List.mem_cons.mp hc with rfl | hc
      · refine .inr fun z => ?_
        rcases (mem_pressM.mp z).2 with e | ⟨_, e⟩
        · exact n1 e
        · exact e hx
      · exact .inl ⟨c, hc, hx⟩
    · refine .inr fun z => ?_
      rcases (mem_pressM.mp z).2 with e | ⟨e, _⟩
      · exact n1 e
      · exact h e
/-- the goal's buttons that are not held can be pressed in some order -/
theorem press_goal (hh : IsHeld pan goal hs) (hi : ∀ x ∈ goal, InP pan x) : ∀ (m : Nat) (S : List Int), S.Nodup → (∀ x ∈ S, x ∈ goal) → (∀ x ∈ hs, x ∈ S) → S.length ≤ m → ∃ row, (∀ b ∈ row, b ∈ S ∧ b ∉ hs) ∧ ∀ st, (∀ x ∈ hs, x ∈ st) → ∀ x ∈ S, x ∈ runM pan st row := by
  intro m
  induction m with
  | zero =>
    intro S _ _ _ hl
    have : S = [] := List.length_eq_zero_iff.mp (by omega)
    subst this
    exact ⟨[], fun b hb => (by cases hb), fun st _ x hx => (by cases hx)⟩
  | succ m ih =>
    intro S nd hS hsS hl
    by_cases hall : ∀ x ∈ S, x ∈ hs
    · exact ⟨[], fun b hb => (by cases hb), fun st h x hx => h x (hall x hx)⟩
    · -- one that releases none of S
      have : ∃ b ∈ S, b ∉ hs ∧ ∀ x ∈ relM pan b, x ∉ S := by
        apply Classical.byContradiction
        intro hno
        apply hall
        refine hh.most S ?_ hS
        intro b hb
        by_cases hbs : b ∈ hs
        · obtain ⟨z, h1, h2⟩ := hh.closed b hbs
          exact ⟨z, h1, hsS z h2⟩
        · apply Classical.byContradiction
          intro hz
          exact hno ⟨b, hb, hbs, fun x hx hxS => hz ⟨x, hx, hxS⟩⟩
      obtain ⟨b, hb, hbn, hfree⟩ := this
      have hlen : (S.erase b).length ≤ m := by rw [List.length_erase_of_mem hb]; omega
      obtain ⟨row, h1, h2⟩ := ih (S.erase b) (nd.erase b) (fun x hx => hS x (List.mem_of_mem_erase hx)) (fun x hx => (List.mem_erase_of_ne (fun e : x = b => hbn (by rw [← e]; exact hx))).mpr (hsS x hx)) hlen
      refine ⟨row ++ [b], fun c hc => ?_, fun st hst x hx => ?_⟩
      · rcases List.mem_append.mp hc with h | h
        · exact ⟨List.mem_of_mem_erase (h1 c h).1, (h1 c h).2⟩
        · rw [List.mem_singleton.mp h]; exact ⟨hb, hbn⟩
      · rw [runM_app]
        show x ∈ pressM pan (runM pan st row) b
        refine mem_pressM.mpr ⟨hi x (hS x hx), ?_⟩
        by_cases e : x = b
        · exact .inl e
        · exact .inr ⟨h2 st hst x ((List.mem_erase_of_ne e).mpr hx), fun z => hfree x z hx⟩
/-- outside buttons can be released -/
theorem release_all (hh : IsHeld pan goal hs) (hG : IsGath pan goal hs G) (hi : ∀ x ∈ goal, InP pan x) {r : Int → Nat} (r1 : ∀ g ∈ G, 1 ≤ r g) (hr : ∀ g ∈ G, ∃ b, PrOk pan goal hs G b ∧ g ∈ relM pan b ∧ (b ∈ goal ∨ r b < r g)) :
    ∀ (m : Nat) (st : List Int), Asc pan.length st → (∀ x ∈ hs, x ∈ st) → (∀ x ∈ st, x ∈ goal ∨ (x ∈ G ∧ r x ≤ m)) → ∃ row, (∀ b ∈ row, InP pan b) ∧ (∀ x ∈ hs, x ∈ runM pan st row) ∧ ∀ x ∈ runM pan st row, x ∈ goal := by
  intro m
  induction m with
  | zero =>
    intro st _ h1 h2
    refine ⟨[], fun b hb => (by cases hb), h1, fun x hx => ?_⟩
    rcases h2 x hx with h | ⟨h, h'⟩
    · exact h
    · have := r1 x h; omega
  | succ m ih =>
    intro st hst h1 h2
    -- the releasers of those of rank m + 1
    have sel : ∀ l : List Int, (∀ g ∈ l, g ∈ G) → ∃ row : List Int, (∀ b ∈ row, PrOk pan goal hs G b ∧ (b ∈ goal ∨ ∃ g ∈ l, r b < r g)) ∧ ∀ g ∈ l, ∃ b ∈ row, g ∈ relM pan b := by
      intro l
      induction l with
      | nil => intro _; exact ⟨[], fun b hb => (by cases hb), fun g hg => (by cases hg)⟩
      | cons g l ihl =>
        intro hl
        obtain ⟨row, a1, a2⟩ := ihl fun g hg => hl g (List.mem_cons_of_mem _ hg)
        obtain ⟨b, b1, b2, b3⟩ := hr g (hl g List.mem_cons_self)
        refine ⟨b :: row, fun c hc => ?_, fun x hx => ?_⟩
        · rcases List.mem_cons.mp hc with rfl | hc
          · exact ⟨b1, b3.imp_right fun h => ⟨g, List.mem_cons_self, h⟩⟩
          · exact ⟨(a1 c hc).1, (a1 c hc).2.imp_right fun ⟨y, y1, y2⟩ => ⟨y, List.mem_cons_of_mem _ y1, y2⟩⟩
        · rcases List.mem_cons.mp hx with rfl | hx
          · exact ⟨b, List.mem_cons_self, b2⟩
          · obtain ⟨c, c1, c2⟩ := a2 x hx
            exact ⟨c, List.mem_cons_of_mem _ c1, c2⟩
    obtain ⟨row, a1, a2⟩ := sel (st.filter fun x => decide (x ∈ G ∧ r x = m + 1)) fun g hg => (of_decide_eq_true (List.mem_filter.mp hg).2).1
    have inP : ∀ b ∈ row, InP pan b := fun b hb => by
      rcases (a1 b hb).1 with ⟨h, _⟩ | ⟨h, _⟩
      · exact hi b h
      · exact hG.rng b h
    have keep := run_keep (pan := pan) (hs := hs) (row := row) (st := st) (fun b hb => ⟨inP b hb, (a1 b hb).1.free hh⟩) (fun x hx => hi x (hh.sub x hx)) h1
    have low : ∀ x ∈ runM pan st row, x ∈ goal ∨ (x ∈ G ∧ r x ≤ m) := fun x hx => by
      by_cases hxr : x ∈ row
      · rcases (a1 x hxr).2 with h | ⟨g, hg, h⟩
        · exact .inl h
        · have hg' := of_decide_eq_true (List.mem_filter.mp hg).2
          rcases (a1 x hxr).1 with ⟨h3, _⟩ | ⟨h3, _⟩
          · exact .inl h3
          · exact .inr ⟨h3, by have := hg'.2; omega⟩
      · rcases keep.2 x hx with h | h
        · exact absurd h hxr
        · rcases h2 x h with h3 | ⟨h3, h4⟩
          · exact .inl h3
          · by_cases e : r x = m + 1
            · obtain ⟨b, b1, b2⟩ := a2 x (List.mem_filter.mpr ⟨h, decide_eq_true ⟨h3, e⟩⟩)
              exact absurd hx (run_gone hxr (.inl ⟨b, b1, b2⟩))
            · exact .inr ⟨h3, by omega⟩
    obtain ⟨row2, c1, c2, c3⟩ := ih (runM pan st row) (runM_asc hst) keep.1 low
    refine ⟨row ++ row2, fun b hb => ?_, ?_, ?_⟩
    · rcases List.mem_append.mp hb with h | h
      · exact inP b h
      · exact c1 b h
    · rw [runM_app]; exact c2
    · rw [runM_app]; exact c3
theorem run_of_can (hh : IsHeld pan goal hs) (hG : IsGath pan goal hs G) (hg : Asc pan.length goal) {st : List Int} (hst : Asc pan.length st) (h : CanG goal hs G st) : ∃ row, (∀ b ∈ row, InP pan b) ∧ runM pan st row = goal := by
  obtain ⟨r, r1, hr⟩ := hG.rank
  have hm : ∃ m, ∀ x ∈ st, x ∈ G → r x ≤ m := by
    have : ∀ l : List Int, ∃ m, ∀ x ∈ l, r x ≤ m := fun l => by
      induction l with
      | nil => exact ⟨0, fun x hx => (by cases hx)⟩
      | cons y l ih =>
        obtain ⟨m, hm⟩ := ih
        refine ⟨max m (r y), fun x hx => ?_⟩
        rcases List.mem_cons.mp hx with rfl | hx
        · exact Nat.le_max_right _ _
        · exact Nat.le_trans (hm x hx) (Nat.le_max_left _ _)
    obtain ⟨m, hm⟩ := this st
    exact ⟨m, fun x hx _ => hm x hx⟩
  obtain ⟨m, hm⟩ := hm
  obtain ⟨row, a1, a2, a3⟩ := release_all hh hG hg.rng r1 hr m st hst h.1 fun x hx => (h.2 x hx).imp_right fun h' => ⟨h', hm x hx h'⟩
  have ndg : goal.Nodup := hg.up.imp (fun {a b} (h : a < b) => Int.ne_of_lt h)
  obtain ⟨row2, b1, b2⟩ := press_goal hh hg.rng goal.length goal ndg (fun _ h => h) hh.sub (Nat.le_refl _)
  have in2 : ∀ b ∈ row2, InP pan b := fun b hb => hg.rng b (b1 b hb).1
  refine ⟨row ++ row2, fun b hb => ?_, ?_⟩
  · rcases List.mem_append.mp hb with h | h
    · exact a1 b h
    · exact in2 b h
  · rw [runM_app]
    refine asc_ext (runM_asc (runM_asc hst)).up hg.up fun x => ⟨fun hx => ?_, fun hx => b2 _ a2 x hx⟩
    have keep := run_keep (pan := pan) (hs := hs) (row := row2) (st := runM pan st row) (fun b hb => ⟨in2 b hb, free_of hh (b1 b hb).1 (b1 b hb).2⟩) (fun y hy => hg.rng y (hh.sub y hy)) a2
    rcases keep.2 x hx with h | h
    · exact (b1 x h).1
    · exact a3 x h
end
end Pr
namespace Pr
open PySem PySem.Spec PyProof.Rows L2
structure GInv (pan : List (List Int)) (goal hs G Pd : List Int) : Prop where
  nd : G.Nodup
  rng : ∀ x ∈ G, InP pan x
  out : ∀ x ∈ G, x ∉ goal
  pd : ∀ b ∈ Pd, PrOk pan goal hs G b
  done : ∀ b, PrOk pan goal hs G b → b ∈ Pd ∨ ∀ x ∈ relM pan b, x ∉ goal → x ∈ G
  rank : ∃ (r : Int → Nat) (L : Nat), (∀ g ∈ G, 1 ≤ r g ∧ r g ≤ L) ∧ ∀ g ∈ G, ∃ b, PrOk pan goal hs G b ∧ g ∈ relM pan b ∧ (b ∈ goal ∨ (b ∈ G ∧ r b < r g))
/-- what the pressed ones release, outside -/
def relOut (pan : List (List Int)) (goal G Pd : List Int) : List Int := ((intL pan.length).filter fun x => !decide (x ∈ goal)).filter fun x => (!decide (x ∈ G)) && (Pd.map fun o => decide (x ∈ relM pan o)).any id
def freeOfM (pan : List (List Int)) (hs R : List Int) : List Int := R.filter fun b => !((relM pan b).map fun x => decide (x ∈ hs)).any id
section
variable {pan : List (List Int)} {goal hs G Pd : List Int}
theorem mem_relOut {x : Int} : x ∈ relOut pan goal G Pd ↔ InP pan x ∧ x ∉ goal ∧ x ∉ G ∧ ∃ o ∈ Pd, x ∈ relM pan o := by
  unfold relOut
  rw [List.mem_filter, List.mem_filter, mem_intL]
  simp only [Bool.not_eq_true', decide_eq_false_iff_not, Bool.and_eq_true, List.any_map, List.any_eq_true, Function.comp, id_eq, decide_eq_true_eq]
  unfold InP
  constructor
  · rintro ⟨⟨h1, h2⟩, h3, h4⟩; exact ⟨h1, h2, h3, h4⟩
  · rintro ⟨h1, h2, h3, h4⟩; exact ⟨⟨h1, h2⟩, h3, h4⟩
theorem mem_freeOfM {b : Int} {R : List Int} : b ∈ freeOfM pan hs R ↔ b ∈ R ∧ ∀ x ∈ relM pan b, x ∉ hs := by
  unfold freeOfM
  rw [List.mem_filter]
  simp only [Bool.not_eq_true', List.any_map, List.any_eq_false, Function.comp, id_eq, decide_eq_true_eq]
theorem relOut_nd : (relOut pan goal G Pd).Nodup := by
  unfold relOut
  exact List.Pairwise.filter _ (List.Pairwise.filter _ ((Asc.full pan.length).up.imp fun {a b} (h : a < b) => Int.ne_of_lt h))
theorem ginv_init (hi : ∀ x ∈ goal, InP pan x) : GInv pan goal hs [] (goal.filter fun b => !decide (b ∈ hs)) where
  nd := List.nodup_nil
  rng := fun x hx => by cases hx
  out := fun x hx => by cases hx
  pd := fun b hb => by
    have := List.mem_filter.mp hb
    exact .inl ⟨this.1, by simpa using this.2⟩
  done := fun b hb => by
    rcases hb with ⟨h1, h2⟩ | ⟨h1, _⟩
    · exact .inl (List.mem_filter.mpr ⟨h1, by simpa using h2⟩)
    · cases h1
  rank := ⟨fun _ => 0, 0, fun g hg => (by cases hg), fun g hg => (by cases hg)⟩
theorem ginv_step (rg : ∀ l ∈ pan, ∀ x ∈ l, 0 ≤ x ∧ x < (pan.length : Int)) (h : GInv pan goal hs G Pd) : GInv pan goal hs (G ++ relOut pan goal G Pd) (freeOfM pan hs (relOut pan goal G Pd)) := by
  have up : ∀ {b}, PrOk pan goal hs G b → PrOk pan goal hs (G ++ relOut pan goal G Pd) b := fun {b} hb => hb.imp_right fun ⟨h1, h2⟩ => ⟨List.mem_append_left _ h1, h2⟩
  have inr : ∀ b x, x ∈ relM pan b → InP pan x := fun b x hx => by
    unfold relM at hx
    rw [List.getD_eq_getElem?_getD] at hx
    cases e : pan[b.toNat]? with
    | none => rw [e] at hx; cases hx
    | some l => rw [e] at hx; exact rg l (List.mem_of_getElem? e) x hx
  refine ⟨?_, fun x hx => ?_, fun x hx => ?_, fun b hb => ?_, fun b hb => ?_, ?_⟩
  · rw [List.nodup_append]
    refine ⟨h.nd, relOut_nd, fun a ha b hb e => ?_⟩
    subst e
    exact (mem_relOut.mp hb).2.2.1 ha
  · rcases List.mem_append.mp hx with hx | hx
    · exact h.rng x hx
    · exact (mem_relOut.mp hx).1
  · rcases List.mem_append.mp hx with hx | hx
    · exact h.out x hx
    · exact (mem_relOut.mp hx).2.1
  · have := mem_freeOfM.mp hb
    exact .inr ⟨List.mem_append_right _ this.1, this.2⟩
  · by_cases hold : PrOk pan goal hs G b
    · refine .inr fun x hx hg => ?_
      rcases h.done b hold with hp | hp
      · by_cases hxG : x ∈ G
        · exact List.mem_append_left _ hxG
        · exact List.mem_append_right _ (mem_relOut.mpr ⟨inr b x hx, hg, hxG, b, hp, hx⟩)
      · exact List.mem_append_left _ (hp x hx hg)
    · rcases hb with hb | ⟨h1, h2⟩
      · exact absurd (.inl hb) hold
      · rcases List.mem_append.mp h1 with h1 | h1
        · exact absurd (.inr ⟨h1, h2⟩) hold
        · exact .inl (mem_freeOfM.mpr ⟨h1, h2⟩)
  · obtain ⟨r, L, r1, r2⟩ := h.rank
    refine ⟨fun x => if x ∈ G then r x else L + 1, L + 1, fun g hg => ?_, fun g hg => ?_⟩
    · by_cases e : g ∈ G
      · simp only [if_pos e]; have := r1 g e; omega
      · simp only [if_neg e]; omega
    · by_cases e : g ∈ G
      · obtain ⟨b, b1, b2, b3⟩ := r2 g e
        refine ⟨b, up b1, b2, b3.imp_right fun ⟨c1, c2⟩ => ⟨List.mem_append_left _ c1, ?_⟩⟩
        simp only [if_pos e, if_pos c1]; exact c2
      · have hgR : g ∈ relOut pan goal G Pd := (List.mem_append.mp hg).resolve_left e
        obtain ⟨_, _, _, o, ho, hgo⟩ := mem_relOut.mp hgR
        refine ⟨o, up (h.pd o ho), hgo, ?_⟩
        rcases h.pd o ho with ⟨h1, _⟩ | ⟨h1, _⟩
        · exact .inl h1
        · refine .inr ⟨List.mem_append_left _ h1, ?_⟩
          simp only [if_pos h1, if_neg e]; have := r1 o h1; omega
theorem ginv_end (h : GInv pan goal hs G []) {G' : List Int} (e : ∀ x, x ∈ G' ↔ x ∈ G) : IsGath pan goal hs G' := by
  have pe : ∀ b, PrOk pan goal hs G' b ↔ PrOk pan goal hs G b := fun b => by unfold PrOk; rw [e]
  obtain ⟨r, L, r1, r2⟩ := h.rank
  refine ⟨fun x hx => h.rng x ((e x).mp hx), fun x hx => h.out x ((e x).mp hx), fun b hb x hx hg => ?_, r, fun g hg => (r1 g ((e g).mp hg)).1, fun g hg => ?_⟩
  · rcases h.done b ((pe b).mp hb) with hp | hp
    · cases hp
    · exact (e x).mpr (hp x hx hg)
  · obtain ⟨b, b1, b2, b3⟩ := r2 g ((e g).mp hg)
    exact ⟨b, (pe b).mpr b1, b2, b3.imp_right fun h => h.2⟩
theorem ginv_len (h : GInv pan goal hs G Pd) : G.length ≤ pan.length := by
  have := nodup_sub h.nd (s := intL pan.length) (fun x hx => mem_intL.mpr (h.rng x hx))
  unfold intL at this
  rwa [List.length_map, List.length_range] at this
end
section
variable {κ : Type} [DecidableEq κ] {step : κ → Nat → κ} {n : Nat} {s : κ}
theorem addK_has (L : BL κ) (k : κ) (r : List Int) : k ∈ (addK L k r).map (·.1) := by
  unfold addK
  split
  · assumption
  · rw [List.map_append]; exact List.mem_append_right _ List.mem_cons_self
theorem procB_has (L : BL κ) (k : κ) (r : List Int) : ∀ (m : Nat) (b : Nat), b < m → step k b ∈ (procB step L k r m).map (·.1) := by
  intro m
  induction m with
  | zero => intro b h; omega
  | succ m ih =>
    intro b hb
    rw [procB_succ]
    by_cases e : b = m
    · subst e; exact addK_has _ _ _
    · obtain ⟨t, ht⟩ := addK_pre (procB step L k r m) (step k m) (r ++ [(m : Int)])
      rw [← ht, List.map_append]
      exact List.mem_append_left _ (ih b (by omega))
theorem bfs_closed {M : Nat} (hM : (bfsN step n s M).length ≤ M) : ∀ x ∈ bfsN step n s M, ∀ b < n, step x.1 b ∈ (bfsN step n s M).map (·.1) := fun x hx b hb => by
  obtain ⟨i, hi⟩ := List.getElem?_of_mem hx
  have hiM : i < M := Nat.lt_of_lt_of_le (List.getElem?_eq_some_iff.mp hi).1 hM
  by_cases hil : i < (bfsN step n s i).length
  · obtain ⟨t, ht⟩ := bfs_pre (step := step) (n := n) (s := s) (Nat.le_of_lt hiM)
    have hx2 : (bfsN step n s i)[i]? = some x := by
      rw [← ht, List.getElem?_append_left hil] at hi
      exact hi
    have e := bfs_step hx2
    obtain ⟨u, hu⟩ := bfs_pre (step := step) (n := n) (s := s) (show i + 1 ≤ M by omega)
    rw [← hu, List.map_append]
    refine List.mem_append_left _ ?_
    rw [e]
    exact procB_has _ _ _ n b hb
  · have := bfs_stop (step := step) (n := n) (s := s) (i := i) (by omega) (Nat.le_of_lt hiM)
    rw [this] at hi
    have := (List.getElem?_eq_some_iff.mp hi).1
    omega
end
theorem reach_step {pan : List (List Int)} (few : pan.length ≤ 10) {st k : List Int} (hst : Asc pan.length st) (hk : k ∈ reachM pan st) {b : Int} (hb : InP pan b) : pressM pan k b ∈ reachM pan st := by
  obtain ⟨x, hx, rfl⟩ := List.mem_map.mp hk
  have hb' : b.toNat < pan.length := by have := hb; unfold InP at this; omega
  have := bfs_closed (step := stepP pan) (n := pan.length) (s := kInt st) (M := 1024) (bfs_few few ⟨st, rfl, hst⟩ 1024) x hx b.toNat hb'
  obtain ⟨y, hy, e⟩ := List.mem_map.mp this
  refine List.mem_map.mpr ⟨y, hy, ?_⟩
  rw [e]
  unfold stepP
  rw [unK_kInt, Int.toNat_of_nonneg hb.1]
theorem reach_run {pan : List (List Int)} (few : pan.length ≤ 10) {st : List Int} (hst : Asc pan.length st) : ∀ {row k : List Int}, k ∈ reachM pan st → (∀ b ∈ row, InP pan b) → runM pan k row ∈ reachM pan st
  | [], _, hk, _ => hk
  | b :: row, _, hk, hr => reach_run few hst (row := row) (reach_step few hst hk (hr b List.mem_cons_self)) fun c hc => hr c (List.mem_cons_of_mem _ hc)
theorem reach_self {pan : List (List Int)} (st : List Int) : st ∈ reachM pan st := by
  obtain ⟨t, ht⟩ := bfs_pre (step := stepP pan) (n := pan.length) (s := kInt st) (Nat.zero_le 1024)
  unfold reachM foundM
  rw [← ht, List.map_append]
  refine List.mem_append_left _ ?_
  show st ∈ [unK (kInt st)]
  rw [unK_kInt]; exact List.mem_singleton.mpr rfl
theorem reach_iff {pan : List (List Int)} (few : pan.length ≤ 10) {st : List Int} (hst : Asc pan.length st) {k : List Int} : k ∈ reachM pan st ↔ ∃ row, (∀ b ∈ row, InP pan b) ∧ runM pan st row = k := by
  constructor
  · intro hk
    obtain ⟨x, hx, rfl⟩ := List.mem_map.mp hk
    exact bfs_all (P := fun k => ∃ row, (∀ b ∈ row, InP pan b) ∧ runM pan st row = unK k) (step := stepP pan) (n := pan.length) (s := kInt st) ⟨[], fun b hb => (by cases hb), by rw [unK_kInt]; rfl⟩
      (fun k b ⟨row, h1, h2⟩ hb => ⟨row ++ [(b : Int)], fun c hc => by
        rcases List.mem_append.mp hc with h | h
        · exact h1 c h
        · rw [List.mem_singleton.mp h]; unfold InP; omega, by
        rw [runM_app, h2]; unfold stepP; rw [unK_kInt]; rfl⟩) 1024 x hx
  · rintro ⟨row, h1, rfl⟩
    exact reach_run few hst (reach_self st) h1
/-- the document's two ways to say it -/
theorem reach_can {pan : List (List Int)} (g : Good pan) {st goal hs G : List Int} (hst : Asc pan.length st) (hg : Asc pan.length goal) (hh : IsHeld pan goal hs) (hG : IsGath pan goal hs G) : goal ∈ reachM pan st ↔ CanG goal hs G st := by
  rw [reach_iff g.few hst]
  constructor
  · rintro ⟨row, h1, h2⟩
    exact can_of_run g.own hh hG hst h1 h2
  · exact run_of_can hh hG hg hst
end Pr
namespace Pr
open PySem PySem.Spec PyProof.Rows L2
section
variable {κ : Type} [DecidableEq κ] {step : κ → Nat → κ} {n : Nat} {s : κ}
def rowK (step : κ → Nat → κ) (s : κ) (r : List Int) : κ := r.foldl (fun k b => step k b.toNat) s
theorem rowK_snoc {r : List Int} {b : Int} : rowK step s (r ++ [b]) = step (rowK step s r) b.toNat := by unfold rowK; rw [List.foldl_append]; rfl
theorem procB_each {I : κ × List Int → Prop} {L : BL κ} {k : κ} {r : List Int} (h : ∀ x ∈ L, I x) : ∀ m, (∀ b, b < m → I (step k b, r ++ [(b : Int)])) → ∀ x ∈ procB step L k r m, I x
  | 0, _ => h
  | m + 1, hb => by
    rw [procB_succ]
    unfold addK
    split
    · exact procB_each h m fun b q => hb b (by omega)
    · intro x hx
      rcases List.mem_append.mp hx with hx | hx
      · exact procB_each h m (fun b q => hb b (by omega)) x hx
      · rw [List.mem_singleton.mp hx]; exact hb m (by omega)
theorem bfs_each {I : κ × List Int → Prop} (h0 : I (s, [])) (hs : ∀ x b, I x → b < n → I (step x.1 b, x.2 ++ [(b : Int)])) : ∀ i, ∀ x ∈ bfsN step n s i, I x
  | 0 => fun x hx => by rw [List.mem_singleton.mp hx]; exact h0
  | i + 1 => by
    by_cases hi : i < (bfsN step n s i).length
    · rw [bfs_step (List.getElem?_eq_getElem hi)]
      exact procB_each (bfs_each h0 hs i) n fun b hb => hs _ b (bfs_each h0 hs i _ (List.getElem_mem hi)) hb
    · rw [bfs_stop (by omega) (Nat.le_succ i)]; exact bfs_each h0 hs i
theorem bfs_row (i : Nat) : ∀ x ∈ bfsN step n s i, x.1 = rowK step s x.2 ∧ ∀ b ∈ x.2, 0 ≤ b ∧ b < (n : Int) :=
  bfs_each (I := fun x => x.1 = rowK step s x.2 ∧ ∀ b ∈ x.2, 0 ≤ b ∧ b < (n : Int)) ⟨rfl, fun b hb => by cases hb⟩ (fun x b h hb => ⟨by rw [rowK_snoc, ← h.1, Int.toNat_natCast], fun c hc => by
    rcases List.mem_append.mp hc with q | q
    · exact h.2 c q
    · rw [List.mem_singleton.mp q]; omega⟩) i
theorem procB_more (L : BL κ) (k : κ) (r : List Int) : ∀ m, ∃ M, procB step L k r m = L ++ M ∧ ∀ y ∈ M, y.2.length = r.length + 1
  | 0 => ⟨[], by rw [List.append_nil]; rfl, fun y hy => by cases hy⟩
  | m + 1 => by
    obtain ⟨M, e, h⟩ := procB_more L k r m
    rw [procB_succ]
    unfold addK
    split
    · exact ⟨M, e, h⟩
    · refine ⟨M ++ [(step k m, r ++ [(m : Int)])], by rw [e, List.append_assoc], fun y hy => ?_⟩
      rcases List.mem_append.mp hy with q | q
      · exact h y q
      · rw [List.mem_singleton.mp q, List.length_append]; rfl
structure Lv (step : κ → Nat → κ) (n : Nat) (L : BL κ) (i : Nat) : Prop where
  up : L.Pairwise fun a b => a.2.length ≤ b.2.length
  top : ∀ x, L[i]? = some x → ∀ y ∈ L, y.2.length ≤ x.2.length + 1
  near : ∀ j < i, ∀ x, L[j]? = some x → ∀ b < n, ∃ y ∈ L, y.1 = step x.1 b ∧ y.2.length ≤ x.2.length + 1
theorem lv_bfs : ∀ i, Lv step n (bfsN step n s i) i
  | 0 => ⟨List.pairwise_singleton _ _, fun x hx y hy => by
      rw [List.mem_singleton.mp hy]; exact Nat.zero_le _, fun j hj => by omega⟩
  | i + 1 => by
    have h := lv_bfs i
    by_cases hi : i < (bfsN step n s i).length
    · have ex := List.getElem?_eq_getElem hi
      generalize (bfsN step n s i)[i] = x at ex
      rw [bfs_step ex]
      obtain ⟨M, e, hM⟩ := procB_more (step := step) (bfsN step n s i) x.1 x.2 n
      have hup : (procB step (bfsN step n s i) x.1 x.2 n).Pairwise fun a b => a.2.length ≤ b.2.length := by
        rw [e]
        refine List.pairwise_append.mpr ⟨h.up, ?_, fun a ha b hb => ?_⟩
        · exact List.pairwise_of_forall_mem_list fun a ha b hb => by rw [hM a ha, hM b hb]; exact Nat.le_refl _
        · rw [hM b hb]; exact h.top x ex a ha
      have hall : ∀ y ∈ procB step (bfsN step n s i) x.1 x.2 n, y.2.length ≤ x.2.length + 1 := fun y hy => by
        rw [e] at hy
        rcases List.mem_append.mp hy with q | q
        · exact h.top x ex y q
        · rw [hM y q]; exact Nat.le_refl _
      have ex2 : (procB step (bfsN step n s i) x.1 x.2 n)[i]? = some x := by rw [e, List.getElem?_append_left hi]; exact ex
      refine ⟨hup, fun z hz y hy => ?_, fun j hj z hz b hb => ?_⟩
      · have h1 := hall y hy
        obtain ⟨g1, g2⟩ := List.getElem?_eq_some_iff.mp ex2
        obtain ⟨g3, g4⟩ := List.getElem?_eq_some_iff.mp hz
        have := List.pairwise_iff_getElem.mp hup i (i + 1) g1 g3 (by omega)
        rw [g2, g4] at this
        omega
      · by_cases ej : j = i
        · subst ej
          rw [ex2] at hz; cases hz
          obtain ⟨y, hy, ey⟩ := List.mem_map.mp (procB_has (step := step) (bfsN step n s j) x.1 x.2 n b hb)
          exact ⟨y, hy, ey, hall y hy⟩
        · rw [e, List.getElem?_append_left (by omega)] at hz
          obtain ⟨y, hy, e1, e2⟩ := h.near j (by omega) z hz b hb
          exact ⟨y, by rw [e]; exact List.mem_append_left _ hy, e1, e2⟩
    · rw [bfs_stop (by omega) (Nat.le_succ i)]
      refine ⟨h.up, fun z hz => ?_, fun j hj z hz => ?_⟩
      · have := (List.getElem?_eq_some_iff.mp hz).1; omega
      · have := (List.getElem?_eq_some_iff.mp hz).1
        exact h.near j (by omega) z hz
theorem bfs_short {M : Nat} (hM : (bfsN step n s M).length ≤ M) (r : List Int) : (∀ b ∈ r, 0 ≤ b ∧ b < (n : Int)) → ∃ y ∈ bfsN step n s M, y.1 = rowK step s r ∧ y.2.length ≤ r.length := by
  generalize hl : r.length = l
  induction l generalizing r with
  | zero =>
    intro _
    obtain rfl := List.length_eq_zero_iff.mp hl
    obtain ⟨t, ht⟩ := bfs_pre (step := step) (n := n) (s := s) (Nat.zero_le M)
    refine ⟨(s, []), ?_, rfl, Nat.le_refl _⟩
    rw [← ht]
    exact List.mem_append_left _ (List.mem_singleton.mpr rfl)
  | succ l ih =>
    intro hr
    have hne : r ≠ [] := fun z => by rw [z] at hl; cases hl
    have er := List.dropLast_concat_getLast hne
    have hl2 : r.dropLast.length = l := by rw [List.length_dropLast]; omega
    obtain ⟨y, hy, e1, e2⟩ := ih r.dropLast hl2 fun b hb => hr b (by rw [← er]; exact List.mem_append_left _ hb)
    obtain ⟨j, hj⟩ := List.getElem?_of_mem hy
    have hb := hr (r.getLast hne) (List.getLast_mem hne)
    have hjl := (List.getElem?_eq_some_iff.mp hj).1
    obtain ⟨z, hz, e3, e4⟩ := (lv_bfs (step := step) (n := n) (s := s) M).near j (by omega) y hj (r.getLast hne).toNat (by omega)
    exact ⟨z, hz, by rw [e3, e1, ← rowK_snoc (step := step) (s := s), er], by omega⟩
end
theorem rowK_run {pan : List (List Int)} : ∀ {r : List Int} {st : List Int}, (∀ b ∈ r, InP pan b) → rowK (stepP pan) (kInt st) r = kInt (runM pan st r)
  | [], _, _ => rfl
  | b :: r, st, h => by
    have hb := h b List.mem_cons_self
    show rowK (stepP pan) (stepP pan (kInt st) b.toNat) r = _
    unfold stepP
    rw [unK_kInt, Int.toNat_of_nonneg hb.1]
    exact rowK_run fun c hc => h c (List.mem_cons_of_mem _ hc)
/-- the way that is found, if there is one -/
theorem way_min {pan : List (List Int)} (few : pan.length ≤ 10) {st goal : List Int} (hst : Asc pan.length st) :
    (wayOf (foundM pan st) (kInt goal) = .none ∧ goal ∉ reachM pan st) ∨ ∃ r, wayOf (foundM pan st) (kInt goal) = dInts r ∧ goal ∈ reachM pan st ∧ (∀ b ∈ r, InP pan b) ∧ runM pan st r = goal ∧ ∀ row, (∀ b ∈ row, InP pan b) → runM pan st row = goal → r.length ≤ row.length := by
  unfold wayOf
  cases e : (foundM pan st).find? fun x => decide (x.1 = kInt goal) with
  | none =>
    refine .inl ⟨rfl, fun hk => ?_⟩
    obtain ⟨x, hx, e2⟩ := List.mem_map.mp hk
    have := List.find?_eq_none.mp e x hx
    simp only [decide_eq_true_eq] at this
    exact this (by rw [← e2, found_key hst x hx])
  | some x =>
    have hx := List.mem_of_find?_eq_some e
    have e2 : x.1 = kInt goal := by simpa using List.find?_some e
    have hr := bfs_row (step := stepP pan) (n := pan.length) (s := kInt st) 1024 x hx
    have hr2 : ∀ b ∈ x.2, InP pan b := fun b hb => hr.2 b hb
    refine .inr ⟨x.2, rfl, List.mem_map.mpr ⟨x, hx, by rw [e2, unK_kInt]⟩, hr2, ?_, fun row h1 h2 => ?_⟩
    · have := hr.1
      rw [rowK_run hr2, e2] at this
      rw [← unK_kInt (runM pan st x.2), ← this, unK_kInt]
    · obtain ⟨y, hy, e3, e4⟩ := bfs_short (step := stepP pan) (n := pan.length) (s := kInt st) (M := 1024) (bfs_few few ⟨st, rfl, hst⟩ 1024) row (fun b hb => h1 b hb)
      rw [rowK_run (fun b hb => h1 b hb), h2, ← e2] at e3
      have : y = x := by
        have nd := found_nd pan st
        obtain ⟨i, hi⟩ := List.getElem?_of_mem hx
        obtain ⟨j, hj⟩ := List.getElem?_of_mem (show y ∈ foundM pan st from hy)
        obtain ⟨i1, i2⟩ := List.getElem?_eq_some_iff.mp hi
        obtain ⟨j1, j2⟩ := List.getElem?_eq_some_iff.mp hj
        have : j = i := (List.getElem_inj (h₀ := by rw [List.length_map]; exact j1) (h₁ := by rw [List.length_map]; exact i1) nd).mp (by rw [List.getElem_map, List.getElem_map, i2, j2, e3])
        subst this
        rw [hi] at hj; cases hj; rfl
      rw [← this]; exact e4
theorem reach_nd {pan : List (List Int)} {st : List Int} (hst : Asc pan.length st) : (reachM pan st).Nodup := by
  unfold reachM
  have nd := found_nd pan st
  rw [List.nodup_iff_pairwise_ne, List.pairwise_map] at nd ⊢
  refine List.Pairwise.imp_of_mem (fun {a b} ha hb h e => h ?_) nd
  rw [← found_key hst a ha, ← found_key hst b hb, e]
end Pr
namespace Pr
open PySem PySem.Spec PyProof.Rows L2
theorem shp_ints (ns : List Int) : SeqAt.shaped (dInts ns) = true := by
  obtain ⟨h1, h2⟩ := canLay_ints ns
  simp [dInts, SeqAt.shaped, PyData.canLay0, PyData.depth, h1, h2]
theorem eqv_di (ns ms : List Int) : PyData.eqv (dInts ns) (dInts ms) = decide (ns = ms) := by
  unfold dInts
  simp only [PyData.eqv]
  exact eqv_intsL ns ms
theorem lay_rows : ∀ a : List (List Int), PyData.canLayAll0 (a.map dInts) = true ∧ PyData.depthAll (a.map dInts) ≤ 1
  | [] => ⟨by simp [PyData.canLayAll0], by simp [PyData.depthAll]⟩
  | x :: r => by
    obtain ⟨h1, h2⟩ := lay_rows r
    obtain ⟨g1, g2⟩ := canLay_ints x
    refine ⟨by simp [PyData.canLayAll0, dInts, PyData.canLay0, h1, g1], ?_⟩
    simp only [List.map_cons, PyData.depthAll, dInts, PyData.depth, g2]
    omega
theorem shp_rowsL (a : List (List Int)) : SeqAt.shaped (.list (a.map dInts)) = true := by
  obtain ⟨h1, h2⟩ := lay_rows a
  simp only [SeqAt.shaped, PyData.canLay0, PyData.depth, h1, Bool.true_and]
  exact decide_eq_true (by omega)
def dNone : PyData → Bool
  | .none => true
  | _ => false
section
variable {K : PySem.W.Frag} {σ : L2.St} {H : Hp} {t tk ta tb : TE}
theorem gv_neI1 {l m : List Int} (ha : Gv K ta σ H (dInts l)) (hb : Gv K tb σ H (dInts m)) : Gv K (tOp (rNeD K) ta tb) σ H (.bool (!decide (l = m))) := (gv_neD ha hb (shp_ints _) (shp_ints _)).to (by rw [eqv_di])
theorem gv_isN {d : PyData} (h : Gv K t σ H d) {r : R2} (hr : r = (fun x y H Q => y = .non ∧ Q (.bl (decide (x = .non))) H)) : Gv K (tOp r t (tC .non)) σ H (.bool (dNone d)) := by
  subst hr
  refine gv_op2 h gv_non fun x y H1 Q s hx hy q => ?_
  cases hy
  refine ⟨rfl, q _ _ (Same.refl _) ?_⟩
  have : decide (x = V.non) = dNone d := by
    cases hx <;> simp [dNone]
  rw [this]; exact .bl _
theorem gv_notN {d : PyData} (h : Gv K t σ H d) {r : R2} (hr : r = (fun x y H Q => y = .non ∧ Q (.bl (!decide (x = .non))) H)) : Gv K (tOp r t (tC .non)) σ H (.bool (!dNone d)) := by
  subst hr
  refine gv_op2 h gv_non fun x y H1 Q s hx hy q => ?_
  cases hy
  refine ⟨rfl, q _ _ (Same.refl _) ?_⟩
  have : decide (x = V.non) = dNone d := by
    cases hx <;> simp [dNone]
  rw [this]; exact .bl _
end
end Pr
namespace Pr
open PySem PySem.W PySem.Calls PyProof.Rows PyProof.V PySem.Spec RZ
section
variable {prog : Program} {w : World} {A : Around} {E : Value → Shared → Prop} {s : Shared}
/-- how the zip stands after i turns, S a list besides -/
def ZSt (h : Heap) (z TI TO i1 i2 l1 l2 S : Addr) (i : Nat) : Prop :=
  IsPair h TI (.ref i1) (.ref i2) ∧ h.IsTupleIter i1 l1 i ∧ h.IsTupleIter i2 l2 i ∧
  ((i = 0 ∧ IsZip h z TI TO .none ∧ ∃ a b, IsPair h TO a b) ∨ ∃ T f oT, IsZipHeld h z TI TO T f ∧ h.get? T = some oT ∧ T ≠ S ∧ T ≠ z ∧ T ≠ i1 ∧ T ≠ i2)
structure OffS (S z TI TO i1 i2 l1 l2 : Addr) : Prop where
  z : z ≠ S
  TI : TI ≠ S
  TO : TO ≠ S
  i1 : i1 ≠ S
  i2 : i2 ≠ S
  l1 : l1 ≠ S
  l2 : l2 ≠ S
theorem ZSt.keep {h h' : Heap} {z TI TO i1 i2 l1 l2 S : Addr} {i : Nat} (x : ZSt h z TI TO i1 i2 l1 l2 S i) (F : OffS S z TI TO i1 i2 l1 l2) (hk : ∀ b o, b ≠ S → h.get? b = some o → h'.get? b = some o) : ZSt h' z TI TO i1 i2 l1 l2 S i := by
  obtain ⟨a1, a2, a3, a4⟩ := x
  refine ⟨hk _ _ F.TI a1, a2.at fun o e => hk _ o F.i1 e, a3.at fun o e => hk _ o F.i2 e, ?_⟩
  rcases a4 with ⟨e, b1, a, b, b2⟩ | ⟨T, f, oT, b1, b2, b3⟩
  · exact .inl ⟨e, hk _ _ F.z b1, a, b, hk _ _ F.TO b2⟩
  · exact .inr ⟨T, f, oT, hk _ _ F.z b1, hk _ _ b3.1 b2, b3⟩
end
end Pr
namespace Pr
open PySem PySem.Spec PyProof.Rows L2
def tlen : PyData → Bool
  | .tuple es => decide (es.length ≤ 60)
  | _ => true
def smlB : PyData → Bool
  | .tuple ds => ds.all tlen
  | _ => true
def lowB (d : PyData) : Bool := d.showable && decide (d.depth ≤ 3) && decide (d.shown.length ≤ 60) && tlen d && smlB d
/-- a small thing: at most three deep, at most sixty signs -/
def Low (d : PyData) : Prop := lowB d = true
theorem Low.shq {d : PyData} (h : Low d) : Shq 3 60 d := by
  simp only [Low, lowB, Bool.and_eq_true, decide_eq_true_eq] at h
  exact ⟨h.1.1.1.1, h.1.1.1.2, h.1.1.2⟩
theorem Low.len {d : PyData} (h : Low d) : tlen d = true := by
  simp only [Low, lowB, Bool.and_eq_true, decide_eq_true_eq] at h
  exact h.1.2
theorem Low.sml {d : PyData} (h : Low d) : smlB d = true := by
  simp only [Low, lowB, Bool.and_eq_true, decide_eq_true_eq] at h
  exact h.2
/-- values of the laws -/
def Top (d : PyData) : Prop := Shq 5 2000000 d ∧ smlB d = true
theorem Low.top {d : PyData} (h : Low d) : Top d := ⟨h.shq.mono (by decide) (by decide), h.sml⟩
end Pr
namespace Pr
open PySem PySem.Spec PyProof.Rows L2
end Pr
namespace Pr
open PySem PySem.Spec PyProof.Rows L2
end Pr
namespace Pr
open PySem PySem.Spec PyProof.Rows L2
section
variable {X : Cx} {CX : CXT} {k : Nat} {f : Addr} {sp : Sp} {E : XK} {x : Str} {p pos : Pos} {e : Expr} {es : List Expr} {t : TA}
theorem pe_callR (F : FnR X.prog X.w X.K X.mg X.base CX k f sp) (hr : Room k X.A) (hk : PySem.W.keepIn X.K (.ref f) = true) (hg : Gl X x) (hm : X.mg x = some (.ref f)) (hx : Passes CX X E) (ha : PA X (e :: es) t) (hd : (x == ("__debug__" : Str)) = false := by decide)
    (he : starEach (e :: es) X.env = (false, eval e X.env) :: starEach es X.env := by rfl) (hpl : (backTo pos (starEach es X.env)).any (·.1) = false := by rfl) :
    PE X (.Call (.Name x p) (e :: es) [] pos) (fun σ H Q => t σ H fun vs H1 => sp vs H1 Q E) := by
  refine ⟨fun pins s σ H Q I h => ?_⟩
  refine wpAny_Call_Name_kw (ld_glob I hg hm ?_ hd)
  refine PySem.W.callWith_K (h₀ := X.base) I.ok.mod.kin hk (thn (ha.run pos pins s σ H _ I h) fun us s1 ⟨vs, H1, I1, r, q⟩ => ⟨I1.kIn, ?_⟩) he hpl
  exact wpAny_call (run_fnR F hr hx I1 r q)
end
end Pr
namespace Pr
open PySem PySem.Spec PyProof.Rows L2
section
variable {K : PySem.W.Frag} {H H' : Hp} {pan : List (List Int)}
theorem panT_dp {v : V} (h : Dp K H v (dPan pan)) : ∃ p, v = .ref p ∧ PanT K H p pan := by
  obtain ⟨p, xs, rfl, hq, hr⟩ := h.tupI
  have : ∀ (xs : List V) (pan : List (List Int)), DpAll K H xs (pan.map dInts) → ∃ qs : List Addr, xs = qs.map V.ref ∧ Paired (fun q l => SqT K H q (l.map V.int)) qs pan := by
    intro xs pan
    induction pan generalizing xs with
    | nil => intro h; cases h; exact ⟨[], rfl, .nil⟩
    | cons l pan ih =>
      intro h
      cases h with
      | cons h1 h2 =>
        obtain ⟨q, rfl, hq⟩ := h1.intsI
        obtain ⟨qs, rfl, hqs⟩ := ih _ h2
        exact ⟨q :: qs, rfl, .cons hq hqs⟩
  obtain ⟨qs, rfl, hqs⟩ := this xs pan hr
  exact ⟨p, rfl, qs, hq, hqs⟩
end
/-- all but the object at g stands as before -/
def ButO (g : Addr) (H H' : Hp) : Prop := ∀ b o, b ≠ g → H b = some o → H' b = some o
theorem ButO.refl (g : Addr) (H : Hp) : ButO g H H := fun _ _ _ e => e
theorem ButO.of {g : Addr} {H H' : Hp} (s : Same H H') : ButO g H H' := fun b o _ e => s b o e
theorem ButO.trans {g : Addr} {H H1 H2 : Hp} (x : ButO g H H1) (y : ButO g H1 H2) : ButO g H H2 := fun b o n e => y b o n (x b o n e)
theorem ButO.kp {g C dx : Addr} {fs : List (Str × V)} {H H' : Hp} (h : H g = some (.ins C dx fs)) (b : ButO g H H') : Kp H H' :=
  ⟨fun p xs e => b _ _ (ne_of e h (by intro z; cases z)) e, fun p o u e => b _ _ (ne_of e h (by intro z; cases z)) e⟩
theorem PanT.kp {K : PySem.W.Frag} {H H' : Hp} {p : Addr} {pan : List (List Int)} (k : Kp H H') (h : PanT K H p pan) : PanT K H' p pan := by
  obtain ⟨p', e, h'⟩ := panT_dp (h.dp.kp k (lf_pan _))
  cases e; exact h'
end Pr
namespace Pr
open PySem PySem.Spec PyProof.Rows L2
/-- the states found after the buttons of `most`, in the order in which they are found -/
def betM (least : List Int) : List Int → List (List Int)
  | [] => [least]
  | b :: r => let s := betM least r; if b ∈ least then s else s ++ s.map fun l => srt (l ++ [b])
theorem srt_mem {l : List Int} {x : Int} : x ∈ srt l ↔ x ∈ l := (srt_perm l).mem_iff
/-- what is found lies between the two -/
theorem betM_sub {least : List Int} : ∀ {most l : List Int}, l ∈ betM least most → (∀ x ∈ least, x ∈ l) ∧ ∀ x ∈ l, x ∈ least ∨ x ∈ most
  | [], l, h => by
    rw [List.mem_singleton.mp h]
    exact ⟨fun _ h => h, fun _ h => .inl h⟩
  | b :: r, l, h => by
    unfold betM at h
    dsimp only at h
    split at h
    · have := betM_sub h
      exact ⟨this.1, fun x hx => (this.2 x hx).imp_right (List.mem_cons_of_mem _)⟩
    · rcases List.mem_append.mp h with h | h
      · have := betM_sub h
        exact ⟨this.1, fun x hx => (this.2 x hx).imp_right (List.mem_cons_of_mem _)⟩
      · obtain ⟨k, hk, rfl⟩ := List.mem_map.mp h
        have := betM_sub hk
        refine ⟨fun x hx => srt_mem.mpr (List.mem_append_left _ (this.1 x hx)), fun x hx => ?_⟩
        rcases List.mem_append.mp (srt_mem.mp hx) with h1 | h1
        · exact (this.2 x h1).imp_right (List.mem_cons_of_mem _)
        · rw [List.mem_singleton.mp h1]; exact .inr List.mem_cons_self
theorem srt_asc {l : List Int} (nd : l.Nodup) : (srt l).Pairwise (· < ·) := by
  have nd' : (srt l).Nodup := (srt_perm l).nodup_iff.mpr nd
  exact (List.Pairwise.and (srt_up l) nd').imp fun {a b} h => by have := h.1; have := h.2; omega
/-- all that lie between the two are found -/
theorem betM_all {least : List Int} (hl : least.Pairwise (· < ·)) : ∀ {most l : List Int}, l.Pairwise (· < ·) → (∀ x ∈ least, x ∈ l) → (∀ x ∈ l, x ∈ least ∨ x ∈ most) → l ∈ betM least most
  | [], l, up, h1, h2 => by
    refine List.mem_singleton.mpr (asc_ext up hl fun x => ⟨fun hx => ?_, h1 x⟩)
    rcases h2 x hx with h | h
    · exact h
    · cases h
  | b :: r, l, up, h1, h2 => by
    have nd : l.Nodup := up.imp fun {a c} (h : a < c) => Int.ne_of_lt h
    unfold betM
    dsimp only
    by_cases hb : b ∈ least
    · rw [if_pos hb]
      refine betM_all hl up h1 fun x hx => ?_
      rcases h2 x hx with h | h
      · exact .inl h
      · rcases List.mem_cons.mp h with rfl | h
        · exact .inl hb
        · exact .inr h
    · rw [if_neg hb]
      by_cases hbl : b ∈ l
      · have e : srt (l.erase b ++ [b]) = l := by
          have nd2 : (l.erase b ++ [b]).Nodup := by
            rw [List.nodup_append]
            refine ⟨nd.erase b, by simp, fun x hx y hy e => ?_⟩
            rw [List.mem_singleton.mp hy] at e
            rw [e] at hx
            exact (nd.not_mem_erase) hx
          refine asc_ext (srt_asc nd2) up fun x => ?_
          rw [srt_mem, List.mem_append, List.mem_singleton]
          by_cases ex : x = b
          · subst ex; exact ⟨fun _ => hbl, fun _ => .inr rfl⟩
          · rw [List.mem_erase_of_ne ex]
            exact ⟨fun h => h.resolve_right ex, .inl⟩
        refine List.mem_append_right _ (List.mem_map.mpr ⟨l.erase b, ?_, e⟩)
        refine betM_all hl (up.sublist List.erase_sublist) (fun x hx => (List.mem_erase_of_ne (fun z : x = b => hb (by rw [← z]; exact hx))).mpr (h1 x hx)) fun x hx => ?_
        rcases h2 x (List.mem_of_mem_erase hx) with h | h
        · exact .inl h
        · rcases List.mem_cons.mp h with rfl | h
          · exact absurd hx nd.not_mem_erase
          · exact .inr h
      · refine List.mem_append_left _ (betM_all hl up h1 fun x hx => ?_)
        rcases h2 x hx with h | h
        · exact .inl h
        · rcases List.mem_cons.mp h with rfl | h
          · exact absurd hx hbl
          · exact .inr h
end Pr
namespace Pr
open PySem PySem.Spec PyProof.Rows L2
end Pr
namespace Pr
open PySem PySem.Spec PyProof.Rows L2
def Dk3 (H : Hp) (a c r : Addr) (m : Nat) : Prop :=
  ∃ (cells rests : List Int) (n : Nat), H a = some (.lst [.ref c, .int (n : Int), .ref r]) ∧ H c = some (.lst (cells.map V.int)) ∧ H r = some (.lst (rests.map V.int)) ∧ a ≠ c ∧ a ≠ r ∧ c ≠ r ∧
    1 ≤ cells.length ∧ cells.length ≤ 63 ∧ rests.length = cells.length ∧ n + m ≤ 1000000
theorem Dk3.same {H H' : Hp} {a c r : Addr} {m : Nat} (e : Same H H') (h : Dk3 H a c r m) : Dk3 H' a c r m :=
  let ⟨cs, rs, n, h1, h2, h3, h4⟩ := h; ⟨cs, rs, n, e _ _ h1, e _ _ h2, e _ _ h3, h4⟩
theorem Dk3.less {H : Hp} {a c r : Addr} {m m' : Nat} (h : Dk3 H a c r m) (z : m' ≤ m) : Dk3 H a c r m' :=
  let ⟨cs, rs, n, h1, h2, h3, h4, h5, h6, h7, h8, h9, h10⟩ := h; ⟨cs, rs, n, h1, h2, h3, h4, h5, h6, h7, h8, h9, by omega⟩
theorem Dk3.apart {H : Hp} {a c r : Addr} {m : Nat} (h : Dk3 H a c r m) {b : Addr} {o : HO} (e : H b = some o) (ho : ∀ xs, o ≠ .lst xs) : b ≠ a ∧ b ≠ r := by
  obtain ⟨cs, rs, n, h1, h2, h3, _⟩ := h
  exact ⟨ne_of e h1 (ho _), ne_of e h3 (ho _)⟩
theorem Dk3.fresh {H : Hp} {a c r : Addr} {m : Nat} (h : Dk3 H a c r m) {b : Addr} (e : H b = none) : b ≠ a ∧ b ≠ r ∧ b ≠ c := by
  obtain ⟨cs, rs, n, h1, h2, h3, _⟩ := h
  exact ⟨Ne.symm (ne_of_none h1 e), Ne.symm (ne_of_none h3 e), Ne.symm (ne_of_none h2 e)⟩
theorem But.free {a c : Addr} {H H' : Hp} {b : Addr} (x : But a c H H') (h1 : b ≠ a) (h2 : b ≠ c) (e : H' b = none) : H b = none := by
  cases q : H b with
  | none => rfl
  | some o => have := x b o h1 h2 q; rw [e] at this; cases this
theorem cut_ints (ns : List Int) (lo hi : Option Int) : ∃ ms : List Int, cutV (ns.map V.int) lo hi = ms.map V.int ∧ ms.length ≤ ns.length := by
  refine ⟨(ns.drop (HT.sIx ns.length 0 lo)).take (HT.sIx ns.length ns.length hi - HT.sIx ns.length 0 lo), ?_, ?_⟩
  · unfold cutV
    rw [List.length_map, List.map_take, List.map_drop]
  · rw [List.length_take, List.length_drop]; omega
end Pr
namespace Pr
open PySem PySem.Spec PyProof.Rows L2
/-- kvs holds the last place of each of the first i -/
def LastAt (row : List Int) (i : Nat) (kvs : List (Key × V)) : Prop :=
  ∀ x : Int, x ∈ row.take i → ∃ j : Nat, row[j]? = some x ∧ j < i ∧ (∀ m, j < m → m < i → row[m]? ≠ some x) ∧ valV kvs (Sum.inl x) = some (.int (j : Int))
theorem LastAt.nil (row : List Int) (kvs : List (Key × V)) : LastAt row 0 kvs := fun x h => by simp at h
theorem LastAt.put {row : List Int} {i : Nat} {kvs : List (Key × V)} {z : Int} (h : LastAt row i kvs) (hz : row[i]? = some z) : LastAt row (i + 1) (putK kvs (Sum.inl z) (.int (i : Int))) := by
  intro x hx
  rw [List.take_add_one, hz] at hx
  by_cases e : x = z
  · subst e
    refine ⟨i, hz, Nat.lt_succ_self _, fun m h1 h2 => by omega, ?_⟩
    rw [valV_put, if_pos rfl]
  · have hx' : x ∈ row.take i := (List.mem_append.mp hx).elim id fun q => absurd (by simpa using q) e
    obtain ⟨j, h1, h2, h3, h4⟩ := h x hx'
    refine ⟨j, h1, by omega, fun m g1 g2 g3 => ?_, ?_⟩
    · by_cases em : m = i
      · subst em
        rw [hz] at g3
        exact e (Option.some.inj g3).symm
      · exact h3 m g1 (by omega) g3
    · rw [valV_put, if_neg (fun q => e (Sum.inl.inj q)), h4]
end Pr
namespace Pr
open PySem PySem.Spec PyProof.Rows L2
theorem foldl_word (pan : List (List Int)) (c : Int) : ∀ (row : List Int) (w : Str), row.foldl (wordM pan c) w = if row.foldl (wordM pan c) wSame = wSame then w else row.foldl (wordM pan c) wSame
  | [], w => by
    show w = if wSame = wSame then w else wSame
    rw [if_pos rfl]
  | b :: r, w => by
    rw [List.foldl_cons, List.foldl_cons]
    unfold wordM
    by_cases h1 : b = c
    · rw [if_pos h1, if_pos h1, if_neg fun z => ?_]
      exact same_ne_on ((words_same r wOn).mp z).1.symm
    · rw [if_neg h1, if_neg h1]
      by_cases h2 : c ∈ pan.getD b.toNat []
      · rw [if_pos h2, if_pos h2, if_neg fun z => ?_]
        exact same_ne_off ((words_same r wOff).mp z).1.symm
      · rw [if_neg h2, if_neg h2]
        exact foldl_word pan c r w
theorem words_app (pan : List (List Int)) (r1 r2 : List Int) (c : Int) : wordsM pan (r1 ++ r2) c = if wordsM pan r2 c = wSame then wordsM pan r1 c else wordsM pan r2 c := by
  unfold wordsM
  rw [List.foldl_append, foldl_word]
theorem eff_app (pan : List (List Int)) (r1 r2 : List Int) : effM pan (r1 ++ r2) = joinM (effM pan r1) (effM pan r2) := by
  unfold joinM effM
  rw [List.zipWith_map, List.zipWith_self]
  exact List.map_congr_left fun c _ => words_app pan r1 r2 c
theorem eff_one {pan : List (List Int)} (g : Good pan) {b : Int} (h0 : 0 ≤ b) (h1 : b < (pan.length : Int)) : effM pan [b] = pressW pan b := by
  unfold effM pressW
  refine List.map_congr_left fun c _ => ?_
  have := wordM_join g h0 h1 c wSame
  show wordM pan (c : Int) wSame b = _
  rw [← this]
  by_cases e : onM (pan.getD b.toNat []) b c = wSame
  · rw [if_pos e, e]
  · rw [if_neg e]
theorem eff_cons {pan : List (List Int)} (g : Good pan) {b : Int} (h0 : 0 ≤ b) (h1 : b < (pan.length : Int)) (r : List Int) : effM pan (b :: r) = joinM (pressW pan b) (effM pan r) := by
  rw [show b :: r = [b] ++ r from rfl, eff_app, eff_one g h0 h1]
theorem words_iff {pan : List (List Int)} {row : List Int} {c : Int} : wordsM pan row c = wSame ↔ ¬ metB pan row c := by
  unfold wordsM
  rw [words_same]
  exact ⟨fun h => h.2, fun h => ⟨rfl, h⟩⟩
def partB (e v : List Str) : Bool := (List.zipWith (fun a b => decide (a = wSame ∨ a = b)) e v).all id
theorem part_iff : ∀ {e v : List Str}, e.length = v.length → (partB e v = true ↔ ∀ (c : Nat) (x y : Str), e[c]? = some x → v[c]? = some y → x = wSame ∨ x = y)
  | [], [], _ => ⟨(fun _ c x y h => by cases h), fun _ => rfl⟩
  | a :: e, b :: v, hl => by
    have ih := part_iff (e := e) (v := v) (by simpa using hl)
    unfold partB at ih ⊢
    rw [List.zipWith_cons_cons, List.all_cons, Bool.and_eq_true, ih]
    constructor
    · rintro ⟨h1, h2⟩ c x y hx hy
      match c, hx, hy with
      | 0, hx, hy => cases hx; cases hy; exact of_decide_eq_true h1
      | c + 1, hx, hy => exact h2 c x y hx hy
    · intro h
      exact ⟨decide_eq_true (h 0 a b rfl rfl), fun c x y hx hy => h (c + 1) x y hx hy⟩
theorem eff_get {pan : List (List Int)} {row : List Int} {c : Nat} (hc : c < pan.length) : (effM pan row)[c]? = some (wordsM pan row (c : Int)) := by
  unfold effM
  rw [List.getElem?_map, List.getElem?_range hc]; rfl
theorem part_eff {pan : List (List Int)} {row : List Int} {v : List Str} (hv : v.length = pan.length) : partB (effM pan row) v = true ↔ ∀ (c : Nat) (y : Str), v[c]? = some y → wordsM pan row (c : Int) = wSame ∨ wordsM pan row (c : Int) = y := by
  rw [part_iff (by rw [effM_len, hv])]
  constructor
  · intro h c y hy
    have hc : c < pan.length := by have := (List.getElem?_eq_some_iff.mp hy).1; omega
    exact h c _ y (eff_get hc) hy
  · intro h c x y hx hy
    have hc : c < pan.length := by have := (List.getElem?_eq_some_iff.mp hy).1; omega
    rw [eff_get hc] at hx
    obtain rfl := Option.some.inj hx
    exact h c y hy
theorem eff_ext {pan : List (List Int)} {r1 r2 : List Int} (h : ∀ c : Nat, c < pan.length → wordsM pan r1 (c : Int) = wordsM pan r2 (c : Int)) : effM pan r1 = effM pan r2 := by
  unfold effM
  exact List.map_congr_left fun c hc => h c (List.mem_range.mp hc)
end Pr
namespace Pr
open PySem PySem.Spec PyProof.Rows L2
theorem eqvAll_strs : ∀ xs ys : List Str, PyData.eqvAll (xs.map PyData.str) (ys.map PyData.str) = decide (xs = ys)
  | [], [] => by simp [PyData.eqvAll]
  | [], y :: ys => by simp [PyData.eqvAll]
  | x :: xs, [] => by simp [PyData.eqvAll]
  | x :: xs, y :: ys => by
    rw [List.map_cons, List.map_cons]
    simp only [PyData.eqvAll, PyData.eqv]
    rw [eqvAll_strs xs ys, Bool.eq_iff_iff, Bool.and_eq_true, beq_iff_eq, decide_eq_true_eq, decide_eq_true_eq, List.cons.injEq]
theorem eqv_strs (xs ys : List Str) : PyData.eqv (dStrs xs) (dStrs ys) = decide (xs = ys) := by
  unfold dStrs
  simp only [PyData.eqv]
  exact eqvAll_strs xs ys
theorem word_ok {x : Str} (h : x = wSame ∨ x = wOn ∨ x = wOff) : PyData.strOk x = true := by
  rcases h with rfl | rfl | rfl <;> exact ok_of _
theorem lay_words : ∀ {xs : List Str}, (∀ x ∈ xs, x = wSame ∨ x = wOn ∨ x = wOff) → PyData.canLayAll0 (xs.map PyData.str) = true
  | [], _ => by simp [PyData.canLayAll0]
  | x :: r, h => by
    rw [List.map_cons]
    simp only [PyData.canLayAll0, PyData.canLay0]
    rw [word_ok (h x List.mem_cons_self), lay_words fun y hy => h y (List.mem_cons_of_mem _ hy)]; rfl
theorem depth_strs : ∀ xs : List Str, PyData.depthAll (xs.map PyData.str) = 0
  | [] => by simp [PyData.depthAll]
  | x :: r => by
    rw [List.map_cons]
    simp only [PyData.depthAll, PyData.depth]
    rw [depth_strs r]; rfl
theorem shp_words {xs : List Str} (h : ∀ x ∈ xs, x = wSame ∨ x = wOn ∨ x = wOff) : SeqAt.shaped (dStrs xs) = true := by
  refine shp_of ?_ ?_
  · unfold dStrs; simp only [PyData.canLay0]; exact lay_words h
  · unfold dStrs; simp only [PyData.depth]; rw [depth_strs]; decide
end Pr
namespace Pr
open PySem PySem.Spec PyProof.Rows L2
theorem snoc_ind {α : Type} {P : List α → Prop} (h0 : P []) (h1 : ∀ l x, P l → P (l ++ [x])) (l : List α) : P l := by
  rw [← l.reverse_reverse]
  induction l.reverse with
  | nil => exact h0
  | cons x r ih => rw [List.reverse_cons]; exact h1 _ x ih
end Pr
namespace Pr
open PySem PySem.Spec PyProof.Rows L2
end Pr
namespace K09
open PySem PySem.Spec PyProof.Rows L2 Pr
theorem scBtn : FnScope ["value", "many"] ["value", "many"] (defScope sBtn) := ⟨rfl, rfl, rfl, by decide +kernel, rfl, by decide +kernel, by decide +kernel⟩
section
variable {P : Program} {w : World} {K : PySem.W.Frag} {mg : Str → Option Value} {base : Heap}
def spBtn (K : PySem.W.Frag) : Sp := fun vs H Q _ => ∃ (N : Addr → Prop) (v : V) (d : PyData) (n : Int), vs = [v, .int n] ∧ Dq K N H v d ∧ Q (.bl (isBtn n d)) H
theorem ok_btn {f : Addr} {fd : FuncData} {k : Nat} (F : Fun K "is_button" "is_button" sBtn f fd) (mi : mg "isinstance" = none) (mb : mg "bool" = none) (mn : mg "int" = none) : FnOk P w K mg base CX0 (k + 1) f fd ["value", "many"] (spBtn K) := by
  refine F.ok scBtn (fun vs H Q E h => ?_) (fun cdv A outer s H vs Q E hr h => ?_)
  · obtain ⟨N, v, d, n, rfl, _⟩ := h
    rfl
  · obtain ⟨N, v, d, n, rfl, hd, q⟩ := h
    refine ⟨_, pss_cons (ps_if (PW.pt (pw_or (pt_val (pe_callB call_isi (by rfl) mi (by decide +kernel) (pa_cons (pv 0) (pa_cons (pe_bltn (v := .ty "bool") (by rfl) mb (by decide +kernel) rfl) pa_nil))))
        (pw_or1 (pt_not (pt_val (pe_callB call_isi (by rfl) mi (by decide +kernel) (pa_cons (pv 0) (pa_cons (pe_bltn (v := .ty "int") (by rfl) mn (by decide +kernel) rfl) pa_nil))))))))
        (pss_one (ps_ret pe_bl)) pss_nil)
      (pss_one (ps_ret (pe_chain op_le op_lt pe_int (pv 0) (pv 1)))), ?_⟩
    refine ⟨v, rfl, v, .ty "bool", _, _, _, rfl, .ty "bool", hd.ty, isB_kit d, _, rfl, ?_⟩
    by_cases hb : ∃ b, d = .bool b
    · obtain ⟨b, rfl⟩ := hb
      exact iteT (iteT q)
    · have e1 : isB d = false := by
        cases d <;> first | rfl | exact absurd ⟨_, rfl⟩ hb
      rw [e1]
      refine iteF ⟨v, rfl, v, .ty "int", _, _, _, rfl, .ty "int", hd.ty, isI_kit d, _, rfl, ?_⟩
      by_cases hi : ∃ i, d = .int i
      · obtain ⟨i, rfl⟩ := hi
        cases hd
        refine iteF ⟨.int i, rfl, 0, i, rfl, rfl, _, rfl, ite2 (fun e => ?_) (fun e => ?_)⟩
        · refine ⟨.int n, rfl, i, n, rfl, rfl, ?_⟩
          have q' : Q (.bl (decide (0 ≤ i) && decide (i < n))) H := q
          rw [e, Bool.true_and] at q'
          exact q'
        · have q' : Q (.bl (decide (0 ≤ i) && decide (i < n))) H := q
          rw [(Bool.not_eq_true _).mp e, Bool.false_and] at q'
          exact q'
      · have e2 : isI d = false := by
          cases d <;> first | rfl | exact absurd ⟨_, rfl⟩ hi | exact absurd ⟨_, rfl⟩ hb
        rw [e2]
        have q' : Q (.bl false) H := by
          cases d <;> first | exact q | exact absurd ⟨_, rfl⟩ hi
        exact iteT q'
end
def nPress : List Str := ["panel", "state", "button", "released", "kept", "other"]
theorem scPress : FnScope nPress ["panel", "state", "button"] (defScope sPress) := ⟨rfl, rfl, rfl, by decide +kernel, rfl, by decide +kernel, by decide +kernel⟩
section
variable {P : Program} {w : World} {K : PySem.W.Frag} {mg : Str → Option Value} {base : Heap}
def spPress (K : PySem.W.Frag) : Sp := fun vs H Q _ => ∃ (pan : List (List Int)) (st : List Int) (b : Int), DpAll K H vs [dPan pan, dInts st, .int b] ∧ Asc pan.length st ∧ pan.length ≤ 10 ∧ 0 ≤ b ∧ b < (pan.length : Int) ∧
  ∀ H' t, Same H H' → H' t = some (.tup ((pressM pan st b).map V.int)) → Q (.ref t) H'
theorem ok_Press  {f : Addr} {fd : FuncData} {k : Nat} (F : Fun K "press_button" "press_button" sPress f fd)
    (m_sorted : mg "sorted" = none) (m_tuple : mg "tuple" = none) : FnOk P w K mg base CX0 (k + 1) f fd ["panel", "state", "button"] (spPress K) := by
  refine F.ok scPress (fun vs H Q E h => ?_) (fun cdv A outer s H vs Q E hr h => ?_)
  · obtain ⟨_, _, _, hd, _⟩ := h
    exact hd.length
  · obtain ⟨pan, st, b, hd, hst, few, b0, b1, q⟩ := h
    obtain ⟨v1, v2, v3, rfl, d1, d2, d3⟩ := dpAll3 hd
    have stl := hst.len
    refine ⟨_, pss_cons (ps_set (i := 3) scPress.nd rfl (.inr rfl) (pe_ix (show IxR _ (rIxT K) from ix_tup) (pv 0) (pv 2) (fun _ _ => rfl)))
      (pss_cons (ps_setLc (i := 4) (own := [("other", 5)]) (g := gName 5) rfl scPress.nd rfl rfl (sw_true rfl rfl rfl (by decide +kernel)) (show PI _ _ _ (iTup K _) from pi_tup (pv 1)) (blkOk_by (own := [("other", 5)]) (N := nPress) (sc := defScope sPress) (by decide +kernel)) (fun _ _ _ _ _ => pg_name (i := 5) scPress.nd rfl (Or.inl rfl)) (fun _ _ _ _ _ => pts_one (PW.pt (pw_and (pt_cmpR op_ne (pv 5) (pv 2) (nomark _)) (pw_and1 (pt_cmpR (show OpR _ _ (rIn K true) from op_notIn_seq) (pv 5) (pv 3) (by rfl)))))) (fun _ _ _ _ _ => pv 5))
      (pss_one (ps_ret (pe_callTy (show CallR _ _ (rTupG K) from cr_tupG) (by rfl) m_tuple (by decide +kernel) (pa_cons (pe_callB (show CallR _ _ (rSorted K) from cr_sorted) (by rfl) m_sorted (by decide +kernel) (pa_cons (pe_lst (StX.pa_star (pv 4) (pa_cons (pv 2) pa_nil))) pa_nil)) pa_nil))))), ?_⟩
    refine gs_set1 (gv_pan (gv_var rfl d1) (gv_var rfl d3) b0 b1) fun vr H1 s1 dr => ?_
    refine gs_set1 (gv_lc (p := fun x => decide (x ≠ b ∧ x ∉ pan.getD b.toNat [])) (f := PyData.int) (gvi_tup (gv_var rfl (d2.sm s1))) (fun x vx H2 hx s2 dx => ⟨(gvt_and (gvt_test (gv_neI (gv_var rfl dx) (gv_var rfl ((d3.sm s1).sm s2)))) (fun H3 s3 _ => gvt_test (gv_inT (neg := true) (gv_var rfl (dx.sm s3)) (gv_var rfl ((dr.sm s2).sm s3))))).to (by simp), fun _ => gv_var rfl dx⟩) (fun _ _ => rfl) (by omega)) fun vk H2 s2 dk => ?_
    refine (gu_tupL (gv_sortL (l := st.filter (fun x => decide (x ≠ b ∧ x ∉ pan.getD b.toNat [])) ++ [b]) ((gv_lst (gva_starL (gv_var rfl dk) (gva_cons (gv_var rfl ((d3.sm s1).sm s2)) gva_nil)) ?_).to ?_) ?_)).at fun t vs H3 s3 nt et dt => q H3 t ((s1.trans s2).trans s3) ?_
    · rw [List.length_append, List.length_map]
      have := List.length_filter_le (fun x => decide (x ≠ b ∧ x ∉ pan.getD b.toNat [])) st
      exact Nat.le_of_lt (small5 (by show _ + 1 ≤ _; omega))
    · rw [List.map_append]; rfl
    · rw [List.length_append]
      have := List.length_filter_le (fun x => decide (x ≠ b ∧ x ∉ pan.getD b.toNat [])) st
      show _ + 1 < 64; omega
    · rw [et, dpAll_intsV dt, press_sorted hst b0 b1 (srt_perm _) (srt_up _)]
end
theorem gv_Btn {K : PySem.W.Frag} {σ : L2.St} {H : Hp} {ta tb : TE} {E : XK} {x n : Int} (ha : Gv K ta σ H (.int x)) (hb : Gv K tb σ H (.int n)) : Gv K (tCall (spBtn K) [] E (tCons ta (tCons tb tNil))) σ H (.bool (isBtn n (.int x))) := fun H1 s Q q => ha H1 s _ fun v H2 s2 dv => hb H2 (s.trans s2) _ fun u H3 s3 du => by
  cases dv; cases du
  exact ⟨fun _ => False, .int x, .int x, n, rfl, .int x, q _ H3 (s2.trans s3) (.bl _)⟩
theorem gs_drop {K : PySem.W.Frag} {σ : L2.St} {H : Hp} {t : TE} {d : PyData} {u : TS} {D : Ends} (h : Gv K t σ H d) (q : ∀ H', Same H H' → u D σ H') : tSeq (tDrop t) u D σ H := h.at fun _ H' s _ => q H' s
def nChkR : List Str := ["panel", "value", "index", "item"]
theorem scChkR : FnScope nChkR ["panel", "value"] (defScope sChkR) := ⟨rfl, rfl, rfl, by decide +kernel, rfl, by decide +kernel, by decide +kernel⟩
section
variable {P : Program} {w : World} {K : PySem.W.Frag} {mg : Str → Option Value} {base : Heap}
def spChkR (K : PySem.W.Frag) : Sp := spP K (fun x : List (List Int) × List Int => [dPan x.1, dInts x.2]) (fun x => x.1.length ≤ 10 ∧ x.2.length ≤ 60 ∧ ∀ y ∈ x.2, 0 ≤ y ∧ y < (x.1.length : Int)) (fun x => .none)
theorem gv_ChkR {σ : L2.St} {H : Hp} {t : TA} {E : XK} {pan : List (List Int)} {row : List Int} (h : GvA K t σ H [dPan pan, dInts row]) (hc : pan.length ≤ 10 ∧ row.length ≤ 60 ∧ ∀ y ∈ row, 0 ≤ y ∧ y < (pan.length : Int)) : Gv K (tCall (spChkR K) [] E t) σ H (.none) := gv_call (K := K) (δ := fun x : List (List Int) × List Int => [dPan x.1, dInts x.2]) (C := fun x => x.1.length ≤ 10 ∧ x.2.length ≤ 60 ∧ ∀ y ∈ x.2, 0 ≤ y ∧ y < (x.1.length : Int)) (f := fun x => .none) (pan, row) h hc
theorem ok_ChkR {fBtn : Addr} {fdBtn : FuncData} {f : Addr} {fd : FuncData} {k : Nat} (F : Fun K "check_row" "check_row" sChkR f fd)
    (FBtn : Fun K "is_button" "is_button" sBtn fBtn fdBtn) (bBtn : Binds K fdBtn ["value", "many"] []) (gBtn : mg "is_button" = some (.ref fBtn))
    (m_bool : mg "bool" = none) (m_enumerate : mg "enumerate" = none) (m_int : mg "int" = none) (m_isinstance : mg "isinstance" = none) (m_len : mg "len" = none) (m_tuple : mg "tuple" = none) {tkR : Tok} (y_MAX_ROW : mg "MAX_ROW" = some (.int 60 tkR)) : FnOk P w K mg base CX0 (k + 2) f fd ["panel", "value"] (spChkR K) := by
  have GBtn : FnOk P w K mg base CX0 (k + 1) fBtn fdBtn ["value", "many"] (spBtn K) := ok_btn FBtn m_isinstance m_bool m_int
  refine F.ok scChkR (fun vs H Q E h => ?_) (fun cdv A outer s H vs Q E hr h => ?_)
  · obtain ⟨_, hd, _⟩ := h
    exact hd.length
  · obtain ⟨⟨pan, row⟩, hd, hc, q⟩ := h
    obtain ⟨v1, v2, rfl, d1, d2⟩ := dpAll2 hd
    try dsimp only at hc
    try dsimp only at q
    try dsimp only at d1 d2
    refine ⟨_, pss_cons (ps_if (PW.pt (pw_or (pt_not (pt_val (pe_callB (show CallR _ _ (rIsi K) from call_isi) (by rfl) m_isinstance (by decide +kernel) (pa_cons (pv 1) (pa_cons (pe_bltn (v := .ty "tuple") (by rfl) m_tuple (by decide +kernel) rfl) pa_nil))))) (pw_or1 (pt_cmpR op_gt (pe_callB (show CallR _ _ (rLenG K) from cr_lenG) (by rfl) m_len PySem.boot_len (pa_cons (pv 1) pa_nil)) (pe_glob (v := .int 60) (by rfl) y_MAX_ROW ⟨_, rfl⟩) (nomark _))))) (pss_one ps_never) pss_nil)
      (pss_one (ps_for PassesOwn.never rfl (pi_enumT (by rfl) m_enumerate (pa_cons (pv 1) pa_nil)) (pg_tup rfl (pgs_cons (pg_name (i := 2) scChkR.nd rfl (Or.inl rfl)) (pgs_cons (pg_name (i := 3) scChkR.nd rfl (Or.inl rfl)) pgs_nil))) (pss_one (ps_if (pt_not (pt_val (pe_call GBtn (hr.mono (by omega)) (by rfl) gBtn FBtn.kp bBtn .nil pass0 (pa_cons (pv 3) (pa_cons (pe_callB (show CallR _ _ (rLenG K) from cr_lenG) (by rfl) m_len PySem.boot_len (pa_cons (pv 0) pa_nil)) pa_nil))))) (pss_one ps_never) pss_nil)))), ?_⟩
    obtain ⟨few, hl, hr'⟩ := hc
    obtain ⟨p, rfl, hq⟩ := d2.intsI
    refine ⟨.ref p, rfl, .ref p, .ty "tuple", _, _, _, rfl, .ty "tuple", tyT hq, isT_kit (dInts row), _, rfl, ?_⟩
    refine iteF ?_
    refine ((gvt_test (K := K) (gv_I0 (f := .bool (decide ((60 : Int) < (row.length : Int)))) ((gv_lenT (gv_var (i := 1) rfl d2)).to (by rw [List.length_map])) (gv_int (i := 60)) (fun _ => .bl _))).to (c := false) (decide_eq_false (by omega))).at fun H1 s1 => iteF ?_
    refine gs_each2 (K := K) (α := Int × Nat) (as := row.zipIdx) (δ1 := fun x => .int (x.2 : Nat)) (δ2 := fun x => .int x.1) (gvi_enumT (δ := PyData.int) (gv_var (i := 1) rfl (d2.sm s1))) (fun Ha _ σ Hb => Same Ha Hb ∧ ∃ x2 x3, σ = [some v1, some (.ref p), x2, x3])
      (fun Ha sa => ⟨Same.refl _, none, none, rfl⟩) (fun Ha k σ Hb sa hP => hP.1) (fun Ha k x v u σ Hb Hc sa hx hP sc' dv du => ?_) (fun Ha σ Hb sa hP => q .non Hb (s1.trans (sa.trans hP.1)) .non)
    obtain ⟨sb, x2, x3, rfl⟩ := hP
    cases dv; cases du
    have hm : x.1 ∈ row := List.fst_mem_of_mem_zipIdx (List.mem_of_getElem? hx)
    have hrg := hr' _ hm
    refine gs_noN (gvt_not (gvt_b (K := K) (gv_Btn (n := (pan.length : Int)) (gv_var (i := 3) rfl (.int x.1)) ((gv_lenT (gv_var (i := 0) rfl ((((d1.sm s1).sm sa).sm sb).sm sc'))).to (by rw [List.length_map]))))) ?_ fun Hd sd => ⟨sb.trans (sc'.trans sd), _, _, rfl⟩
    show (!(decide (0 ≤ x.1) && decide (x.1 < (pan.length : Int)))) = false
    rw [decide_eq_true hrg.1, decide_eq_true hrg.2]; rfl
end
def nRun : List Str := ["panel", "state", "value", "now", "button"]
theorem scRun : FnScope nRun ["panel", "state", "value"] (defScope sRun) := ⟨rfl, rfl, rfl, by decide +kernel, rfl, by decide +kernel, by decide +kernel⟩
section
variable {P : Program} {w : World} {K : PySem.W.Frag} {mg : Str → Option Value} {base : Heap}
def spRun (K : PySem.W.Frag) : Sp := fun vs H Q _ => ∃ (v1 v3 : V) (a : Addr) (pan : List (List Int)) (st row : List Int), vs = [v1, .ref a, v3] ∧ Dp K H v1 (dPan pan) ∧ H a = some (.tup (st.map V.int)) ∧ Dp K H v3 (dInts row) ∧ pan.length ≤ 10 ∧ row.length ≤ 60 ∧ (∀ y ∈ row, 0 ≤ y ∧ y < (pan.length : Int)) ∧ Asc pan.length st ∧
  ∀ (H' : Hp) (t : Addr), Same H H' → H' t = some (.tup ((runM pan st row).map V.int)) → Q (.ref t) H'
theorem ok_Run {fBtn : Addr} {fdBtn : FuncData} {fPress : Addr} {fdPress : FuncData} {fChkR : Addr} {fdChkR : FuncData} {f : Addr} {fd : FuncData} {k : Nat} (F : Fun K "run" "run" sRun f fd)
    (FBtn : Fun K "is_button" "is_button" sBtn fBtn fdBtn) (bBtn : Binds K fdBtn ["value", "many"] []) (gBtn : mg "is_button" = some (.ref fBtn))
    (FPress : Fun K "press_button" "press_button" sPress fPress fdPress) (bPress : Binds K fdPress ["panel", "state", "button"] []) (gPress : mg "press_button" = some (.ref fPress))
    (FChkR : Fun K "check_row" "check_row" sChkR fChkR fdChkR) (bChkR : Binds K fdChkR ["panel", "value"] []) (gChkR : mg "check_row" = some (.ref fChkR))
    (m_bool : mg "bool" = none) (m_enumerate : mg "enumerate" = none) (m_int : mg "int" = none) (m_isinstance : mg "isinstance" = none) (m_len : mg "len" = none) (m_sorted : mg "sorted" = none) (m_tuple : mg "tuple" = none) {tkR : Tok} (y_MAX_ROW : mg "MAX_ROW" = some (.int 60 tkR)) : FnOk P w K mg base CX0 (k + 3) f fd ["panel", "state", "value"] (spRun K) := by
  have GChkR : FnOk P w K mg base CX0 (k + 2) fChkR fdChkR ["panel", "value"] (spChkR K) := ok_ChkR FChkR FBtn bBtn gBtn m_bool m_enumerate m_int m_isinstance m_len m_tuple y_MAX_ROW
  have GPress : FnOk P w K mg base CX0 (k + 1) fPress fdPress ["panel", "state", "button"] (spPress K) := ok_Press FPress m_sorted m_tuple
  refine F.ok scRun (fun vs H Q E h => ?_) (fun cdv A outer s H vs Q E hr h => ?_)
  · obtain ⟨v1, v3, a, pan, st, row, rfl, _⟩ := h
    rfl
  · obtain ⟨v1, v3, a, pan, st, row, rfl, d1, ea, d3, few, hl, hr', hst, q⟩ := h
    refine ⟨_, pss_cons (ps_expr (pe_call GChkR (hr.mono (by omega)) (by rfl) gChkR FChkR.kp bChkR .nil pass0 (pa_cons (pv 0) (pa_cons (pv 2) pa_nil))))
      (pss_cons (ps_set (i := 3) scRun.nd rfl (.inl rfl) (pv 1))
      (pss_cons (ps_for PassesOwn.never rfl (show PI _ _ _ (iTup K _) from pi_tup (pv 2)) (pg_name (i := 4) scRun.nd rfl (Or.inl rfl)) (pss_one (ps_set (i := 3) scRun.nd rfl (.inl rfl) (pe_call GPress (hr.mono (by omega)) (by rfl) gPress FPress.kp bPress .nil pass0 (pa_cons (pv 0) (pa_cons (pv 3) (pa_cons (pv 4) pa_nil)))))))
      (pss_one (ps_ret (pv 3))))), ?_⟩
    refine gs_drop (gv_ChkR (gva_cons (gv_var (i := 0) rfl d1) (gva_cons (gv_var (i := 2) rfl d3) gva_nil)) ⟨few, hl, hr'⟩) fun H1 s1 => ?_
    refine ⟨.ref a, rfl, ?_⟩
    refine gs_each (K := K) (δ := PyData.int) (as := row) (gvi_tup (gv_var (i := 2) rfl (d3.sm s1))) (fun Ha k σ Hb => Same Ha Hb ∧ ∃ (t : Addr) (x4 : Option V), Hb t = some (.tup ((runM pan st (row.take k)).map V.int)) ∧ σ = [some v1, some (.ref a), some v3, some (.ref t), x4])
      (fun Ha sa => ⟨Same.refl _, a, none, by rw [List.take_zero]; exact sa _ _ (s1 _ _ ea), rfl⟩) (fun Ha k σ Hb sa hP => hP.1) (fun Ha k x v σ Hb Hc sa hx hP sc' dv => ?_) (fun Ha σ Hb sa hP => ?_)
    · obtain ⟨sb, t, x4, et, rfl⟩ := hP
      cases dv
      have hrg := hr' x (List.mem_of_getElem? hx)
      refine ⟨v1, rfl, .ref t, rfl, .int x, rfl, pan, runM pan st (row.take k), x, .cons ((((d1.sm s1).sm sa).sm (sb.trans sc'))) (.cons (dp_ints (.inl (.inl (sc' _ _ et)))) (.cons (.int _) .nil)), runM_asc hst, few, hrg.1, hrg.2, fun Hd u sd eu => ⟨sb.trans (sc'.trans sd), u, _, by rw [runM_take hx]; exact eu, rfl⟩⟩
    · obtain ⟨sb, t, x4, et, rfl⟩ := hP
      rw [List.take_length] at et
      exact ⟨.ref t, rfl, q Hb t (s1.trans (sa.trans sb)) et⟩
end
end K09
namespace K09
open PySem PySem.Spec PyProof.Rows L2 Pr
def nAny : List Str := ["panel", "button", "others", "other"]
theorem scAny : FnScope nAny ["panel", "button", "others"] (defScope sAny) := ⟨rfl, rfl, rfl, by decide +kernel, rfl, by decide +kernel, by decide +kernel⟩
def nHeld : List Str := ["panel", "state", "held", "left", "button"]
theorem scHeld : FnScope nHeld ["panel", "state"] (defScope sHeld) := ⟨rfl, rfl, rfl, by decide +kernel, rfl, by decide +kernel, by decide +kernel⟩
section
variable {P : Program} {w : World} {K : PySem.W.Frag} {mg : Str → Option Value} {base : Heap}
def spAny (K : PySem.W.Frag) : Sp := fun vs H Q _ => ∃ (p o : Addr) (pan : List (List Int)) (b : Int) (os : List Int), vs = [.ref p, .int b, .ref o] ∧ PanT K H p pan ∧ Good pan ∧ 0 ≤ b ∧ b < (pan.length : Int) ∧ SqT K H o (os.map V.int) ∧
  ∀ H', Same H H' → Q (.bl (relB pan os b)) H'
theorem ok_any {f : Addr} {fd : FuncData} {k : Nat} (F : Fun K "releases_any" "releases_any" sAny f fd) (my : mg "any" = none) : FnOk P w K mg base CX0 (k + 1) f fd ["panel", "button", "others"] (spAny K) := by
  refine F.ok scAny (fun vs H Q E h => ?_) (fun cdv A outer s H vs Q E hr h => ?_)
  · obtain ⟨p, o, pan, b, os, rfl, _⟩ := h
    rfl
  · obtain ⟨p, o, pan, b, os, rfl, hp, hg, b0, b1, ho, q⟩ := h
    refine ⟨_, pss_one (ps_ret (pe_callB (cr_any rfl) (by rfl) my (by decide +kernel) (pa_cons
      (pe_lc (own := [("other", 3)]) (g := gName 3) (tt := tYes) rfl scAny.nd (pi_tup (pe_ix ix_tup (pv 0) (pv 1) (fun _ _ => rfl)))
        (blkOk_by (own := [("other", 3)]) (N := nAny) (sc := defScope sAny) (by decide +kernel)) (fun _ _ _ _ _ => pg_name (i := 3) scAny.nd rfl (Or.inl rfl)) (fun _ _ _ _ _ => pts_nil)
        (fun _ _ _ _ _ => pe_cmpR (show OpR _ _ (rIn K false) from op_in_seq) (pv 3) (pv 2) (by rfl))) pa_nil))), ?_⟩
    obtain ⟨qs, q', hq, ha, hr', _⟩ := panT_at hp b0 b1
    have hll : (pan.getD b.toNat []).length ≤ 10 := by
      have hbn : b.toNat < pan.length := by omega
      have hm : pan.getD b.toNat [] ∈ pan := by
        rw [List.getD_eq_getElem?_getD, List.getElem?_eq_getElem hbn]
        exact List.getElem_mem hbn
      have few := hg.few
      refine pw_length (n := 10) (lo := 0) (hg.up _ hm) fun x hx => ?_
      have := hg.rng _ hm x hx
      omega
    unfold relB at q
    generalize pan.getD b.toNat [] = l at hr' hll q
    refine ⟨.ref p, rfl, .int b, rfl, p, _, _, .ref q', rfl, rfl, hq, ha, q', rfl, ⟨_, hr'⟩, fun D nD => ?_⟩
    refine lc_tup (xs := l.map V.int) (fun i H3 => Same H H3 ∧ H3 D = some (.lst (((l.take i).map fun c => decide (c ∈ os)).map V.bl))) ⟨same_new nD, upd_same⟩ (fun i H3 _ hP => same_sqT hP.1 hr') (fun i x H3 hx hP => ?_) (fun H3 hP => ?_)
    · obtain ⟨s3, eD⟩ := hP
      obtain ⟨z, hz, rfl⟩ := int_get hx
      refine ⟨rfl, tyes (iteT ⟨.int z, rfl, .ref o, rfl, o, _, rfl, .inr (same_sqT s3 ho), rfl, flat_ints _, _, eD, ?_, ?_, ?_⟩)⟩
      · rw [List.length_map, List.length_map, List.length_take]; exact small1000 (by omega)
      · intro b' ob e
        rw [upd_ne (ne_of_none e nD)]
        exact s3 _ _ e
      · rw [upd_same, if_neg Bool.false_ne_true, inV_ints, List.take_add_one, hz, List.map_append, List.map_append]; rfl
    · obtain ⟨s3, eD⟩ := hP
      rw [List.length_map, List.take_length] at eD
      refine ⟨D, _, rfl, .inl (.inl eD), ?_⟩
      rw [List.any_map]
      exact q _ s3
def spHeld (K : PySem.W.Frag) : Sp := fun vs H Q _ => ∃ (p t : Addr) (pan : List (List Int)) (st : List Int), vs = [.ref p, .ref t] ∧ PanT K H p pan ∧ Good pan ∧ SqT K H t (st.map V.int) ∧ Asc pan.length st ∧
  ∀ (H' : Hp) (u : Addr) (hs : List Int), Same H H' → SqT K H' u (hs.map V.int) → IsHeld pan st hs → Q (.ref u) H'
theorem filt_take {f : Int → Bool} {l : List Int} {i : Nat} {z : Int} (hz : l[i]? = some z) : (l.take (i + 1)).filter f = (l.take i).filter f ++ (if f z = true then [z] else []) := by
  rw [List.take_add_one, hz, List.filter_append]
  congr 1
  by_cases e : f z = true
  · rw [if_pos e]; exact List.filter_cons_of_pos e
  · rw [if_neg e]; exact List.filter_cons_of_neg e
theorem ok_held {f fA : Addr} {fd fdA : FuncData} {k : Nat} (F : Fun K "held_buttons" "held_buttons" sHeld f fd) (FA : Fun K "releases_any" "releases_any" sAny fA fdA) (bA : Binds K fdA ["panel", "button", "others"] []) (gA : mg "releases_any" = some (.ref fA))
    (ml : mg "len" = none) (mt : mg "tuple" = none) (my : mg "any" = none) : FnOk P w K mg base CX0 (k + 2) f fd ["panel", "state"] (spHeld K) := by
  have GA : FnOk P w K mg base CX0 (k + 1) fA fdA ["panel", "button", "others"] (spAny K) := ok_any FA my
  refine F.ok scHeld (fun vs H Q E h => ?_) (fun cdv A outer s H vs Q E hr h => ?_)
  · obtain ⟨p, t, pan, st, rfl, _⟩ := h
    rfl
  · obtain ⟨p, t, pan, st, rfl, hp, hg, ht, hst, q⟩ := h
    refine ⟨_, pss_cons (ps_set (i := 2) scHeld.nd rfl (.inr rfl) (pv 1))
      (pss_cons (ps_setLc (i := 3) (own := [("button", 4)]) (g := gName 4) rfl scHeld.nd rfl rfl (sw_true rfl rfl rfl (by decide +kernel)) (pi_tup (pv 2))
        (blkOk_by (own := [("button", 4)]) (N := nHeld) (sc := defScope sHeld) (by decide +kernel)) (fun _ _ _ _ _ => pg_name (i := 4) scHeld.nd rfl (Or.inl rfl))
        (fun _ _ _ _ _ => pts_one (pt_val (pe_call GA hr (by rfl) gA FA.kp bA .nil pass0 (pa_cons (pv 0) (pa_cons (pv 4) (pa_cons (pv 2) pa_nil)))))) (fun _ _ _ _ _ => pv 4))
      (pss_cons (ps_while PassesOwn.never (pt_cmpR op_lt (pe_callB call_len_seq (by rfl) ml PySem.boot_len (pa_cons (pv 3) pa_nil)) (pe_callB call_len_seq (by rfl) ml PySem.boot_len (pa_cons (pv 2) pa_nil)) (nomark _))
        (pss_cons (ps_set (i := 2) scHeld.nd rfl (.inr rfl) (pe_callTy call_tupF (by rfl) mt (by decide +kernel) (pa_cons (pv 3) pa_nil)))
        (pss_one (ps_setLc (i := 3) (own := [("button", 4)]) (g := gName 4) rfl scHeld.nd rfl rfl (sw_true rfl rfl rfl (by decide +kernel)) (pi_tup (pv 2))
          (blkOk_by (own := [("button", 4)]) (N := nHeld) (sc := defScope sHeld) (by decide +kernel)) (fun _ _ _ _ _ => pg_name (i := 4) scHeld.nd rfl (Or.inl rfl))
          (fun _ _ _ _ _ => pts_one (pt_val (pe_call GA hr (by rfl) gA FA.kp bA .nil pass0 (pa_cons (pv 0) (pa_cons (pv 4) (pa_cons (pv 2) pa_nil)))))) (fun _ _ _ _ _ => pv 4)))))
      (pss_one (ps_ret (pv 2))))), ?_⟩
    have few := hg.few
    refine ⟨.ref t, rfl, ?_⟩
    refine ⟨.ref t, rfl, t, rfl, ⟨_, ht⟩, fun D nD => ?_⟩
    have slen := hst.len
    refine lc_tup (xs := st.map V.int) (fun i H3 => Same H H3 ∧ H3 D = some (.lst (((st.take i).filter (relB pan st)).map V.int))) ⟨same_new nD, upd_same⟩ (fun i H3 _ hP => same_sqT hP.1 ht) (fun i x H3 hx hP => ?_) (fun H3 hP => ?_)
    · obtain ⟨s3, eD⟩ := hP
      obtain ⟨z, hz, rfl⟩ := int_get hx
      have hzr := hst.rng z (List.mem_of_getElem? hz)
      have step := filt_take (f := relB pan st) hz
      have fl := List.length_filter_le (relB pan st) (st.take i)
      rw [List.length_take] at fl
      refine ⟨rfl, .ref p, rfl, .int z, rfl, .ref t, rfl, p, t, pan, z, st, rfl, hp.same s3, hg, hzr.1, hzr.2, same_sqT s3 ht, fun H4 s4 => ⟨_, rfl, ite2 (fun e => ?_) (fun e => ?_)⟩⟩
      · refine ⟨.int z, rfl, _, s4 _ _ eD, by rw [List.length_map]; exact small1000 (by omega), fun b o e' => ?_, ?_⟩
        · rw [upd_ne (ne_of_none e' nD)]
          exact s4 _ _ (s3 _ _ e')
        · rw [upd_same, step, if_pos e, List.map_append]; rfl
      · refine ⟨s3.trans s4, ?_⟩
        rw [step, if_neg e, List.append_nil]; exact s4 _ _ eD
    · obtain ⟨s3, eD⟩ := hP
      rw [List.length_map, List.take_length] at eD
      refine ⟨fun mm σ H4 => ∃ (hs : List Int) (u L : Addr) (x4 : Option V), mm = hs.length ∧ Same H H4 ∧ SqT K H4 u (hs.map V.int) ∧ H4 L = some (.lst ((hs.filter (relB pan hs)).map V.int)) ∧ Hold pan st hs ∧ σ = [some (.ref p), some (.ref t), some (.ref u), some (.ref L), x4],
        ⟨_, st, t, D, _, rfl, s3, same_sqT s3 ht, eD, ⟨hst.up, fun x h => h, fun C _ h x hx => h x hx⟩, rfl⟩, ?_⟩
      rintro mm σ H4 ⟨hs, u, L, x4, rfl, s4, hu, eL, hh, rfl⟩
      have hsr : ∀ x ∈ hs, 0 ≤ x ∧ x < (pan.length : Int) := fun x hx => hst.rng x (hh.sub x hx)
      have hsl : hs.length ≤ 10 := pw_length (n := 10) (lo := 0) hh.up fun x hx => by have := hsr x hx; omega
      refine ⟨.ref L, rfl, L, _, rfl, .inl (.inl (.inl eL)), .ref u, rfl, u, _, rfl, .inr hu, _, _, rfl, rfl, _, rfl, ite2 (fun e => ?_) (fun e => ?_)⟩
      · have e' : (hs.filter (relB pan hs)).length < hs.length := by
          have := of_decide_eq_true e
          rw [List.length_map, List.length_map] at this; omega
        have hstep := hh.step
        generalize hs.filter (relB pan hs) = gs at e' eL hstep
        refine ⟨_, fun σ' H' h => h, .ref L, rfl, L, _, rfl, .inl (.inl eL), fun u' o' nu' ho' => ?_⟩
        have su : Same H4 (upd H4 u' (.frz o' (.tup (gs.map V.int)))) := same_new nu'
        have hu' : SqT K (upd H4 u' (.frz o' (.tup (gs.map V.int)))) u' (gs.map V.int) := .inl (.inr ⟨o', upd_same⟩)
        refine gen_name (fun H5 => Same H4 H5 ∧ SqT K H5 u' (gs.map V.int)) ⟨su, hu'⟩ fun H5 ⟨s5, hu5⟩ => ?_
        have s05 := s4.trans s5
        refine ⟨.ref u', rfl, u', rfl, ⟨_, hu5⟩, fun D2 nD2 => ?_⟩
        refine lc_tup (xs := gs.map V.int) (fun i H6 => Same H5 H6 ∧ H6 D2 = some (.lst (((gs.take i).filter (relB pan gs)).map V.int))) ⟨same_new nD2, upd_same⟩ (fun i H6 _ hP => same_sqT hP.1 hu5) (fun i x H6 hx hP => ?_) (fun H6 hP => ?_)
        · obtain ⟨s6, eD2⟩ := hP
          obtain ⟨z, hz, rfl⟩ := int_get hx
          have hzr := hst.rng z (hstep.sub z (List.mem_of_getElem? hz))
          have step := filt_take (f := relB pan gs) hz
          have fl := List.length_filter_le (relB pan gs) (gs.take i)
          rw [List.length_take] at fl
          refine ⟨rfl, .ref p, rfl, .int z, rfl, .ref u', rfl, p, u', pan, z, gs, rfl, hp.same (s05.trans s6), hg, hzr.1, hzr.2, same_sqT s6 hu5, fun H7 s7 => ⟨_, rfl, ite2 (fun e => ?_) (fun e => ?_)⟩⟩
          · refine ⟨.int z, rfl, _, s7 _ _ eD2, by rw [List.length_map]; exact small1000 (by omega), fun b o e' => ?_, ?_⟩
            · rw [upd_ne (ne_of_none e' nD2)]
              exact s7 _ _ (s6 _ _ e')
            · rw [upd_same, step, if_pos e, List.map_append]; rfl
          · refine ⟨s6.trans s7, ?_⟩
            rw [step, if_neg e, List.append_nil]; exact s7 _ _ eD2
        · obtain ⟨s6, eD2⟩ := hP
          rw [List.length_map, List.take_length] at eD2
          exact ⟨gs.length, e', gs, u', D2, _, rfl, s05.trans s6, same_sqT s6 hu5, eD2, hstep, rfl⟩
      · have e' : ¬ (hs.filter (relB pan hs)).length < hs.length := fun z => e (decide_eq_true (by rw [List.length_map, List.length_map]; omega))
        exact ⟨.ref u, rfl, q H4 u hs s4 hu (hh.done e')⟩
end
end K09
namespace K09
open PySem PySem.Spec PyProof.Rows L2 Pr
section
variable {P : Program} {w : World} {K : PySem.W.Frag} {mg : Str → Option Value} {base : Heap}
theorem gv_Any {σ : L2.St} {H : Hp} {E : XK} {i j l : Nat} {p u : Addr} {pan : List (List Int)} {hs : List Int} {b : Int} (hi : σ[i]? = some (some (.ref p))) (hj : σ[j]? = some (some (.int b))) (hl : σ[l]? = some (some (.ref u))) (hp : PanT K H p pan) (hg : Good pan) (hb : InP pan b) (hu : SqT K H u (hs.map V.int)) :
    Gv K (tCall (spAny K) [] E (tCons (tVar i) (tCons (tVar j) (tCons (tVar l) tNil)))) σ H (.bool (relB pan hs b)) := fun H1 s Q q => ⟨.ref p, hi, .int b, hj, .ref u, hl, p, u, pan, b, hs, rfl, hp.same s, hg, hb.1, hb.2, same_sqT s hu, fun H' s' => q _ H' s' (.bl _)⟩
end
theorem rel_free {pan : List (List Int)} {hs R : List Int} : R.filter (fun b => !relB pan hs b) = freeOfM pan hs R := by
  unfold freeOfM
  refine List.filter_congr fun b _ => ?_
  unfold relB relM
  simp [List.any_map, Function.comp_def]
theorem out_data {pan : List (List Int)} {goal : List Int} : PyData.list (((List.range pan.length).filter fun z : Nat => !decide ((z : Int) ∈ goal)).map fun z : Nat => PyData.int (z : Int)) = .list (((intL pan.length).filter fun x => !decide (x ∈ goal)).map PyData.int) := by
  unfold intL
  rw [List.filter_map, List.map_map]; rfl
theorem intL_len (n : Nat) : (intL n).length = n := by unfold intL; rw [List.length_map, List.length_range]
def nGath : List Str := ["panel", "goal", "held", "outside", "gathered", "pressed", "released", "button", "other"]
theorem scGath : FnScope nGath ["panel", "goal"] (defScope sGath) := ⟨rfl, rfl, rfl, by decide +kernel, rfl, by decide +kernel, by decide +kernel⟩
section
variable {P : Program} {w : World} {K : PySem.W.Frag} {mg : Str → Option Value} {base : Heap}
def spGath (K : PySem.W.Frag) : Sp := fun vs H Q _ => ∃ (p t : Addr) (pan : List (List Int)) (goal : List Int), vs = [.ref p, .ref t] ∧ PanT K H p pan ∧ Good pan ∧ SqT K H t (goal.map V.int) ∧ Asc pan.length goal ∧
  ∀ (H' : Hp) (v : V) (hs G : List Int), Same H H' → Dp K H' v (dInts G) → IsHeld pan goal hs → IsGath pan goal hs G → Q v H'
theorem ok_Gath {fAny : Addr} {fdAny : FuncData} {fHeld : Addr} {fdHeld : FuncData} {f : Addr} {fd : FuncData} {k : Nat} (F : Fun K "gathered_buttons" "gathered_buttons" sGath f fd)
    (FAny : Fun K "releases_any" "releases_any" sAny fAny fdAny) (bAny : Binds K fdAny ["panel", "button", "others"] []) (gAny : mg "releases_any" = some (.ref fAny))
    (FHeld : Fun K "held_buttons" "held_buttons" sHeld fHeld fdHeld) (bHeld : Binds K fdHeld ["panel", "state"] []) (gHeld : mg "held_buttons" = some (.ref fHeld))
    (m_any : mg "any" = none) (m_len : mg "len" = none) (m_range : mg "range" = none) (m_sorted : mg "sorted" = none) (m_tuple : mg "tuple" = none) : FnOk P w K mg base CX0 (k + 3) f fd ["panel", "goal"] (spGath K) := by
  have GHeld : FnOk P w K mg base CX0 (k + 2) fHeld fdHeld ["panel", "state"] (spHeld K) := ok_held FHeld FAny bAny gAny m_len m_tuple m_any
  have GAny : FnOk P w K mg base CX0 (k + 1) fAny fdAny ["panel", "button", "others"] (spAny K) := ok_any FAny m_any
  refine F.ok scGath (fun vs H Q E h => ?_) (fun cdv A outer s H vs Q E hr h => ?_)
  · obtain ⟨p, t, pan, goal, rfl, _⟩ := h
    rfl
  · obtain ⟨p, t, pan, goal, rfl, hp, hg, ht, hgo, q⟩ := h
    refine ⟨_, pss_cons (ps_set (i := 2) scGath.nd rfl (.inr rfl) (pe_call GHeld (hr.mono (by omega)) (by rfl) gHeld FHeld.kp bHeld .nil pass0 (pa_cons (pv 0) (pa_cons (pv 1) pa_nil))))
      (pss_cons (ps_setLc (i := 3) (own := [("button", 7)]) (g := gName 7) rfl scGath.nd rfl rfl (sw_true rfl rfl rfl (by decide +kernel)) (pi_range1 (by rfl) m_range (pa_cons (pe_callB (show CallR _ _ (rLenG K) from cr_lenG) (by rfl) m_len PySem.boot_len (pa_cons (pv 0) pa_nil)) pa_nil)) (blkOk_by (own := [("button", 7)]) (N := nGath) (sc := defScope sGath) (by decide +kernel)) (fun _ _ _ _ _ => pg_name (i := 7) scGath.nd rfl (Or.inl rfl)) (fun _ _ _ _ _ => pts_one (pt_cmpR (show OpR _ _ (rIn K true) from op_notIn_seq) (pv 7) (pv 1) (by rfl))) (fun _ _ _ _ _ => pv 7))
      (pss_cons (ps_set (i := 4) scGath.nd rfl (.inr rfl) (pe_lst pa_nil))
      (pss_cons (ps_set (i := 5) scGath.nd rfl (.inr rfl) (pe_lc (own := [("button", 7)]) (g := gName 7) rfl scGath.nd (show PI _ _ _ (iTup K _) from pi_tup (pv 1)) (blkOk_by (own := [("button", 7)]) (N := nGath) (sc := defScope sGath) (by decide +kernel)) (fun _ _ _ _ _ => pg_name (i := 7) scGath.nd rfl (Or.inl rfl)) (fun _ _ _ _ _ => pts_one (pt_cmpR (show OpR _ _ (rIn K true) from op_notIn_seq) (pv 7) (pv 2) (by rfl))) (fun _ _ _ _ _ => pv 7)))
      (pss_cons (ps_while PassesOwn.never (pt_truth (pv 5) (fun _ => rfl)) (pss_cons (ps_setLc (i := 6) (own := [("button", 7)]) (g := gName 7) rfl scGath.nd rfl rfl (sw_true rfl rfl rfl (by decide +kernel)) (show PI _ _ _ (iList K _) from pi_list (pv 3)) (blkOk_by (own := [("button", 7)]) (N := nGath) (sc := defScope sGath) (by decide +kernel)) (fun _ _ _ _ _ => pg_name (i := 7) scGath.nd rfl (Or.inr rfl)) (fun _ _ _ _ _ => pts_one (PW.pt (pw_and (pt_cmpR (show OpR _ _ (rIn K true) from op_notIn_seq) (pv 7) (pv 4) (by rfl)) (pw_and1 (pt_val (pe_callB (show CallR _ _ (rAny K) from cr_any (by rfl)) (by rfl) m_any (by decide +kernel) (pa_cons (pe_lc (own := [("other", 8)]) (g := gName 8) (tt := tYes) rfl scGath.nd (show PI _ _ _ (iList K _) from pi_list (pv 5)) (blkOk_by (own := [("other", 8)]) (N := nGath) (sc := { kind := .function, names := [(".0", .local), ("button", .cell), ("any", .globalImplicit), ("gathered", .cell), ("panel", .cell), ("pressed", .cell)], isGenerator := false, isCoroutine := false }) (by decide +kernel)) (fun _ _ _ _ _ => pg_name (i := 8) scGath.nd rfl (Or.inl rfl)) (fun _ _ _ _ _ => pts_nil) (fun _ _ _ _ _ => pe_cmpR (show OpR _ _ (rIn K false) from op_in_seq) (pv 7) (pe_ix (show IxR _ (rIxT K) from ix_tup) (pv 0) (pv 8) (fun _ _ => rfl)) (by rfl))) pa_nil))))))) (fun _ _ _ _ _ => pv 7))
      (pss_cons (ps_set (i := 4) scGath.nd rfl (.inr rfl) (pe_op op_cat (pv 4) (pv 6)))
      (pss_one (ps_set (i := 5) scGath.nd rfl (.inr rfl) (pe_lc (own := [("button", 7)]) (g := gName 7) rfl scGath.nd (show PI _ _ _ (iList K _) from pi_list (pv 6)) (blkOk_by (own := [("button", 7)]) (N := nGath) (sc := defScope sGath) (by decide +kernel)) (fun _ _ _ _ _ => pg_name (i := 7) scGath.nd rfl (Or.inl rfl)) (fun _ _ _ _ _ => pts_one (pt_not (pt_val (pe_call GAny (hr.mono (by omega)) (by rfl) gAny FAny.kp bAny .nil pass0 (pa_cons (pv 0) (pa_cons (pv 7) (pa_cons (pv 2) pa_nil))))))) (fun _ _ _ _ _ => pv 7)))))))
      (pss_one (ps_ret (pe_callTy (show CallR _ _ (rTupG K) from cr_tupG) (by rfl) m_tuple (by decide +kernel) (pa_cons (pe_callB (show CallR _ _ (rSorted K) from cr_sorted) (by rfl) m_sorted (by decide +kernel) (pa_cons (pv 4) pa_nil)) pa_nil)))))))), ?_⟩
    have few := hg.few
    have gl := hgo.len
    have hlp : (pan.map dInts).length = pan.length := List.length_map _
    refine ⟨.ref p, rfl, .ref t, rfl, p, t, pan, goal, rfl, hp, hg, ht, hgo, fun H1 u hs s1 hu hh => ?_⟩
    have hp1 := hp.same s1
    have dp1 : Dp K H1 (.ref p) (dPan pan) := hp1.dp
    have dg1 : Dp K H1 (.ref t) (dInts goal) := dp_ints (same_sqT s1 ht)
    have dh1 : Dp K H1 (.ref u) (dInts hs) := dp_ints hu
    refine gs_set1 (K := K) ((gv_lc (δ := fun z : Nat => PyData.int (z : Int)) (as := List.range pan.length) (p := fun z : Nat => !decide ((z : Int) ∈ goal)) (f := fun z : Nat => PyData.int (z : Int)) (gvi_range ((gv_lenT (gv_var rfl dp1)).to (by rw [hlp])) (by omega)) (fun z vz Hz hz sz dz => ⟨gvt_test (gv_inT (neg := true) (gv_var rfl dz) (gv_var rfl (dg1.sm sz))), fun _ => gv_var rfl dz⟩) (fun _ _ => rfl) (by rw [List.length_range]; omega)).to out_data) fun vo H2 s2 do2 => ?_
    refine gs_setN (K := K) (gn_lst gva_nil) fun ag vg H3 s3 ng eg dg => ?_
    cases dg
    refine gs_setN (K := K) (gn_lc (δ := PyData.int) (as := goal) (p := fun b => !decide (b ∈ hs)) (f := PyData.int) (gvi_tup (gv_var rfl ((dg1.sm s2).sm s3))) (fun z vz Hz hz sz dz => ⟨gvt_test (gv_inT (neg := true) (gv_var rfl dz) (gv_var rfl (((dh1.sm s2).sm s3).sm sz))), fun _ => gv_var rfl dz⟩) (fun _ _ => rfl) (by omega)) fun ap vp H4 s4 np ep dvp => ?_
    rw [dpAll_intsV dvp] at ep
    have s14 := s2.trans (s3.trans s4)
    have eg4 := s4 _ _ eg
    have do4 := (do2.sm s3).sm s4
    refine ⟨fun m σ H' => ∃ (G Pd : List Int) (ag ap : Addr) (x6 x7 x8 : Option V), m = 2 * (pan.length - G.length) + (if Pd = [] then 0 else 1) ∧ σ = [some (.ref p), some (.ref t), some (.ref u), some vo, some (.ref ag), some (.ref ap), x6, x7, x8] ∧ Same H4 H' ∧ H' ag = some (.lst (G.map V.int)) ∧ H' ap = some (.lst (Pd.map V.int)) ∧ GInv pan goal hs G Pd ∧ Pd.length ≤ 10,
      ⟨_, [], goal.filter (fun b => !decide (b ∈ hs)), ag, ap, none, none, none, rfl, rfl, Same.refl _, eg4, ep, ginv_init hgo.rng, Nat.le_trans (List.length_filter_le _ _) (by omega)⟩, ?_⟩
    rintro m σ H5 ⟨G, Pd, ag, ap, x6, x7, x8, rfl, rfl, s5, eG, eP, inv, pl10⟩
    have glen := ginv_len inv
    have dG : Dp K H5 (.ref ag) (.list (G.map PyData.int)) := .lst (.inl (.inl eG)) (dpAll_ints G)
    by_cases hemp : Pd = []
    · subst hemp
      refine ⟨.ref ap, rfl, false, .inl ⟨_, .inl (.inl eP), rfl⟩, iteF ?_⟩
      refine gs_ret (K := K) (gv_tupL (gv_sortL (l := G) (gv_var rfl dG) (by omega))) fun v H6 s6 dv => q H6 v hs (srt G) (s1.trans (s14.trans (s5.trans s6))) dv hh (ginv_end inv fun x => (srt_perm G).mem_iff)
    · refine ⟨.ref ap, rfl, true, .inl ⟨_, .inl (.inl eP), by cases Pd with | nil => exact absurd rfl hemp | cons _ _ => rfl⟩, iteT ?_⟩
      refine ⟨fun σ' H' => ∃ m', m' < 2 * (pan.length - G.length) + (if Pd = [] then 0 else 1) ∧ ∃ (G Pd : List Int) (ag ap : Addr) (x6 x7 x8 : Option V), m' = 2 * (pan.length - G.length) + (if Pd = [] then 0 else 1) ∧ σ' = [some (.ref p), some (.ref t), some (.ref u), some vo, some (.ref ag), some (.ref ap), x6, x7, x8] ∧ Same H4 H' ∧ H' ag = some (.lst (G.map V.int)) ∧ H' ap = some (.lst (Pd.map V.int)) ∧ GInv pan goal hs G Pd ∧ Pd.length ≤ 10, fun σ' H' h => h, ?_⟩
      have dP : Dp K H5 (.ref ap) (.list (Pd.map PyData.int)) := .lst (.inl (.inl eP)) (dpAll_ints Pd)
      have s15 := s14.trans s5
      have dp5 := dp1.sm s15
      have pdl : ∀ o ∈ Pd, InP pan o := fun o ho => by
        rcases inv.pd o ho with ⟨h, _⟩ | ⟨h, _⟩
        · exact hgo.rng o h
        · exact inv.rng o h
      have plen : Pd.length ≤ 100000 := by omega
      refine gs_setN (K := K) (gn_lc (δ := PyData.int) (as := (intL pan.length).filter fun x => !decide (x ∈ goal)) (p := fun x => (!decide (x ∈ G)) && (Pd.map fun o => decide (x ∈ relM pan o)).any id) (f := PyData.int) (gvi_list (gv_var rfl (do4.sm s5))) (fun x vx Hx hx sx dx => ⟨gvt_and (gvt_test (gv_inL (neg := true) (gv_var rfl dx) (gv_var rfl (dG.sm sx)))) (fun Hy sy _ => gvt_b (gv_any (l := Pd.map fun o => decide (x ∈ relM pan o)) ((gv_lc (δ := PyData.int) (as := Pd) (p := fun _ => true) (f := fun o => PyData.bool (decide (x ∈ relM pan o))) (gvi_list (gv_var rfl ((dP.sm sx).sm sy)))
        (fun o vo Ho ho so do_ => ⟨gvt_yes, fun _ => gv_inT (neg := false) (gv_var rfl ((dx.sm sy).sm so)) (gv_pan (gv_var rfl (((dp5.sm sx).sm sy).sm so)) (gv_var rfl do_) (pdl o ho).1 (pdl o ho).2)⟩) (fun _ _ => rfl) plen).to (by rw [List.filter_eq_self.mpr (fun _ _ => rfl), List.map_map]; rfl)))), fun _ => gv_var rfl dx⟩) (fun _ _ => rfl) (by have := List.length_filter_le (fun x => !decide (x ∈ goal)) (intL pan.length); rw [intL_len] at this; omega)) fun ar vr H6 s6 nr er dr => ?_
      replace dr : DpAll K H6 vr ((relOut pan goal G Pd).map PyData.int) := dr
      have er' := er
      rw [dpAll_intsV dr] at er'
      have inv2 := ginv_step hg.rng inv
      have glen2 := ginv_len inv2
      rw [List.length_append] at glen2
      refine gs_setN (K := K) (gn_cat (gl_var rfl (s6 _ _ eG) (dpAll_ints G)) (gl_var rfl er dr) (by rw [List.length_map, List.length_map]; omega)) fun ag2 vg2 H7 s7 ng2 eg2 dg2 => ?_
      rw [← List.map_append] at dg2
      rw [dpAll_intsV dg2] at eg2
      have s57 := s6.trans s7
      have dR : Dp K H7 (.ref ar) (.list ((relOut pan goal G Pd).map PyData.int)) := .lst (.inl (.inl (s7 _ _ er'))) (dpAll_ints _)
      refine (gn_lc (K := K) (δ := PyData.int) (as := relOut pan goal G Pd) (p := fun b => !relB pan hs b) (f := PyData.int) (gvi_list (gv_var rfl dR)) (fun x vx Hx hx sx dx => ⟨gvt_not (gvt_b (K := K) ?_), fun _ => gv_var rfl dx⟩) (fun _ _ => rfl) (by omega)).at fun ap2 vp2 H8 s8 np2 ep2 dp2 => ?_
      · cases dx
        exact gv_Any rfl rfl rfl (hp1.same (s15.trans (s57.trans sx))) hg (mem_relOut.mp hx).1 (same_sqT (s15.trans (s57.trans sx)) hu)
      · rw [rel_free] at dp2
        rw [dpAll_intsV dp2] at ep2
        refine ⟨_, ?_, G ++ relOut pan goal G Pd, freeOfM pan hs (relOut pan goal G Pd), ag2, ap2, _, _, _, rfl, rfl, s5.trans (s57.trans s8), s8 _ _ eg2, ep2, inv2, ?_⟩
        rotate_left
        · exact Nat.le_trans (List.length_filter_le _ _) (by omega)
        rw [List.length_append, if_neg hemp]
        by_cases e : relOut pan goal G Pd = []
        · have : freeOfM pan hs (relOut pan goal G Pd) = [] := by rw [e]; rfl
          rw [if_pos this, e]
          simp only [List.length_nil]; omega
        · have : 0 < (relOut pan goal G Pd).length := List.length_pos_iff.mpr e
          split <;> omega
end
end K09
namespace K09
open PySem PySem.Spec PyProof.Rows L2 Pr
@[irreducible] def canB (pan : List (List Int)) (st goal : List Int) : Bool := decide (goal ∈ reachM pan st)
theorem canB_iff {pan : List (List Int)} {st goal : List Int} : canB pan st goal = true ↔ goal ∈ reachM pan st := by unfold canB; exact decide_eq_true_iff
theorem can_iff {goal hs G st : List Int} : ((hs.map fun x => decide (x ∈ st)).all id && (st.map fun x => decide (x ∈ goal) || decide (x ∈ G)).all id) = true ↔ CanG goal hs G st := by
  unfold CanG
  simp only [Bool.and_eq_true, List.all_map, List.all_eq_true, Function.comp, id_eq, decide_eq_true_eq, Bool.or_eq_true]
def nCan : List Str := ["panel", "start", "goal", "held", "gathered", "button"]
theorem scCan : FnScope nCan ["panel", "start", "goal"] (defScope sCan) := ⟨rfl, rfl, rfl, by decide +kernel, rfl, by decide +kernel, by decide +kernel⟩
section
variable {P : Program} {w : World} {K : PySem.W.Frag} {mg : Str → Option Value} {base : Heap}
def spCan (K : PySem.W.Frag) : Sp := fun vs H Q _ => ∃ (p a t : Addr) (pan : List (List Int)) (st goal : List Int), vs = [.ref p, .ref a, .ref t] ∧ PanT K H p pan ∧ Good pan ∧ SqT K H a (st.map V.int) ∧ Asc pan.length st ∧ SqT K H t (goal.map V.int) ∧ Asc pan.length goal ∧
  ∀ H', Same H H' → Q (.bl (canB pan st goal)) H'
theorem ok_Can {fAny : Addr} {fdAny : FuncData} {fHeld : Addr} {fdHeld : FuncData} {fGath : Addr} {fdGath : FuncData} {f : Addr} {fd : FuncData} {k : Nat} (F : Fun K "can_reach" "can_reach" sCan f fd)
    (FAny : Fun K "releases_any" "releases_any" sAny fAny fdAny) (bAny : Binds K fdAny ["panel", "button", "others"] []) (gAny : mg "releases_any" = some (.ref fAny))
    (FHeld : Fun K "held_buttons" "held_buttons" sHeld fHeld fdHeld) (bHeld : Binds K fdHeld ["panel", "state"] []) (gHeld : mg "held_buttons" = some (.ref fHeld))
    (FGath : Fun K "gathered_buttons" "gathered_buttons" sGath fGath fdGath) (bGath : Binds K fdGath ["panel", "goal"] []) (gGath : mg "gathered_buttons" = some (.ref fGath))
    (m_all : mg "all" = none) (m_any : mg "any" = none) (m_len : mg "len" = none) (m_range : mg "range" = none) (m_sorted : mg "sorted" = none) (m_tuple : mg "tuple" = none) : FnOk P w K mg base CX0 (k + 4) f fd ["panel", "start", "goal"] (spCan K) := by
  have GHeld : FnOk P w K mg base CX0 (k + 2) fHeld fdHeld ["panel", "state"] (spHeld K) := ok_held FHeld FAny bAny gAny m_len m_tuple m_any
  have GGath : FnOk P w K mg base CX0 (k + 3) fGath fdGath ["panel", "goal"] (spGath K) := ok_Gath FGath FAny bAny gAny FHeld bHeld gHeld m_any m_len m_range m_sorted m_tuple
  refine F.ok scCan (fun vs H Q E h => ?_) (fun cdv A outer s H vs Q E hr h => ?_)
  · obtain ⟨p, a, t, pan, st, goal, rfl, _⟩ := h
    rfl
  · obtain ⟨p, a, t, pan, st, goal, rfl, hp, hg, ha, hst, ht, hgo, q⟩ := h
    refine ⟨_, pss_cons (ps_set (i := 3) scCan.nd rfl (.inl rfl) (pe_call GHeld (hr.mono (by omega)) (by rfl) gHeld FHeld.kp bHeld .nil pass0 (pa_cons (pv 0) (pa_cons (pv 2) pa_nil))))
      (pss_cons (ps_set (i := 4) scCan.nd rfl (.inr rfl) (pe_call GGath (hr.mono (by omega)) (by rfl) gGath FGath.kp bGath .nil pass0 (pa_cons (pv 0) (pa_cons (pv 2) pa_nil))))
      (pss_one (ps_ret (pe_and (pe_callB (show CallR _ _ (rAll K) from cr_all (by rfl)) (by rfl) m_all (by decide +kernel) (pa_cons (pe_lc (own := [("button", 5)]) (g := gName 5) (tt := tYes) rfl scCan.nd (show PI _ _ _ (iTup K _) from pi_tup (pv 3)) (blkOk_by (own := [("button", 5)]) (N := nCan) (sc := defScope sCan) (by decide +kernel)) (fun _ _ _ _ _ => pg_name (i := 5) scCan.nd rfl (Or.inl rfl)) (fun _ _ _ _ _ => pts_nil) (fun _ _ _ _ _ => pe_cmpR (show OpR _ _ (rIn K false) from op_in_seq) (pv 5) (pv 1) (by rfl))) pa_nil)) (pe_one (pe_callB (show CallR _ _ (rAll K) from cr_all (by rfl)) (by rfl) m_all (by decide +kernel) (pa_cons (pe_lc (own := [("button", 5)]) (g := gName 5) (tt := tYes) rfl scCan.nd (show PI _ _ _ (iTup K _) from pi_tup (pv 1)) (blkOk_by (own := [("button", 5)]) (N := nCan) (sc := defScope sCan) (by decide +kernel)) (fun _ _ _ _ _ => pg_name (i := 5) scCan.nd rfl (Or.inl rfl)) (fun _ _ _ _ _ => pts_nil) (fun _ _ _ _ _ => pe_or (pe_cmpR (show OpR _ _ (rIn K false) from op_in_seq) (pv 5) (pv 2) (by rfl)) (pe_one (pe_cmpR (show OpR _ _ (rIn K false) from op_in_seq) (pv 5) (pv 4) (by rfl))))) pa_nil))))))), ?_⟩
    have few := hg.few
    have gl := hgo.len
    have sl := hst.len
    refine ⟨.ref p, rfl, .ref t, rfl, p, t, pan, goal, rfl, hp, hg, ht, hgo, fun H1 u hs s1 hu hh => ?_⟩
    have hsl : hs.length ≤ 10 := by
      have h1 : Asc pan.length hs := ⟨hh.up, fun x hx => hgo.rng x (hh.sub x hx)⟩
      have := h1.len
      omega
    refine ⟨.ref p, rfl, .ref t, rfl, p, t, pan, goal, rfl, hp.same s1, hg, same_sqT s1 ht, hgo, fun H2 vg hs2 G s2 dG hh2 hG => ?_⟩
    rw [hh2.uniq hh] at hG
    have s12 := s1.trans s2
    have da : Dp K H2 (.ref a) (dInts st) := dp_ints (same_sqT s12 ha)
    have dt : Dp K H2 (.ref t) (dInts goal) := dp_ints (same_sqT s12 ht)
    have dh : Dp K H2 (.ref u) (dInts hs) := dp_ints (same_sqT s2 hu)
    refine gs_ret (K := K) (gv_andV (gv_all (l := hs.map fun x => decide (x ∈ st)) ((gv_lc (δ := PyData.int) (as := hs) (p := fun _ => true) (f := fun x => PyData.bool (decide (x ∈ st))) (gvi_tup (gv_var rfl dh)) (fun x vx Hx hx sx dx => ⟨gvt_yes, fun _ => gv_inT (neg := false) (gv_var rfl dx) (gv_var rfl (da.sm sx))⟩) (fun _ _ => rfl) (by omega)).to (by rw [List.filter_eq_self.mpr (fun _ _ => rfl), List.map_map]; rfl)))
      (fun _ => gv_all (l := st.map fun x => decide (x ∈ goal) || decide (x ∈ G)) ((gv_lc (δ := PyData.int) (as := st) (p := fun _ => true) (f := fun x => PyData.bool (decide (x ∈ goal) || decide (x ∈ G))) (gvi_tup (gv_var rfl da)) (fun x vx Hx hx sx dx => ⟨gvt_yes, fun _ => gv_orV (gv_inT (neg := false) (gv_var rfl dx) (gv_var rfl (dt.sm sx))) (fun _ => gv_inT (neg := false) (gv_var rfl dx) (gv_var rfl (dG.sm sx)))⟩) (fun _ _ => rfl) (by omega)).to (by rw [List.filter_eq_self.mpr (fun _ _ => rfl), List.map_map]; rfl)))) fun v H3 s3 dv => ?_
    have e : ((hs.map fun x => decide (x ∈ st)).all id && (st.map fun x => decide (x ∈ goal) || decide (x ∈ G)).all id) = canB pan st goal := by
      rw [Bool.eq_iff_iff, can_iff, canB_iff, reach_can hg hst hgo hh hG]
    rw [e] at dv
    generalize canB pan st goal = bb at dv q
    cases dv
    exact q H3 (s12.trans s3)
end
end K09
namespace K09
open PySem PySem.Spec PyProof.Rows L2 Pr
def nRows : List Str := ["panel", "first", "step", "rows", "level", "longer", "thing", "button", "after"]
theorem scRows : FnScope nRows ["panel", "first", "step"] (defScope sRows) := ⟨rfl, rfl, rfl, by decide +kernel, rfl, by decide +kernel, by decide +kernel⟩
/-- what the step that is passed must promise -/
def spStep (K : PySem.W.Frag) (pd : PyData) (n : Nat) (P : List Key → Prop) (step : List Key → Nat → List Key) : Sp := fun vs H Q _ => ∃ (v : V) (a : Addr) (k : List Key) (b : Nat), vs = [v, .ref a, .int (b : Int)] ∧ Dp K H v pd ∧ H a = some (.tup (k.map kV)) ∧ b < n ∧ P k ∧
  ∀ H' t, Same H H' → H' t = some (.tup ((step k b).map kV)) → Q (.ref t) H'
section
variable {P : Program} {w : World} {K : PySem.W.Frag} {mg : Str → Option Value} {base : Heap}
def spRows (K : PySem.W.Frag) (fS : Addr) (ds : List PyData) (PK : List Key → Prop) (step : List Key → Nat → List Key) (M : Nat) : Sp := fun vs H Q _ => ∃ (v : V) (a : Addr) (k : List Key), vs = [v, .ref a, .ref fS] ∧ Dp K H v (.tuple ds) ∧ H a = some (.tup (k.map kV)) ∧ PK k ∧
  ∀ H' d, Same H H' → H d = none → DictB K H' d (bfsN step ds.length k M) → Q (.ref d) H'
theorem kp_but2 {H H' : Hp} {d l : Addr} {kvs : List (List Key × V)} {xs : List V} (b : But2 d l H H') (ed : H d = some (.dT kvs)) (el : H l = some (.lst xs)) : Kp H H' :=
  ⟨fun c ys e => b c _ (ne_of e ed (by intro z; cases z)) (ne_of e el (by intro z; cases z)) e, fun c o u e => b c _ (ne_of e ed (by intro z; cases z)) (ne_of e el (by intro z; cases z)) e⟩
theorem ok_Rows {f fS : Addr} {fd fdS : FuncData} {k : Nat} {ds : List PyData} {PK : List Key → Prop} {step : List Key → Nat → List Key} {M : Nat} {psS : List Str} (F : Fun K "shortest_rows" "shortest_rows" sRows f fd)
    (GS : FnOk P w K mg base CX0 (k + 1) fS fdS psS (spStep K (.tuple ds) ds.length PK step)) (kS : PySem.W.keepIn K (.ref fS) = true) (bS : Binds K fdS psS [])
    (m_len : mg "len" = none) (m_range : mg "range" = none) (few : ds.length ≤ 20) (hlf : lfAll ds = true) (hstep : ∀ k b, PK k → b < ds.length → PK (step k b)) (hM : M ≤ 20000) (hB : ∀ k i, PK k → (bfsN step ds.length k i).length ≤ M) :
    FnOk P w K mg base CX0 (k + 2) f fd ["panel", "first", "step"] (spRows K fS ds PK step M) := by
  refine F.ok scRows (fun vs H Q E h => ?_) (fun cdv A outer s H vs Q E hr h => ?_)
  · obtain ⟨v, a, k, rfl, _⟩ := h
    rfl
  · obtain ⟨v, a0, k0, rfl, dp, ea0, hk0, q⟩ := h
    have hu : ∀ {X : Cx}, X.A = A.deeper (envOfC "shortest_rows" (defScope sRows) s.heap.objs.size f cdv) → X.A.units + 1 < cLine := fun {X} e => by rw [e]; have := hr.un; omega
    refine ⟨_, pss_cons (ps_set (i := 3) scRows.nd rfl (.inl rfl) (pe_dispT (hu rfl) (pv 1) (pe_tup pa_nil)))
      (pss_cons (ps_set (i := 4) scRows.nd rfl (.inl rfl) (pe_lst (pa_cons (pv 1) pa_nil)))
      (pss_cons (ps_while PassesOwn.never (pt_truth (pv 4) (fun _ => rfl))
        (pss_cons (ps_set (i := 5) scRows.nd rfl (.inl rfl) (pe_lst pa_nil))
        (pss_cons (ps_for PassesOwn.never rfl (show PI _ _ _ (iList K _) from pi_list (pv 4)) (pg_name (i := 6) scRows.nd rfl (.inl rfl))
          (pss_one (ps_for PassesOwn.never rfl (pi_range1 (by rfl) m_range (pa_cons (pe_callB (show CallR _ _ (rLenG K) from cr_lenG) (by rfl) m_len PySem.boot_len (pa_cons (pv 0) pa_nil)) pa_nil)) (pg_name (i := 7) scRows.nd rfl (.inl rfl))
            (pss_cons (ps_set (i := 8) scRows.nd rfl (.inl rfl) (pe_callL (i := 2) (f := fS) (sp := spStep K (.tuple ds) ds.length PK step) (dvs := []) (E := E0) GS hr rfl (.inl rfl) kS bS .nil pass0 (pa_cons (pv 0) (pa_cons (pv 6) (pa_cons (pv 7) pa_nil)))))
            (pss_one (ps_if (pt_cmp (pc_dnotin (hu rfl) (pv 8) (pv 3)) rfl)
              (pss_cons (ps_dput (hu rfl) (pv 3) (pv 8) (pe_tup (StX.pa_star (pe_dget (hu rfl) (pv 3) (pv 6) (fun _ _ => rfl)) (pa_cons (pv 7) pa_nil))) rfl)
              (pss_one (ps_expr (show PE _ _ (tBM K "list" rAppend _ _) from pe_bm PySem.F.plainAttrs_list PySem.F.slot_list_append PySem.F.type_list_append mt_append (pv 5) (pa_cons (pv 8) pa_nil)))))
              pss_nil))))))
        (pss_one (ps_set (i := 4) scRows.nd rfl (.inl rfl) (pv 5))))))
      (pss_one (ps_ret (pv 3))))), ?_⟩
    -- rows, level
    intro d nd
    refine ⟨.ref a0, rfl, Nat.zero_le _, fun t0 nt0 => ?_⟩
    have eT : (upd (upd H d (.dT [])) t0 (.tup [])) d = some (.dT []) := by
      have z : d ≠ t0 := fun z => by rw [← z, upd_same] at nt0; cases nt0
      rw [upd_ne z, upd_same]
    refine ⟨eT, .ref t0, a0, k0, rfl, ?_, ?_⟩
    · exact same_new nt0 _ _ (same_new nd _ _ ea0)
    have sH1 : Same H (upd (upd (upd H d (.dT [])) t0 (.tup [])) d (.dT [(k0, .ref t0)])) := fun b o e => by
      rw [upd_ne (ne_of_none e nd)]; exact same_new nt0 _ _ (same_new nd _ _ e)
    have t0d : t0 ≠ d := fun z => by rw [z, upd_same] at nt0; cases nt0
    have hDB : DictB K (upd (upd (upd H d (.dT [])) t0 (.tup [])) d (.dT [(k0, .ref t0)])) d (bfsN step ds.length k0 0) := by
      refine ⟨[.ref t0], by rw [upd_same]; rfl, .cons (.tup (.inl (.inl (by rw [upd_ne t0d, upd_same]))) .nil) .nil⟩
    generalize upd (upd (upd H d (.dT [])) t0 (.tup [])) d (.dT [(k0, .ref t0)]) = H1 at sH1 hDB ⊢
    refine ⟨.ref a0, rfl, by show 1 ≤ sizeLine; decide, fun lv0 nlv0 => ?_⟩
    -- the levels
    refine ⟨fun m σ H' => ∃ (i : Nat) (lv : Addr) (as : List Addr) (x5 x6 x7 x8 : Option V), m = M + 1 - i ∧ σ = [some v, some (.ref a0), some (.ref fS), some (.ref d), some (.ref lv), x5, x6, x7, x8] ∧ Same H H' ∧ DictB K H' d (bfsN step ds.length k0 i) ∧
      i ≤ (bfsN step ds.length k0 i).length ∧ H' lv = some (.lst (as.map V.ref)) ∧ Paired (fun a (x : List Key × List Int) => H' a = some (.tup (x.1.map kV))) as ((bfsN step ds.length k0 i).drop i),
      ⟨M + 1, 0, lv0, [a0], none, none, none, none, rfl, rfl, sH1.trans (same_new nlv0), hDB.same (same_new nlv0), Nat.zero_le _, upd_same, .cons (same_new nlv0 _ _ (sH1 _ _ ea0)) .nil⟩, ?_⟩
    rintro m σ H2 ⟨i, lv, as, x5, x6, x7, x8, rfl, rfl, s2, hDB2, hi, elv, has⟩
    have hM2 := hB k0 i hk0
    have hlenas : as.length = (bfsN step ds.length k0 i).length - i := by rw [has.length, List.length_drop]
    by_cases hemp : as = []
    · subst hemp
      refine ⟨.ref lv, rfl, false, .inl ⟨_, .inl (.inl elv), rfl⟩, iteF ?_⟩
      refine ⟨.ref d, rfl, q H2 d s2 nd ?_⟩
      have : (bfsN step ds.length k0 i).length ≤ i := by have : ([] : List Addr).length = _ := hlenas; simp at this; omega
      rw [bfs_stop this (j := M) (by omega)]
      exact hDB2
    · have hpos : 0 < as.length := List.length_pos_iff.mpr hemp
      refine ⟨.ref lv, rfl, true, .inl ⟨_, .inl (.inl elv), by cases as with | nil => exact absurd rfl hemp | cons _ _ => rfl⟩, iteT ?_⟩
      refine ⟨fun σ' H' => ∃ m', m' < M + 1 - i ∧ ∃ (i : Nat) (lv : Addr) (as : List Addr) (x5 x6 x7 x8 : Option V), m' = M + 1 - i ∧ σ' = [some v, some (.ref a0), some (.ref fS), some (.ref d), some (.ref lv), x5, x6, x7, x8] ∧ Same H H' ∧ DictB K H' d (bfsN step ds.length k0 i) ∧
        i ≤ (bfsN step ds.length k0 i).length ∧ H' lv = some (.lst (as.map V.ref)) ∧ Paired (fun a (x : List Key × List Int) => H' a = some (.tup (x.1.map kV))) as ((bfsN step ds.length k0 i).drop i), fun σ' H' h => h, ?_⟩
      -- longer
      refine ⟨Nat.zero_le _, fun lo nlo => ?_⟩
      have sL := same_new (o := .lst []) nlo
      have hDB3 := hDB2.same sL
      have s3 := s2.trans sL
      have elv3 := sL _ _ elv
      have has3 := has.mono fun (a : Addr) (x : List Key × List Int) (e : H2 a = some (.tup (x.1.map kV))) => sL _ _ e
      have elo : (upd H2 lo (.lst [])) lo = some (.lst []) := upd_same
      have nloH : H lo = none := s2.free nlo
      have lvlo : lv ≠ lo := ne_of_none elv nlo
      generalize upd H2 lo (.lst []) = H3 at hDB3 s3 elv3 has3 elo ⊢
      obtain ⟨vs3, ed3, _⟩ := id hDB3
      have lvd : lv ≠ d := ne_of elv3 ed3 (by intro z; cases z)
      have lod : lo ≠ d := ne_of elo ed3 (by intro z; cases z)
      refine ⟨.ref lv, rfl, lv, rfl, ⟨_, .inl (.inl elv3)⟩, ?_⟩
      refine for_list (xs := as.map V.ref) (fun t σ H5 => But2 d lo H3 H5 ∧ DictB K H5 d (bfsN step ds.length k0 (i + t)) ∧ (∃ ls : List Addr, H5 lo = some (.lst (ls.map V.ref)) ∧ Paired (fun a (x : List Key × List Int) => H5 a = some (.tup (x.1.map kV))) ls ((bfsN step ds.length k0 (i + t)).drop (bfsN step ds.length k0 i).length)) ∧
          ∃ x6 x7 x8, σ = [some v, some (.ref a0), some (.ref fS), some (.ref d), some (.ref lv), some (.ref lo), x6, x7, x8])
        ⟨fun _ _ _ _ e => e, hDB3, ⟨[], elo, by rw [Nat.add_zero, List.drop_length]; exact .nil⟩, _, _, _, rfl⟩ (fun t σ H5 _ hP => .inl (.inl (hP.1 _ _ lvd lvlo elv3))) (fun t x σ H5 hx hP => ?_) (fun σ H5 hP => ?_)
      · obtain ⟨b5, hDB5, ⟨ls, elo5, hls⟩, x6, x7, x8, rfl⟩ := hP
        have ht : t < as.length := by have := (List.getElem?_eq_some_iff.mp hx).1; rwa [List.length_map] at this
        obtain rfl : x = V.ref as[t] := by rw [List.getElem?_map, List.getElem?_eq_getElem ht] at hx; exact (Option.some.inj hx).symm
        -- the thing
        have hit : i + t < (bfsN step ds.length k0 i).length := by omega
        obtain ⟨y, hy⟩ : ∃ y, (bfsN step ds.length k0 i)[i + t]? = some y := ⟨_, List.getElem?_eq_getElem hit⟩
        obtain ⟨a', g1, g2⟩ := paired_get has3 t y (by rw [List.getElem?_drop]; exact hy)
        obtain rfl : as[t] = a' := by rw [List.getElem?_eq_getElem ht] at g1; exact Option.some.inj g1
        have hPy : PK y.1 := bfs_all (P := PK) hk0 hstep i y (List.mem_of_getElem? hy)
        have pre := bfs_pre (step := step) (n := ds.length) (s := k0) (Nat.le_add_right i t)
        have hyt : (bfsN step ds.length k0 (i + t))[i + t]? = some y := by rw [pre_get pre hit]; exact hy
        have hnext : bfsN step ds.length k0 (i + (t + 1)) = procB step (bfsN step ds.length k0 (i + t)) y.1 y.2 ds.length := by
          rw [← Nat.add_assoc]; exact bfs_step hyt
        have ndt := bfs_nd (step := step) (n := ds.length) (s := k0) (i + t)
        have kp35 : Kp H3 H5 := kp_but2 b5 ed3 elo
        have ea5 : H5 as[t] = some (.tup (y.1.map kV)) := kp35.1 _ _ g2
        have dp5 : Dp K H5 v (.tuple ds) := (dp.sm s3).kp kp35 (by simp only [lf]; exact hlf)
        have hlenL := hB k0 (i + t) hk0
        obtain ⟨vs5, ed5, _⟩ := id hDB5
        refine gs_range (gv_lenT (gv_var rfl dp5)) (by omega) (fun Ha b σ H' => But2 d lo H5 H' ∧ DictB K H' d (procB step (bfsN step ds.length k0 (i + t)) y.1 y.2 b) ∧ (∃ ls : List Addr, H' lo = some (.lst (ls.map V.ref)) ∧ Paired (fun a (x : List Key × List Int) => H' a = some (.tup (x.1.map kV))) ls ((procB step (bfsN step ds.length k0 (i + t)) y.1 y.2 b).drop (bfsN step ds.length k0 i).length)) ∧
            ∃ x7 x8, σ = [some v, some (.ref a0), some (.ref fS), some (.ref d), some (.ref lv), some (.ref lo), some (.ref as[t]), x7, x8])
          (fun H6 s6 => ⟨fun b o _ _ e => s6 _ _ e, hDB5.same s6, ⟨ls, s6 _ _ elo5, hls.mono fun (a : Addr) (x : List Key × List Int) (e : H5 a = some (.tup (x.1.map kV))) => s6 _ _ e⟩, _, _, rfl⟩) (fun H6 b σ H7 s6 hb hP => ?_) (fun H6 σ H7 s6 hP => ?_)
        · obtain ⟨b7, hDB7, ⟨ls7, elo7, hls7⟩, x7, x8, rfl⟩ := hP
          have kp57 : Kp H5 H7 := kp_but2 b7 ed5 elo5
          have ea7 := kp57.1 _ _ ea5
          have dp7 : Dp K H7 v (.tuple ds) := dp5.kp kp57 (by simp only [lf]; exact hlf)
          refine ⟨rfl, v, rfl, .ref as[t], rfl, .int (b : Int), rfl, v, as[t], y.1, b, rfl, dp7, ea7, hb, hPy, fun H8 ta s8 eta => ?_⟩
          have hDB8 := hDB7.same s8
          have nd8 := procB_nd (step := step) (k := y.1) (r := y.2) ndt b
          have hlen8 : (procB step (bfsN step ds.length k0 (i + t)) y.1 y.2 b).length ≤ M := by
            have h1 : procB step (bfsN step ds.length k0 (i + t)) y.1 y.2 b <+: bfsN step ds.length k0 (i + (t + 1)) := by
              rw [hnext]
              have : ∀ m, b ≤ m → procB step (bfsN step ds.length k0 (i + t)) y.1 y.2 b <+: procB step (bfsN step ds.length k0 (i + t)) y.1 y.2 m := fun m hm => by
                induction m with
                | zero => have : b = 0 := by omega
                          subst this; exact List.prefix_refl _
                | succ m ih =>
                  by_cases e : b = m + 1
                  · subst e; exact List.prefix_refl _
                  · rw [procB_succ]; exact (ih (by omega)).trans (addK_pre _ _ _)
              exact this _ (Nat.le_of_lt hb)
            exact Nat.le_trans h1.length_le (hB k0 (i + (t + 1)) hk0)
          have b58 : But2 d lo H5 H8 := fun c o h1 h2 e => s8 _ _ (b7 c o h1 h2 e)
          have elo8 := s8 _ _ elo7
          have hls8 := hls7.mono fun (a : Addr) (x : List Key × List Int) (e : H7 a = some (.tup (x.1.map kV))) => s8 _ _ e
          have preL : (bfsN step ds.length k0 i).length ≤ (procB step (bfsN step ds.length k0 (i + t)) y.1 y.2 b).length := Nat.le_trans pre.length_le (procB_pre step _ _ _ b).length_le
          by_cases hin : step y.1 b ∈ (procB step (bfsN step ds.length k0 (i + t)) y.1 y.2 b).map (·.1)
          · obtain ⟨vv, gv⟩ := hDB8.some nd8 hin eta
            refine ⟨.ref ta, rfl, .ref d, rfl, d, some vv, rfl, gv, false, rfl, iteF ?_⟩
            have e1 : procB step (bfsN step ds.length k0 (i + t)) y.1 y.2 (b + 1) = procB step (bfsN step ds.length k0 (i + t)) y.1 y.2 b := by rw [procB_succ]; unfold addK; rw [if_pos hin]
            exact ⟨b58, by rw [e1]; exact hDB8, ⟨ls7, elo8, by rw [e1]; exact hls8⟩, _, _, rfl⟩
          · have gn := hDB8.none hin eta
            refine ⟨.ref ta, rfl, .ref d, rfl, d, none, rfl, gn, true, rfl, iteT ?_⟩
            have e1 : procB step (bfsN step ds.length k0 (i + t)) y.1 y.2 (b + 1) = procB step (bfsN step ds.length k0 (i + t)) y.1 y.2 b ++ [(step y.1 b, y.2 ++ [(b : Int)])] := by rw [procB_succ]; unfold addK; rw [if_neg hin]
            -- rows[thing]
            obtain ⟨vr, gr, dr⟩ := hDB8.get nd8 (i := i + t) (x := y) (by rw [pre_get (procB_pre step _ _ _ b) (by have := pre.length_le; omega)]; exact hyt) (s8 _ _ ea7)
            obtain ⟨ar, rfl, sqr⟩ := dr.intsI
            have hrow := (bfs_rows (step := step) (n := ds.length) (s := k0) i y (List.mem_of_getElem? hy)).1
            refine ⟨.ref d, rfl, .ref as[t], rfl, d, .ref ar, rfl, gr, ar, _, rfl, .inl sqr, .int (b : Int), rfl, ?_, fun T nT => ?_⟩
            · rw [List.length_append, List.length_map]; exact Nat.le_of_lt (small5 (by show _ + 1 ≤ _; omega))
            have sT := same_new (o := .tup (y.2.map V.int ++ [.int (b : Int)])) nT
            obtain ⟨H9, hput, hDB9, kp9, keep9⟩ := (hDB8.same sT).put hin (sT _ _ eta) (v := .ref T) (r := y.2 ++ [(b : Int)]) (dp_ints (.inl (.inl (by rw [upd_same, List.map_append]; rfl)))) (by omega)
            refine ⟨.ref d, rfl, .ref ta, rfl, d, H9, rfl, hput, ?_⟩
            have elo9 := keep9 _ _ lod (sT _ _ elo8)
            have lls : ls7.length ≤ M := by have := hls7.length; rw [List.length_drop] at this; omega
            refine ⟨.ref lo, rfl, .inl ⟨rfl, _, .inl (.inl elo9)⟩, .ref ta, rfl, lo, _, .ref ta, rfl, rfl, elo9, by rw [List.length_map]; exact small5 (by omega), ?_⟩
            have kpl := Kp.upd (o := .lst (ls7.map V.ref ++ [.ref ta])) elo9
            refine ⟨fun c o h1 h2 e => by rw [upd_ne h2]; exact keep9 _ _ h1 (sT _ _ (b58 c o h1 h2 e)), ?_, ⟨ls7 ++ [ta], by rw [upd_same, List.map_append]; rfl, ?_⟩, _, _, rfl⟩
            · rw [e1]
              obtain ⟨vs9, e9, d9⟩ := hDB9
              exact ⟨vs9, by rw [upd_ne (Ne.symm lod)]; exact e9, dpAll_kp kpl _ _ lf_rows d9⟩
            · rw [e1, List.drop_append_of_le_length preL]
              exact Paired.snoc (hls8.mono fun (a : Addr) (x : List Key × List Int) (e : H8 a = some (.tup (x.1.map kV))) => kpl.1 _ _ (kp9.1 _ _ (sT _ _ e))) (kpl.1 _ _ (kp9.1 _ _ (sT _ _ eta)))
        · obtain ⟨b7, hDB7, hls7, x7, x8, rfl⟩ := hP
          exact ⟨fun c o h1 h2 e => b7 c o h1 h2 (b5 c o h1 h2 e), by rw [hnext]; exact hDB7, by rw [hnext]; exact hls7, _, _, _, rfl⟩
      · obtain ⟨b5, hDB5, ⟨ls, elo5, hls⟩, x6, x7, x8, rfl⟩ := hP
        rw [List.length_map] at hDB5 hls
        have ei : i + as.length = (bfsN step ds.length k0 i).length := by omega
        rw [ei] at hDB5 hls
        refine ⟨.ref lo, rfl, M + 1 - (bfsN step ds.length k0 i).length, by omega, (bfsN step ds.length k0 i).length, lo, ls, _, _, _, _, rfl, rfl, fun c o e => b5 c o (ne_of_none e nd) (ne_of_none e nloH) (s3 _ _ e), hDB5, ?_, elo5, hls⟩
        exact (bfs_pre (step := step) (n := ds.length) (s := k0) hi).length_le
end
end K09
namespace K09
open PySem PySem.Spec PyProof.Rows L2 Pr
def nWay : List Str := ["panel", "start", "goal"]
theorem scWay : FnScope nWay ["panel", "start", "goal"] (defScope sWay) := ⟨rfl, rfl, rfl, by decide +kernel, rfl, by decide +kernel, by decide +kernel⟩
section
variable {P : Program} {w : World} {K : PySem.W.Frag} {mg : Str → Option Value} {base : Heap}
theorem step_press {pan : List (List Int)} (few : pan.length ≤ 10) {fPress : Addr} {fdPress : FuncData} {k : Nat} {ps : List Str} (G : FnOk P w K mg base CX0 (k + 1) fPress fdPress ps (spPress K)) : FnOk P w K mg base CX0 (k + 1) fPress fdPress ps (spStep K (dPan pan) (pan.map dInts).length (PKs pan.length) (stepP pan)) :=
  G.imp fun vs H Q E h => by
    obtain ⟨v, a, ks, b, rfl, dp, ea, hb, ⟨st, rfl, hst⟩, q⟩ := h
    rw [List.length_map] at hb
    rw [kInt_kV] at ea
    refine ⟨pan, st, (b : Int), .cons dp (.cons (dp_ints (.inl (.inl ea))) (.cons (.int _) .nil)), hst, few, by omega, by omega, fun H' t s et => q H' t s ?_⟩
    rw [et]; unfold stepP; rw [unK_kInt, kInt_kV]
def spWay (K : PySem.W.Frag) : Sp := fun vs H Q _ => ∃ (v : V) (a g : Addr) (pan : List (List Int)) (st gl : List Int), vs = [v, .ref a, .ref g] ∧ Dp K H v (dPan pan) ∧ H a = some (.tup (st.map V.int)) ∧ H g = some (.tup (gl.map V.int)) ∧ pan.length ≤ 10 ∧ Asc pan.length st ∧
  ∀ v' H', Same H H' → Dp K H' v' (wayOf (foundM pan st) (kInt gl)) → Q v' H'
theorem ok_Way {f fRows fPress : Addr} {fd fdRows fdPress : FuncData} {k : Nat} (F : Fun K "shortest_way" "shortest_way" sWay f fd)
    (FRows : Fun K "shortest_rows" "shortest_rows" sRows fRows fdRows) (bRows : Binds K fdRows ["panel", "first", "step"] []) (gRows : mg "shortest_rows" = some (.ref fRows))
    (FPress : Fun K "press_button" "press_button" sPress fPress fdPress) (bPress : Binds K fdPress ["panel", "state", "button"] []) (gPress : mg "press_button" = some (.ref fPress))
    (m_len : mg "len" = none) (m_range : mg "range" = none) (m_sorted : mg "sorted" = none) (m_tuple : mg "tuple" = none) : FnOk P w K mg base CX0 (k + 3) f fd ["panel", "start", "goal"] (spWay K) := by
  refine F.ok scWay (fun vs H Q E h => ?_) (fun cdv A outer s H vs Q E hr h => ?_)
  · obtain ⟨v, a, g, pan, st, gl, rfl, _⟩ := h
    rfl
  · obtain ⟨v, a, g, pan, st, gl, rfl, dp, ea, eg, few, hst, q⟩ := h
    have hl : (pan.map dInts).length = pan.length := List.length_map _
    have GR : FnOk P w K mg base CX0 (k + 2) fRows fdRows ["panel", "first", "step"] (spRows K fPress (pan.map dInts) (PKs pan.length) (stepP pan) 1024) := ok_Rows FRows (step_press few (ok_Press FPress m_sorted m_tuple)) FPress.kp bPress m_len m_range (by omega) (lfAll_of fun d hd => by obtain ⟨l, _, rfl⟩ := List.mem_map.mp hd; exact lf_ints l) (fun k b hk _ => pks_step hk) (by decide) (fun k i hk => by rw [hl]; exact bfs_few few hk i)
    refine ⟨_, pss_one (ps_ret (pe_dget1 hr.u1 (pe_call GR (hr.mono (by omega)) (by rfl) gRows FRows.kp bRows .nil pass0 (pa_cons (pv 0) (pa_cons (pv 1) (pa_cons (pe_glob (v := .ref fPress) (by rfl) gPress rfl) pa_nil)))) (pv 2) ⟨rfl, rfl, rfl, rfl⟩)), ?_⟩
    refine gs_ret (gv_get1 (L := foundM pan st) (fun H1 s1 Q q => ⟨v, rfl, .ref a, rfl, v, a, kInt st, rfl, dp.sm s1, by rw [kInt_kV]; exact s1 _ _ ea, ⟨st, rfl, hst⟩, fun H2 d s2 nd hd => q d H2 s2 (by rw [hl] at hd; exact hd)⟩) (found_nd pan st) rfl eg) fun v' H' s' d' => q v' H' s' d'
end
def nReach2 : List Str := ["panel", "start"]
theorem scReach2 : FnScope nReach2 ["panel", "start"] (defScope sReach2) := ⟨rfl, rfl, rfl, by decide +kernel, rfl, by decide +kernel, by decide +kernel⟩
section
variable {P : Program} {w : World} {K : PySem.W.Frag} {mg : Str → Option Value} {base : Heap}
def spReach2 (K : PySem.W.Frag) : Sp := fun vs H Q _ => ∃ (v : V) (a : Addr) (pan : List (List Int)) (st : List Int), vs = [v, .ref a] ∧ Dp K H v (dPan pan) ∧ H a = some (.tup (st.map V.int)) ∧ pan.length ≤ 10 ∧ Asc pan.length st ∧
  ∀ v' H', Same H H' → Dp K H' v' (dReach pan st) → Q v' H'
theorem ok_Reach2 {f fRows fPress : Addr} {fd fdRows fdPress : FuncData} {k : Nat} (F : Fun K "reachable_states" "reachable_states" sReach2 f fd)
    (FRows : Fun K "shortest_rows" "shortest_rows" sRows fRows fdRows) (bRows : Binds K fdRows ["panel", "first", "step"] []) (gRows : mg "shortest_rows" = some (.ref fRows))
    (FPress : Fun K "press_button" "press_button" sPress fPress fdPress) (bPress : Binds K fdPress ["panel", "state", "button"] []) (gPress : mg "press_button" = some (.ref fPress))
    (m_len : mg "len" = none) (m_list : mg "list" = none) (m_range : mg "range" = none) (m_sorted : mg "sorted" = none) (m_tuple : mg "tuple" = none) : FnOk P w K mg base CX0 (k + 3) f fd ["panel", "start"] (spReach2 K) := by
  refine F.ok scReach2 (fun vs H Q E h => ?_) (fun cdv A outer s H vs Q E hr h => ?_)
  · obtain ⟨v, a, pan, st, rfl, _⟩ := h
    rfl
  · obtain ⟨v, a, pan, st, rfl, dp, ea, few, hst, q⟩ := h
    have hl : (pan.map dInts).length = pan.length := List.length_map _
    have GR : FnOk P w K mg base CX0 (k + 2) fRows fdRows ["panel", "first", "step"] (spRows K fPress (pan.map dInts) (PKs pan.length) (stepP pan) 1024) := ok_Rows FRows (step_press few (ok_Press FPress m_sorted m_tuple)) FPress.kp bPress m_len m_range (by omega) (lfAll_of fun d hd => by obtain ⟨l, _, rfl⟩ := List.mem_map.mp hd; exact lf_ints l) (fun k b hk _ => pks_step hk) (by decide) (fun k i hk => by rw [hl]; exact bfs_few few hk i)
    refine ⟨_, pss_one (ps_ret (pe_callTy (show CallR _ _ (rTupG K) from cr_tupG) (by rfl) m_tuple (by decide +kernel) (pa_cons (pe_callB (show CallR _ _ (rSortTP K) from cr_sortTP hr.units) (by rfl) m_sorted (by decide +kernel) (pa_cons (pe_callTy (show CallR _ _ (rListT K) from cr_listT (by rfl)) (by rfl) m_list (by decide +kernel)
      (pa_cons (pe_call GR (hr.mono (by omega)) (by rfl) gRows FRows.kp bRows .nil pass0 (pa_cons (pv 0) (pa_cons (pv 1) (pa_cons (pe_glob (v := .ref fPress) (by rfl) gPress rfl) pa_nil)))) pa_nil)) pa_nil)) pa_nil))), ?_⟩
    refine gs_ret (gv_reach (fun H1 s1 Q q => ⟨v, rfl, .ref a, rfl, v, a, kInt st, rfl, dp.sm s1, by rw [kInt_kV]; exact s1 _ _ ea, ⟨st, rfl, hst⟩, fun H2 d s2 nd hd => q d H2 s2 (by rw [hl] at hd; exact hd)⟩) hst) fun v' H' s' d' => q v' H' s' d'
end
end K09
namespace Pr
open PySem PySem.Spec PyProof.Rows L2
theorem _root_.L2.Room.u65 {k : Nat} {A : PySem.Around} (r : Room k A) : A.units + 65 < PySem.cLine := by have := r.un; omega
def kStr (l : List Str) : List Key := l.map Sum.inr
theorem kStr_kV (l : List Str) : (kStr l).map kV = l.map V.str := by unfold kStr; rw [List.map_map]; rfl
theorem kStr_inj {a b : List Str} (h : kStr a = kStr b) : a = b := by
  unfold kStr at h
  exact List.map_inj_right (fun x y e => Sum.inr.inj e) |>.mp h
def InRow (pan : List (List Int)) (row : List Int) : Prop := ∀ y ∈ row, 0 ≤ y ∧ y < (pan.length : Int)
abbrev keysB (L : BL (List Key)) : List (List Key) := L.map (·.1)
/-- an entry: the effect of its row -/
structure Ent (pan : List (List Int)) (n : Nat) (x : List Key × List Int) : Prop where
  key : x.1 = kStr (effM pan x.2)
  inr : InRow pan x.2
  len : x.2.length ≤ n
structure SInv (pan : List (List Int)) (W : List Str) (i : Nat) (L : BL (List Key)) (ts : List (List Int)) : Prop where
  nd : (keysB L).Nodup
  ent : ∀ x ∈ L, Ent pan i x
  lev : ∀ t ∈ ts, InRow pan t ∧ kStr (effM pan t) ∈ keysB L
  clo : ∀ x ∈ L, (∃ t ∈ ts, effM pan t = effM pan x.2) ∨ ∀ b : Nat, b < pan.length → partB (effM pan ((b : Int) :: x.2)) W = true → kStr (effM pan ((b : Int) :: x.2)) ∈ keysB L
  com : ∀ r, InRow pan r → r.length ≤ i → partB (effM pan r) W = true → kStr (effM pan r) ∈ keysB L
/-- amid a turn: the buttons below b are done, of button b the first j -/
structure SMid (pan : List (List Int)) (W : List Str) (i : Nat) (L : BL (List Key)) (ts : List (List Int)) (b j : Nat) (L' : BL (List Key)) (us : List (List Int)) : Prop where
  nd : (keysB L').Nodup
  ent : ∀ x ∈ L', Ent pan (i + 1) x
  sub : ∀ x ∈ L, x ∈ L'
  new : ∀ x ∈ L', x ∈ L ∨ ∃ u ∈ us, effM pan u = effM pan x.2
  lev : ∀ u ∈ us, InRow pan u ∧ kStr (effM pan u) ∈ keysB L'
  few : us.length ≤ L'.length
  don : ∀ (b' k : Nat) (t : List Int), ts[k]? = some t → (b' < b ∨ (b' = b ∧ k < j)) → partB (effM pan ((b' : Int) :: t)) W = true → kStr (effM pan ((b' : Int) :: t)) ∈ keysB L'
variable {pan : List (List Int)} {W : List Str} {i : Nat} {L L' : BL (List Key)} {ts us : List (List Int)}
theorem SInv.start (g : Good pan) : SInv pan W 0 [(kStr (effM pan []), [])] [[]] := by
  refine ⟨by simp, fun x hx => ?_, fun t ht => ?_, fun x hx => ?_, fun r hr hl _ => ?_⟩
  · rw [List.mem_singleton.mp hx]; exact ⟨rfl, (fun _ h => by cases h), Nat.le_refl _⟩
  · rw [List.mem_singleton.mp ht]; exact ⟨(fun _ h => by cases h), by simp⟩
  · rw [List.mem_singleton.mp hx]; exact .inl ⟨[], List.mem_cons_self, rfl⟩
  · have : r = [] := List.length_eq_zero_iff.mp (by omega)
    subst this; simp
theorem key_mem {x : List Key × List Int} {L : BL (List Key)} (h : x ∈ L) : x.1 ∈ keysB L := List.mem_map.mpr ⟨x, h, rfl⟩
theorem eff_cong (g : Good pan) {b : Nat} (hb : b < pan.length) {r t : List Int} (e : effM pan r = effM pan t) : effM pan ((b : Int) :: r) = effM pan ((b : Int) :: t) := by
  rw [eff_cons g (by omega) (by omega), eff_cons g (by omega) (by omega), e]
/-- the row of a thing that is there -/
theorem ent_of (h : ∀ x ∈ L', Ent pan n x) {t : List Int} (hk : kStr (effM pan t) ∈ keysB L') : ∃ (m : Nat) (x : List Key × List Int), L'[m]? = some x ∧ x.1 = kStr (effM pan t) ∧ effM pan x.2 = effM pan t ∧ InRow pan x.2 := by
  obtain ⟨x, hx, e⟩ := List.mem_map.mp hk
  obtain ⟨m, hm⟩ := List.mem_iff_getElem?.mp hx
  have := h x hx
  exact ⟨m, x, hm, e, kStr_inj (this.key.symm.trans e), this.inr⟩
theorem part_tail (hW : W.length = pan.length) {b : Int} {r : List Int} (h : partB (effM pan (b :: r)) W = true) : partB (effM pan r) W = true := by
  rw [part_eff hW] at h ⊢
  intro c y hy
  have := h c y hy
  have e : wordsM pan (b :: r) (c : Int) = if wordsM pan r (c : Int) = wSame then wordsM pan [b] (c : Int) else wordsM pan r (c : Int) := words_app pan [b] r c
  by_cases hs : wordsM pan r (c : Int) = wSame
  · exact .inl hs
  · rw [e, if_neg hs] at this; exact this
theorem SMid.done (g : Good pan) (hW : W.length = pan.length) (h0 : SInv pan W i L ts) (h : SMid pan W i L ts pan.length 0 L' us) : SInv pan W (i + 1) L' us := by
  have sub : ∀ k, k ∈ keysB L → k ∈ keysB L' := fun k hk => by
    obtain ⟨x, hx, rfl⟩ := List.mem_map.mp hk
    exact key_mem (h.sub x hx)
  have ext : ∀ x ∈ L, ∀ b : Nat, b < pan.length → partB (effM pan ((b : Int) :: x.2)) W = true → kStr (effM pan ((b : Int) :: x.2)) ∈ keysB L' := fun x hx b hb hp => by
    rcases h0.clo x hx with ⟨t, ht, e⟩ | hc
    · obtain ⟨k, hk⟩ := List.mem_iff_getElem?.mp ht
      have ec := eff_cong g hb e
      rw [← ec] at hp ⊢
      exact h.don b k t hk (.inl hb) hp
    · exact sub _ (hc b hb hp)
  refine ⟨h.nd, h.ent, h.lev, fun x hx => ?_, fun r hr hl hp => ?_⟩
  · rcases h.new x hx with hx | ⟨u, hu, e⟩
    · exact .inr (ext x hx)
    · exact .inl ⟨u, hu, e⟩
  · cases r with
    | nil => exact sub _ (h0.com [] hr (Nat.zero_le _) hp)
    | cons y r =>
      have hy := hr y List.mem_cons_self
      have hr' : InRow pan r := fun z hz => hr z (List.mem_cons_of_mem _ hz)
      have hk := h0.com r hr' (by rw [List.length_cons] at hl; omega) (part_tail hW hp)
      obtain ⟨m, x, hm, _, e, _⟩ := ent_of h0.ent hk
      obtain ⟨b, rfl⟩ : ∃ b : Nat, y = (b : Int) := ⟨y.toNat, (Int.toNat_of_nonneg hy.1).symm⟩
      have hb : b < pan.length := by omega
      have ec := eff_cong g hb e
      rw [← ec] at hp ⊢
      exact ext x (List.mem_of_getElem? hm) b hb hp
def digW (k : List Key) (i : Nat) : Nat := match k[i]? with
  | some (.inr x) => if x = wSame then 0 else if x = wOn then 1 else 2
  | _ => 0
end Pr
namespace Pr
open PySem PySem.Spec PyProof.Rows L2
/-- no row of the same effect is shorter, none of the same length stands ahead -/
structure Best (pan : List (List Int)) (r : List Int) : Prop where
  inr : InRow pan r
  min : ∀ r', InRow pan r' → effM pan r' = effM pan r → r.length ≤ r'.length ∧ (r'.length = r.length → HT.lexLt r' r = false)
theorem lexLt_irr (r : List Int) : HT.lexLt r r = false := by rw [lexLt_lt, decide_eq_false_iff_not]; exact List.lt_irrefl r
theorem Best.uniq {pan : List (List Int)} {r s : List Int} (a : Best pan r) (b : Best pan s) (e : effM pan r = effM pan s) : r = s := by
  have h1 := a.min s b.inr e.symm
  have h2 := b.min r a.inr e
  have hl : r.length = s.length := by omega
  exact lex_anti (h1.2 hl.symm) (h2.2 hl)
abbrev entK (pan : List (List Int)) (u : List Int) : List Key × List Int := (kStr (effM pan u), u)
structure XInv (pan : List (List Int)) (i : Nat) (L : BL (List Key)) (ts : List (List Int)) : Prop where
  bes : ∀ x ∈ L, Best pan x.2
  lvl : ∀ t ∈ ts, t.length = i ∧ entK pan t ∈ L
  all : ∀ x ∈ L, x.2.length = i → x.2 ∈ ts
  srt : ts.Pairwise fun a b => HT.lexLt a b = true
structure XMid (pan : List (List Int)) (i : Nat) (L : BL (List Key)) (ts : List (List Int)) (b j : Nat) (L' : BL (List Key)) (us : List (List Int)) : Prop where
  eq : L' = L ++ us.map (entK pan)
  bes : ∀ u ∈ us, Best pan u
  frm : ∀ u ∈ us, ∃ (b' k : Nat) (t : List Int), ts[k]? = some t ∧ u = (b' : Int) :: t ∧ (b' < b ∨ (b' = b ∧ k < j))
  srt : us.Pairwise fun a b => HT.lexLt a b = true
variable {pan : List (List Int)} {W : List Str} {i : Nat} {L L' : BL (List Key)} {ts us : List (List Int)}
theorem XInv.start : XInv pan 0 [(kStr (effM pan []), [])] [[]] := by
  refine ⟨fun x hx => ?_, fun t ht => ?_, fun x hx _ => ?_, List.pairwise_singleton _ _⟩
  · rw [List.mem_singleton.mp hx]
    exact ⟨(fun _ h => by cases h), fun r' _ _ => ⟨Nat.zero_le _, fun hl => by rw [List.eq_nil_of_length_eq_zero hl]; exact lexLt_irr []⟩⟩
  · rw [List.mem_singleton.mp ht]; exact ⟨rfl, List.mem_singleton.mpr rfl⟩
  · rw [List.mem_singleton.mp hx]; exact List.mem_singleton.mpr rfl
theorem XMid.done {b : Nat} (s0 : SInv pan W i L ts) (h0 : XInv pan i L ts) (h : XMid pan i L ts b 0 L' us) : XInv pan (i + 1) L' us := by
  have ul : ∀ u ∈ us, u.length = i + 1 := fun u hu => by
    obtain ⟨b', k, t, h1, rfl, _⟩ := h.frm u hu
    rw [List.length_cons, (h0.lvl t (List.mem_of_getElem? h1)).1]
  refine ⟨fun x hx => ?_, fun u hu => ⟨ul u hu, ?_⟩, fun x hx hl => ?_, h.srt⟩
  · rw [h.eq] at hx
    rcases List.mem_append.mp hx with hx | hx
    · exact h0.bes x hx
    · obtain ⟨u, hu, rfl⟩ := List.mem_map.mp hx
      exact h.bes u hu
  · rw [h.eq]
    exact List.mem_append_right _ (List.mem_map.mpr ⟨u, hu, rfl⟩)
  · rw [h.eq] at hx
    rcases List.mem_append.mp hx with hx | hx
    · have := (s0.ent x hx).len
      omega
    · obtain ⟨u, hu, rfl⟩ := List.mem_map.mp hx
      exact hu
structure SI2 (pan : List (List Int)) (W : List Str) (i : Nat) (L : BL (List Key)) (ts : List (List Int)) : Prop where
  s : SInv pan W i L ts
  x : XInv pan i L ts
structure SM2 (pan : List (List Int)) (W : List Str) (i : Nat) (L : BL (List Key)) (ts : List (List Int)) (b j : Nat) (L' : BL (List Key)) (us : List (List Int)) : Prop where
  s : SMid pan W i L ts b j L' us
  x : XMid pan i L ts b j L' us
theorem SI2.start (g : Good pan) : SI2 pan W 0 [(kStr (effM pan []), [])] [[]] := ⟨.start g, .start⟩
theorem SM2.done (g : Good pan) (hW : W.length = pan.length) (h0 : SI2 pan W i L ts) (h : SM2 pan W i L ts pan.length 0 L' us) : SI2 pan W (i + 1) L' us := ⟨h.s.done g hW h0.s, h.x.done h0.s h0.x⟩
end Pr
namespace Pr
open PySem PySem.Spec PyProof.Rows L2 PySem.W
def IsW (x : Str) : Prop := x = wSame ∨ x = wOn ∨ x = wOff
def codeW (x : Str) : Int := if x = wOff then 0 else if x = wOn then 1 else 2
theorem codeW_inj {x y : Str} (hx : IsW x) (hy : IsW y) (e : codeW x = codeW y) : x = y := by
  rcases hx with rfl | rfl | rfl <;> rcases hy with rfl | rfl | rfl <;> first | rfl | (exfalso; revert e; decide)
theorem lt_word {x y : Str} (hx : IsW x) (hy : IsW y) : dataLt (.str x) (.str y) = decide (codeW x < codeW y) := by
  rw [dataLt_str]
  rcases hx with rfl | rfl | rfl <;> rcases hy with rfl | rfl | rfl <;> decide
theorem eqv_str (x y : Str) : PyData.eqv (.str x) (.str y) = decide (x = y) := by
  simp only [PyData.eqv]
  by_cases e : x = y
  · subst e; simp
  · simp [e]
theorem lt_words : ∀ {xs ys : List Str}, xs.length = ys.length → (∀ x ∈ xs, IsW x) → (∀ y ∈ ys, IsW y) → rowLt (xs.map .str) (ys.map .str) = HT.lexLt (xs.map codeW) (ys.map codeW)
  | [], [], _, _, _ => by
    have e : rowLt [] [] = false := lex_irrefl _
    simp [e, HT.lexLt]
  | [], _ :: _, h, _, _ => by cases h
  | _ :: _, [], h, _, _ => by cases h
  | x :: xs, y :: ys, hl, hx, hy => by
    have ih := lt_words (xs := xs) (ys := ys) (by simpa using hl) (fun z hz => hx z (List.mem_cons_of_mem _ hz)) (fun z hz => hy z (List.mem_cons_of_mem _ hz))
    have wx := hx x List.mem_cons_self
    have wy := hy y List.mem_cons_self
    rw [List.map_cons, List.map_cons, List.map_cons, List.map_cons, HT.lexLt_cons]
    unfold rowLt at ih ⊢
    rw [dataLt_cons (x := .str x) (y := .str y) (by simp [alike]), ih, eqv_str, lt_word wx wy]
    by_cases e : x = y
    · subst e; simp
    · have e2 : codeW x ≠ codeW y := fun z => e (codeW_inj wx wy z)
      simp [e, e2]
abbrev wLt (a b : List Str) : Bool := HT.lexLt (a.map codeW) (b.map codeW)
/-- the ascending one of the same effects -/
def srtW (ks : List (List Str)) : List (List Str) := ks.mergeSort fun a b => !wLt b a
theorem srtW_perm (ks : List (List Str)) : (srtW ks).Perm ks := List.mergeSort_perm _ _
theorem map_code_inj : ∀ {a b : List Str}, (∀ x ∈ a, IsW x) → (∀ x ∈ b, IsW x) → a.map codeW = b.map codeW → a = b
  | [], [], _, _, _ => rfl
  | [], _ :: _, _, _, h => by simp at h
  | _ :: _, [], _, _, h => by simp at h
  | x :: a, y :: b, ha, hb, h => by
    rw [List.map_cons, List.map_cons] at h
    obtain ⟨e1, e2⟩ := List.cons.inj h
    rw [codeW_inj (ha x List.mem_cons_self) (hb y List.mem_cons_self) e1, map_code_inj (fun z hz => ha z (List.mem_cons_of_mem _ hz)) (fun z hz => hb z (List.mem_cons_of_mem _ hz)) e2]
theorem permW_eq : ∀ {l1 l2 : List (List Str)}, (∀ k ∈ l1, ∀ x ∈ k, IsW x) → l1.Perm l2 → l1.Pairwise (fun a b => wLt b a = false) → l2.Pairwise (fun a b => wLt b a = false) → l1 = l2 := by
  intro l1
  induction l1 with
  | nil => intro l2 _ h _ _; exact (List.nil_perm.mp h).symm
  | cons x r ih =>
    intro l2 hw h h1 h2
    cases l2 with
    | nil => exact absurd h.symm (by simp)
    | cons y s =>
      rw [List.pairwise_cons] at h1 h2
      have wy : ∀ z ∈ y, IsW z := hw y (h.symm.subset List.mem_cons_self)
      have hxy : x = y := by
        have hx : x ∈ y :: s := h.subset List.mem_cons_self
        have hy : y ∈ x :: r := h.symm.subset List.mem_cons_self
        rcases List.mem_cons.mp hx with e | e
        · exact e
        · rcases List.mem_cons.mp hy with e' | e'
          · exact e'.symm
          · exact map_code_inj (hw x List.mem_cons_self) wy (lex_anti (h1.1 y e') (h2.1 x e))
      subst hxy
      rw [ih (fun k hk => hw k (List.mem_cons_of_mem _ hk)) (List.Perm.cons_inv h) h1.2 h2.2]
theorem srtW_up (ks : List (List Str)) : (srtW ks).Pairwise fun a b => wLt b a = false := by
  have := List.pairwise_mergeSort (le := fun a b : List Str => !wLt b a) (fun a b c h1 h2 => by simp at *; exact lex_trans h1 h2) (fun a b => by
    rcases lex_total (a.map codeW) (b.map codeW) with h | h <;> simp [h]) ks
  exact this.imp fun h => by simpa using h
section
variable {X : Cx} {pins : List (Addr × Obj)} {s : Shared} {σ : L2.St} {H : Hp}
theorem reads_strs {h : Heap} : ∀ {xs : List Str} {us : List Value}, Vals (xs.map V.str) us → ReadsAll h us (xs.map PyData.str) []
  | [], _, .nil => .nil
  | x :: xs, _, .cons rx rr => by
    obtain ⟨t, rfl⟩ := rx
    exact .cons (.str x t) (reads_strs rr)
theorem reads_ts {a : Addr} {xs : List Str} (I : Inv X pins σ H s) (h : SqT X.K H a (xs.map V.str)) : Reads s.heap (.ref a) (.tuple (xs.map PyData.str)) [] := by
  obtain ⟨its, rv, ⟨o, ho, hc, n, hd⟩, _⟩ := I.tuple h
  exact .tuple ho hc hd (reads_strs rv)
/-- what the tuples are: all of one length, not empty, of words -/
structure WT (K : PySem.W.Frag) (H : Hp) (n : Nat) (ts : List (Addr × List Str)) : Prop where
  sq : ∀ p ∈ ts, SqT K H p.1 (p.2.map V.str)
  len : ∀ p ∈ ts, p.2.length = n
  w : ∀ p ∈ ts, ∀ x ∈ p.2, IsW x
abbrev encW (q : Addr × List Str) : PyData := .tuple (q.2.map PyData.str)
theorem leW {n : Nat} {ts : List (Addr × List Str)} (W : WT X.K H n ts) {p q : Addr × List Str} (hp : p ∈ ts) (hq : q ∈ ts) : dataLe false encW p q = !wLt q.2 p.2 := by
  show (!dataLt (.tuple (q.2.map .str)) (.tuple (p.2.map .str))) = _
  rw [dataLt_tuple]
  show (!rowLt (q.2.map .str) (p.2.map .str)) = _
  rw [lt_words (by rw [W.len q hq, W.len p hp]) (W.w q hq) (W.w p hp)]
theorem mergeW {n : Nat} {ts : List (Addr × List Str)} (W : WT X.K H n ts) : (ts.mergeSort (dataLe false encW)).Perm ts ∧ (ts.mergeSort (dataLe false encW)).Pairwise fun p q => wLt q.2 p.2 = false := by
  have hp : (ts.mergeSort (dataLe false encW)).Perm ts := List.mergeSort_perm _ _
  have he : ts.mergeSort (dataLe false encW) = ts.mergeSort fun p q => !wLt q.2 p.2 := by
    have := List.map_mergeSort (r := dataLe false encW) (s := fun p q : Addr × List Str => !wLt q.2 p.2) (f := id) (l := ts) fun a ha b hb => leW W ha hb
    rwa [List.map_id, List.map_id] at this
  refine ⟨hp, ?_⟩
  rw [he]
  have := List.pairwise_mergeSort (le := fun p q : Addr × List Str => !wLt q.2 p.2) (fun a b c h1 h2 => by simp at *; exact lex_trans h1 h2) (fun a b => by rcases lex_total (a.2.map codeW) (b.2.map codeW) with h | h <;> simp [h]) ts
  exact this.imp fun h => by simpa using h
theorem eachs_of {R : Value → Addr × List Str → Prop} : ∀ (l : List (Addr × List Str)), (∀ q ∈ l, R (.ref q.1) q) → EachIs R (l.map fun q => Value.ref q.1) l
  | [], _ => .nil
  | q :: l, h => .cons (h q List.mem_cons_self) (eachs_of l fun r hr => h r (List.mem_cons_of_mem _ hr))
theorem eachs_eq : ∀ {out : List Value} {l : List (Addr × List Str)}, EachIs (fun v q => v = Value.ref q.1) out l → out = l.map fun q => Value.ref q.1
  | _, _, .nil => rfl
  | _, _, .cons e t => by rw [e, eachs_eq t]; rfl
theorem refs_vals (l : List (Addr × List Str)) : Vals (l.map fun q => V.ref q.1) (l.map fun q => Value.ref q.1) := by
  induction l with
  | nil => exact .nil
  | cons q l ih => exact .cons rfl ih
theorem vals_refs' : ∀ {l : List (Addr × List Str)} {us : List Value}, Vals (l.map fun q => V.ref q.1) us → us = l.map fun q => Value.ref q.1
  | [], _, .nil => rfl
  | q :: l, _, .cons rx rr => by rw [vals_refs' rr]; cases rx; rfl
def rSortTW (K : PySem.W.Frag) : List V → Hp → VK → Prop := fun vs H Q => ∃ (a : Addr) (ts : List (Addr × List Str)) (n : Nat), vs = [V.ref a] ∧ SqL K H a (ts.map fun q => V.ref q.1) ∧ WT K H n ts ∧ 0 < n ∧
  ∀ (ts' : List (Addr × List Str)) (p : Addr), ts'.Perm ts → ts'.Pairwise (fun p q => wLt q.2 p.2 = false) → H p = none → Q (.ref p) (upd H p (.lst (ts'.map fun q => V.ref q.1)))
theorem hal_W (l : List (Addr × List Str)) : AllAlike (l.map encW) := fun d hd d' hd' => by
  obtain ⟨t, _, rfl⟩ := List.mem_map.mp hd
  obtain ⟨t', _, rfl⟩ := List.mem_map.mp hd'
  have key : ∀ xs ys : List Str, alikeAll (xs.map PyData.str) (ys.map PyData.str) = true := fun xs => by
    induction xs with
    | nil => intro ys; simp [alikeAll]
    | cons x xs ih => intro ys; cases ys with
      | nil => simp [alikeAll]
      | cons y ys => simp [alikeAll, alike, ih ys]
  show alike (.tuple _) (.tuple _) = true
  simp only [alike]
  exact key _ _
theorem hk_W {n : Nat} {l : List (Addr × List Str)} (W : WT X.K H n l) (hn : 0 < n) : Sortable (l.map encW) := .inl fun d hd => by
  obtain ⟨t, ht, rfl⟩ := List.mem_map.mp hd
  have := W.len t ht
  cases e : t.2 with
  | nil => rw [e] at this; simp at this; omega
  | cons x r => exact ⟨.str x, r.map PyData.str, by show encW t = _; unfold encW; rw [e]; rfl⟩
theorem depth_W (xs : List Str) : (PyData.tuple (xs.map PyData.str)).depth = 1 := by
  have key : ∀ xs : List Str, PyData.depthAll (xs.map PyData.str) = 0 := fun xs => by
    induction xs with
    | nil => rfl
    | cons x xs ih => simp [PyData.depthAll, PyData.depth, ih]
  simp only [PyData.depth, key]
theorem cr_sortTW (hu : X.A.units + 64 < cLine) : CallR X (.builtin "sorted") (rSortTW X.K) := by
  intro pins s σ H vs us Q I r h
  obtain ⟨a, ts, n, rfl, hs, W, hn, q⟩ := h
  obtain ⟨its, rv, hl, hz⟩ := I.list hs
  rw [Vals.ref1 r]
  have ei := vals_refs' rv
  have e1 : EachIs (fun v (q : Addr × List Str) => v = Value.ref q.1) its ts := by rw [ei]; exact eachs_of ts fun _ _ => rfl
  have er : EachIs (fun v (q : Addr × List Str) => ∃ as, Reads s.heap v (encW q) as) its ts := by rw [ei]; exact eachs_of ts fun q hq => ⟨[], reads_ts I (W.sq q hq)⟩
  refine sorted_data (enc := encW) hl.isList e1 er (hal_W ts) (hk_W W hn) (by rw [List.length_map] at hz; exact hz) (fun b hb => ?_) fun out ol oe => ?_
  · show X.A.units + 2 + (PyData.tuple (b.2.map PyData.str)).depth < cLine
    rw [depth_W]; omega
  · obtain ⟨m1, m2⟩ := mergeW W
    have eo := eachs_eq oe
    generalize ts.mergeSort (dataLe false encW) = ts' at m1 m2 eo
    have hl2 : (ts'.map fun q => V.ref q.1).length ≤ sizeLine := by
      rw [List.length_map, m1.length_eq]; rw [List.length_map] at hz; exact hz
    obtain ⟨c, hc⟩ := sortedAll_at s.heap its out.toArray
    exact ⟨.ref (s.heap.objs.size + 1), upd H _ (.lst (ts'.map fun q => V.ref q.1)), I.laid (t' := s.toks) (fun b o e => sortedAll_old e) (Nat.le_succ _) ⟨hl2, out, c, by rw [eo]; exact refs_vals ts', hc⟩, rfl, q _ _ m1 m2 (I.hok.fresh (Nat.le_succ _))⟩
end
end Pr
namespace Pr
open PySem PySem.Spec PyProof.Rows L2
def unS (k : List Key) : List Str := k.map fun x => match x with | .inr s => s | .inl _ => wSame
theorem unS_kStr (l : List Str) : unS (kStr l) = l := by unfold unS kStr; rw [List.map_map]; exact List.map_id l
def stepE (pan : List (List Int)) (k : List Key) (b : Nat) : List Key := kStr (joinM (unS k) (pressW pan (b : Int)))
/-- keys that are effects of rows -/
def PKe (pan : List (List Int)) (k : List Key) : Prop := ∃ r, InRow pan r ∧ k = kStr (effM pan r)
theorem eff_snoc {pan : List (List Int)} (g : Good pan) {b : Nat} (hb : b < pan.length) (r : List Int) : effM pan (r ++ [(b : Int)]) = joinM (effM pan r) (pressW pan (b : Int)) := by
  rw [eff_app, eff_one g (by omega) (by omega)]
theorem stepE_eff {pan : List (List Int)} (g : Good pan) {b : Nat} (hb : b < pan.length) (r : List Int) : stepE pan (kStr (effM pan r)) b = kStr (effM pan (r ++ [(b : Int)])) := by
  unfold stepE
  rw [unS_kStr, eff_snoc g hb]
theorem inRow_snoc {pan : List (List Int)} {r : List Int} {b : Nat} (h : InRow pan r) (hb : b < pan.length) : InRow pan (r ++ [(b : Int)]) := fun y hy => by
  rcases List.mem_append.mp hy with h1 | h1
  · exact h y h1
  · rw [List.mem_singleton.mp h1]; omega
theorem pke_step {pan : List (List Int)} (g : Good pan) {k : List Key} {b : Nat} (h : PKe pan k) (hb : b < pan.length) : PKe pan (stepE pan k b) := by
  obtain ⟨r, hr, rfl⟩ := h
  exact ⟨_, inRow_snoc hr hb, stepE_eff g hb r⟩
theorem few_e {pan : List (List Int)} {m : Nat} {ks : List (List Key)} (nd : ks.Nodup) (h : ∀ k ∈ ks, PKe pan k) (hm : pan.length ≤ m) : ks.length ≤ 3 ^ m := by
  have := few_of (b := 3) (n := pan.length) (P := fun k => ∃ r, k = kStr (effM pan r)) (dig := digW) (ks := ks) (fun k i _ _ => by
    unfold digW
    repeat' split
    all_goals omega) (fun k k' hk hk' hh => ?_) nd (fun k hk => by
      obtain ⟨r, _, e⟩ := h k hk
      exact ⟨r, e⟩)
  · exact Nat.le_trans this (Nat.pow_le_pow_right (by decide) hm)
  · obtain ⟨r, rfl⟩ := hk
    obtain ⟨r', rfl⟩ := hk'
    congr 1
    refine eff_ext fun c hc => ?_
    have := hh c hc
    unfold digW kStr at this
    rw [List.getElem?_map, List.getElem?_map, eff_get hc, eff_get hc] at this
    simp only [Option.map_some] at this
    rcases word3 pan (c : Int) r with a | a | a <;> rcases word3 pan (c : Int) r' with a' | a' | a' <;> rw [a, a'] at this ⊢
    all_goals (exfalso; revert this; decide +kernel)
theorem bfs_fewE {pan : List (List Int)} (g : Good pan) {m : Nat} (hm : pan.length ≤ m) {k : List Key} (h : PKe pan k) (i : Nat) : (bfsN (stepE pan) pan.length k i).length ≤ 3 ^ m := by
  have := few_e (pan := pan) (m := m) (bfs_nd (step := stepE pan) (n := pan.length) (s := k) i) (fun k' hk' => by
    obtain ⟨x, hx, rfl⟩ := List.mem_map.mp hk'
    exact bfs_all (P := PKe pan) h (fun k b hk hb => pke_step g hk hb) i x hx) hm
  rwa [List.length_map] at this
/-- all effects, in the order in which the search finds them -/
def effsM (pan : List (List Int)) : List (List Str) := (bfsN (stepE pan) pan.length (kStr (effM pan [])) 2187).map fun x => unS x.1
theorem pke0 (pan : List (List Int)) : PKe pan (kStr (effM pan [])) := ⟨[], (fun _ h => by cases h), rfl⟩
theorem effs_key {pan : List (List Int)} (g : Good pan) : ∀ x ∈ bfsN (stepE pan) pan.length (kStr (effM pan [])) 2187, PKe pan x.1 := bfs_all (P := PKe pan) (pke0 pan) (fun k b hk hb => pke_step g hk hb) 2187
theorem effs_nd {pan : List (List Int)} (g : Good pan) : (effsM pan).Nodup := by
  have nd := bfs_nd (step := stepE pan) (n := pan.length) (s := kStr (effM pan [])) 2187
  unfold effsM
  rw [List.nodup_iff_pairwise_ne, List.pairwise_map] at nd ⊢
  refine List.Pairwise.imp_of_mem (fun {a b} ha hb h e => h ?_) nd
  obtain ⟨r, _, er⟩ := effs_key g a ha
  obtain ⟨r', _, er'⟩ := effs_key g b hb
  rw [er, er', unS_kStr, unS_kStr] at e
  rw [er, er', e]
theorem effs_mem {pan : List (List Int)} (g : Good pan) (h7 : pan.length ≤ 7) {e : List Str} : e ∈ effsM pan ↔ ∃ r, InRow pan r ∧ e = effM pan r := by
  constructor
  · intro h
    obtain ⟨x, hx, rfl⟩ := List.mem_map.mp h
    obtain ⟨r, hr, er⟩ := effs_key g x hx
    exact ⟨r, hr, by rw [er, unS_kStr]⟩
  · rintro ⟨r, hr, rfl⟩
    have key : ∀ r : List Int, InRow pan r → kStr (effM pan r) ∈ keysB (bfsN (stepE pan) pan.length (kStr (effM pan [])) 2187) := fun r => by
      refine snoc_ind (P := fun r => InRow pan r → kStr (effM pan r) ∈ keysB (bfsN (stepE pan) pan.length (kStr (effM pan [])) 2187)) (fun _ => ?_) (fun r b ih hr => ?_) r
      · obtain ⟨u, hu⟩ := bfs_pre (step := stepE pan) (n := pan.length) (s := kStr (effM pan [])) (Nat.zero_le 2187)
        rw [← hu]
        unfold keysB; rw [List.map_append]
        exact List.mem_append_left _ (List.mem_singleton.mpr rfl)
      · have hr' : InRow pan r := fun y hy => hr y (List.mem_append_left _ hy)
        have hb := hr b (List.mem_append_right _ (List.mem_singleton.mpr rfl))
        obtain ⟨c, rfl⟩ : ∃ c : Nat, b = (c : Int) := ⟨b.toNat, (Int.toNat_of_nonneg hb.1).symm⟩
        obtain ⟨x, hx, ex⟩ := List.mem_map.mp (ih hr')
        have := bfs_closed (step := stepE pan) (n := pan.length) (s := kStr (effM pan [])) (M := 2187) (bfs_fewE g (m := 7) h7 (pke0 pan) 2187) x hx c (by omega)
        rw [ex, stepE_eff g (by omega)] at this
        exact this
    obtain ⟨x, hx, ex⟩ := List.mem_map.mp (key r hr)
    exact List.mem_map.mpr ⟨x, hx, by rw [ex, unS_kStr]⟩
theorem effs_w {pan : List (List Int)} (g : Good pan) : ∀ e ∈ effsM pan, e.length = pan.length ∧ ∀ x ∈ e, IsW x := fun e he => by
  obtain ⟨x, hx, rfl⟩ := List.mem_map.mp he
  obtain ⟨r, hr, er⟩ := effs_key g x hx
  rw [er, unS_kStr]
  exact ⟨effM_len pan r, fun x hx => eff3 hx⟩
end Pr
namespace K09
open PySem PySem.Spec PyProof.Rows L2 Pr
def shM (f : Nat) (pan : List (List Int)) : List (List Int) := pan.map fun l => l.map fun x => (f : Int) + x
def besM (ps : List (List (List Int))) : List (List Int) := ps.foldl (fun acc p => acc ++ shM acc.length p) []
def totM (ps : List (List (List Int))) : Nat := (ps.map List.length).sum
theorem bes_len_aux (ps : List (List (List Int))) : ∀ acc : List (List Int), (ps.foldl (fun acc p => acc ++ shM acc.length p) acc).length = acc.length + totM ps := by
  induction ps with
  | nil => intro acc; rfl
  | cons p ps ih =>
    intro acc
    rw [List.foldl_cons, ih, List.length_append]
    unfold shM totM
    rw [List.length_map, List.map_cons, List.sum_cons]; omega
theorem bes_len (ps : List (List (List Int))) : (besM ps).length = totM ps := by
  have := bes_len_aux ps []
  unfold besM; rw [this]; simp
theorem bes_take {ps : List (List (List Int))} {k : Nat} {p : List (List Int)} (h : ps[k]? = some p) : besM (ps.take (k + 1)) = besM (ps.take k) ++ shM (besM (ps.take k)).length p := by
  unfold besM
  rw [List.take_add_one, h]
  simp only [Option.toList_some, List.foldl_append, List.foldl_cons, List.foldl_nil]
theorem tot_take (ps : List (List (List Int))) (k : Nat) : totM (ps.take k) ≤ totM ps := by
  have e : totM ps = totM (ps.take k) + totM (ps.drop k) := by
    unfold totM
    rw [← List.sum_append, ← List.map_append, List.take_append_drop]
  omega
/-- panels that are not large -/
structure OkPs (ps : List (List (List Int))) : Prop where
  few : ps.length ≤ 11
  sh : ∀ p ∈ ps, p.length ≤ 10 ∧ ∀ l ∈ p, l.length ≤ 10
theorem tot_le : ∀ {ps : List (List (List Int))}, (∀ p ∈ ps, p.length ≤ 10 ∧ ∀ l ∈ p, l.length ≤ 10) → totM ps ≤ 10 * ps.length
  | [], _ => Nat.le_refl _
  | p :: ps, h => by
    have h1 := (h p List.mem_cons_self).1
    have h2 := tot_le (ps := ps) fun q hq => h q (List.mem_cons_of_mem _ hq)
    unfold totM at h2 ⊢
    rw [List.map_cons, List.sum_cons, List.length_cons]; omega
theorem lf_pans (ps : List (List (List Int))) : lfAll (ps.map dPan) = true := lfAll_of fun d hd => by
  obtain ⟨p, _, rfl⟩ := List.mem_map.mp hd
  exact lf_pan p
theorem lf_rowsP (p : List (List Int)) : lfAll (p.map dInts) = true := lfAll_of fun d hd => by
  obtain ⟨l, _, rfl⟩ := List.mem_map.mp hd
  exact lf_ints l
theorem sum_cast (ps : List (List (List Int))) : (ps.map fun p => ((p.map dInts).length : Int)).sum = (totM ps : Int) := by
  induction ps with
  | nil => rfl
  | cons p ps ih =>
    unfold totM at ih ⊢
    rw [List.map_cons, List.sum_cons, ih, List.map_cons, List.sum_cons, List.length_map]; omega
theorem gv_sum {K : PySem.W.Frag} {σ : L2.St} {H : Hp} {t : TE} {ns : List Int} (h : Gv K t σ H (.list (ns.map PyData.int))) : Gv K (tCB (rSum K) (tCons t tNil)) σ H (.int ns.sum) :=
  gv_cb (gva_cons h gva_nil) fun vs H1 Q s hd q => by
    obtain ⟨v, rfl, hv⟩ := dpAll1 hd
    obtain ⟨a, xs, rfl, hq, hr⟩ := hv.lstI
    rw [dpAll_intsV hr] at hq
    exact ⟨a, ns, rfl, hq, q _ _ (Same.refl _) (.int _)⟩
theorem gv_gt {K : PySem.W.Frag} {σ : L2.St} {H : Hp} {ta tb : TE} {i j : Int} (ha : Gv K ta σ H (.int i)) (hb : Gv K tb σ H (.int j)) : Gv K (tOp (rI0 fun i j => .bl (decide (j < i))) ta tb) σ H (.bool (decide (j < i))) := gv_I0 ha hb fun _ => .bl _
theorem gs_retQ {σ : L2.St} {H : Hp} {t : TE} {D : Ends} (h : t σ H D.rt) : tRet t D σ H := h
theorem step_with {P : Program} {w : World} {K : PySem.W.Frag} {mg : Str → Option Value} {base : Heap} {pan : List (List Int)} (hg : Good pan) {fW : Addr} {fdW : FuncData} {k : Nat} {ps : List Str} (G : FnOk P w K mg base CX0 (k + 1) fW fdW ps (spWith K)) : FnOk P w K mg base CX0 (k + 1) fW fdW ps (spStep K (.tuple (pan.map dInts)) (pan.map dInts).length (PKe pan) (stepE pan)) :=
  G.imp fun vs H Q E h => by
    obtain ⟨v, a, ks, b, rfl, dp, ea, hb, ⟨r, hr, rfl⟩, q⟩ := h
    rw [List.length_map] at hb
    rw [kStr_kV] at ea
    obtain ⟨p, rfl, hp⟩ := panT_dp dp
    exact ⟨p, a, pan, effM pan r, (b : Int), rfl, hp, hg, .inl (.inl ea), effM_len pan r, by omega, by omega, fun H' u s eu => q H' u s (by rw [eu]; unfold stepE; rw [unS_kStr, kStr_kV])⟩
theorem keys_ts {H : Hp} : ∀ (kvs : List (List Key × V)) (bs : List Addr) (ks : List (List Str)), IsKeys H kvs bs → kvs.map (·.1) = ks.map kStr → ∃ ts : List (Addr × List Str), ts.map (·.1) = bs ∧ ts.map (·.2) = ks ∧ ∀ q ∈ ts, H q.1 = some (.tup (q.2.map V.str))
  | [], _, [], h, _ => by cases h; exact ⟨[], rfl, rfl, fun _ h => by cases h⟩
  | [], _, _ :: _, _, e => by simp at e
  | _ :: _, _, [], _, e => by simp at e
  | x :: kvs, _, k :: ks, h, e => by
    rw [List.map_cons, List.map_cons] at e
    obtain ⟨e1, e2⟩ := List.cons.inj e
    cases h with
    | cons hb hr =>
      rename_i b bs'
      obtain ⟨ts, a1, a2, a3⟩ := keys_ts kvs _ ks hr e2
      refine ⟨(b, k) :: ts, by rw [List.map_cons, a1], by rw [List.map_cons, a2], fun q hq => ?_⟩
      rcases List.mem_cons.mp hq with rfl | hq
      · dsimp only at hb ⊢
        rw [hb, e1, kStr_kV]
      · exact a3 q hq
theorem effs_zip {pan : List (List Int)} (g : Good pan) {vs : List V} (hl : vs.length = (bfsN (stepE pan) pan.length (kStr (effM pan [])) 2187).length) : (((bfsN (stepE pan) pan.length (kStr (effM pan [])) 2187).map (·.1)).zip vs).map (·.1) = (effsM pan).map kStr := by
  rw [List.map_fst_zip (by rw [List.length_map, hl]; exact Nat.le_refl _)]
  unfold effsM
  rw [List.map_map]
  refine List.map_congr_left fun x hx => ?_
  obtain ⟨r, _, e⟩ := effs_key g x hx
  show x.1 = kStr (unS x.1)
  rw [e, unS_kStr]
def nAllE : List Str := ["panel"]
theorem scAllE : FnScope nAllE ["panel"] (defScope sAllE) := ⟨rfl, rfl, rfl, by decide +kernel, rfl, by decide +kernel, by decide +kernel⟩
section
variable {P : Program} {w : World} {K : PySem.W.Frag} {mg : Str → Option Value} {base : Heap}
def spAllE (K : PySem.W.Frag) : Sp := fun vs H Q _ => ∃ (v : V) (pan : List (List Int)), vs = [v] ∧ Dp K H v (dPan pan) ∧ Good pan ∧ pan.length ≤ 7 ∧
  ∀ (H' : Hp) (T : Addr) (ts : List (Addr × List Str)), Same H H' → H' T = some (.tup (ts.map fun q => V.ref q.1)) → (∀ q ∈ ts, H' q.1 = some (.tup (q.2.map V.str))) → ts.map (·.2) = srtW (effsM pan) → Q (.ref T) H'
theorem ok_AllE {fRows : Addr} {fdRows : FuncData} {fNo : Addr} {fdNo : FuncData} {fPressE : Addr} {fdPressE : FuncData} {fJoin : Addr} {fdJoin : FuncData} {fWith : Addr} {fdWith : FuncData} {f : Addr} {fd : FuncData} {k : Nat} (F : Fun K "all_effects" "all_effects" sAllE f fd)
    (FRows : Fun K "shortest_rows" "shortest_rows" sRows fRows fdRows) (bRows : Binds K fdRows ["panel", "first", "step"] []) (gRows : mg "shortest_rows" = some (.ref fRows))
    (FNo : Fun K "no_effect" "no_effect" sNo fNo fdNo) (bNo : Binds K fdNo ["panel"] []) (gNo : mg "no_effect" = some (.ref fNo))
    (FPressE : Fun K "press_effect" "press_effect" sPressE fPressE fdPressE) (bPressE : Binds K fdPressE ["panel", "button"] []) (gPressE : mg "press_effect" = some (.ref fPressE))
    (FJoin : Fun K "joined_effect" "joined_effect" sJoin fJoin fdJoin) (bJoin : Binds K fdJoin ["first", "second"] []) (gJoin : mg "joined_effect" = some (.ref fJoin))
    (FWith : Fun K "effect_with_press" "effect_with_press" sWith fWith fdWith) (bWith : Binds K fdWith ["panel", "effect", "button"] []) (gWith : mg "effect_with_press" = some (.ref fWith))
    (m_len : mg "len" = none) (m_list : mg "list" = none) (m_range : mg "range" = none) (m_sorted : mg "sorted" = none) (m_tuple : mg "tuple" = none) (m_zip : mg "zip" = none) {tkS : Tok} (y_SMALL_BUTTONS : mg "SMALL_BUTTONS" = some (.int 7 tkS)) : FnOk P w K mg base CX0 (k + 5) f fd ["panel"] (spAllE K) := by
  have GNo : FnOk P w K mg base CX0 (k + 1) fNo fdNo ["panel"] (spNo K) := ok_no FNo m_len
  have GWith : FnOk P w K mg base CX0 (k + 3) fWith fdWith ["panel", "effect", "button"] _ := ok_with FWith FNo bNo gNo FPressE bPressE gPressE FJoin bJoin gJoin m_len m_list m_tuple m_zip
  refine F.ok scAllE (fun vs H Q E h => ?_) (fun cdv A outer s H vs Q E hr h => ?_)
  · obtain ⟨v, pan, rfl, _⟩ := h
    rfl
  · obtain ⟨v, pan, rfl, dv, hg, h7, q⟩ := h
    obtain ⟨p, rfl, hp⟩ := panT_dp dv
    have hl : (pan.map dInts).length = pan.length := List.length_map _
    have GR : FnOk P w K mg base CX0 (k + 4) fRows fdRows ["panel", "first", "step"] (spRows K fWith (pan.map dInts) (PKe pan) (stepE pan) 2187) := ok_Rows FRows (step_with hg GWith) FWith.kp bWith m_len m_range (by omega) (lfAll_of fun d hd => by obtain ⟨l, _, rfl⟩ := List.mem_map.mp hd; exact lf_ints l) (fun k b hk hb => pke_step hg hk (by rw [hl] at hb; exact hb)) (by decide) (fun k i hk => by rw [hl]; exact bfs_fewE hg (m := 7) h7 hk i)
    refine ⟨_, pss_cons (ps_if (pt_cmpR op_gt (pe_callB (show CallR _ _ (rLenG K) from cr_lenG) (by rfl) m_len PySem.boot_len (pa_cons (pv 0) pa_nil)) (pe_glob (v := .int 7) (by rfl) y_SMALL_BUTTONS ⟨_, rfl⟩) (nomark _)) (pss_one ps_never) pss_nil)
      (pss_one (ps_ret (pe_callTy (show CallR _ _ (rTupG K) from cr_tupG) (by rfl) m_tuple (by decide +kernel) (pa_cons (pe_callB (show CallR _ _ (rSortTW K) from cr_sortTW hr.units) (by rfl) m_sorted (by decide +kernel) (pa_cons (pe_callTy (show CallR _ _ (rListT K) from cr_listT (by rfl)) (by rfl) m_list (by decide +kernel)
        (pa_cons (pe_call GR (hr.mono (by omega)) (by rfl) gRows FRows.kp bRows .nil pass0 (pa_cons (pv 0) (pa_cons (pe_call GNo (hr.mono (by omega)) (by rfl) gNo FNo.kp bNo .nil pass0 (pa_cons (pv 0) pa_nil)) (pa_cons (pe_glob (v := .ref fWith) (by rfl) gWith rfl) pa_nil)))) pa_nil)) pa_nil)) pa_nil)))), ?_⟩
    refine gs_no (gvt_test (K := K) (gv_gt (gv_lenT (gv_var (i := 0) rfl dv)) gv_int)) (decide_eq_false (by rw [List.length_map]; omega)) fun H1 s1 => ?_
    refine gs_retQ ⟨.ref p, rfl, .ref p, rfl, p, pan, rfl, hp.same s1, hg, fun H2 t0 s2 et0 => ⟨.ref p, t0, kStr (effM pan []), rfl, (hp.same (s1.trans s2)).dp, by rw [kStr_kV]; exact et0, pke0 pan, fun H3 dd s3 nd hd => ?_⟩⟩
    rw [List.length_map] at hd
    obtain ⟨vs, ed, dvs⟩ := hd
    have lv : vs.length = (bfsN (stepE pan) pan.length (kStr (effM pan [])) 2187).length := by rw [dvs.length, List.length_map]
    refine ⟨dd, _, rfl, .inl ed, fun L0 bs nL hb => ?_⟩
    obtain ⟨ts, h1, h2, h3⟩ := keys_ts _ bs _ hb (effs_zip hg lv)
    have sL : Same H3 (upd H3 L0 (.lst (bs.map V.ref))) := same_new nL
    have hw := effs_w hg
    have mem2 : ∀ q ∈ ts, q.2 ∈ effsM pan := fun q hq => by rw [← h2]; exact List.mem_map.mpr ⟨q, hq, rfl⟩
    refine ⟨L0, ts, pan.length, rfl, .inl (.inl (by rw [upd_same, ← h1, List.map_map]; rfl)), ⟨fun q hq => .inl (.inl (sL _ _ (h3 q hq))), fun q hq => (hw _ (mem2 q hq)).1, fun q hq => (hw _ (mem2 q hq)).2⟩, hg.pos, fun ts' p' pm pw np => ?_⟩
    have sp' := same_new (o := HO.lst (ts'.map fun q => V.ref q.1)) np
    refine ⟨p', _, rfl, .inl ⟨.inl (.inl upd_same), fun T nT => ?_⟩⟩
    have sT := same_new (o := HO.tup (ts'.map fun q => V.ref q.1)) nT
    refine q _ T ts' ((s1.trans (s2.trans s3)).trans (sL.trans (sp'.trans sT))) upd_same (fun q hq => sT _ _ (sp' _ _ (sL _ _ (h3 q (pm.subset hq))))) ?_
    have pm2 : (ts'.map (·.2)).Perm (effsM pan) := by rw [← h2]; exact pm.map _
    exact permW_eq (fun k hk => (hw k (pm2.subset hk)).2) (pm2.trans (srtW_perm _).symm) (List.pairwise_map.mpr pw) (srtW_up _)
end
def nCnt : List Str := ["panel"]
theorem scCnt : FnScope nCnt ["panel"] (defScope sCnt) := ⟨rfl, rfl, rfl, by decide +kernel, rfl, by decide +kernel, by decide +kernel⟩
section
variable {P : Program} {w : World} {K : PySem.W.Frag} {mg : Str → Option Value} {base : Heap}
def spCnt (K : PySem.W.Frag) : Sp := fun vs H Q _ => ∃ (v : V) (pan : List (List Int)), vs = [v] ∧ Dp K H v (dPan pan) ∧ Good pan ∧ pan.length ≤ 7 ∧ ∀ (H' : Hp), Same H H' → Q (.int ((effsM pan).length : Nat)) H'
theorem ok_Cnt {fRows : Addr} {fdRows : FuncData} {fNo : Addr} {fdNo : FuncData} {fPressE : Addr} {fdPressE : FuncData} {fJoin : Addr} {fdJoin : FuncData} {fWith : Addr} {fdWith : FuncData} {fAllE : Addr} {fdAllE : FuncData} {f : Addr} {fd : FuncData} {k : Nat} (F : Fun K "count_effects" "count_effects" sCnt f fd)
    (FRows : Fun K "shortest_rows" "shortest_rows" sRows fRows fdRows) (bRows : Binds K fdRows ["panel", "first", "step"] []) (gRows : mg "shortest_rows" = some (.ref fRows))
    (FNo : Fun K "no_effect" "no_effect" sNo fNo fdNo) (bNo : Binds K fdNo ["panel"] []) (gNo : mg "no_effect" = some (.ref fNo))
    (FPressE : Fun K "press_effect" "press_effect" sPressE fPressE fdPressE) (bPressE : Binds K fdPressE ["panel", "button"] []) (gPressE : mg "press_effect" = some (.ref fPressE))
    (FJoin : Fun K "joined_effect" "joined_effect" sJoin fJoin fdJoin) (bJoin : Binds K fdJoin ["first", "second"] []) (gJoin : mg "joined_effect" = some (.ref fJoin))
    (FWith : Fun K "effect_with_press" "effect_with_press" sWith fWith fdWith) (bWith : Binds K fdWith ["panel", "effect", "button"] []) (gWith : mg "effect_with_press" = some (.ref fWith))
    (FAllE : Fun K "all_effects" "all_effects" sAllE fAllE fdAllE) (bAllE : Binds K fdAllE ["panel"] []) (gAllE : mg "all_effects" = some (.ref fAllE))
    (m_len : mg "len" = none) (m_list : mg "list" = none) (m_range : mg "range" = none) (m_sorted : mg "sorted" = none) (m_tuple : mg "tuple" = none) (m_zip : mg "zip" = none) {tkS : Tok} (y_SMALL_BUTTONS : mg "SMALL_BUTTONS" = some (.int 7 tkS)) : FnOk P w K mg base CX0 (k + 6) f fd ["panel"] (spCnt K) := by
  have GAllE : FnOk P w K mg base CX0 (k + 5) fAllE fdAllE ["panel"] (spAllE K) := ok_AllE FAllE FRows bRows gRows FNo bNo gNo FPressE bPressE gPressE FJoin bJoin gJoin FWith bWith gWith m_len m_list m_range m_sorted m_tuple m_zip y_SMALL_BUTTONS
  refine F.ok scCnt (fun vs H Q E h => ?_) (fun cdv A outer s H vs Q E hr h => ?_)
  · obtain ⟨v, pan, rfl, _⟩ := h
    rfl
  · obtain ⟨v, pan, rfl, dv, hg, h7, q⟩ := h
    refine ⟨_, pss_one (ps_ret (pe_callB (show CallR _ _ (rLenG K) from cr_lenG) (by rfl) m_len PySem.boot_len (pa_cons (pe_call GAllE (hr.mono (by omega)) (by rfl) gAllE FAllE.kp bAllE .nil pass0 (pa_cons (pv 0) pa_nil)) pa_nil))), ?_⟩
    refine gs_retQ ⟨v, rfl, v, pan, rfl, dv, hg, h7, fun H1 T ts s1 eT _ ets => ⟨T, _, rfl, .inr (.inl (.inl eT)), ?_⟩⟩
    have : (ts.map fun q => V.ref q.1).length = (effsM pan).length := by
      have := congrArg List.length ets
      rw [List.length_map, (srtW_perm _).length_eq] at this
      rw [List.length_map, this]
    rw [this]
    exact q H1 s1
end
end K09
namespace Pr
open PySem PySem.Spec PyProof.Rows L2 PpSet
end Pr
namespace Pr
open PySem PySem.Spec PyProof.Rows L2 PySem.W
end Pr
namespace Pr
open PySem PySem.Spec PyProof.Rows L2 PpSet
/-- a term gives a plain tuple of ints -/
def GvP (t : TE) (σ : L2.St) (H : Hp) (l : List Int) : Prop := ∀ H1, Same H H1 → ∀ Q : VK, (∀ a H', Same H1 H' → H' a = some (.tup (l.map V.int)) → Q (.ref a) H') → t σ H1 Q
theorem GvP.at {t : TE} {σ : L2.St} {H : Hp} {l : List Int} {Q : VK} (h : GvP t σ H l) (q : ∀ a H', Same H H' → H' a = some (.tup (l.map V.int)) → Q (.ref a) H') : t σ H Q := h H (Same.refl _) Q q
end Pr
namespace Pr
open PySem PySem.Spec PyProof.Rows L2 PpSet PySem.W
end Pr
namespace Pr
open PySem PySem.Spec PyProof.Rows L2
end Pr
namespace Pr
open PySem PySem.Spec PyProof.Rows L2
def UseF (pan : List (List Int)) (v : List Str) (t : List Int) (x : Nat) : Prop := effM pan ((x : Int) :: t) ≠ effM pan t ∧ partB (effM pan ((x : Int) :: t)) v = true
inductive Gr (pan : List (List Int)) (v : List Str) : List Int → Prop
  | nil : Gr pan v []
  | cons {t : List Int} {b : Nat} (h : Gr pan v t) (ne : effM pan t ≠ v) (u : UseF pan v t b) (f : ∀ y : Nat, y < b → ¬ UseF pan v t y) : Gr pan v ((b : Int) :: t)
section
variable {pan : List (List Int)} {v : List Str}
theorem Gr.suf : ∀ (u : List Int), Gr pan v u → ∀ t, Gr pan v t → t.length ≤ u.length → ∃ s, u = s ++ t
  | [], _, t, _, hl => by
    cases t with
    | nil => exact ⟨[], rfl⟩
    | cons _ _ => exact absurd hl (by simp)
  | c :: u, hu, t, ht, hl => by
    cases hu with
    | cons h ne us f =>
      rcases Nat.lt_or_ge u.length t.length with hlt | hge
      · cases ht with
        | nil => exact absurd hlt (by simp)
        | cons h' ne' us' f' =>
          rename_i t' b' 
          obtain ⟨s, e⟩ := Gr.suf u h t' h' (by simp only [List.length_cons] at hl; omega)
          have hs : s = [] := by
            have := congrArg List.length e
            rw [List.length_append] at this
            simp only [List.length_cons] at hlt hl
            exact List.eq_nil_of_length_eq_zero (by omega)
          subst hs
          rw [List.nil_append] at e
          subst e
          rename_i b
          have : b = b' := by
            rcases Nat.lt_trichotomy b b' with h1 | h1 | h1
            · exact absurd us (f' b h1)
            · exact h1
            · exact absurd us' (f b' h1)
          subst this
          exact ⟨[], rfl⟩
      · obtain ⟨s, e⟩ := Gr.suf u h t ht hge
        subst e
        exact ⟨_ :: s, rfl⟩
theorem Gr.inner : ∀ (s : List Int) (t : List Int), s ≠ [] → Gr pan v (s ++ t) → effM pan t ≠ v
  | [], _, h, _ => absurd rfl h
  | [c], t, _, h => by
    cases h with
    | cons _ ne _ _ => exact ne
  | c :: d :: s, t, _, h => by
    cases h with
    | cons h _ _ _ => exact Gr.inner (d :: s) t (by simp) h
theorem Gr.uniq {t u : List Int} (ht : Gr pan v t) (et : effM pan t = v) (hu : Gr pan v u) (eu : effM pan u = v) : t = u := by
  rcases Nat.le_total t.length u.length with hl | hl
  · obtain ⟨s, e⟩ := Gr.suf u hu t ht hl
    by_cases hs : s = []
    · rw [e, hs]; rfl
    · exact absurd et (Gr.inner s t hs (e ▸ hu))
  · obtain ⟨s, e⟩ := Gr.suf t ht u hu hl
    by_cases hs : s = []
    · rw [e, hs]; rfl
    · exact absurd eu (Gr.inner s u hs (e ▸ ht))
end
end Pr
namespace Pr
open PySem PySem.Spec PyProof.Rows L2
theorem betM_len {least : List Int} : ∀ {most l : List Int}, l ∈ betM least most → l.length ≤ least.length + most.length
  | [], l, h => by rw [List.mem_singleton.mp h]; exact Nat.le_refl _
  | b :: r, l, h => by
    unfold betM at h
    dsimp only at h
    rw [List.length_cons]
    split at h
    · have := betM_len h; omega
    · rcases List.mem_append.mp h with h | h
      · have := betM_len h; omega
      · obtain ⟨k, hk, rfl⟩ := List.mem_map.mp h
        have := betM_len hk
        rw [(srt_perm _).length_eq, List.length_append, List.length_singleton]; omega
theorem betM_count {least : List Int} : ∀ most : List Int, (betM least most).length ≤ 2 ^ most.length
  | [] => Nat.le_refl _
  | b :: r => by
    have := betM_count (least := least) r
    unfold betM
    dsimp only
    rw [List.length_cons, Nat.pow_succ]
    split
    · omega
    · rw [List.length_append, List.length_map]; omega
theorem betM_head {least : List Int} : ∀ most : List Int, (betM least most).head? = some least
  | [] => rfl
  | b :: r => by
    have := betM_head (least := least) r
    unfold betM
    dsimp only
    split
    · exact this
    · rw [List.head?_append, this]; rfl
theorem betM_step {least r : List Int} {b : Int} (hb : b ∉ least) : betM least (b :: r) = betM least r ++ (betM least r).map fun l => srt (l ++ [b]) := by
  show (let s := betM least r; if b ∈ least then s else s ++ s.map fun l => srt (l ++ [b])) = _
  dsimp only
  rw [if_neg hb]
theorem betM_skip {least r : List Int} {b : Int} (hb : b ∈ least) : betM least (b :: r) = betM least r := by
  show (let s := betM least r; if b ∈ least then s else s ++ s.map fun l => srt (l ++ [b])) = _
  dsimp only
  rw [if_pos hb]
theorem betM_sortable (least most : List Int) : (∀ k ∈ betM least most, k ≠ []) ∨ (betM least most).head? = some [] := by
  cases least with
  | nil => exact .inr (betM_head _)
  | cons x r =>
    refine .inl fun k hk e => ?_
    have := (betM_sub hk).1 x List.mem_cons_self
    rw [e] at this; cases this
end Pr
namespace Pr
open PySem PySem.Spec PyProof.Rows L2
theorem held_ex {pan : List (List Int)} {st : List Int} (h0 : Hold pan st st) : ∃ hs, IsHeld pan st hs := by
  have key : ∀ (m : Nat) {hs : List Int}, hs.length ≤ m → Hold pan st hs → ∃ hs, IsHeld pan st hs := by
    intro m
    induction m with
    | zero =>
      intro hs hl h
      exact ⟨_, h.done (by omega)⟩
    | succ m ih =>
      intro hs hl h
      by_cases e : (hs.filter (relB pan hs)).length < hs.length
      · exact ih (by omega) h.step
      · exact ⟨_, h.done e⟩
  exact key st.length (Nat.le_refl _) h0
end Pr
namespace K09
open PySem PySem.Spec PyProof.Rows L2 Pr
theorem gs_seqS {t u : TS} {D : Ends} {σ : L2.St} {H : Hp} (J : L2.St → Hp → Prop) (hk : ∀ σ' H', J σ' H' → u D σ' H') (h : (∀ σ' H', J σ' H' → u D σ' H') → t { D with nx := u D } σ H) : tSeq t u D σ H := h hk
def nBetw : List Str := ["least", "most", "states", "button", "state"]
theorem scBetw : FnScope nBetw ["least", "most"] (defScope sBetw) := ⟨rfl, rfl, rfl, by decide +kernel, rfl, by decide +kernel, by decide +kernel⟩
section
variable {P : Program} {w : World} {K : PySem.W.Frag} {mg : Str → Option Value} {base : Heap}
def spBetw (K : PySem.W.Frag) : Sp := spP K (fun x : List Int × List Int => [dInts x.1, dInts x.2]) (fun x => x.1.length ≤ 10 ∧ x.2.length ≤ 10) (fun x => .tuple ((srtT (betM x.1 x.2.reverse)).map dInts))
theorem gv_Betw {σ : L2.St} {H : Hp} {t : TA} {E : XK} {least : List Int} {most : List Int} (h : GvA K t σ H [dInts least, dInts most]) (hc : least.length ≤ 10 ∧ most.length ≤ 10) : Gv K (tCall (spBetw K) [] E t) σ H (.tuple ((srtT (betM least most.reverse)).map dInts)) := gv_call (K := K) (δ := fun x : List Int × List Int => [dInts x.1, dInts x.2]) (C := fun x => x.1.length ≤ 10 ∧ x.2.length ≤ 10) (f := fun x => .tuple ((srtT (betM x.1 x.2.reverse)).map dInts)) (least, most) h hc
theorem ok_Betw  {f : Addr} {fd : FuncData} {k : Nat} (F : Fun K "states_between" "states_between" sBetw f fd)
    (m_sorted : mg "sorted" = none) (m_tuple : mg "tuple" = none) : FnOk P w K mg base CX0 (k + 1) f fd ["least", "most"] (spBetw K) := by
  refine F.ok scBetw (fun vs H Q E h => ?_) (fun cdv A outer s H vs Q E hr h => ?_)
  · obtain ⟨_, hd, _⟩ := h
    exact hd.length
  · obtain ⟨⟨least, most⟩, hd, hc, q⟩ := h
    obtain ⟨v1, v2, rfl, d1, d2⟩ := dpAll2 hd
    try dsimp only at hc
    try dsimp only at q
    try dsimp only at d1 d2
    refine ⟨_, pss_cons (ps_set (i := 2) scBetw.nd rfl (.inl rfl) (pe_lst (pa_cons (pv 0) pa_nil)))
      (pss_cons (ps_for PassesOwn.never rfl (show PI _ _ _ (iTup K _) from pi_tup (pv 1)) (pg_name (i := 3) scBetw.nd rfl (Or.inr rfl)) (pss_one (ps_if (pt_cmpR (show OpR _ _ (rIn K true) from op_notIn_seq) (pv 3) (pv 0) (by rfl)) (pss_one (ps_set (i := 2) scBetw.nd rfl (.inl rfl) (pe_op op_cat (pv 2) (pe_lc (own := [("state", 4)]) (g := gName 4) (tt := tYes) rfl scBetw.nd (show PI _ _ _ (iList K _) from pi_list (pv 2)) (blkOk_by (own := [("state", 4)]) (N := nBetw) (sc := defScope sBetw) (by decide +kernel)) (fun _ _ _ _ _ => pg_name (i := 4) scBetw.nd rfl (Or.inl rfl)) (fun _ _ _ _ _ => pts_nil) (fun _ _ _ _ _ => pe_callTy (show CallR _ _ (rTupG K) from cr_tupG) (by rfl) m_tuple (by decide +kernel) (pa_cons (pe_callB (show CallR _ _ (rSorted K) from cr_sorted) (by rfl) m_sorted (by decide +kernel) (pa_cons (pe_lst (show PA _ _ (StX.tStar K _ _) from StX.pa_star (pv 4) (pa_cons (pv 3) pa_nil))) pa_nil)) pa_nil)))))) pss_nil)))
      (pss_one (ps_ret (pe_callTy (show CallR _ _ (rTupG K) from cr_tupG) (by rfl) m_tuple (by decide +kernel) (pa_cons (pe_callB (show CallR _ _ (rSortTP K) from cr_sortTP hr.units) (by rfl) m_sorted (by decide +kernel) (pa_cons (pv 2) pa_nil)) pa_nil))))), ?_⟩
    obtain ⟨ll, ml⟩ := hc
    refine gs_setN (K := K) (gn_lst (gva_cons (gv_var (i := 0) rfl d1) gva_nil)) fun S0 vS H1 s1 nS eS dS => ?_
    refine gs_seqS (fun σ Hb => Same H1 Hb ∧ ∃ (S : Addr) (vs : List V) (x3 : Option V), Hb S = some (.lst vs) ∧ DpAll K Hb vs ((betM least most.reverse).map dInts) ∧ σ = [some v1, some v2, some (.ref S), x3, none]) ?rest ?loop
    case loop =>
      intro hk
      refine gs_each (K := K) (δ := PyData.int) (as := most) (gvi_tup (gv_var (i := 1) rfl (d2.sm s1))) (fun Ha k σ Hb => Same Ha Hb ∧ ∃ (S : Addr) (vs : List V) (x3 : Option V), Hb S = some (.lst vs) ∧ DpAll K Hb vs ((betM least (most.take k).reverse).map dInts) ∧ σ = [some v1, some v2, some (.ref S), x3, none])
        (fun Ha sa => ⟨Same.refl _, S0, vS, none, sa _ _ eS, dS.sm sa, rfl⟩) (fun Ha k σ Hb sa hP => hP.1) (fun Ha k x v σ Hb Hc sa hx hP sc' dv => ?_) (fun Ha σ Hb sa hP => ?_)
      · obtain ⟨sb, S, vs, x3, eS, dvs, rfl⟩ := hP
        cases dv
        have sac := (s1.trans sa).trans (sb.trans sc')
        have kl : (most.take k).reverse.length ≤ 10 := by rw [List.length_reverse, List.length_take]; omega
        have tk : (most.take (k + 1)).reverse = x :: (most.take k).reverse := by rw [List.take_add_one, hx]; simp
        rw [tk]
        have cnt := betM_count (least := least) (most.take k).reverse
        have c10 : 2 ^ (most.take k).reverse.length ≤ 2 ^ 10 := Nat.pow_le_pow_right (by decide) kl
        generalize (most.take k).reverse = r at kl dvs cnt c10 ⊢
        have eSc := sc' _ _ eS
        have dvc := dvs.sm sc'
        refine gs_if (gvt_test (K := K) (gv_inT (neg := true) (gv_var (i := 3) rfl (.int x)) (gv_var (i := 0) rfl (d1.sm sac)))) (fun hb H5 s5 => ?_) (fun hb H5 s5 => ?_)
        · have hxl : x ∉ least := by simpa using hb
          have eS5 := s5 _ _ eSc
          have dv5 := dvc.sm s5
          refine (gl_cat (K := K) (gl_var (i := 2) rfl eS5 dv5) (gl_lc (δ := dInts) (as := betM least r) (p := fun _ => true) (f := fun l => dInts (srt (l ++ [x]))) (gvi_list (gv_var (i := 2) rfl (.lst (.inl (.inl eS5)) dv5))) (fun z vz Hz hz sz dz => ⟨gvt_yes, fun _ => (gv_tupL (gv_sortL (l := z ++ [x]) ((gv_lst (gva_starT (gv_var rfl dz) (gva_cons (gv_var (i := 3) rfl (.int x)) gva_nil)) ?_).to (by rw [List.map_append]; rfl)) ?_)).to rfl⟩) (fun _ _ => lf_ints _) (by omega)) ?_).at fun S' vs' H6 s6 eS' dS' => ?_
          · have := betM_len hz
            rw [List.length_append, List.length_map]
            refine Nat.le_of_lt (small1000 ?_)
            show _ + 1 ≤ 1000; omega
          · have := betM_len hz
            rw [List.length_append, List.length_singleton]; omega
          · rw [List.length_map, List.length_map]
            have := List.length_filter_le (fun _ => true) (betM least r)
            omega
          · refine ⟨sb.trans (sc'.trans (s5.trans s6)), S', vs', _, eS', ?_, rfl⟩
            rw [betM_step hxl, List.map_append, List.map_map]
            rw [List.filter_eq_self.mpr (fun _ _ => rfl)] at dS'
            exact dS'
        · have hxl : x ∈ least := by simpa using hb
          refine ⟨sb.trans (sc'.trans s5), S, vs, _, s5 _ _ eSc, ?_, rfl⟩
          rw [betM_skip hxl]
          exact dvc.sm s5
      · obtain ⟨sb, S, vs, x3, eS, dvs, rfl⟩ := hP
        rw [List.take_length] at dvs
        exact hk _ _ ⟨sa.trans sb, S, vs, x3, eS, dvs, rfl⟩
    case rest =>
      rintro σ Hb ⟨sb, S, vs, x3, eS, dvs, rfl⟩
      exact gs_ret (K := K) (gv_tupL (gn_sortT (gv_var (i := 2) rfl (.lst (.inl (.inl eS)) dvs)) (betM_sortable _ _)).gv) fun v H3 s3 dv => q v H3 (s1.trans (sb.trans s3)) dv
end
def nReset : List Str := ["panel", "row"]
theorem scReset : FnScope nReset ["panel", "row"] (defScope sReset) := ⟨rfl, rfl, rfl, by decide +kernel, rfl, by decide +kernel, by decide +kernel⟩
section
variable {P : Program} {w : World} {K : PySem.W.Frag} {mg : Str → Option Value} {base : Heap}
def spReset (K : PySem.W.Frag) : Sp := fun vs H Q _ => ∃ (p r : Addr) (pan : List (List Int)) (row : List Int), vs = [.ref p, .ref r] ∧ PanT K H p pan ∧ Good pan ∧ SqT K H r (row.map V.int) ∧ (∀ x ∈ row, 0 ≤ x ∧ x < (pan.length : Int)) ∧
  ∀ H', Same H H' → Q (.bl (!decide (wSame ∈ effM pan row))) H'
theorem ok_Reset {fNo : Addr} {fdNo : FuncData} {fPressE : Addr} {fdPressE : FuncData} {fJoin : Addr} {fdJoin : FuncData} {fWith : Addr} {fdWith : FuncData} {fEff : Addr} {fdEff : FuncData} {f : Addr} {fd : FuncData} {k : Nat} (F : Fun K "is_reset" "is_reset" sReset f fd)
    (FNo : Fun K "no_effect" "no_effect" sNo fNo fdNo) (bNo : Binds K fdNo ["panel"] []) (gNo : mg "no_effect" = some (.ref fNo))
    (FPressE : Fun K "press_effect" "press_effect" sPressE fPressE fdPressE) (bPressE : Binds K fdPressE ["panel", "button"] []) (gPressE : mg "press_effect" = some (.ref fPressE))
    (FJoin : Fun K "joined_effect" "joined_effect" sJoin fJoin fdJoin) (bJoin : Binds K fdJoin ["first", "second"] []) (gJoin : mg "joined_effect" = some (.ref fJoin))
    (FWith : Fun K "effect_with_press" "effect_with_press" sWith fWith fdWith) (bWith : Binds K fdWith ["panel", "effect", "button"] []) (gWith : mg "effect_with_press" = some (.ref fWith))
    (FEff : Fun K "effect_of" "effect_of" sEff fEff fdEff) (bEff : Binds K fdEff ["panel", "row"] []) (gEff : mg "effect_of" = some (.ref fEff))
    (m_len : mg "len" = none) (m_list : mg "list" = none) (m_tuple : mg "tuple" = none) (m_zip : mg "zip" = none) : FnOk P w K mg base CX0 (k + 5) f fd ["panel", "row"] (spReset K) := by
  have GEff : FnOk P w K mg base CX0 (k + 4) fEff fdEff ["panel", "row"] (spEff K) := ok_eff FEff FNo bNo gNo FPressE bPressE gPressE FJoin bJoin gJoin FWith bWith gWith m_len m_list m_tuple m_zip
  refine F.ok scReset (fun vs H Q E h => ?_) (fun cdv A outer s H vs Q E hr h => ?_)
  · obtain ⟨p, r, pan, row, rfl, _⟩ := h
    rfl
  · obtain ⟨p, r, pan, row, rfl, hp, hg, hrow, hin, q⟩ := h
    refine ⟨_, pss_one (ps_ret (pe_cmpR (show OpR _ _ (rIn K true) from op_notIn_seq) pe_str (pe_call GEff (hr.mono (by omega)) (by rfl) gEff FEff.kp bEff .nil pass0 (pa_cons (pv 0) (pa_cons (pv 1) pa_nil))) (by rfl))), ?_⟩
    refine ⟨.ref p, rfl, .ref r, rfl, p, r, pan, row, rfl, hp, hg, hrow, hin, fun H1 u s1 eu => ⟨u, _, rfl, .inr (.inl (.inl eu)), rfl, flat_strs _, ?_⟩⟩
    rw [if_pos rfl, inV_strs]
    exact q _ s1
end
end K09
namespace Pr
open PySem PySem.Spec PyProof.Rows L2
end Pr
namespace Pr
open PySem PySem.Spec PyProof.Rows L2 LamX
section
variable {P : Program} {w : World} {K : PySem.W.Frag} {mg : Str → Option Value} {base : Heap} {q : Str} {scope : Scope} {f : Addr} {cd : Value} {A : Around} {outer : List Env} {s s1 : Shared} {H : Hp} {E0' : XK} {E : Value → Shared → Prop}
abbrev keyCx (P : Program) (w : World) (K : PySem.W.Frag) (mg : Str → Option Value) (base : Heap) (q : Str) (scope : Scope) (f : Addr) (cd : Value) (A : Around) (outer : List Env) (s : Shared) (H : Hp) (E0' : XK) : Cx := cxOf C8.CX0 P w K mg base ["row"] q scope f cd A outer s H E0'
theorem row_load {r : Addr} {p : Pos} {Q : Value → Shared → Prop} (J : Inv (keyCx P w K mg base q scope f cd A outer s H E0') [] (L2.start ["row"] [.ref r]) H s1) (hv : Vis scope "row") (h : Q (.ref r) s1) :
    wpAny (model P w) (keyCx P w K mg base q scope f cd A outer s H E0').A (eval (.Name "row" p) (keyCx P w K mg base q scope f cd A outer s H E0').env) Q E s1 := by
  obtain ⟨m, hn, hl⟩ := J.loc
  obtain ⟨u, rr, l⟩ := hl 0 "row" (.ref r) rfl rfl hv
  obtain rfl : u = Value.ref r := rr
  rcases l with ⟨hk, hm⟩ | ⟨hk, c, hc, hcell⟩
  · exact wpAny_Name (wpAny_loadName_local J.ok.kind hk hn hm h) (by decide)
  · rcases hk with hk | hk
    · exact wpAny_Name (wpAny_loadName_cell J.ok.kind hk hc hcell h) (by decide)
    · exact wpAny_Name (wpAny_loadName_free J.ok.kind hk hc hcell h (by decide)) (by decide)
/-- the tuple (len(row), row) -/
theorem key_eval {r : Addr} {ns : List Int} {p1 p2 p3 p4 p5 : Pos} {j : Nat} {Q : Value → Shared → Prop} (J : Inv (keyCx P w K mg base q scope f cd A outer s H E0') [] (L2.start ["row"] [.ref r]) H s1) (hv : Vis scope "row") (hg : Gl (keyCx P w K mg base q scope f cd A outer s H E0') "len") (hm : mg "len" = none)
    (hr : SqT K H r (ns.map V.int)) (h : ∀ t tk, Q (.ref s1.heap.objs.size) { s1 with heap := s1.heap.push { cls := .type "tuple", data := .seq #[.int ns.length t, .ref r] }, toks := tk }) :
    wpAny (model P w) (keyCx P w K mg base q scope f cd A outer s H E0').A (eval (.Tuple [.Call (.Name "len" p1) [.Name "row" p2] [] p3, .Name "row" p4] j p5) (keyCx P w K mg base q scope f cd A outer s H E0').env) Q E s1 := by
  refine wpAny_Tuple_spliced (Calls.spliced_cons ?_)
  refine wpAny_Call_Name_kw (ld_blt J hg hm PySem.boot_len ?_ (by decide) (by decide))
  refine PyProof.Rows.callWith_builtin1 (Calls.spliced_cons (row_load J hv (Calls.spliced_nil ?_))) rfl rfl
  obtain ⟨its, r', pl, hz⟩ := J.tuple hr
  have hlen := r'.length
  rw [List.length_map] at hlen hz
  have hn := line63
  have es : its.toArray.size = ns.length := by rw [List.size_toArray, hlen]
  refine len_tuple pl (by simp only [List.size_toArray] <;> omega) ?_
  refine Calls.spliced_cons (row_load (J.tok _) hv (Calls.spliced_nil ⟨by show 2 ≤ sizeLine; decide, ?_⟩))
  have hf := h (s1.toks + 1) (s1.toks + 1 + 1)
  rw [← es] at hf
  exact hf
end
/-- the lambda's body and its names -/
structure KeyLam (params : Arguments) (body : Expr) (scope : Scope) : Prop where
  bd : ∃ p1 p2 p3 p4 j p5, body = .Tuple [.Call (.Name "len" p1) [.Name "row" p2] [] p3, .Name "row" p4] j p5
  S : FnScope ["row"] ["row"] scope
  len : scope.names.lookup ("len" : Str) = some NameKind.globalImplicit
  bind : ∀ (q : Str) (cl : List (Str × Addr)) (pm cv ctv u : Value), bindArgs (PySem.W.kla_fn "<lambda>" q params body scope cl pm cv ctv) ⟨[u], []⟩ = pure [(("row" : Str), u)]
theorem cloFrom_nil {cells : List (Str × Addr)} : ∀ {names : List (Str × NameKind)} {acc : List (Str × Addr)}, (∀ y ∈ names, y.2 ≠ .free) → cloFrom cells names acc = acc
  | [], _, _ => rfl
  | (n, k) :: r, acc, h => by
    have hk : (k == NameKind.free) = false := beq_false_of_ne (h (n, k) List.mem_cons_self)
    unfold cloFrom
    rw [hk]
    exact cloFrom_nil fun y hy => h y (List.mem_cons_of_mem _ hy)
section
variable {X : Cx} {pins : List (Addr × Obj)} {σ : L2.St} {H : Hp} {s : Shared} {A : Around} {params : Arguments} {body : Expr} {scope : Scope} {q : Str} {f c' r : Addr} {pm ctv : Value} {ns : List Int} {k : Nat} {R : Result → Shared → Prop}
theorem key_call (I : Inv X pins σ H s) (hA : A.frames = some X.stack) (hr : Room (k + 1) A) (L : KeyLam params body scope) (hl : X.mg "len" = none)
    (hf : s.heap.get? f = some (PySem.W.kla_obj "<lambda>" q params body scope [] pm c' ctv)) (hco : ∃ (oc : Obj) (vs : Array Value) (t : Tok), s.heap.get? c' = some oc ∧ oc.data = .fields vs ∧ vs[1]? = some (.str q t)) (hrow : SqT X.K H r (ns.map V.int))
    (h : ∀ s' p t, (∀ b o, s.heap.get? b = some o → s'.heap.get? b = some o ∧ b ≠ p) → s'.gens = s.gens → s'.drawn = s.drawn → s'.os = s.os → s'.heap.get? p = some { cls := .type "tuple", data := .seq #[.int ns.length t, .ref r] } → R (.ok (.ret (.ref p))) s') :
    codeAny (model X.prog X.w) A (.call (.ref f) ⟨[.ref r], []⟩) R s := by
  obtain ⟨oc, vs, t, hoc, hdc, hvc⟩ := hco
  obtain ⟨⟨p1, p2, p3, p4, j, p5, rfl⟩, S, hlen, hb⟩ := L
  have e0 : Env0 X.prog X.w X.K X.mg X.base A X.stack s H := { I.env0 with frames := hA }
  have lim : s.heap.NoLimit := e0.mod.nolimit.keeps fun b o e => (e0.bs b o e).1
  refine PySem.W.kla_callFunE hr.depth hf rfl S.co S.gen rfl ⟨c', oc, vs, t, rfl, hoc, hdc, hvc⟩ ?_
  rw [hb]
  have hkind : ∀ y ∈ [(("row" : Str), Value.ref r)], scope.names.lookup y.1 = some .local ∨ (scope.names.lookup y.1 = some .cell ∧ ((cellsFrom (s.heap.objs.size + 1) scope.names []).lookup y.1).isSome = true) := fun y hy => by
    rw [List.mem_singleton.mp hy]
    rcases S.par "row" (by simp) with z | z
    · exact .inl z
    · exact .inr ⟨z, PySem.W.cellsFrom_some _ _ _ (.inl z)⟩
  refine wpAny_pure (wpAny_newFunctionEnv_cells S.kind hkind fun env he s1 x => ?_)
  subst he
  refine ⟨lim.keeps x.toInCall.keep, ?_⟩
  have J : Inv (keyCx X.prog X.w X.K X.mg X.base q scope f (.ref c') A X.stack s H C8.E0) [] (L2.start ["row"] [.ref r]) H s1 := inv_start (us := [.ref r]) S hr.hd e0 rfl (.cons rfl .nil) x
  obtain ⟨h1, tk, e1, hk⟩ := x.done
  refine PySem.W.kla_codeExpr (key_eval J (by rcases S.par "row" (by simp) with z | z; exact .inl z; exact .inr (.inl z)) hlen hl hrow fun t' tk' => ?_)
  subst e1
  refine h _ h1.objs.size t' (fun b o e => ⟨Heap.get?_push_of_some _ (hk b o e), Nat.ne_of_lt (Heap.lt_size (hk b o e))⟩) rfl rfl rfl (Heap.get?_push_size _ rfl)
end
def keyD (ns : List Int) : PyData := .tuple [.int ns.length, dInts ns]
def LtK (a b : List Int) : Prop := a.length < b.length ∨ (a.length = b.length ∧ a < b)
instance (a b : List Int) : Decidable (LtK a b) := inferInstanceAs (Decidable (_ ∨ _))
theorem LtK.irrefl (a : List Int) : ¬ LtK a a := fun h => by
  rcases h with h | ⟨_, h⟩
  · exact Nat.lt_irrefl _ h
  · exact List.lt_irrefl a h
theorem LtK.trans {a b c : List Int} (h : LtK a b) (g : LtK b c) : LtK a c := by
  rcases h with h | ⟨e, h⟩ <;> rcases g with g | ⟨e', g⟩
  · exact .inl (Nat.lt_trans h g)
  · exact .inl (e' ▸ h)
  · exact .inl (e ▸ g)
  · exact .inr ⟨e.trans e', List.lt_trans h g⟩
theorem alike_key (a b : List Int) : PySem.W.alike (keyD a) (keyD b) = true := by
  show PySem.W.alike (.tuple [.int a.length, .tuple (a.map PyData.int)]) (.tuple [.int b.length, .tuple (b.map PyData.int)]) = true
  simp only [PySem.W.alike, PySem.W.alikeAll, PySem.W.alike_ints, Bool.and_self, Bool.or_true]
theorem lt_key (a b : List Int) : PySem.W.dataLt (keyD a) (keyD b) = decide (LtK a b) := by
  have e1 : PyData.eqv (.int (a.length : Int)) (.int (b.length : Int)) = decide ((a.length : Int) = (b.length : Int)) := by simp only [PyData.eqv]; rfl
  have e2 : PyData.eqv (dInts a) (dInts b) = decide (a = b) := by
    unfold dInts
    simp only [PyData.eqv]
    exact eqv_intsL _ _
  have e3 : PySem.W.dataLt (dInts a) (dInts b) = decide (a < b) := by
    unfold dInts
    rw [PySem.W.dataLt_tuple]
    exact PySem.W.dataLt_ints a b
  have al : PySem.W.alike (dInts a) (dInts b) = true := by
    unfold dInts
    simp only [PySem.W.alike]
    exact PySem.W.alike_ints _ _
  have al0 : PySem.W.alike (.int (a.length : Int)) (.int (b.length : Int)) = true := by simp only [PySem.W.alike]
  unfold keyD
  rw [PySem.W.dataLt_pair al0 al, e1, e2, e3, PySem.W.dataLt_int]
  by_cases h : a.length = b.length
  · rw [decide_eq_true (by rw [h]), if_pos rfl]
    by_cases hab : a = b
    · subst hab
      rw [decide_eq_true rfl, if_pos rfl, decide_eq_false (LtK.irrefl a)]
    · rw [decide_eq_false hab, if_neg (by decide)]
      exact decide_eq_decide.mpr ⟨fun z => .inr ⟨h, z⟩, fun z => z.elim (fun y => absurd y (by omega)) fun y => y.2⟩
  · rw [decide_eq_false (fun z => h (by exact_mod_cast z)), if_neg (by decide)]
    exact decide_eq_decide.mpr ⟨fun z => .inl (by omega), fun z => z.elim (fun y => by omega) fun y => absurd y.1 h⟩
theorem argBest_min {bt : Nat → Nat → Bool} (ir : ∀ i, bt i i = false) (tr : ∀ i j k, bt i j = true → bt j k = true → bt i k = true) : ∀ k, argBest bt k ≤ k ∧ ∀ j, j ≤ k → bt j (argBest bt k) = false
  | 0 => ⟨Nat.le_refl _, fun j hj => by rw [Nat.le_zero.mp hj]; exact ir 0⟩
  | k + 1 => by
    obtain ⟨h1, h2⟩ := argBest_min ir tr k
    unfold argBest
    cases hb : bt (k + 1) (argBest bt k) with
    | true =>
      rw [if_pos rfl]
      refine ⟨Nat.le_refl _, fun j hj => ?_⟩
      by_cases e : j = k + 1
      · rw [e]; exact ir _
      · cases z : bt j (k + 1) with
        | false => rfl
        | true => exact absurd (tr _ _ _ z hb) (by rw [h2 j (by omega)]; decide)
    | false =>
      rw [if_neg (by decide)]
      refine ⟨by omega, fun j hj => ?_⟩
      by_cases e : j = k + 1
      · rw [e]; exact hb
      · exact h2 j (by omega)
section
variable {X : Cx} {pins : List (Addr × Obj)} {σ : L2.St} {H : Hp} {s : Shared} {params : Arguments} {body : Expr} {scope : Scope} {q : Str} {f c' l : Addr} {pm ctv : Value} {k : Nat} {ks : List (Addr × List Int)} {E : Value → Shared → Prop} {Q : Value → Shared → Prop}
theorem min_key (I : Inv X pins σ H s) (hA : X.A.frames = some X.stack) (hr : Room (k + 2) X.A) (L : KeyLam params body scope) (hl : X.mg "len" = none)
    (hf : s.heap.get? f = some (PySem.W.kla_obj "<lambda>" q params body scope [] pm c' ctv)) (hco : ∃ (oc : Obj) (vs : Array Value) (t : Tok), s.heap.get? c' = some oc ∧ oc.data = .fields vs ∧ vs[1]? = some (.str q t))
    (hls : SqL X.K H l (ks.map fun p => V.ref p.1)) (hks : ∀ p ∈ ks, SqT X.K H p.1 (p.2.map V.int)) (hne : ks ≠ [])
    (h : ∀ s' p, Inv X pins σ H s' → p ∈ ks → (∀ r ∈ ks, ¬ LtK r.2 p.2) → Q (.ref p.1) s') :
    wpAny (model X.prog X.w) X.A (call (.builtin "min") [.ref l] [(Str.ofString "key", .ref f)]) Q E s := by
  obtain ⟨its, rv, pl, hz⟩ := I.list hls
  have eits : its = ks.map fun p => Value.ref p.1 := by
    clear hks hne h hls pl hz
    induction ks generalizing its with
    | nil => cases rv; rfl
    | cons p r ih =>
      cases rv with
      | cons a b =>
        obtain rfl := (show _ = Value.ref p.1 from a)
        rw [ih _ b]; rfl
  subst eits
  have hlen : (ks.map fun p => Value.ref p.1).toArray.size = ks.length := by rw [List.size_toArray, List.length_map]
  have hIl : s.heap.IsList l (ks.map fun p => Value.ref p.1).toArray := pl.isList
  refine PySem.call_min_walkK (wpAny_pyIter_list hIl ?_)
  have hlI : l ≠ s.heap.objs.size := by
    obtain ⟨o, ho, _⟩ := hIl
    exact Nat.ne_of_lt (Heap.lt_size ho)
  have hh : X.A.in1.handled = none := hr.hd
  have pos : 0 < ks.length := List.length_pos_iff.mpr hne
  have kp2 : ∀ b o, s.heap.get? b = some o → (s.heap.push { cls := .type "list_iterator", data := .fields #[.ref l, .int 0 0] }).get? b = some o := fun b o e => Heap.get?_push_of_some _ e
  have back : ∀ s' : Shared, (∀ b o, s.heap.get? b = some o → s'.heap.get? b = some o) → s'.gens = s.gens → s'.drawn = s.drawn → s'.os = s.os → Inv X pins σ H s' := fun s' kb g d o => by
    obtain ⟨h', g', d', t', o'⟩ := s'
    obtain rfl : g' = s.gens := g
    obtain rfl : d' = s.drawn := d
    obtain rfl : o' = s.os := o
    exact I.kept kb
  have rowAt : ∀ (i : Nat) (v : Value), (ks.map fun p => Value.ref p.1).toArray[i]? = some v → ∃ p : Addr × List Int, ks[i]? = some p ∧ v = Value.ref p.1 := fun i v e => by
    rw [List.getElem?_toArray, List.getElem?_map] at e
    cases hk : ks[i]? with
    | none => rw [hk] at e; cases e
    | some p => rw [hk] at e; cases e; exact ⟨p, rfl, rfl⟩
  have sz2 : (s.heap.push { cls := .type "list_iterator", data := .fields #[.ref l, .int 0 0] }).objs.size = s.heap.objs.size + 1 := Heap.size_push ..
  have W := (Walks.list (prog := X.prog) (w := X.w) (A := X.A.in1) hh s.heap.objs.size l hlI (List.map (fun p : Addr × List Int => Value.ref p.1) ks).toArray).toS
  rw [hlen] at W
  refine ⟨s.heap.objs.size, [s.heap.objs.size, l], [s.heap.objs.size], fun a b => b = a, ks.length, fun i v => (List.map (fun p : Addr × List Int => Value.ref p.1) ks).toArray[i]? = some v, fun i s' => s'.heap.IsListIter s.heap.objs.size l i ∧ s'.heap.IsList l (List.map (fun p : Addr × List Int => Value.ref p.1) ks).toArray,
    fun s' => (∀ b o, s.heap.get? b = some o → s'.heap.get? b = some o) ∧ s'.gens = s.gens ∧ s'.drawn = s.drawn ∧ s'.os = s.os,
    fun i k s' => ∃ (p : Addr) (r : Addr × List Int) (t : Tok), ks[i]? = some r ∧ k = .ref p ∧ p ≠ s.heap.objs.size + 1 ∧ p ≠ s.heap.objs.size ∧ s'.heap.get? p = some { cls := .type "tuple", data := .seq #[.int r.2.length t, .ref r.1] },
    fun i j => decide (LtK (ks.getD i (0, [])).2 (ks.getD j (0, [])).2), rfl, W, ⟨⟨_, Heap.get?_push_size _ rfl, rfl, rfl⟩, hIl.at fun o e => kp2 _ _ e⟩, ?_, pos, ⟨?_, ?_, ?_, ?_⟩, ⟨kp2, rfl, rfl, rfl⟩, ?_⟩
  · intro b hb
    show b < (s.heap.push _).objs.size
    rw [sz2]
    rcases List.mem_cons.mp hb with rfl | hb
    · exact Nat.lt_succ_self _
    · rw [List.mem_singleton.mp hb]
      obtain ⟨o, ho, _⟩ := hIl
      exact Nat.lt_succ_of_lt (Heap.lt_size ho)
  · rintro s1 s2 ⟨j1, j2, j3, j4⟩ m
    refine ⟨fun b o e => m.heap b o (fun z => ?_) (j1 b o e), (show s2.gens = s1.gens from m.gens).trans j2, m.drawn.trans j3, m.os.trans j4⟩
    have lt := Heap.lt_size e
    rcases List.mem_cons.mp z with z | z
    · rw [z] at lt
      have : (s.heap.push _).objs.size < s.heap.objs.size := lt
      rw [sz2] at this; omega
    · rw [List.mem_singleton.mp z] at lt; exact Nat.lt_irrefl _ lt
  · rintro i k s1 s2 ⟨p, r, t, e1, e2, n1, n2, e3⟩ m
    refine ⟨p, r, t, e1, e2, n1, n2, m.heap p _ (fun z => ?_) e3⟩
    rcases List.mem_cons.mp z with z | z
    · exact n1 (z.trans sz2)
    · exact n2 (List.mem_singleton.mp z)
  · rintro i v s1 o Q' E' hi hv ⟨j1, j2, j3, j4⟩ hst hS hQ
    obtain ⟨r, hr1, rfl⟩ := rowAt i v hv
    have I1 := back s1 j1 j2 j3 j4
    obtain ⟨oc, vs, t, co1, co2, co3⟩ := hco
    refine wpAny_call (key_call (k := k) I1 hA hr.in1 L hl (j1 _ _ hf) ⟨oc, vs, t, j1 _ _ co1, co2, co3⟩ (hks r (List.mem_of_getElem? hr1)) fun s2 p t2 kp g d os hp => ?_)
    have kept : ∀ b o, s1.heap.get? b = some o → s2.heap.get? b = some o := fun b o e => (kp b o e).1
    obtain ⟨⟨oi, hoi, hio⟩, hls1⟩ := id hst
    refine hQ (.ref p) s2 ⟨fun b o e => kept _ _ (j1 b o e), g.trans j2, d.trans j3, os.trans j4⟩ ⟨⟨oi, kept _ _ hoi, hio⟩, hls1.at fun o e => kept _ _ e⟩ (kept _ _ hS) ⟨p, r, t2, hr1, rfl, fun z => (kp _ _ hS).2 (by rw [z]; exact sz2), fun z => (kp _ _ hoi).2 z.symm, hp⟩ ?_
    rintro j k' ⟨p', r', t', e1, e2, n1, n2, e3⟩
    exact ⟨p', r', t', e1, e2, n1, n2, kept _ _ e3⟩
  · rintro i j ki kj s1 Q' E' ⟨j1, j2, j3, j4⟩ ⟨p, r, t, e1, rfl, _, _, e3⟩ ⟨p', r', t', f1, rfl, _, _, f3⟩ hq
    have I1 := back s1 j1 j2 j3 j4
    obtain ⟨as, ra⟩ := Dp.reads I1 (dInts r.2) (.ref r.1) (.ref r.1) (dp_ints (hks r (List.mem_of_getElem? e1))) rfl
    obtain ⟨bs, rb⟩ := Dp.reads I1 (dInts r'.2) (.ref r'.1) (.ref r'.1) (dp_ints (hks r' (List.mem_of_getElem? f1))) rfl
    have ka : Reads s1.heap (.ref p) (keyD r.2) _ := .tuple e3 rfl rfl (.cons (.int _ t) (.cons ra .nil))
    have kb : Reads s1.heap (.ref p') (keyD r'.2) _ := .tuple f3 rfl rfl (.cons (.int _ t') (.cons rb .nil))
    show wpAny _ _ (compareOp .Lt _ _) _ _ _
    refine PySem.W.lt_data ka kb (alike_key _ _) (by unfold keyD; intro z; cases z) ?_ ?_
    · have h1 := hr.un
      have : (keyD r.2).depth ≤ 2 := by
        unfold keyD dInts
        simp only [PyData.depth, PyData.depthAll, PySem.W.depth_ints]
        omega
      show X.A.units + 1 + min (keyD r.2).depth (keyD r'.2).depth < cLine
      have := Nat.min_le_left (keyD r.2).depth (keyD r'.2).depth
      omega
    · rw [lt_key]
      rw [List.getD_eq_getElem?_getD, List.getD_eq_getElem?_getD, e1, f1] at hq
      exact hq
  · rintro v s1 hv ⟨j1, j2, j3, j4⟩
    obtain ⟨p, hp, rfl⟩ := rowAt _ v hv
    obtain ⟨b1, b2⟩ := argBest_min (bt := fun i j => decide (LtK (ks.getD i (0, [])).2 (ks.getD j (0, [])).2)) (fun i => decide_eq_false (LtK.irrefl _)) (fun i j k h g => decide_eq_true (LtK.trans (of_decide_eq_true h) (of_decide_eq_true g))) (ks.length - 1)
    refine h s1 p (back s1 j1 j2 j3 j4) (List.mem_of_getElem? hp) fun r hr' => ?_
    obtain ⟨j, hj⟩ := List.getElem?_of_mem hr'
    have hjl := (List.getElem?_eq_some_iff.mp hj).1
    have := of_decide_eq_false (b2 j (by omega))
    rwa [List.getD_eq_getElem?_getD, List.getD_eq_getElem?_getD, hj, hp] at this
end
def tMinK (K : PySem.W.Frag) (T : List (Addr × Str)) (to : TE) : TE := fun σ H Q => to σ H fun x H1 => ∃ (l : Addr) (ks : List (Addr × List Int)), x = V.ref l ∧ SqL K H1 l (ks.map fun p => V.ref p.1) ∧ (∀ p ∈ ks, SqT K H1 p.1 (p.2.map V.int)) ∧ ks ≠ [] ∧ Tabs T H1 ∧
  ∀ H2 p, ExtN H1 H2 → Tabs T H2 → p ∈ ks → (∀ r ∈ ks, ¬ LtK r.2 p.2) → Q (.ref p.1) H2
section
variable {X : Cx} {T : List (Addr × Str)} {c P : Addr} {o : Expr} {to : TE} {params : Arguments} {body : Expr} {scope : Scope} {p pos lpos kpos : Pos} {k : Nat}
theorem sqL_extN {K : PySem.W.Frag} {H H' : Hp} {a : Addr} {xs : List V} (e : ExtN H H') (h : SqL K H a xs) : SqL K H' a xs := by
  rcases h with (h | ⟨o, h⟩) | h
  · exact .inl (.inl (e _ _ h (fun _ z => by cases z)))
  · exact .inl (.inr ⟨o, e _ _ h (fun _ z => by cases z)⟩)
  · exact .inr h
theorem sqT_extN {K : PySem.W.Frag} {H H' : Hp} {a : Addr} {xs : List V} (e : ExtN H H') (h : SqT K H a xs) : SqT K H' a xs := by
  rcases h with (h | ⟨o, h⟩) | h
  · exact .inl (.inl (e _ _ h (fun _ z => by cases z)))
  · exact .inl (.inr ⟨o, e _ _ h (fun _ z => by cases z)⟩)
  · exact .inr h
theorem pe_minK (ho : PE X o to) (hg : Gl X "min") (hm : X.mg "min" = none) (hl : X.mg "len" = none) (hr : Room (k + 2) X.A) (TB : TabB X.base X.mg c P) (hcode : X.env.code = .ref c)
    (hmT : (P, X.env.qual ++ "<lambda>") ∈ T) (hu : ∀ p ∈ T, p.1 = P → p.2 = X.env.qual ++ "<lambda>") (L : KeyLam params body scope) (hdef : defaultsOf params X.env = ([], []))
    (he : backTo pos (starEach [o] X.env) = [(false, eval o X.env)] := by rfl) :
    PE X (.Call (.Name "min" p) [o] [⟨some "key", .Lambda params body scope lpos, kpos⟩] pos) (tMinK X.K T to) := by
  refine ⟨fun pins s σ H Q I h => ?_⟩
  refine wpAny_Call_Name_kw (ld_blt I hg hm (by decide +kernel : bootBuiltins "min" = some (.builtin "min")) ?_ (by decide) (by decide))
  refine PyProof.Rows.callWith_kw ?_ he (by rw [he]; rfl) rfl rfl
  rw [he]
  refine Calls.spliced_cons (thn (ho.run pins s σ H _ I h) fun u s1 ⟨x, H1, I1, r1, l, ks, ex, hls, hks, hne, hT, q⟩ => Calls.spliced_nil ?_)
  subst ex
  obtain rfl : u = Value.ref l := r1
  show wpAny _ _ (evalAll [(do let v ← eval (.Lambda params body scope lpos) X.env; standAt pos; pure v)]) _ _ s1
  refine wpAny_evalAll_cons (wpAny_bind (lam_make2 I1 TB hcode hmT hu hT hdef (fun y hy z => absurd z (L.S.nofree y hy)) fun f c' pm ctv H2 s2 I2 eN T2 hf hfn hfr hco => wpAny_bind (wpAny_standAt (wpAny_pure (wpAny_evalAll_nil ?_)))))
  rw [cloFrom_nil L.S.nofree] at hf
  obtain ⟨oc, vs, t, hoc, hdc, hvc⟩ := (I2.hok _ _ hco).1
  exact min_key I2 I2.ok.frames hr L hl hf ⟨oc, vs, t, hoc, hdc, hvc⟩ (sqL_extN eN hls) (fun p hp => sqT_extN eN (hks p hp)) hne fun s3 p I3 hp hmin => ⟨.ref p.1, H2, I3, rfl, q H2 p eN T2 hp hmin⟩
end
theorem Fun.okC {P : Program} {w : World} {K : PySem.W.Frag} {mg : Str → Option Value} {base : Heap} {x qual : Str} {st : Stmt} {f c : Addr} {fd : FuncData} {N ps : List Str} {k : Nat} {sp : Sp} (F : Fun K x qual st f fd) (S : FnScope N ps (defScope st)) (ecd : fd.code = .ref c) (len : ∀ vs H Q E, sp vs H Q E → vs.length = ps.length)
    (hbody : ∀ (A : Around) (outer : List Env) (s : Shared) (H : Hp) (vs : List V) (Q : VK) (E : XK), Room k (A.deeper (envOfC qual (defScope st) s.heap.objs.size f (.ref c))) → sp vs H Q E →
      ∃ t, PSs (cxOf CX0 P w K mg base N qual (defScope st) f (.ref c) A outer s H E).nox (defBody st) t ∧ t { nx := fun _ H' => Q .non H', rt := Q } (start N vs) H) : FnOk P w K mg base CX0 (k + 1) f fd ps sp := by
  obtain ⟨oc, od, kV, doc, pm, an, cdv, ct, osl, rfl, lk, hcd⟩ := F.ex
  obtain rfl : cdv = Value.ref c := ecd
  refine fn_of lk hcd S len fun A outer s H vs Q E hr hsp => ?_
  obtain ⟨t, h, q⟩ := hbody A outer s H vs Q E hr hsp
  exact ⟨t, h.nox, q⟩
/-- rows of a known list of tuples -/
theorem dpAll_rows {K : PySem.W.Frag} {H : Hp} : ∀ {vs : List V} {ls : List (List Int)}, DpAll K H vs (ls.map dInts) → ∃ ks : List (Addr × List Int), vs = ks.map (fun p => V.ref p.1) ∧ ks.map (·.2) = ls ∧ ∀ p ∈ ks, SqT K H p.1 (p.2.map V.int)
  | [], [], _ => ⟨[], rfl, rfl, fun p h => by cases h⟩
  | v :: vs, l :: ls, h => by
    cases h with
    | cons x y =>
      obtain ⟨ks, h1, h2, h3⟩ := dpAll_rows y
      obtain ⟨a, rfl, ha⟩ := Dp.intsI x
      refine ⟨(a, l) :: ks, by rw [List.map_cons, h1], by rw [List.map_cons, h2], fun p hp => ?_⟩
      rcases List.mem_cons.mp hp with rfl | hp
      · exact ha
      · exact h3 p hp
  | [], _ :: _, h => by cases h
  | _ :: _, [], h => by cases h
mutual
theorem dp_extN {K : PySem.W.Frag} {H H' : Hp} (e : ExtN H H') : ∀ (d : PyData) (v : V), Dp K H v d → Dp K H' v d
  | .none, _, h => by cases h; exact .non
  | .bool b, _, h => by cases h; exact .bl b
  | .int i, _, h => by cases h; exact .int i
  | .str x, _, h => by cases h; exact .str x
  | .list ds, _, h => by cases h with | lst q r => exact .lst (sqL_extN e q) (dpAll_extN e ds _ r)
  | .tuple ds, _, h => by cases h with | tup q r => exact .tup (sqT_extN e q) (dpAll_extN e ds _ r)
  | .dict _, _, h => by cases h
theorem dpAll_extN {K : PySem.W.Frag} {H H' : Hp} (e : ExtN H H') : ∀ (ds : List PyData) (vs : List V), DpAll K H vs ds → DpAll K H' vs ds
  | [], _, h => by cases h; exact .nil
  | d :: r, _, h => by cases h with | cons x y => exact .cons (dp_extN e d _ x) (dpAll_extN e r _ y)
end
theorem extN_same {H H' : Hp} (s : Same H H') : ExtN H H' := .of fun b o e => s b o e
theorem deck_extN {H H' : Hp} {a c : Addr} {m : Nat} (e : ExtN H H') (h : Deck H a c m) : Deck H' a c m := by
  obtain ⟨cs, k, e1, e2, e3⟩ := h
  exact ⟨cs, k, e _ _ e1 (fun _ z => by cases z), e _ _ e2 (fun _ z => by cases z), e3⟩
end Pr
namespace K09
open PySem PySem.Spec PyProof.Rows L2 Pr
/-- a shortest reset, the smallest one -/
structure BestR (pan : List (List Int)) (row : List Int) : Prop where
  asc : Asc pan.length row
  res : wSame ∉ effM pan row
  best : ∀ r, Asc pan.length r → wSame ∉ effM pan r → ¬ LtK r row
theorem ltK_total {a b : List Int} (h : ¬ LtK a b) (g : ¬ LtK b a) : a = b := by
  have hl : a.length = b.length := by
    rcases Nat.lt_trichotomy a.length b.length with e | e | e
    · exact absurd (.inl e) h
    · exact e
    · exact absurd (.inl e) g
  have h1 : ¬ a < b := fun z => h (.inr ⟨hl, z⟩)
  have h2 : ¬ b < a := fun z => g (.inr ⟨hl.symm, z⟩)
  exact List.le_antisymm (List.not_lt.mp h2) (List.not_lt.mp h1)
theorem BestR.uniq {pan : List (List Int)} {r r' : List Int} (h : BestR pan r) (g : BestR pan r') : r = r' := ltK_total (g.best r h.asc h.res) (h.best r' g.asc g.res)
theorem betM_up {least : List Int} (hl : least.Pairwise (· < ·)) : ∀ {most l : List Int}, most.Nodup → l ∈ betM least most → l.Pairwise (· < ·)
  | [], l, _, h => by rw [List.mem_singleton.mp h]; exact hl
  | b :: r, l, nd, h => by
    obtain ⟨hb, nr⟩ := List.nodup_cons.mp nd
    unfold betM at h
    dsimp only at h
    split at h
    · exact betM_up hl nr h
    · rename_i nb
      rcases List.mem_append.mp h with h | h
      · exact betM_up hl nr h
      · obtain ⟨k, hk, rfl⟩ := List.mem_map.mp h
        have up := betM_up hl nr hk
        refine srt_asc (List.nodup_append.mpr ⟨up.imp fun {a c} (h : a < c) => Int.ne_of_lt h, by simp, fun x hx y hy e => ?_⟩)
        rw [List.mem_singleton.mp hy] at e
        subst e
        rcases (betM_sub hk).2 x hx with z | z
        · exact nb z
        · exact hb z
theorem asc_intL (n : Nat) : Asc n (intL n) := ⟨by
  unfold intL
  rw [List.pairwise_map]
  exact List.pairwise_lt_range.imp fun h => by omega, fun x hx => mem_intL.mp hx⟩
theorem intL_nodup (n : Nat) : (intL n).Nodup := (asc_intL n).up.imp fun {a c} (h : a < c) => Int.ne_of_lt h
theorem mem_betw {n : Nat} (hn : n ≤ 10) {l : List Int} : l ∈ srtT (betM [] (intL n).reverse) ↔ Asc n l := by
  rw [(srtT_perm _).mem_iff]
  constructor
  · intro h
    refine ⟨betM_up (by simp) ((List.reverse_perm _).nodup_iff.mpr (intL_nodup n)) h, fun x hx => ?_⟩
    rcases (betM_sub h).2 x hx with z | z
    · cases z
    · exact mem_intL.mp (List.mem_reverse.mp z)
  · intro h
    exact betM_all (by simp) h.up (fun x hx => by cases hx) fun x hx => .inr (List.mem_reverse.mpr (mem_intL.mpr (h.rng x hx)))
end K09
namespace K09
open PySem PySem.Spec PyProof.Rows L2 Pr
open LamX
section
variable {K : PySem.W.Frag} {σ : L2.St} {H : Hp} {ta' : TA} {E : XK} {pan : List (List Int)} {row : List Int}
theorem gv_Reset (h : GvA K ta' σ H [dPan pan, dInts row]) (hg : Good pan) (hin : ∀ x ∈ row, 0 ≤ x ∧ x < (pan.length : Int)) : Gv K (tCall (spReset K) [] E ta') σ H (.bool (!decide (wSame ∈ effM pan row))) := fun H1 s Q q => h H1 s _ fun vs H2 s2 dv => by
  obtain ⟨v, u, rfl, d1, d2⟩ := dpAll2 dv
  obtain ⟨p, rfl, hp⟩ := panT_dp d1
  obtain ⟨r, rfl, hr⟩ := d2.intsI
  exact ⟨p, r, pan, row, rfl, hp, hg, hr, hin, fun H' s3 => q _ H' (s2.trans s3) (.bl _)⟩
end
theorem all_reset (pan : List (List Int)) : wSame ∉ effM pan (intL pan.length) := fun h => by
  unfold effM at h
  obtain ⟨c, hc, e⟩ := List.mem_map.mp h
  have := List.mem_range.mp hc
  exact (words_iff.mp e) (.inl (mem_intL.mpr ⟨by omega, by omega⟩))
abbrev TSR (p : Addr) : List (Addr × Str) := [(p, ("shortest_reset" : Str) ++ ".<locals>." ++ "<lambda>")]
def nSReset : List Str := ["panel", "rows", "resets", "row"]
theorem scSReset : FnScope nSReset ["panel"] (defScope sSReset) := ⟨rfl, rfl, rfl, by decide +kernel, rfl, by decide +kernel, by decide +kernel⟩
section
variable {P : Program} {w : World} {K : PySem.W.Frag} {mg : Str → Option Value} {base : Heap}
def spSReset (K : PySem.W.Frag) (pS : Addr) : Sp := fun vs H Q _ => ∃ (p : Addr) (pan : List (List Int)), vs = [.ref p] ∧ PanT K H p pan ∧ Good pan ∧ Tabs (TSR pS) H ∧
  ∀ (H' : Hp) (a : Addr) (row : List Int), ExtN H H' → Tabs (TSR pS) H' → SqT K H' a (row.map V.int) → BestR pan row → Q (.ref a) H'
theorem ok_SReset {fNo : Addr} {fdNo : FuncData} {fPressE : Addr} {fdPressE : FuncData} {fJoin : Addr} {fdJoin : FuncData} {fWith : Addr} {fdWith : FuncData} {fEff : Addr} {fdEff : FuncData} {fBetw : Addr} {fdBetw : FuncData} {fReset : Addr} {fdReset : FuncData} {f : Addr} {fd : FuncData} {k : Nat} (F : Fun K "shortest_reset" "shortest_reset" sSReset f fd)
    (FNo : Fun K "no_effect" "no_effect" sNo fNo fdNo) (bNo : Binds K fdNo ["panel"] []) (gNo : mg "no_effect" = some (.ref fNo))
    (FPressE : Fun K "press_effect" "press_effect" sPressE fPressE fdPressE) (bPressE : Binds K fdPressE ["panel", "button"] []) (gPressE : mg "press_effect" = some (.ref fPressE))
    (FJoin : Fun K "joined_effect" "joined_effect" sJoin fJoin fdJoin) (bJoin : Binds K fdJoin ["first", "second"] []) (gJoin : mg "joined_effect" = some (.ref fJoin))
    (FWith : Fun K "effect_with_press" "effect_with_press" sWith fWith fdWith) (bWith : Binds K fdWith ["panel", "effect", "button"] []) (gWith : mg "effect_with_press" = some (.ref fWith))
    (FEff : Fun K "effect_of" "effect_of" sEff fEff fdEff) (bEff : Binds K fdEff ["panel", "row"] []) (gEff : mg "effect_of" = some (.ref fEff))
    (FBetw : Fun K "states_between" "states_between" sBetw fBetw fdBetw) (bBetw : Binds K fdBetw ["least", "most"] []) (gBetw : mg "states_between" = some (.ref fBetw))
    (FReset : Fun K "is_reset" "is_reset" sReset fReset fdReset) (bReset : Binds K fdReset ["panel", "row"] []) (gReset : mg "is_reset" = some (.ref fReset))
    (m_len : mg "len" = none) (m_list : mg "list" = none) (m_range : mg "range" = none) (m_sorted : mg "sorted" = none) (m_tuple : mg "tuple" = none) (m_zip : mg "zip" = none) (m_min : mg "min" = none) {cS pS : Addr} (ecd : fd.code = .ref cS) (TBS : TabB base mg cS pS) : FnOk P w K mg base CX0 (k + 6) f fd ["panel"] (spSReset K pS) := by
  have GBetw : FnOk P w K mg base CX0 (k + 1) fBetw fdBetw ["least", "most"] (spBetw K) := ok_Betw FBetw m_sorted m_tuple
  have GReset : FnOk P w K mg base CX0 (k + 5) fReset fdReset ["panel", "row"] (spReset K) := ok_Reset FReset FNo bNo gNo FPressE bPressE gPressE FJoin bJoin gJoin FWith bWith gWith FEff bEff gEff m_len m_list m_tuple m_zip
  refine Fun.okC F scSReset ecd (fun vs H Q E h => ?_) (fun A outer s H vs Q E hr h => ?_)
  · obtain ⟨p, pan, rfl, _⟩ := h
    rfl
  · obtain ⟨p, pan, rfl, hp, hg, hT, q⟩ := h
    refine ⟨_, pss_cons (ps_set (i := 1) scSReset.nd rfl (.inl rfl) (pe_call GBetw (hr.mono (by omega)) (by rfl) gBetw FBetw.kp bBetw .nil pass0 (pa_cons (pe_tup pa_nil) (pa_cons (pe_tupRg rfl (by rfl) m_tuple (prg_1 (by rfl) m_range (pe_callB (show CallR _ _ (rLenG K) from cr_lenG) (by rfl) m_len PySem.boot_len (pa_cons (pv 0) pa_nil)))) pa_nil))))
      (pss_cons (ps_setLc (i := 2) (own := [("row", 3)]) (g := gName 3) rfl scSReset.nd rfl rfl (sw_true rfl rfl rfl (by decide +kernel)) (show PI _ _ _ (iTup K _) from pi_tup (pv 1)) (blkOk_by (own := [("row", 3)]) (N := nSReset) (sc := defScope sSReset) (by decide +kernel)) (fun _ _ _ _ _ => pg_name (i := 3) scSReset.nd rfl (Or.inl rfl)) (fun _ _ _ _ _ => pts_one (pt_val (pe_call GReset (hr.mono (by omega)) (by rfl) gReset FReset.kp bReset .nil pass0 (pa_cons (pv 0) (pa_cons (pv 3) pa_nil))))) (fun _ _ _ _ _ => pv 3))
      (pss_one (ps_ret (pe_minK (k := k) (pv 2) (by rfl) m_min m_len (hr.mono (by omega)) TBS rfl (List.mem_singleton.mpr rfl) (fun p hp _ => by rw [List.mem_singleton.mp hp]) ⟨⟨_, _, _, _, _, _, rfl⟩, ⟨rfl, rfl, rfl, by decide +kernel, rfl, by decide +kernel, by decide +kernel⟩, rfl, fun _ _ _ _ _ _ => rfl⟩ rfl)))), ?_⟩
    have few := hg.few
    have hlp : (pan.map dInts).length = pan.length := List.length_map _
    have dp : Dp K H (.ref p) (dPan pan) := hp.dp
    have cnt := betM_count (least := []) (intL pan.length).reverse
    have c10 : 2 ^ (intL pan.length).reverse.length ≤ 2 ^ 10 := Nat.pow_le_pow_right (by decide) (by rw [List.length_reverse, intL_len]; exact few)
    have ml : (srtT (betM [] (intL pan.length).reverse)).length ≤ 1024 := by rw [(srtT_perm _).length_eq]; omega
    refine gs_set1 (K := K) (gv_Betw (least := []) (most := intL pan.length) (gva_cons (gv_tup gva_nil) (gva_cons ((gv_tupRg ((gv_lenT (gv_var (i := 0) rfl dp)).to (by rw [hlp])) (by omega)).to (by unfold intL; rfl)) gva_nil)) ⟨by decide, by rw [intL_len]; exact few⟩) fun vr H1 s1 dr => ?_
    refine gs_setN (K := K) (gn_lc (δ := dInts) (as := srtT (betM [] (intL pan.length).reverse)) (p := fun r => !decide (wSame ∈ effM pan r)) (f := dInts) (gvi_tup (gv_var (i := 1) rfl dr)) (fun r v Hz hr sz dz => ⟨gvt_b (gv_Reset (gva_cons (gv_var (i := 0) rfl (dp.sm (s1.trans sz))) (gva_cons (gv_var rfl dz) gva_nil)) hg (fun x hx => ((mem_betw few).mp hr).rng x hx)), fun _ => gv_var rfl dz⟩) (fun _ _ => lf_ints _) (by omega)) fun R vs H2 s2 nR eR dR => ?_
    obtain ⟨ks, rfl, hks, hk⟩ := dpAll_rows dR
    have mem : ∀ r, r ∈ ks.map (·.2) ↔ Asc pan.length r ∧ wSame ∉ effM pan r := fun r => by
      rw [hks, List.mem_filter, mem_betw few]
      simp
    refine ⟨.ref R, rfl, R, ks, rfl, .inl (.inl eR), hk, fun z => ?_, hT.ext (fun b o e => s2 _ _ (s1 _ _ e)), fun H3 x eN hT3 hx hmin => ?_⟩
    · subst z
      have := (mem (intL pan.length)).mpr ⟨asc_intL _, all_reset pan⟩
      cases this
    · obtain ⟨h1, h2⟩ := (mem x.2).mp (List.mem_map.mpr ⟨x, hx, rfl⟩)
      refine q H3 x.1 x.2 ((extN_same (s1.trans s2)).trans eN) hT3 (sqT_extN eN (hk x hx)) ⟨h1, h2, fun r a1 a2 => ?_⟩
      obtain ⟨y, hy, rfl⟩ := List.mem_map.mp ((mem r).mpr ⟨a1, a2⟩)
      exact hmin y hy
end
end K09
namespace Pr
open PySem PySem.Spec PyProof.Rows L2
def InR (n : Nat) (r : List Int) : Prop := ∀ x ∈ r, 0 ≤ x ∧ x < (n : Int)
def Cov (pan : List (List Int)) (r : List Int) : Prop := ∀ c : Nat, c < pan.length → metB pan r (c : Int)
theorem cov_iff {pan : List (List Int)} {r : List Int} : wSame ∉ effM pan r ↔ Cov pan r := by
  constructor
  · intro h c hc
    refine Classical.byContradiction fun z => h ?_
    exact List.mem_of_getElem? ((eff_get hc).trans (congrArg some (words_iff.mpr z)))
  · intro h z
    unfold effM at z
    obtain ⟨c, hc, e⟩ := List.mem_map.mp z
    exact words_iff.mp e (h c (List.mem_range.mp hc))
theorem met_sub {pan : List (List Int)} {r r' : List Int} {c : Int} (h : ∀ x ∈ r, x ∈ r') (m : metB pan r c) : metB pan r' c := by
  rcases m with m | ⟨b, m1, m2⟩
  · exact .inl (h c m)
  · exact .inr ⟨b, h b m1, m2⟩
theorem Cov.sub {pan : List (List Int)} {r r' : List Int} (h : ∀ x ∈ r, x ∈ r') (m : Cov pan r) : Cov pan r' := fun c hc => met_sub h (m c hc)
/-- m buttons are the fewest that meet all -/
structure Mn (pan : List (List Int)) (m : Nat) : Prop where
  ex : ∃ r, InR pan.length r ∧ Cov pan r ∧ r.length = m
  le : ∀ r, InR pan.length r → Cov pan r → m ≤ r.length
theorem Mn.uniq {pan : List (List Int)} {m m' : Nat} (h : Mn pan m) (g : Mn pan m') : m = m' := by
  obtain ⟨r, a, b, c⟩ := h.ex
  obtain ⟨r', a', b', c'⟩ := g.ex
  have := h.le r' a' b'
  have := g.le r a b
  omega
theorem Mn.pos {pan : List (List Int)} {m : Nat} (h : Mn pan m) (hp : 1 ≤ pan.length) : 1 ≤ m := by
  obtain ⟨r, a, b, c⟩ := h.ex
  cases r with
  | nil =>
    rcases b 0 hp with z | ⟨_, z, _⟩
    · cases z
    · cases z
  | cons x l => rw [← c, List.length_cons]; omega
theorem nodup_len : ∀ {l r : List Int}, l.Nodup → (∀ x ∈ l, x ∈ r) → l.length ≤ r.length
  | [], _, _, _ => Nat.zero_le _
  | x :: l, r, nd, h => by
    obtain ⟨h1, h2⟩ := List.nodup_cons.mp nd
    have hx := h x List.mem_cons_self
    have := nodup_len (l := l) (r := r.erase x) h2 fun y hy => (List.mem_erase_of_ne (fun e : y = x => h1 (by rw [← e]; exact hy))).mpr (h y (List.mem_cons_of_mem _ hy))
    rw [List.length_erase_of_mem hx] at this
    have := List.length_pos_of_mem hx
    rw [List.length_cons]; omega
theorem dedup_ex (n : Nat) (r : List Int) (h : InR n r) : ∃ q, Asc n q ∧ (∀ x, x ∈ q ↔ x ∈ r) ∧ q.length ≤ r.length := by
  refine ⟨(intL n).filter fun x => decide (x ∈ r), ⟨(intL_up n).filter _, fun x hx => mem_intL.mp (List.mem_filter.mp hx).1⟩, fun x => ?_, ?_⟩
  · rw [List.mem_filter, mem_intL, decide_eq_true_eq]
    exact ⟨fun z => z.2, fun z => ⟨h x z, z⟩⟩
  · exact nodup_len ((List.Pairwise.filter _ (intL_up n)).imp (fun {a b} (h : a < b) => Int.ne_of_lt h)) fun x hx => by simpa using (List.mem_filter.mp hx).2
structure NearP (pan pan' : List (List Int)) (o : Int) : Prop where
  len : pan'.length = pan.length
  sub : ∀ (b : Nat) x, x ∈ pan.getD b [] → x ∈ pan'.getD b []
  sup : ∀ (b : Nat) x, x ∈ pan'.getD b [] → x ∈ pan.getD b [] ∨ x = o
theorem NearP.refl (pan : List (List Int)) (o : Int) : NearP pan pan o := ⟨rfl, fun _ _ h => h, fun _ _ h => .inl h⟩
def besP (a b : List (List Int)) : List (List Int) := a ++ b.map fun l => l.map fun x => (a.length : Int) + x
theorem besP_len (a b : List (List Int)) : (besP a b).length = a.length + b.length := by unfold besP; rw [List.length_append, List.length_map]
theorem besP_left {a b : List (List Int)} {i : Nat} (h : i < a.length) : (besP a b).getD i [] = a.getD i [] := by
  unfold besP
  rw [List.getD_eq_getElem?_getD, List.getElem?_append_left h, List.getD_eq_getElem?_getD]
theorem besP_right {a b : List (List Int)} {i : Nat} (h : i < b.length) : (besP a b).getD (a.length + i) [] = (b.getD i []).map fun x => (a.length : Int) + x := by
  unfold besP
  rw [List.getD_eq_getElem?_getD, List.getElem?_append_right (by omega), List.getElem?_map, show a.length + i - a.length = i by omega, List.getD_eq_getElem?_getD, List.getElem?_eq_getElem h]; rfl
theorem bes_mn {a b : List (List Int)} {m m1 m2 : Nat} (ha : ∀ l ∈ a, ∀ x ∈ l, 0 ≤ x ∧ x < (a.length : Int)) (hb : ∀ l ∈ b, ∀ x ∈ l, 0 ≤ x ∧ x < (b.length : Int)) (h : Mn (besP a b) m) (h1 : Mn a m1) (h2 : Mn b m2) : m = m1 + m2 := by
  obtain ⟨r, r1, r2, r3⟩ := h.ex
  obtain ⟨q, q1, q2, q3⟩ := h1.ex
  obtain ⟨p, p1, p2, p3⟩ := h2.ex
  have inA : ∀ i : Nat, i < a.length → a.getD i [] ∈ a := fun i hi => by rw [List.getD_eq_getElem?_getD, List.getElem?_eq_getElem hi]; exact List.getElem_mem _
  have inB : ∀ i : Nat, i < b.length → b.getD i [] ∈ b := fun i hi => by rw [List.getD_eq_getElem?_getD, List.getElem?_eq_getElem hi]; exact List.getElem_mem _
  -- together
  have l1 := h.le (q ++ p.map fun x => (a.length : Int) + x) (fun x hx => by
      rw [besP_len]
      rcases List.mem_append.mp hx with z | z
      · have := q1 x z; omega
      · obtain ⟨y, hy, rfl⟩ := List.mem_map.mp z
        have := p1 y hy; omega) fun c hc => by
    rw [besP_len] at hc
    by_cases e : c < a.length
    · rcases q2 c e with z | ⟨x, z1, z2⟩
      · exact .inl (List.mem_append_left _ z)
      · have rx := q1 x z1
        exact .inr ⟨x, List.mem_append_left _ z1, by rw [besP_left (by omega)]; exact z2⟩
    · obtain ⟨d, rfl⟩ : ∃ d, c = a.length + d := ⟨c - a.length, by omega⟩
      rcases p2 d (by omega) with z | ⟨x, z1, z2⟩
      · exact .inl (List.mem_append_right _ (List.mem_map.mpr ⟨_, z, by omega⟩))
      · have rx := p1 x z1
        refine .inr ⟨(a.length : Int) + x, List.mem_append_right _ (List.mem_map.mpr ⟨x, z1, rfl⟩), ?_⟩
        rw [show ((a.length : Int) + x).toNat = a.length + x.toNat by omega, besP_right (by omega)]
        exact List.mem_map.mpr ⟨_, z2, by omega⟩
  -- apart
  have l2 := h1.le (r.filter fun x => decide (x < (a.length : Int))) (fun x hx => by
      obtain ⟨z1, z2⟩ := List.mem_filter.mp hx
      exact ⟨(r1 x z1).1, by simpa using z2⟩) fun c hc => by
    rcases r2 c (by rw [besP_len]; omega) with z | ⟨x, z1, z2⟩
    · exact .inl (List.mem_filter.mpr ⟨z, by simpa using hc⟩)
    · have rx := r1 x z1
      rw [besP_len] at rx
      by_cases e : x < (a.length : Int)
      · exact .inr ⟨x, List.mem_filter.mpr ⟨z1, by simpa using e⟩, by rwa [besP_left (by omega)] at z2⟩
      · rw [show x.toNat = a.length + (x.toNat - a.length) by omega, besP_right (by omega)] at z2
        obtain ⟨y, y1, y2⟩ := List.mem_map.mp z2
        have := (hb _ (inB _ (by omega)) y y1).1
        omega
  have l3 := h2.le ((r.filter fun x => !decide (x < (a.length : Int))).map fun x => x - (a.length : Int)) (fun x hx => by
      obtain ⟨y, hy, rfl⟩ := List.mem_map.mp hx
      obtain ⟨z1, z2⟩ := List.mem_filter.mp hy
      have := r1 y z1
      rw [besP_len] at this
      have : ¬ y < (a.length : Int) := by simpa using z2
      omega) fun c hc => by
    rcases r2 (a.length + c) (by rw [besP_len]; omega) with z | ⟨x, z1, z2⟩
    · have nq : ¬ ((a.length + c : Nat) : Int) < (a.length : Int) := by omega
      exact .inl (List.mem_map.mpr ⟨_, List.mem_filter.mpr ⟨z, by rw [decide_eq_false nq]; rfl⟩, by omega⟩)
    · have rx := r1 x z1
      rw [besP_len] at rx
      by_cases e : x < (a.length : Int)
      · rw [besP_left (by omega)] at z2
        have := ha _ (inA _ (by omega)) _ z2
        omega
      · refine .inr ⟨x - (a.length : Int), List.mem_map.mpr ⟨x, List.mem_filter.mpr ⟨z1, by simpa using e⟩, rfl⟩, ?_⟩
        rw [show x.toNat = a.length + (x - (a.length : Int)).toNat by omega, besP_right (by omega)] at z2
        obtain ⟨y, y1, y2⟩ := List.mem_map.mp z2
        have : y = (c : Int) := by omega
        rw [← this]; exact y1
  rw [List.length_append, List.length_map] at l1
  rw [List.length_map] at l3
  have l4 : ∀ l : List Int, (l.filter fun x => decide (x < (a.length : Int))).length + (l.filter fun x => !decide (x < (a.length : Int))).length = l.length := fun l => by
    induction l with
    | nil => rfl
    | cons x l ih =>
      by_cases e : x < (a.length : Int)
      · rw [List.filter_cons_of_pos (by simpa using e), List.filter_cons_of_neg (by simpa using e), List.length_cons, List.length_cons]; omega
      · rw [List.filter_cons_of_neg (by simpa using e), List.filter_cons_of_pos (by simpa using e), List.length_cons, List.length_cons]; omega
  have := l4 r
  omega
theorem bes_good {a b : List (List Int)} (ga : Good a) (gb : Good b) (h10 : a.length + b.length ≤ 10) : Good (besP a b) := by
  have hl := besP_len a b
  have pos := ga.pos
  refine ⟨by omega, by omega, fun l h => ?_, fun l h x hx => ?_, fun i l h hx => ?_⟩
  · rcases List.mem_append.mp h with h | h
    · exact ga.up l h
    · obtain ⟨y, hy, rfl⟩ := List.mem_map.mp h
      rw [List.pairwise_map]
      exact (gb.up y hy).imp fun {u v} q => by omega
  · rcases List.mem_append.mp h with h | h
    · have := ga.rng l h x hx; omega
    · obtain ⟨y, hy, rfl⟩ := List.mem_map.mp h
      obtain ⟨z, hz, rfl⟩ := List.mem_map.mp hx
      have := gb.rng y hy z hz
      omega
  · unfold besP at h
    rcases Nat.lt_or_ge i a.length with e | e
    · rw [List.getElem?_append_left e] at h
      exact ga.own i l h hx
    · rw [List.getElem?_append_right e, List.getElem?_map] at h
      cases q : b[i - a.length]? with
      | none => rw [q] at h; cases h
      | some y =>
        rw [q] at h; cases h
        obtain ⟨z, hz, e2⟩ := List.mem_map.mp hx
        have : z = ((i - a.length : Nat) : Int) := by omega
        rw [this] at hz
        exact gb.own _ y q hz
end Pr
namespace K09
open PySem PySem.Spec PyProof.Rows L2 Pr
theorem deckU {H : Hp} {a c b : Addr} {m : Nat} {o : HO} (d : Deck H a c m) (n : b ≠ a ∧ b ≠ c) : Deck (upd H b o) a c m := by
  obtain ⟨cs, k, e1, e2, e3⟩ := d
  exact ⟨cs, k, by rw [upd_ne (Ne.symm n.1)]; exact e1, by rw [upd_ne (Ne.symm n.2)]; exact e2, e3⟩
theorem gs_setQ {σ : L2.St} {H : Hp} {t : TE} {i : Nat} {u : TS} {D : Ends} (h : t σ H fun v H' => u D (σ.set i (some v)) H') : tSeq (tAsg t (gName i)) u D σ H := h
theorem gs_seqJ {t u : TS} {D : Ends} {σ : L2.St} {H : Hp} (J : L2.St → Hp → Prop) (hk : ∀ σ' H', J σ' H' → u D σ' H') (h : (∀ σ' H', J σ' H' → u D σ' H') → t { D with nx := u D } σ H) : tSeq t u D σ H := h hk
theorem rowD {K : PySem.W.Frag} {σ : L2.St} {H : Hp} {E E' : XK} {a c : Addr} {m i1 im kx : Nat} {tl : TE} {lim many : Int} (D : Deck H a c (m + 200)) (h1 : σ[i1]? = some (some (.ref a))) (hm : σ[im]? = some (some (.int many))) (hl : Gv K tl σ H (.int lim)) (l0 : 0 < lim) (l1 : lim ≤ 100) (m0 : 0 < many) (m1 : many ≤ 100) (n1 : kx ≠ i1) (n2 : kx ≠ im)
    {Q : VK} (q : ∀ H' v (row : List Int), But a c H H' → Deck H' a c m → Dp K H' v (dInts row) → (∀ x ∈ row, 0 ≤ x ∧ x < many) → (row.length : Int) < lim → Q v H') :
    tCB (rTupG K) (tCons (tLc (iRng1 (tCons (tCall spDraw [] E (tCons (tVar i1) (tCons tl tNil))) tNil)) (gName kx) tYes (tCall spDraw [] E' (tCons (tVar i1) (tCons (tVar im) tNil))) [kx]) tNil) σ H Q := by
  refine ⟨.ref a, h1, hl H (Same.refl _) _ fun v H1 s1 d1 => ?_⟩
  cases d1
  refine ⟨a, c, m + 199, lim, rfl, D.same s1, l0, by omega, fun H2 x b2 D2 x0 x1 => ?_⟩
  obtain ⟨nn, rfl⟩ : ∃ nn : Nat, x = (nn : Int) := ⟨x.toNat, (Int.toNat_of_nonneg x0).symm⟩
  refine ⟨(nn : Int), rfl, by omega, by omega, fun O nO => ?_⟩
  have oO := D2.fresh nO
  have b12 := (But.of s1).trans b2
  refine lc_range (n := nn) (fun k H7 => But a c H H7 ∧ Deck H7 a c (m + 199 - k) ∧ ∃ acc : List Int, H7 O = some (.lst (acc.map V.int)) ∧ acc.length = k ∧ ∀ x ∈ acc, 0 ≤ x ∧ x < many)
    ⟨b12.trans (But.of (same_new nO)), (D2.same (same_new nO)), [], upd_same, rfl, fun x hx => by cases hx⟩ (fun k H7 hk hP => ?_) (fun H7 hP => ?_)
  · obtain ⟨b7, D7, acc, eO, la, hacc⟩ := hP
    refine ⟨by show ((σ.set kx none).set kx _).set kx none = σ.set kx none; rw [List.set_set, List.set_set], tyes (iteT ⟨.ref a, by rw [List.getElem?_set_ne n1]; show (σ.set kx none)[i1]? = _; rw [List.getElem?_set_ne n1]; exact h1, .int many, by rw [List.getElem?_set_ne n2]; show (σ.set kx none)[im]? = _; rw [List.getElem?_set_ne n2]; exact hm, a, c, m + 199 - (k + 1), many, rfl, D7.less (by omega), m0, by omega, fun H8 y b8 D8 y0 y1 => ?_⟩)⟩
    have eO8 := b8 _ _ oO.1 oO.2 eO
    refine ⟨_, eO8, by rw [List.length_map]; exact small1000 (by omega), fun b o h1 h2 e => ?_, deckU D8 oO, acc ++ [y], by rw [upd_same, List.map_append]; rfl, by rw [List.length_append, la]; rfl, fun x hx => ?_⟩
    · have : b ≠ O := fun z => by
        subst z
        have := b12 _ _ h1 h2 e
        rw [nO] at this; cases this
      rw [upd_ne this]
      exact b8 _ _ h1 h2 (b7 _ _ h1 h2 e)
    · rcases List.mem_append.mp hx with h | h
      · exact hacc x h
      · rw [List.mem_singleton.mp h]; exact ⟨y0, y1⟩
  · obtain ⟨b7, D7, acc, eO, la, hacc⟩ := hP
    refine ⟨O, _, rfl, .inl ⟨.inl (.inl eO), fun l nl => q _ _ acc (b7.trans (But.of (same_new nl))) ((D7.same (same_new nl)).less (by omega)) (dp_ints (.inl (.inl upd_same))) hacc (by omega)⟩⟩
def nState : List Str := ["_law_deck_here", "_law_count", "_law_way", "_law_button"]
theorem scState : FnScope nState ["_law_deck_here", "_law_count"] (defScope sState) := ⟨rfl, rfl, rfl, by decide +kernel, rfl, by decide +kernel, by decide +kernel⟩
section
variable {P : Program} {w : World} {K : PySem.W.Frag} {mg : Str → Option Value} {base : Heap}
def spState (K : PySem.W.Frag) : Sp := fun vs H Q _ => ∃ (a c : Addr) (m n : Nat), vs = [.ref a, .int (n : Int)] ∧ Deck H a c (m + 20) ∧ n ≤ 10 ∧ ∀ H' t st, But a c H H' → Deck H' a c m → H' t = some (.tup (st.map V.int)) → Asc n st → Q (.ref t) H'
theorem ok_State {fDraw : Addr} {fdDraw : FuncData} {f : Addr} {fd : FuncData} {k : Nat} (F : Fun K "_law_state" "_law_state" sState f fd)
    (FDraw : Fun K "_law_draw" "_law_draw" sDraw fDraw fdDraw) (bDraw : Binds K fdDraw ["_law_deck_here", "_law_limit"] []) (gDraw : mg "_law_draw" = some (.ref fDraw))
    (m_len : mg "len" = none) (m_range : mg "range" = none) (m_tuple : mg "tuple" = none) : FnOk P w K mg base CX0 (k + 2) f fd ["_law_deck_here", "_law_count"] (spState K) := by
  have GDraw : FnOk P w K mg base CX0 (k + 1) fDraw fdDraw ["_law_deck_here", "_law_limit"] spDraw := ok_draw FDraw m_len
  refine F.ok scState (fun vs H Q E h => ?_) (fun cdv A outer s H vs Q E hr h => ?_)
  · obtain ⟨a, c, m, n, rfl, _⟩ := h
    rfl
  · obtain ⟨a, c, m, n, rfl, hD, hn, q⟩ := h
    refine ⟨_, pss_cons (ps_set (i := 2) scState.nd rfl (.inr rfl) (pe_call GDraw (hr.mono (by omega)) (by rfl) gDraw FDraw.kp bDraw .nil pass0 (pa_cons (pv 0) (pa_cons pe_int pa_nil))))
      (pss_one (ps_ret (pe_callTy (show CallR _ _ (rTupG K) from cr_tupG) (by rfl) m_tuple (by decide +kernel) (pa_cons (pe_lc (own := [("_law_button", 3)]) (g := gName 3) rfl scState.nd (pi_range1 (by rfl) m_range (pa_cons (pv 1) pa_nil)) (blkOk_by (own := [("_law_button", 3)]) (N := nState) (sc := defScope sState) (by decide +kernel)) (fun _ _ _ _ _ => pg_name (i := 3) scState.nd rfl (Or.inl rfl)) (fun _ _ _ _ _ => pts_one (PW.pt (pw_or (pt_cmpR op_eq (pv 2) pe_int (nomark _)) (pw_or1 (pt_cmpR op_eq (pe_call GDraw (hr.mono (by omega)) (by rfl) gDraw FDraw.kp bDraw .nil pass0 (pa_cons (pv 0) (pa_cons (pe_op op_add pe_int (pv 2)) pa_nil))) pe_int (nomark _)))))) (fun _ _ _ _ _ => pv 3)) pa_nil)))), ?_⟩
    refine ⟨.ref a, rfl, a, c, m + 19, 4, rfl, hD.less (by omega), by decide, by decide, fun H1 w b1 D1 w0 w1 => ?_⟩
    unfold gName
    dsimp only
    refine gs_retQ ?_
    refine ⟨.int (n : Int), rfl, (n : Int), rfl, by omega, by omega, fun O nO => ?_⟩
    have oO := D1.fresh nO
    rw [Int.toNat_natCast]
    refine lc_range (n := n) (lo := 0) (vs := [3]) (σ := [some (.ref a), some (.int (n : Int)), some (.int w), none]) (g := gName 3) (tt := tOr (tTest (tOp rEq (tVar 2) (tC (V.int 0)))) (tTest (tOp rEq (tCall spDraw [] E0 (tCons (tVar 0) (tCons (tOp (rI0 fun i j => V.int (i + j)) (tC (V.int 1)) (tVar 2)) tNil))) (tC (V.int 0))))) (te := tVar 3) (fun k H7 => But a c H H7 ∧ Deck H7 a c (m + 19 - k) ∧ ∃ acc : List Int, H7 O = some (.lst (acc.map V.int)) ∧ Asc k acc)
      ⟨b1.trans (But.of (same_new nO)), (D1.same (same_new nO)).less (by omega), [], upd_same, Asc.nil _⟩ (fun k H8 hk' hP => ?_) (fun H8 hP => ?_)
    · obtain ⟨b8, D8, acc, eO, hacc⟩ := hP
      rw [Int.zero_add]
      have yes : ∀ H9, But a c H8 H9 → Deck H9 a c (m + 19 - (k + 1)) → ∃ acc', H9 O = some (.lst acc') ∧ acc'.length < sizeLine ∧ But a c H (upd H9 O (.lst (acc' ++ [.int (k : Int)]))) ∧ Deck (upd H9 O (.lst (acc' ++ [.int (k : Int)]))) a c (m + 19 - (k + 1)) ∧ ∃ acc : List Int, (upd H9 O (.lst (acc' ++ [.int (k : Int)]))) O = some (.lst (acc.map V.int)) ∧ Asc (k + 1) acc := fun H9 b9 D9 => by
        refine ⟨_, b9 _ _ oO.1 oO.2 eO, by rw [List.length_map]; have := hacc.len; exact small1000 (by omega), fun b o h1 h2 e => ?_, deckU D9 oO, acc ++ [(k : Int)], by rw [upd_same, List.map_append]; rfl, ?_⟩
        · have : b ≠ O := fun z => by
            subst z
            have := b1 _ _ h1 h2 e
            rw [nO] at this; cases this
          rw [upd_ne this]
          exact b9 _ _ h1 h2 (b8 _ _ h1 h2 e)
        · refine ⟨List.pairwise_append.mpr ⟨hacc.up, List.pairwise_singleton _ _, fun x hx y hy => ?_⟩, fun x hx => ?_⟩
          · rw [List.mem_singleton.mp hy]; exact (hacc.rng x hx).2
          · rcases List.mem_append.mp hx with h | h
            · have := hacc.rng x h; omega
            · rw [List.mem_singleton.mp h]; omega
      refine ⟨rfl, .int w, rfl, rfl, _, rfl, ite2 (fun e => ?_) (fun e => ?_)⟩
      · exact iteT ⟨.int (k : Int), rfl, yes H8 (But.refl _ _ _) (D8.less (by omega))⟩
      · have w0' : w ≠ 0 := fun z => e (decide_eq_true (by rw [z]))
        refine ⟨.ref a, rfl, .int w, rfl, 1, w, rfl, rfl, a, c, m + 19 - (k + 1), 1 + w, rfl, D8.less (by omega), by omega, by omega, fun H9 r9 b9 D9 r9a r9b => ⟨rfl, _, rfl, ite2 (fun e => ?_) (fun e => ?_)⟩⟩
        · exact ⟨.int (k : Int), rfl, yes H9 b9 D9⟩
        · exact ⟨b8.trans b9, D9, acc, b9 _ _ oO.1 oO.2 eO, hacc.up, fun x hx => by have := hacc.rng x hx; omega⟩
    · obtain ⟨b8, D8, acc, eO, hacc⟩ := hP
      exact ⟨O, _, rfl, .inl ⟨.inl (.inl eO), fun l nl => q _ _ acc (b8.trans (But.of (same_new nl))) ((D8.same (same_new nl)).less (by omega)) upd_same hacc⟩⟩
end
def nRow : List Str := ["_law_deck_here", "_law_count", "_law_most", "_law_k"]
theorem scRow : FnScope nRow ["_law_deck_here", "_law_count", "_law_most"] (defScope sRow) := ⟨rfl, rfl, rfl, by decide +kernel, rfl, by decide +kernel, by decide +kernel⟩
section
variable {P : Program} {w : World} {K : PySem.W.Frag} {mg : Str → Option Value} {base : Heap}
def spRow (K : PySem.W.Frag) : Sp := fun vs H Q _ => ∃ (a c : Addr) (m n most : Nat), vs = [.ref a, .int (n : Int), .int (most : Int)] ∧ Deck H a c (m + 200) ∧ 1 ≤ n ∧ n ≤ 10 ∧ most ≤ 60 ∧ ∀ H' v row, But a c H H' → Deck H' a c m → Dp K H' v (dInts row) → (∀ x ∈ row, 0 ≤ x ∧ x < (n : Int)) → row.length ≤ most → Q v H'
theorem ok_Row {fDraw : Addr} {fdDraw : FuncData} {f : Addr} {fd : FuncData} {k : Nat} (F : Fun K "_law_row" "_law_row" sRow f fd)
    (FDraw : Fun K "_law_draw" "_law_draw" sDraw fDraw fdDraw) (bDraw : Binds K fdDraw ["_law_deck_here", "_law_limit"] []) (gDraw : mg "_law_draw" = some (.ref fDraw))
    (m_len : mg "len" = none) (m_range : mg "range" = none) (m_tuple : mg "tuple" = none) : FnOk P w K mg base CX0 (k + 2) f fd ["_law_deck_here", "_law_count", "_law_most"] (spRow K) := by
  have GDraw : FnOk P w K mg base CX0 (k + 1) fDraw fdDraw ["_law_deck_here", "_law_limit"] spDraw := ok_draw FDraw m_len
  refine F.ok scRow (fun vs H Q E h => ?_) (fun cdv A outer s H vs Q E hr h => ?_)
  · obtain ⟨a, c, m, n, most, rfl, _⟩ := h
    rfl
  · obtain ⟨a, c, m, n, most, rfl, hD, h1, h10, hm, q⟩ := h
    refine ⟨_, pss_one (ps_ret (pe_callTy (show CallR _ _ (rTupG K) from cr_tupG) (by rfl) m_tuple (by decide +kernel) (pa_cons (pe_lc (own := [("_law_k", 3)]) (g := gName 3) (tt := tYes) rfl scRow.nd (pi_range1 (by rfl) m_range (pa_cons (pe_call GDraw (hr.mono (by omega)) (by rfl) gDraw FDraw.kp bDraw .nil pass0 (pa_cons (pv 0) (pa_cons (pe_op op_add (pv 2) pe_int) pa_nil))) pa_nil)) (blkOk_by (own := [("_law_k", 3)]) (N := nRow) (sc := defScope sRow) (by decide +kernel)) (fun _ _ _ _ _ => pg_name (i := 3) scRow.nd rfl (Or.inl rfl)) (fun _ _ _ _ _ => pts_nil) (fun _ _ _ _ _ => pe_call GDraw (hr.mono (by omega)) (by rfl) gDraw FDraw.kp bDraw .nil pass0 (pa_cons (pv 0) (pa_cons (pv 1) pa_nil)))) pa_nil))), ?_⟩
    refine gs_retQ (rowD (K := K) (i1 := 0) (im := 1) (kx := 3) (many := (n : Int)) (lim := (most : Int) + 1) hD rfl rfl (gv_add (gv_var (i := 2) rfl (.int (most : Int))) gv_int) (by omega) (by omega) (by omega) (by omega) (by decide) (by decide) fun H' v row b D d hr hl => q H' v row b D d hr (by omega))
end
def nBes : List Str := ["panels", "lists", "first", "panel", "other", "released"]
theorem scBes : FnScope nBes (([] : List Str) ++ [("panels" : Str)]) (defScope sBes) := ⟨rfl, rfl, rfl, by decide +kernel, rfl, by decide +kernel, by decide +kernel⟩
section
variable {P : Program} {w : World} {K : PySem.W.Frag} {mg : Str → Option Value} {base : Heap}
def spB (K : PySem.W.Frag) : Sp := fun vs H Q _ => ∃ (p : Addr) (ps : List (List (List Int))), vs = [.ref p] ∧ Dp K H (.ref p) (.tuple (ps.map dPan)) ∧ OkPs ps ∧ totM ps ≤ 10 ∧ ∀ v H', Same H H' → Dp K H' v (dPan (besM ps)) → Q v H'
def spBes (K : PySem.W.Frag) : Sp := fun vs H Q E => ∃ ws rest, vs = ws ++ rest ∧ ws.length = ([] : List Str).length ∧ rest.length ≤ sizeLine ∧ ∀ p, H p = Option.none → spB K (ws ++ [V.ref p]) (upd H p (.tup rest)) Q E
theorem ok_Bes {f : Addr} {fd : FuncData} {k : Nat} {tk : Tok} (F : Fun K "beside" "beside" sBes f fd) (y_MAX_BUTTONS : mg "MAX_BUTTONS" = some (.int 10 tk))
    (m_len : mg "len" = none) (m_sum : mg "sum" = none) (m_tuple : mg "tuple" = none) : FnR P w K mg base CX0 (k + 1) f (spBes K) := by
  obtain ⟨oc, od, kV, doc, pm, an, cdv, ct, osl, rfl, lk, hcd⟩ := F.ex
  refine StX.fn_star (ps := []) (sp := spB K) lk hcd scBes StX.cxUp_none (fun us rest hl => ?_) (fun A outer s H vs Q E hr h => ?_)
  · match us, hl with
    | [], _ => match rest with
      | [] => rfl
      | x :: r => rfl
  · obtain ⟨p, ps, rfl, dp, ok, htot, q⟩ := h
    have few := ok.few
    have tl := tot_le ok.sh
    refine ⟨_, pss_cons (ps_if (pt_cmpR op_gt (pe_callB (show CallR _ _ (rSum K) from cr_sum (by rfl)) (by rfl) m_sum (by decide +kernel) (pa_cons (pe_lc (own := [("panel", 3)]) (g := gName 3) (tt := tYes) rfl scBes.nd (show PI _ _ _ (iTup K _) from pi_tup (pv 0)) (blkOk_by (own := [("panel", 3)]) (N := nBes) (sc := defScope sBes) (by decide +kernel)) (fun _ _ _ _ _ => pg_name (i := 3) scBes.nd rfl (Or.inl rfl)) (fun _ _ _ _ _ => pts_nil) (fun _ _ _ _ _ => pe_callB (show CallR _ _ (rLenG K) from cr_lenG) (by rfl) m_len PySem.boot_len (pa_cons (pv 3) pa_nil))) pa_nil)) (pe_glob (v := .int 10) (by rfl) y_MAX_BUTTONS ⟨_, rfl⟩) (nomark _)) (pss_one ps_never) pss_nil)
      (pss_cons (ps_set (i := 1) scBes.nd rfl (.inl rfl) (pe_lst pa_nil))
      (pss_cons (ps_for (passes_of rfl) rfl (show PI _ _ _ (iTup K _) from pi_tup (pv 0)) (pg_name (i := 3) scBes.nd rfl (Or.inl rfl)) (pss_cons (ps_set (i := 2) scBes.nd rfl (.inr rfl) (pe_callB (show CallR _ _ (rLenG K) from cr_lenG) (by rfl) m_len PySem.boot_len (pa_cons (pv 1) pa_nil)))
      (pss_one (ps_expr (show PE _ _ (tBM K "list" rExtend _ _) from pe_bm PySem.F.plainAttrs_list PySem.F.slot_list_extend PySem.F.type_list_extend mt_extend (pv 1) (pa_cons (pe_lc (own := [("released", 5)]) (g := gName 5) (tt := tYes) rfl scBes.nd (show PI _ _ _ (iTup K _) from pi_tup (pv 3)) (blkOk_by (own := [("released", 5)]) (N := nBes) (sc := defScope sBes) (by decide +kernel)) (fun _ _ _ _ _ => pg_name (i := 5) scBes.nd rfl (Or.inl rfl)) (fun _ _ _ _ _ => pts_nil) (fun _ _ _ _ _ => pe_callTy (show CallR _ _ (rTupG K) from cr_tupG) (by rfl) m_tuple (by decide +kernel) (pa_cons (pe_lc (own := [("other", 4)]) (g := gName 4) (tt := tYes) rfl scBes.nd (show PI _ _ _ (iTup K _) from pi_tup (pv 5)) (blkOk_by (own := [("other", 4)]) (N := nBes) (sc := { kind := .function, names := [(".0", .local), ("released", .local), ("tuple", .globalImplicit), ("first", .cell)], isGenerator := false, isCoroutine := false }) (by decide +kernel)) (fun _ _ _ _ _ => pg_name (i := 4) scBes.nd rfl (Or.inl rfl)) (fun _ _ _ _ _ => pts_nil) (fun _ _ _ _ _ => pe_op op_add (pv 2) (pv 4))) pa_nil))) pa_nil))))))
      (pss_one (ps_ret (pe_callTy (show CallR _ _ (rTupG K) from cr_tupG) (by rfl) m_tuple (by decide +kernel) (pa_cons (pv 1) pa_nil)))))), ?_⟩
    refine gs_no (b := decide ((10 : Int) < (totM ps : Int))) (gvt_test (K := K) ((gv_gt (gv_sum (ns := ps.map fun p => ((p.map dInts).length : Int)) ((gv_lc (δ := dPan) (as := ps) (p := fun _ => true) (f := fun p => PyData.int ((p.map dInts).length : Nat)) (gvi_tup (gv_var rfl dp)) (fun z vz Hz hz sz dz => ⟨gvt_yes, fun _ => gv_lenT (gv_var rfl dz)⟩) (fun _ _ => rfl) (by omega)).to (by rw [List.filter_eq_self.mpr (fun _ _ => rfl), List.map_map]; rfl))) gv_int).to (by rw [sum_cast]))) (decide_eq_false (by omega)) fun H1 s1 => ?_
    refine gs_setN (K := K) (gn_lst gva_nil) fun D vs0 H2 s2 nD eD dv0 => ?_
    have dp2 := (dp.sm s1).sm s2
    refine gs_each (K := K) (R := Kp) (δ := dPan) (as := ps) (gvi_tupK (gv_var rfl dp2) (lf_pans ps)) (fun Ha k σ H' => Kp Ha H' ∧ (∀ b o, b ≠ D → Ha b = some o → H' b = some o) ∧ (∃ vs, H' D = some (.lst vs) ∧ DpAll K H' vs ((besM (ps.take k)).map dInts)) ∧ ∃ x2 x3 x4 x5, σ = [some (.ref p), some (.ref D), x2, x3, x4, x5])
      (fun H3 s3 => ⟨Kp.refl _, fun _ _ _ e => e, ⟨vs0, s3 _ _ eD, dv0.sm s3⟩, _, _, _, _, rfl⟩) (fun H3 k σ H' s3 hP => hP.1) (fun H3 k pan vp σ H4 H5 s3 hk hP s5 dpan => ?_) (fun H3 σ H4 s3 hP => ?_)
    · obtain ⟨kp, but, ⟨vs, eD4, dvs⟩, x2, x3, x4, x5, rfl⟩ := hP
      have hmem := List.mem_of_getElem? hk
      have hsh := ok.sh pan hmem
      have eD5 := s5 _ _ eD4
      have dvs5 := dvs.sm s5
      have bl : (besM (ps.take k)).length ≤ 10 := by rw [bes_len]; exact Nat.le_trans (tot_take ps k) htot
      refine gs_set1 (K := K) (gv_lenL (gv_var rfl (.lst (.inl (.inl eD5)) dvs5))) fun vn H6 s6 dn => ?_
      cases dn
      rw [List.length_map]
      refine ⟨.ref D, rfl, .inl ⟨rfl, _, .inl (.inl (s6 _ _ eD5))⟩, (gn_lc (K := K) (δ := dInts) (as := pan) (p := fun _ => true) (f := fun l => dInts (l.map fun x => (((besM (ps.take k)).length : Nat) : Int) + x)) (gvi_tup (gv_var rfl (dpan.sm s6)))
        (fun l vl H7 hl s7 dl => ⟨gvt_yes, fun _ => (gv_tupL (gv_lc (δ := PyData.int) (as := l) (p := fun _ => true) (f := fun x => PyData.int ((((besM (ps.take k)).length : Nat) : Int) + x)) (gvi_tup (gv_var rfl dl)) (fun x vx H8 hx s8 dx => ⟨gvt_yes, fun _ => gv_add (gv_var rfl (.int _)) (gv_var rfl dx)⟩) (fun _ _ => rfl) (by have := hsh.2 l hl; omega))).to (by rw [List.filter_eq_self.mpr (fun _ _ => rfl)]; unfold dInts; rw [List.map_map]; rfl)⟩) (fun _ _ => lf_ints _) (by have := hsh.1; omega)).at fun B vs' H7 s7 nB eB dvs' => ?_⟩
      have eD7 := s7 _ _ (s6 _ _ eD5)
      have lv : vs.length ≤ 10 := by rw [dvs.length, List.length_map]; exact bl
      have lv' : vs'.length ≤ 10 := by
        rw [dvs'.length, List.length_map]
        exact Nat.le_trans (List.length_filter_le _ _) hsh.1
      refine ⟨D, B, _, _, rfl, rfl, eD7, eB, Nat.le_of_lt (small1000 (by omega)), ?_⟩
      have kD := Kp.upd (o := .lst (vs ++ vs')) eD7
      have s47 := s5.trans (s6.trans s7)
      refine ⟨kp.trans ((Kp.of s47).trans kD), fun b o hb e => by rw [upd_ne hb]; exact s47 _ _ (but b o hb e), ⟨vs ++ vs', upd_same, ?_⟩, _, _, _, _, rfl⟩
      rw [bes_take hk, List.map_append]
      refine dpAll_kp kD _ _ ?_ ?_
      · rw [← List.map_append]; exact lf_rowsP _
      · refine DpAll.append (dvs.sm s47) ?_
        rw [List.filter_eq_self.mpr (fun _ _ => rfl)] at dvs'
        unfold shM; rw [List.map_map]; exact dvs'
    · obtain ⟨kp, but, ⟨vs, eD4, dvs⟩, x2, x3, x4, x5, rfl⟩ := hP
      rw [List.take_length] at dvs
      refine gs_ret (K := K) (gv_tupL (gv_var rfl (.lst (.inl (.inl eD4)) dvs))) fun v H5 s5 dv => q v H5 ?_ dv
      refine Same.trans (fun b o e => ?_) s5
      have e2 := s2 _ _ (s1 _ _ e)
      exact but b o (ne_of_none (s1 _ _ e) nD) (s3 _ _ e2)
end
end K09
namespace Pr
open PySem PySem.Spec PyProof.Rows L2
section
variable {pan : List (List Int)} {nm : List Int}
theorem nodup_lenG {α : Type} [DecidableEq α] : ∀ {l r : List α}, l.Nodup → (∀ x ∈ l, x ∈ r) → l.length ≤ r.length
  | [], _, _, _ => Nat.zero_le _
  | x :: l, r, nd, h => by
    obtain ⟨h1, h2⟩ := List.nodup_cons.mp nd
    have hx := h x List.mem_cons_self
    have := nodup_lenG (l := l) (r := r.erase x) h2 fun y hy => (List.mem_erase_of_ne (fun e : y = x => h1 (by rw [← e]; exact hy))).mpr (h y (List.mem_cons_of_mem _ hy))
    rw [List.length_erase_of_mem hx] at this
    have := List.length_pos_of_mem hx
    rw [List.length_cons]; omega
/-- how many presses -/
def preL (d : PyData) : PyData := match d with
  | .tuple l => .int (l.length : Nat)
  | _ => .none
end
end Pr
namespace Pr
open PySem PySem.Spec PyProof.Rows L2
def jnM (na : Nat) (s1 s2 : List Int) : List Int := s1 ++ s2.map fun x => (na : Int) + x
def lfR (na : Nat) (row : List Int) : List Int := row.filter fun x => decide (x < (na : Int))
def rtR (na : Nat) (row : List Int) : List Int := (row.filter fun x => !decide (x < (na : Int))).map fun x => x - (na : Int)
theorem mem_jn {na : Nat} {s1 s2 : List Int} {x : Int} : x ∈ jnM na s1 s2 ↔ x ∈ s1 ∨ ∃ y ∈ s2, (na : Int) + y = x := by
  unfold jnM; rw [List.mem_append, List.mem_map]
theorem jn_len {na : Nat} {s1 s2 : List Int} : (jnM na s1 s2).length = s1.length + s2.length := by unfold jnM; rw [List.length_append, List.length_map]
theorem jn_asc {na nb : Nat} {s1 s2 : List Int} (a : Asc na s1) (b : Asc nb s2) : Asc (na + nb) (jnM na s1 s2) := by
  refine ⟨?_, fun x hx => ?_⟩
  · unfold jnM
    refine List.pairwise_append.mpr ⟨a.up, ?_, fun x hx y hy => ?_⟩
    · rw [List.pairwise_map]
      exact b.up.imp fun {u v} q => by omega
    · obtain ⟨z, hz, rfl⟩ := List.mem_map.mp hy
      have := a.rng x hx
      have := b.rng z hz
      omega
  · rcases mem_jn.mp hx with h | ⟨y, hy, rfl⟩
    · have := a.rng x h; omega
    · have := b.rng y hy; omega
theorem jn_left {na nb : Nat} {s1 s2 : List Int} (b : Asc nb s2) {x : Int} (hx : x < (na : Int)) : x ∈ jnM na s1 s2 ↔ x ∈ s1 := by
  rw [mem_jn]
  refine ⟨fun h => h.elim id fun ⟨y, hy, e⟩ => ?_, .inl⟩
  have := b.rng y hy
  omega
theorem jn_right {na : Nat} {s1 s2 : List Int} (a : Asc na s1) {y : Int} (hy : 0 ≤ y) : (na : Int) + y ∈ jnM na s1 s2 ↔ y ∈ s2 := by
  rw [mem_jn]
  refine ⟨fun h => h.elim (fun z => ?_) fun ⟨z, hz, e⟩ => ?_, fun h => .inr ⟨y, h, rfl⟩⟩
  · have := a.rng _ z
    omega
  · rw [show y = z by omega]; exact hz
theorem jn_inj {na nb : Nat} {s1 s2 t1 t2 : List Int} (a : Asc na s1) (b : Asc nb s2) (c : Asc na t1) (d : Asc nb t2) (e : jnM na s1 s2 = jnM na t1 t2) : s1 = t1 ∧ s2 = t2 := by
  constructor
  · refine asc_ext a.up c.up fun x => ?_
    constructor
    · intro hx
      have := (jn_left b (a.rng x hx).2).mpr hx
      rw [e] at this
      exact (jn_left d (a.rng x hx).2).mp this
    · intro hx
      have := (jn_left d (c.rng x hx).2).mpr hx
      rw [← e] at this
      exact (jn_left b (c.rng x hx).2).mp this
  · refine asc_ext b.up d.up fun x => ?_
    constructor
    · intro hx
      have := (jn_right (s2 := s2) a (b.rng x hx).1).mpr hx
      rw [e] at this
      exact (jn_right c (b.rng x hx).1).mp this
    · intro hx
      have := (jn_right (s2 := t2) c (d.rng x hx).1).mpr hx
      rw [← e] at this
      exact (jn_right a (d.rng x hx).1).mp this
theorem lf_jn {na : Nat} {r1 r2 : List Int} (h1 : ∀ x ∈ r1, x < (na : Int)) (h2 : ∀ x ∈ r2, 0 ≤ x) : lfR na (jnM na r1 r2) = r1 := by
  unfold lfR jnM
  rw [List.filter_append, List.filter_eq_self.mpr (fun x hx => decide_eq_true (h1 x hx)), List.filter_eq_nil_iff.mpr, List.append_nil]
  intro x hx
  obtain ⟨y, hy, rfl⟩ := List.mem_map.mp hx
  have := h2 y hy
  simp; omega
theorem rt_jn {na : Nat} {r1 r2 : List Int} (h1 : ∀ x ∈ r1, x < (na : Int)) (h2 : ∀ x ∈ r2, 0 ≤ x) : rtR na (jnM na r1 r2) = r2 := by
  unfold rtR jnM
  rw [List.filter_append, List.filter_eq_nil_iff.mpr, List.nil_append, List.filter_eq_self.mpr, List.map_map]
  · refine (List.map_congr_left fun x _ => ?_).trans (List.map_id r2)
    show (na : Int) + x - na = x
    omega
  · intro x hx
    obtain ⟨y, hy, rfl⟩ := List.mem_map.mp hx
    have := h2 y hy
    simp; omega
  · intro x hx
    have := h1 x hx
    simp; omega
theorem lf_rt_len (na : Nat) (r : List Int) : (lfR na r).length + (rtR na r).length = r.length := by
  unfold lfR rtR
  rw [List.length_map]
  induction r with
  | nil => rfl
  | cons x l ih =>
    by_cases e : x < (na : Int)
    · rw [List.filter_cons_of_pos (by simpa using e), List.filter_cons_of_neg (by simpa using e), List.length_cons, List.length_cons]; omega
    · rw [List.filter_cons_of_neg (by simpa using e), List.filter_cons_of_pos (by simpa using e), List.length_cons, List.length_cons]; omega
section
variable {A B : List (List Int)}
theorem in_left {i : Nat} (hi : i < A.length) : A.getD i [] ∈ A := by rw [List.getD_eq_getElem?_getD, List.getElem?_eq_getElem hi]; exact List.getElem_mem _
theorem besL (b : Int) (b0 : 0 ≤ b) (b1 : b < (A.length : Int)) : (besP A B).getD b.toNat [] = A.getD b.toNat [] := besP_left (by omega)
theorem besR (b : Int) (b0 : 0 ≤ b) (b1 : b < (B.length : Int)) : (besP A B).getD ((A.length : Int) + b).toNat [] = (B.getD b.toNat []).map fun x => (A.length : Int) + x := by
  rw [show ((A.length : Int) + b).toNat = A.length + b.toNat by omega]; exact besP_right (by omega)
theorem bes_pressL (ga : Good A) {s1 s2 : List Int} (a : Asc A.length s1) (c : Asc B.length s2) {b : Int} (b0 : 0 ≤ b) (b1 : b < (A.length : Int)) : pressM (besP A B) (jnM A.length s1 s2) b = jnM A.length (pressM A s1 b) s2 := by
  have hl := besP_len A B
  have ap := pressM_asc A s1 b
  have l1 := pressM_asc (besP A B) (jnM A.length s1 s2) b
  have l2 := jn_asc ap c
  refine asc_ext l1.up l2.up fun x => ?_
  have key : ∀ x : Int, 0 ≤ x ∧ x < ((A.length + B.length : Nat) : Int) → (x ∈ pressM (besP A B) (jnM A.length s1 s2) b ↔ x ∈ jnM A.length (pressM A s1 b) s2) := fun x rx => by
    rw [mem_pressM, hl, besL b b0 b1]
    by_cases e : x < (A.length : Int)
    · rw [jn_left c e, jn_left c e, mem_pressM]
      exact ⟨fun z => ⟨⟨rx.1, e⟩, z.2⟩, fun z => ⟨rx, z.2⟩⟩
    · obtain ⟨y, rfl⟩ : ∃ y, x = (A.length : Int) + y := ⟨x - A.length, by omega⟩
      rw [jn_right a (by omega), jn_right ap (by omega)]
      refine ⟨fun z => z.2.elim (fun w => by omega) fun w => w.1, fun z => ⟨rx, .inr ⟨z, fun w => ?_⟩⟩⟩
      have := ga.rng _ (in_left (show b.toNat < A.length by omega)) _ w
      omega
  constructor
  · intro hx; have := l1.rng x hx; rw [hl] at this; exact (key x this).mp hx
  · intro hx; exact (key x (l2.rng x hx)).mpr hx
theorem bes_pressR (gb : Good B) {s1 s2 : List Int} (a : Asc A.length s1) (c : Asc B.length s2) {b : Int} (b0 : 0 ≤ b) (b1 : b < (B.length : Int)) : pressM (besP A B) (jnM A.length s1 s2) ((A.length : Int) + b) = jnM A.length s1 (pressM B s2 b) := by
  have hl := besP_len A B
  have cp := pressM_asc B s2 b
  have l1 := pressM_asc (besP A B) (jnM A.length s1 s2) ((A.length : Int) + b)
  have l2 := jn_asc a cp
  refine asc_ext l1.up l2.up fun x => ?_
  have key : ∀ x : Int, 0 ≤ x ∧ x < ((A.length + B.length : Nat) : Int) → (x ∈ pressM (besP A B) (jnM A.length s1 s2) ((A.length : Int) + b) ↔ x ∈ jnM A.length s1 (pressM B s2 b)) := fun x rx => by
    rw [mem_pressM, hl, besR b b0 b1, List.mem_map]
    by_cases e : x < (A.length : Int)
    · rw [jn_left c e, jn_left cp e]
      refine ⟨fun z => z.2.elim (fun w => by omega) fun w => w.1, fun z => ⟨rx, .inr ⟨z, fun ⟨w, hw, e2⟩ => ?_⟩⟩⟩
      have := gb.rng _ (in_left (show b.toNat < B.length by omega)) _ hw
      omega
    · obtain ⟨y, rfl⟩ : ∃ y, x = (A.length : Int) + y := ⟨x - A.length, by omega⟩
      rw [jn_right a (by omega), jn_right a (by omega), mem_pressM]
      constructor
      · rintro ⟨_, z⟩
        exact ⟨by omega, z.imp (fun w => by omega) fun w => ⟨w.1, fun v => w.2 ⟨y, v, rfl⟩⟩⟩
      · rintro ⟨_, z⟩
        refine ⟨rx, z.imp (fun w => by omega) fun w => ⟨w.1, fun ⟨v, hv, e2⟩ => w.2 ?_⟩⟩
        rw [show y = v by omega]; exact hv
  constructor
  · intro hx; have := l1.rng x hx; rw [hl] at this; exact (key x this).mp hx
  · intro hx; exact (key x (l2.rng x hx)).mpr hx
theorem bes_run (ga : Good A) (gb : Good B) : ∀ {row s1 s2 : List Int}, Asc A.length s1 → Asc B.length s2 → (∀ b ∈ row, 0 ≤ b ∧ b < ((A.length + B.length : Nat) : Int)) → runM (besP A B) (jnM A.length s1 s2) row = jnM A.length (runM A s1 (lfR A.length row)) (runM B s2 (rtR A.length row))
  | [], _, _, _, _, _ => rfl
  | b :: row, s1, s2, a, c, hr => by
    have rb := hr b List.mem_cons_self
    have hr' := fun x hx => hr x (List.mem_cons_of_mem b hx)
    show runM (besP A B) (pressM (besP A B) (jnM A.length s1 s2) b) row = _
    by_cases e : b < (A.length : Int)
    · rw [bes_pressL ga a c rb.1 e, bes_run ga gb (pressM_asc _ _ _) c hr']
      unfold lfR rtR
      rw [List.filter_cons_of_pos (by simpa using e), List.filter_cons_of_neg (by simpa using e)]; rfl
    · obtain ⟨y, rfl⟩ : ∃ y, b = (A.length : Int) + y := ⟨b - A.length, by omega⟩
      rw [bes_pressR gb a c (by omega) (by omega), bes_run ga gb a (pressM_asc _ _ _) hr']
      unfold lfR rtR
      rw [List.filter_cons_of_neg (by simpa using e), List.filter_cons_of_pos (by simpa using e), List.map_cons, show (A.length : Int) + y - A.length = y by omega]; rfl
theorem bes_wordsL (gb : Good B) {c : Int} (c0 : 0 ≤ c) (c1 : c < (A.length : Int)) (row : List Int) (hr : ∀ b ∈ row, 0 ≤ b ∧ b < ((A.length + B.length : Nat) : Int)) : wordsM (besP A B) row c = wordsM A (lfR A.length row) c := by
  unfold wordsM
  have key : ∀ (row : List Int) (w : Str), (∀ b ∈ row, 0 ≤ b ∧ b < ((A.length + B.length : Nat) : Int)) → row.foldl (wordM (besP A B) c) w = (lfR A.length row).foldl (wordM A c) w := fun row => by
    induction row with
    | nil => intro w _; rfl
    | cons b row ih =>
      intro w hr
      have rb := hr b List.mem_cons_self
      have hr' := fun x hx => hr x (List.mem_cons_of_mem b hx)
      rw [List.foldl_cons]
      unfold lfR
      by_cases e : b < (A.length : Int)
      · rw [List.filter_cons_of_pos (by simpa using e), List.foldl_cons]
        have : wordM (besP A B) c w b = wordM A c w b := by unfold wordM; rw [besL b rb.1 e]
        rw [this]; exact ih _ hr'
      · rw [List.filter_cons_of_neg (by simpa using e)]
        obtain ⟨y, rfl⟩ : ∃ y, b = (A.length : Int) + y := ⟨b - A.length, by omega⟩
        have : wordM (besP A B) c w ((A.length : Int) + y) = w := by
          unfold wordM
          rw [if_neg (by omega), besR y (by omega) (by omega), if_neg]
          intro z
          obtain ⟨v, hv, e2⟩ := List.mem_map.mp z
          have := gb.rng _ (in_left (show y.toNat < B.length by omega)) _ hv
          omega
        rw [this]; exact ih _ hr'
  exact key row wSame hr
theorem bes_wordsR (ga : Good A) {c : Int} (c0 : 0 ≤ c) (c1 : c < (B.length : Int)) (row : List Int) (hr : ∀ b ∈ row, 0 ≤ b ∧ b < ((A.length + B.length : Nat) : Int)) : wordsM (besP A B) row ((A.length : Int) + c) = wordsM B (rtR A.length row) c := by
  unfold wordsM
  have key : ∀ (row : List Int) (w : Str), (∀ b ∈ row, 0 ≤ b ∧ b < ((A.length + B.length : Nat) : Int)) → row.foldl (wordM (besP A B) ((A.length : Int) + c)) w = (rtR A.length row).foldl (wordM B c) w := fun row => by
    induction row with
    | nil => intro w _; rfl
    | cons b row ih =>
      intro w hr
      have rb := hr b List.mem_cons_self
      have hr' := fun x hx => hr x (List.mem_cons_of_mem b hx)
      rw [List.foldl_cons]
      unfold rtR
      by_cases e : b < (A.length : Int)
      · rw [List.filter_cons_of_neg (by simpa using e)]
        have : wordM (besP A B) ((A.length : Int) + c) w b = w := by
          unfold wordM
          rw [if_neg (by omega), besL b rb.1 e, if_neg]
          intro z
          have := ga.rng _ (in_left (show b.toNat < A.length by omega)) _ z
          omega
        rw [this]; exact ih _ hr'
      · rw [List.filter_cons_of_pos (by simpa using e), List.map_cons, List.foldl_cons]
        obtain ⟨y, rfl⟩ : ∃ y, b = (A.length : Int) + y := ⟨b - A.length, by omega⟩
        have : wordM (besP A B) ((A.length : Int) + c) w ((A.length : Int) + y) = wordM B c w ((A.length : Int) + y - A.length) := by
          rw [show (A.length : Int) + y - A.length = y by omega]
          unfold wordM
          rw [besR y (by omega) (by omega)]
          by_cases e1 : y = c
          · rw [if_pos e1, if_pos (by omega)]
          · rw [if_neg e1, if_neg (by omega)]
            by_cases e2 : c ∈ B.getD y.toNat []
            · rw [if_pos e2, if_pos (List.mem_map.mpr ⟨c, e2, rfl⟩)]
            · rw [if_neg e2, if_neg fun z => e2 ?_]
              obtain ⟨v, hv, e3⟩ := List.mem_map.mp z
              rw [show c = v by omega]; exact hv
        rw [this]; exact ih _ hr'
  exact key row wSame hr
theorem bes_eff (ga : Good A) (gb : Good B) (row : List Int) (hr : ∀ b ∈ row, 0 ≤ b ∧ b < ((A.length + B.length : Nat) : Int)) : effM (besP A B) row = effM A (lfR A.length row) ++ effM B (rtR A.length row) := by
  refine List.ext_getElem? fun c => ?_
  have hl := besP_len A B
  by_cases e : c < A.length
  · rw [List.getElem?_append_left (by rw [effM_len]; exact e), eff_get (by omega), eff_get e, bes_wordsL gb (by omega) (by omega) row hr]
  · by_cases e2 : c < A.length + B.length
    · rw [List.getElem?_append_right (by rw [effM_len]; omega), effM_len, eff_get (by omega), eff_get (by omega), show (c : Int) = (A.length : Int) + ((c - A.length : Nat) : Int) by omega, bes_wordsR ga (by omega) (by omega) row hr]
    · rw [List.getElem?_eq_none (by rw [effM_len]; omega), List.getElem?_eq_none (by rw [List.length_append, effM_len, effM_len]; omega)]
theorem prod_len {α β γ : Type} [DecidableEq γ] {X : List α} {Y : List β} {Z : List γ} (f : α → β → γ) (nX : X.Nodup) (nY : Y.Nodup) (nZ : Z.Nodup) (inj : ∀ x ∈ X, ∀ y ∈ Y, ∀ x' ∈ X, ∀ y' ∈ Y, f x y = f x' y' → x = x' ∧ y = y') (mem : ∀ z, z ∈ Z ↔ ∃ x ∈ X, ∃ y ∈ Y, f x y = z) : Z.length = X.length * Y.length := by
  have nP : (X.flatMap fun x => Y.map (f x)).Nodup := by
    rw [List.Nodup, List.pairwise_flatMap]
    refine ⟨fun x hx => ?_, ?_⟩
    · rw [List.pairwise_map]
      exact nY.imp_of_mem fun {y y'} hy hy' ne e => ne (inj x hx y hy x hx y' hy' e).2
    · refine nX.imp_of_mem fun {x x'} hx hx' ne z hz z' hz' e => ?_
      obtain ⟨y, hy, rfl⟩ := List.mem_map.mp hz
      obtain ⟨y', hy', rfl⟩ := List.mem_map.mp hz'
      exact ne (inj x hx y hy x' hx' y' hy' e).1
  have lP : (X.flatMap fun x => Y.map (f x)).length = X.length * Y.length := by
    clear nP nX inj mem
    induction X with
    | nil => simp
    | cons x X ih => rw [List.flatMap_cons, List.length_append, ih, List.length_map, List.length_cons, Nat.succ_mul]; omega
  have memP : ∀ z, z ∈ (X.flatMap fun x => Y.map (f x)) ↔ z ∈ Z := fun z => by
    rw [List.mem_flatMap, mem]
    exact ⟨fun ⟨x, hx, h⟩ => by obtain ⟨y, hy, e⟩ := List.mem_map.mp h; exact ⟨x, hx, y, hy, e⟩, fun ⟨x, hx, y, hy, e⟩ => ⟨x, hx, List.mem_map.mpr ⟨y, hy, e⟩⟩⟩
  have a := nodup_lenG nP fun z hz => (memP z).mp hz
  have b := nodup_lenG nZ fun z hz => (memP z).mpr hz
  omega
theorem jn_in {r1 r2 : List Int} (h1 : ∀ x ∈ r1, 0 ≤ x ∧ x < (A.length : Int)) (h2 : ∀ x ∈ r2, 0 ≤ x ∧ x < (B.length : Int)) : ∀ x ∈ jnM A.length r1 r2, 0 ≤ x ∧ x < ((A.length + B.length : Nat) : Int) := fun x hx => by
  rcases mem_jn.mp hx with h | ⟨y, hy, rfl⟩
  · have := h1 x h; omega
  · have := h2 y hy; omega
theorem lf_in {r : List Int} (h : ∀ x ∈ r, 0 ≤ x ∧ x < ((A.length + B.length : Nat) : Int)) : ∀ x ∈ lfR A.length r, 0 ≤ x ∧ x < (A.length : Int) := fun x hx => by
  obtain ⟨h1, h2⟩ := List.mem_filter.mp hx
  exact ⟨(h x h1).1, by simpa using h2⟩
theorem rt_in {r : List Int} (h : ∀ x ∈ r, 0 ≤ x ∧ x < ((A.length + B.length : Nat) : Int)) : ∀ x ∈ rtR A.length r, 0 ≤ x ∧ x < (B.length : Int) := fun x hx => by
  obtain ⟨y, hy, rfl⟩ := List.mem_map.mp hx
  obtain ⟨h1, h2⟩ := List.mem_filter.mp hy
  have := h y h1
  have : ¬ y < (A.length : Int) := by simpa using h2
  omega
theorem bes_effs (ga : Good A) (gb : Good B) (h7 : A.length + B.length ≤ 7) : (effsM (besP A B)).length = (effsM A).length * (effsM B).length := by
  have hl := besP_len A B
  have gw := bes_good ga gb (by omega)
  refine prod_len (fun x y => x ++ y) (effs_nd ga) (effs_nd gb) (effs_nd gw) (fun x hx y hy x' hx' y' hy' e => ?_) fun z => ?_
  · exact List.append_inj e (by rw [(effs_w ga x hx).1, (effs_w ga x' hx').1])
  · rw [effs_mem gw (by omega)]
    constructor
    · rintro ⟨r, hr, rfl⟩
      unfold InRow at hr
      rw [hl] at hr
      rw [bes_eff ga gb r hr]
      exact ⟨_, (effs_mem ga (by omega)).mpr ⟨_, lf_in hr, rfl⟩, _, (effs_mem gb (by omega)).mpr ⟨_, rt_in hr, rfl⟩, rfl⟩
    · rintro ⟨x, hx, y, hy, rfl⟩
      obtain ⟨r1, h1, rfl⟩ := (effs_mem ga (by omega)).mp hx
      obtain ⟨r2, h2, rfl⟩ := (effs_mem gb (by omega)).mp hy
      have hj := jn_in h1 h2
      refine ⟨jnM A.length r1 r2, by unfold InRow; rw [hl]; exact hj, ?_⟩
      rw [bes_eff ga gb _ hj, lf_jn (fun x hx => (h1 x hx).2) (fun x hx => (h2 x hx).1), rt_jn (fun x hx => (h1 x hx).2) (fun x hx => (h2 x hx).1)]
theorem bes_held (ga : Good A) (gb : Good B) {g1 g2 h1 h2 : List Int} (a : Asc A.length g1) (b : Asc B.length g2) (x1 : IsHeld A g1 h1) (x2 : IsHeld B g2 h2) : IsHeld (besP A B) (jnM A.length g1 g2) (jnM A.length h1 h2) := by
  have a1 : Asc A.length h1 := ⟨x1.up, fun x hx => a.rng x (x1.sub x hx)⟩
  have b1 : Asc B.length h2 := ⟨x2.up, fun x hx => b.rng x (x2.sub x hx)⟩
  refine ⟨(jn_asc a1 b1).up, fun x hx => ?_, fun x hx => ?_, fun C hC hs x hx => ?_⟩
  · rcases mem_jn.mp hx with h | ⟨y, hy, rfl⟩
    · exact mem_jn.mpr (.inl (x1.sub x h))
    · exact mem_jn.mpr (.inr ⟨y, x2.sub y hy, rfl⟩)
  · rcases mem_jn.mp hx with h | ⟨y, hy, rfl⟩
    · obtain ⟨c, c1, c2⟩ := x1.closed x h
      have rx := a1.rng x h
      exact ⟨c, by rw [besL x rx.1 rx.2]; exact c1, mem_jn.mpr (.inl c2)⟩
    · obtain ⟨c, c1, c2⟩ := x2.closed y hy
      have ry := b1.rng y hy
      exact ⟨(A.length : Int) + c, by rw [besR y ry.1 ry.2]; exact List.mem_map.mpr ⟨c, c1, rfl⟩, mem_jn.mpr (.inr ⟨c, c2, rfl⟩)⟩
  · have inC : ∀ x ∈ C, 0 ≤ x ∧ x < ((A.length + B.length : Nat) : Int) := fun x hx => (jn_asc a b).rng x (hs x hx)
    by_cases e : x < (A.length : Int)
    · refine mem_jn.mpr (.inl (x1.most (lfR A.length C) (fun z hz => ?_) (fun z hz => ?_) x (List.mem_filter.mpr ⟨hx, by simpa using e⟩)))
      · have rz := lf_in inC z hz
        obtain ⟨c, c1, c2⟩ := hC z (List.mem_filter.mp hz).1
        rw [besL z rz.1 rz.2] at c1
        have rc := ga.rng _ (in_left (show z.toNat < A.length by omega)) c c1
        exact ⟨c, c1, List.mem_filter.mpr ⟨c2, by simpa using rc.2⟩⟩
      · have rz := lf_in inC z hz
        exact (jn_left b rz.2).mp (hs z (List.mem_filter.mp hz).1)
    · have rx := inC x hx
      refine mem_jn.mpr (.inr ⟨x - A.length, x2.most (rtR A.length C) (fun z hz => ?_) (fun z hz => ?_) _ (List.mem_map.mpr ⟨x, List.mem_filter.mpr ⟨hx, by simpa using e⟩, rfl⟩), by omega⟩)
      · have rz := rt_in inC z hz
        obtain ⟨w, hw, rfl⟩ := List.mem_map.mp hz
        obtain ⟨c, c1, c2⟩ := hC w (List.mem_filter.mp hw).1
        rw [show w = (A.length : Int) + (w - A.length) by omega, besR _ rz.1 rz.2] at c1
        obtain ⟨v, hv, rfl⟩ := List.mem_map.mp c1
        have rv := gb.rng _ (in_left (show (w - (A.length : Int)).toNat < B.length by omega)) v hv
        exact ⟨v, hv, List.mem_map.mpr ⟨_, List.mem_filter.mpr ⟨c2, by simp; omega⟩, by omega⟩⟩
      · have rz := rt_in inC z hz
        obtain ⟨w, hw, rfl⟩ := List.mem_map.mp hz
        refine (jn_right a rz.1).mp ?_
        rw [show (A.length : Int) + (w - A.length) = w by omega]
        exact hs w (List.mem_filter.mp hw).1
theorem bes_reach_of (ga : Good A) (gb : Good B) (h10 : A.length + B.length ≤ 10) {s1 s2 k : List Int} (a : Asc A.length s1) (b : Asc B.length s2) : k ∈ reachM (besP A B) (jnM A.length s1 s2) ↔ ∃ k1 ∈ reachM A s1, ∃ k2 ∈ reachM B s2, jnM A.length k1 k2 = k := by
  have hl := besP_len A B
  rw [reach_iff (by omega) (by rw [hl]; exact jn_asc a b)]
  constructor
  · rintro ⟨r, hr, rfl⟩
    have hr' : ∀ x ∈ r, 0 ≤ x ∧ x < ((A.length + B.length : Nat) : Int) := fun x hx => by have := hr x hx; unfold InP at this; rwa [hl] at this
    rw [bes_run ga gb a b hr']
    exact ⟨_, (reach_iff ga.few a).mpr ⟨_, lf_in hr', rfl⟩, _, (reach_iff gb.few b).mpr ⟨_, rt_in hr', rfl⟩, rfl⟩
  · rintro ⟨k1, h1, k2, h2, rfl⟩
    obtain ⟨r1, q1, rfl⟩ := (reach_iff ga.few a).mp h1
    obtain ⟨r2, q2, rfl⟩ := (reach_iff gb.few b).mp h2
    have hj := jn_in (A := A) (B := B) q1 q2
    refine ⟨jnM A.length r1 r2, fun x hx => by unfold InP; rw [hl]; exact hj x hx, ?_⟩
    rw [bes_run ga gb a b hj, lf_jn (fun x hx => (q1 x hx).2) (fun x hx => (q2 x hx).1), rt_jn (fun x hx => (q1 x hx).2) (fun x hx => (q2 x hx).1)]
theorem bes_reach (ga : Good A) (gb : Good B) (h10 : A.length + B.length ≤ 10) {s1 s2 k1 k2 : List Int} (a : Asc A.length s1) (b : Asc B.length s2) (c : Asc A.length k1) (d : Asc B.length k2) : jnM A.length k1 k2 ∈ reachM (besP A B) (jnM A.length s1 s2) ↔ k1 ∈ reachM A s1 ∧ k2 ∈ reachM B s2 := by
  rw [bes_reach_of ga gb h10 a b]
  constructor
  · rintro ⟨x, hx, y, hy, e⟩
    obtain ⟨e1, e2⟩ := jn_inj (reach_asc a x hx) (reach_asc b y hy) c d e
    rw [← e1, ← e2]; exact ⟨hx, hy⟩
  · rintro ⟨h1, h2⟩
    exact ⟨k1, h1, k2, h2, rfl⟩
theorem bes_states (ga : Good A) (gb : Good B) (h10 : A.length + B.length ≤ 10) {s1 s2 : List Int} (a : Asc A.length s1) (b : Asc B.length s2) : (reachM (besP A B) (jnM A.length s1 s2)).length = (reachM A s1).length * (reachM B s2).length := by
  have hl := besP_len A B
  exact prod_len (jnM A.length) (reach_nd a) (reach_nd b) (reach_nd (by rw [hl]; exact jn_asc a b)) (fun x hx y hy x' hx' y' hy' e => jn_inj (reach_asc a x hx) (reach_asc b y hy) (reach_asc a x' hx') (reach_asc b y' hy') e) fun z => bes_reach_of ga gb h10 a b
theorem bes_way (ga : Good A) (gb : Good B) (h10 : A.length + B.length ≤ 10) {s1 s2 k1 k2 : List Int} (a : Asc A.length s1) (b : Asc B.length s2) (c : Asc A.length k1) (d : Asc B.length k2) :
    (wayOf (foundM (besP A B) (jnM A.length s1 s2)) (kInt (jnM A.length k1 k2)) = .none ∧ (wayOf (foundM A s1) (kInt k1) = .none ∨ wayOf (foundM B s2) (kInt k2) = .none)) ∨
    ∃ r r1 r2 : List Int, wayOf (foundM (besP A B) (jnM A.length s1 s2)) (kInt (jnM A.length k1 k2)) = dInts r ∧ wayOf (foundM A s1) (kInt k1) = dInts r1 ∧ wayOf (foundM B s2) (kInt k2) = dInts r2 ∧ r.length = r1.length + r2.length := by
  have hl := besP_len A B
  rcases way_min (pan := besP A B) (by omega) (goal := jnM A.length k1 k2) (st := jnM A.length s1 s2) (by rw [hl]; exact jn_asc a b) with ⟨e, n⟩ | ⟨r, e, i, q1, q2, q3⟩
  · refine .inl ⟨e, ?_⟩
    rcases way_min ga.few (goal := k1) a with ⟨e1, n1⟩ | ⟨r1, e1, i1, _⟩
    · exact .inl e1
    · rcases way_min gb.few (goal := k2) b with ⟨e2, n2⟩ | ⟨r2, e2, i2, _⟩
      · exact .inr e2
      · exact absurd ((bes_reach ga gb h10 a b c d).mpr ⟨i1, i2⟩) n
  · obtain ⟨i1, i2⟩ := (bes_reach ga gb h10 a b c d).mp i
    rcases way_min ga.few (goal := k1) a with ⟨e1, n1⟩ | ⟨r1, e1, _, u1, u2, u3⟩
    · exact absurd i1 n1
    · rcases way_min gb.few (goal := k2) b with ⟨e2, n2⟩ | ⟨r2, e2, _, v1, v2, v3⟩
      · exact absurd i2 n2
      · refine .inr ⟨r, r1, r2, e, e1, e2, ?_⟩
        have hj := jn_in (A := A) (B := B) u1 v1
        have l1 := q3 (jnM A.length r1 r2) (fun x hx => by unfold InP; rw [hl]; exact hj x hx) (by
          rw [bes_run ga gb a b hj, lf_jn (fun x hx => (u1 x hx).2) (fun x hx => (v1 x hx).1), rt_jn (fun x hx => (u1 x hx).2) (fun x hx => (v1 x hx).1), u2, v2])
        have hr' : ∀ x ∈ r, 0 ≤ x ∧ x < ((A.length + B.length : Nat) : Int) := fun x hx => by have := q1 x hx; unfold InP at this; rwa [hl] at this
        rw [bes_run ga gb a b hr'] at q2
        obtain ⟨w1, w2⟩ := jn_inj (runM_asc a) (runM_asc b) c d q2
        have l2 := u3 _ (lf_in hr') w1
        have l3 := v3 _ (rt_in hr') w2
        have l4 := lf_rt_len A.length r
        rw [jn_len] at l1
        omega
end
end Pr
namespace K09
open PySem PySem.Spec PyProof.Rows L2 Pr
open LamX
def GvTup (K : PySem.W.Frag) (t : TE) (σ : L2.St) (H : Hp) (l : List Int) : Prop := ∀ H1, Same H H1 → ∀ Q : VK, (∀ (a : Addr) H2, Same H1 H2 → H2 a = some (.tup (l.map V.int)) → Q (.ref a) H2) → t σ H1 Q
section
variable {K : PySem.W.Frag} {σ : L2.St} {H : Hp} {t t1 t2 t3 : TE} {ta' : TA} {E : XK}
theorem GvTup.gv {l : List Int} (h : GvTup K t σ H l) : Gv K t σ H (dInts l) := fun H1 s Q q => h H1 s Q fun a H2 s2 e => q _ H2 s2 (dp_ints (.inl (.inl e)))
theorem GvTup.at {l : List Int} (h : GvTup K t σ H l) {Q : VK} (q : ∀ (a : Addr) H2, Same H H2 → H2 a = some (.tup (l.map V.int)) → Q (.ref a) H2) : t σ H Q := h H (Same.refl _) Q q
theorem GvTup.sm {l : List Int} {H' : Hp} (h : GvTup K t σ H l) (s : Same H H') : GvTup K t σ H' l := fun H1 s1 Q q => h H1 (s.trans s1) Q q
theorem gt_var {i : Nat} {a : Addr} {l : List Int} (hi : σ[i]? = some (some (.ref a))) (ea : H a = some (.tup (l.map V.int))) : GvTup K (tVar i) σ H l := fun H1 s Q q => ⟨.ref a, hi, q a H1 (Same.refl _) (s _ _ ea)⟩
theorem gt_Run {pan : List (List Int)} {st row : List Int} (h1 : Gv K t1 σ H (dPan pan)) (h2 : GvTup K t2 σ H st) (h3 : Gv K t3 σ H (dInts row)) (hc : pan.length ≤ 10 ∧ row.length ≤ 60 ∧ (∀ y ∈ row, 0 ≤ y ∧ y < (pan.length : Int)) ∧ Asc pan.length st) : GvTup K (tCall (spRun K) [] E (tCons t1 (tCons t2 (tCons t3 tNil)))) σ H (runM pan st row) := fun H1 s Q q =>
  h1 H1 s _ fun v H2 s2 d1 => h2 H2 (s.trans s2) _ fun a H3 s3 ea => h3 H3 ((s.trans s2).trans s3) _ fun u H4 s4 d3 =>
    ⟨v, u, a, pan, st, row, rfl, (d1.sm s3).sm s4, s4 _ _ ea, d3, hc.1, hc.2.1, hc.2.2.1, hc.2.2.2, fun H' t s5 e => q t H' (((s2.trans s3).trans s4).trans s5) e⟩
theorem gt_tup {l : List Int} (h : GvL K t σ H (l.map PyData.int)) : GvTup K (tCB (rTupG K) (tCons t tNil)) σ H l := fun H1 s Q q => h H1 s _ fun L vs H2 s2 eL dL => by
  have := dpAll_intsV dL
  subst this
  exact ⟨L, _, rfl, .inl ⟨.inl (.inl eL), fun t nt => q t _ (s2.trans (same_new nt)) upd_same⟩⟩
theorem GvL.to2 {ds es : List PyData} (h : GvL K t σ H ds) (q : ds = es) : GvL K t σ H es := q ▸ h
end
def nJoined : List Str := ["_law_first", "_law_second", "_law_count", "_law_button"]
theorem scJoined : FnScope nJoined ["_law_first", "_law_second", "_law_count"] (defScope sJoined) := ⟨rfl, rfl, rfl, by decide +kernel, rfl, by decide +kernel, by decide +kernel⟩
section
variable {P : Program} {w : World} {K : PySem.W.Frag} {mg : Str → Option Value} {base : Heap}
def spJoined (K : PySem.W.Frag) : Sp := fun vs H Q _ => ∃ (a : Addr) (v : V) (na : Nat) (s1 s2 : List Int), vs = [.ref a, v, .int (na : Int)] ∧ SqT K H a (s1.map V.int) ∧ Dp K H v (dInts s2) ∧ s1.length ≤ 100 ∧ s2.length ≤ 100 ∧
  ∀ (H' : Hp) (p : Addr), Same H H' → SqT K H' p ((jnM na s1 s2).map V.int) → (H a = some (.tup (s1.map V.int)) → H' p = some (.tup ((jnM na s1 s2).map V.int))) → Q (.ref p) H'
theorem ok_Joined  {f : Addr} {fd : FuncData} {k : Nat} (F : Fun K "_law_joined" "_law_joined" sJoined f fd)
    (m_tuple : mg "tuple" = none) : FnOk P w K mg base CX0 (k + 1) f fd ["_law_first", "_law_second", "_law_count"] (spJoined K) := by
  refine F.ok scJoined (fun vs H Q E h => ?_) (fun cdv A outer s H vs Q E hr h => ?_)
  · obtain ⟨a, v, na, s1, s2, rfl, _⟩ := h
    rfl
  · obtain ⟨a, v, na, s1, s2, rfl, ha, d2, l1, l2, q⟩ := h
    refine ⟨_, pss_one (ps_ret (pe_op (show OpR _ _ (rCatA K) from op_catA) (pv 0) (pe_callTy (show CallR _ _ (rTupG K) from cr_tupG) (by rfl) m_tuple (by decide +kernel) (pa_cons (pe_lc (own := [("_law_button", 3)]) (g := gName 3) (tt := tYes) rfl scJoined.nd (show PI _ _ _ (iTup K _) from pi_tup (pv 1)) (blkOk_by (own := [("_law_button", 3)]) (N := nJoined) (sc := defScope sJoined) (by decide +kernel)) (fun _ _ _ _ _ => pg_name (i := 3) scJoined.nd rfl (Or.inl rfl)) (fun _ _ _ _ _ => pts_nil) (fun _ _ _ _ _ => pe_op op_add (pv 2) (pv 3))) pa_nil)))), ?_⟩
    refine ⟨.ref a, rfl, ?_⟩
    show tCB (rTupG K) (tCons (tLc (iTup K (tVar 1)) (gName 3) tYes (tOp (rI0 fun i j => V.int (i + j)) (tVar 2) (tVar 3)) [3]) tNil) [some (.ref a), some v, some (.int (na : Int)), none] H _
    refine (gt_tup (l := s2.map fun x => (na : Int) + x) (GvL.to2 (gl_lc (K := K) (δ := PyData.int) (as := s2) (p := fun _ => true) (f := fun x => PyData.int ((na : Int) + x)) (gvi_tup (gv_var (i := 1) rfl d2)) (fun x v H1 hx sx dx => ⟨gvt_yes, fun _ => gv_add (gv_var (i := 2) rfl (.int (na : Int))) (gv_var (i := 3) rfl dx)⟩) (fun _ _ => rfl) (by omega)) (by rw [List.filter_eq_self.mpr (fun _ _ => rfl), List.map_map]; rfl))).at fun t H1 st et => ?_
    have jm : (jnM na s1 s2).map V.int = s1.map V.int ++ (s2.map fun x => (na : Int) + x).map V.int := by unfold jnM; rw [List.map_append]
    refine ⟨a, t, s1.map V.int, (s2.map fun x => (na : Int) + x).map V.int, rfl, rfl, same_sqT st ha, .inl (.inl et), ?_, fun e => ?_, fun n e => ?_, fun n n' p np => ?_⟩
    · rw [List.length_map, List.length_map, List.length_map]; exact Nat.le_trans (show _ ≤ 200 by omega) (show 200 ≤ sizeLine by decide)
    · refine q _ t st ?_ (fun _ => ?_) <;> rw [jm, e, List.nil_append]
      · exact .inl (.inl et)
      · exact et
    · refine q _ a st ?_ (fun x => ?_) <;> rw [jm, e, List.append_nil]
      · exact same_sqT st ha
      · exact st _ _ x
    · have sp := same_new (o := HO.tup (s1.map V.int ++ (s2.map fun x => (na : Int) + x).map V.int)) np
      refine q _ p (st.trans sp) ?_ (fun _ => ?_) <;> rw [jm]
      · exact .inl (.inl upd_same)
      · exact upd_same
end
end K09
namespace Pr
open PySem PySem.Spec PyProof.Rows L2
theorem hideD {t : TS} {D : Ends} {σ : L2.St} {H : Hp} (h : ∀ D' : Ends, (∀ σ H, D.nx σ H → D'.nx σ H) → t D' σ H) : t D σ H := h D fun _ _ z => z
end Pr
namespace K09
open PySem PySem.Spec PyProof.Rows L2 Pr
open LamX
theorem gs_parQ {σ : L2.St} {H : Hp} {ta : TA} {i j : Nat} {u : TS} {D : Ends} (h : ta σ H fun vs H' => ∃ v z, vs = [v, z] ∧ u D ((σ.set i (some v)).set j (some z)) H') : tSeq (tPar i j ta) u D σ H := h
theorem shp_intsL (l : List Int) : SeqAt.shaped (.list (l.map PyData.int)) = true := by
  obtain ⟨h1, h2⟩ := canLay_ints l
  simp [SeqAt.shaped, PyData.canLay0, PyData.depth, h1, h2]
theorem eqv_nilL (l : List Int) : PyData.eqv (.list (l.map PyData.int)) (.list []) = decide (l = []) := by
  simp only [PyData.eqv]
  rw [show ([] : List PyData) = ([] : List Int).map PyData.int from rfl, eqv_intsL]
theorem gs_if1' {σ : L2.St} {H : Hp} {c : TT} {b : Bool} {t u : TS} {D : Ends} (h : GvT c σ H b) (h1 : b = true → ∀ H', Same H H' → t { D with nx := u D } σ H') (h2 : b = false → ∀ H', Same H H' → u D σ H') : tSeq (tIfS c t tNext) u D σ H := gs_if h h1 h2
theorem lfR_snoc (na : Nat) (f : List Int) (y : Int) (h : y < (na : Int)) : lfR na (f ++ [y]) = lfR na f ++ [y] ∧ rtR na (f ++ [y]) = rtR na f := by
  unfold lfR rtR
  rw [List.filter_append, List.filter_append, List.filter_cons_of_pos (by simpa using h), List.filter_cons_of_neg (by simpa using h)]
  simp
theorem rtR_snoc (na : Nat) (f : List Int) (z : Int) (h : 0 ≤ z) : lfR na (f ++ [(na : Int) + z]) = lfR na f ∧ rtR na (f ++ [(na : Int) + z]) = rtR na f ++ [z] := by
  have n : ¬ (na : Int) + z < (na : Int) := by omega
  unfold lfR rtR
  rw [List.filter_append, List.filter_append, List.filter_cons_of_neg (by simpa using n), List.filter_cons_of_pos (by simpa using n), List.map_append]
  refine ⟨by simp, ?_⟩
  simp only [List.filter_nil, List.map_cons, List.map_nil]
  rw [show (na : Int) + z - na = z by omega]
section
variable {K : PySem.W.Frag} {σ : L2.St} {H : Hp}
theorem gl_ixc {i k : Nat} {R X : Addr} {xs vs : List V} {ds : List PyData} (hi : σ[i]? = some (some (.ref R))) (eR : H R = some (.lst xs)) (hx : xs[k]? = some (.ref X)) (eX : H X = some (.lst vs)) (dX : DpAll K H vs ds) : GvL K (tOp (rIxL K) (tVar i) (tC (.int (k : Int)))) σ H ds := fun H1 s Q q =>
  ⟨.ref R, hi, R, xs, (k : Int), .ref X, rfl, rfl, .inl (.inl (s _ _ eR)), atI_nat hx, q X vs H1 (Same.refl _) (s _ _ eX) (dX.sm s)⟩
theorem gl_ixv {i j k : Nat} {R X : Addr} {xs vs : List V} {ds : List PyData} (hi : σ[i]? = some (some (.ref R))) (hj : σ[j]? = some (some (.int (k : Int)))) (eR : H R = some (.lst xs)) (hx : xs[k]? = some (.ref X)) (eX : H X = some (.lst vs)) (dX : DpAll K H vs ds) : GvL K (tOp (rIxL K) (tVar i) (tVar j)) σ H ds := fun H1 s Q q =>
  ⟨.ref R, hi, .int (k : Int), hj, R, xs, (k : Int), .ref X, rfl, rfl, .inl (.inl (s _ _ eR)), atI_nat hx, q X vs H1 (Same.refl _) (s _ _ eX) (dX.sm s)⟩
end
def nMixed : List Str := ["_law_deck_here", "_law_first", "_law_second", "_law_count", "_law_rows", "_law_found", "_law_k", "_law_button"]
theorem scMixed : FnScope nMixed ["_law_deck_here", "_law_first", "_law_second", "_law_count"] (defScope sMixed) := ⟨rfl, rfl, rfl, by decide +kernel, rfl, by decide +kernel, by decide +kernel⟩
section
variable {P : Program} {w : World} {K : PySem.W.Frag} {mg : Str → Option Value} {base : Heap}
def spMixed (K : PySem.W.Frag) : Sp := fun vs H Q _ => ∃ (a c : Addr) (v u : V) (na nb m : Nat) (r1 r2 : List Int), vs = [.ref a, v, u, .int (na : Int)] ∧ Deck H a c (m + 130) ∧ Dp K H v (dInts r1) ∧ Dp K H u (dInts r2) ∧ r1.length ≤ 60 ∧ r2.length ≤ 60 ∧ (∀ x ∈ r1, 0 ≤ x ∧ x < (na : Int)) ∧ (∀ x ∈ r2, 0 ≤ x ∧ x < (nb : Int)) ∧
  ∀ (H' : Hp) (v' : V) (row : List Int), But a c H H' → Deck H' a c m → Dp K H' v' (dInts row) → lfR na row = r1 → rtR na row = r2 → (∀ x ∈ row, 0 ≤ x ∧ x < ((na + nb : Nat) : Int)) → row.length = r1.length + r2.length → Q v' H'
theorem ok_Mixed {fDraw : Addr} {fdDraw : FuncData} {f : Addr} {fd : FuncData} {k : Nat} (F : Fun K "_law_mixed" "_law_mixed" sMixed f fd)
    (FDraw : Fun K "_law_draw" "_law_draw" sDraw fDraw fdDraw) (bDraw : Binds K fdDraw ["_law_deck_here", "_law_limit"] []) (gDraw : mg "_law_draw" = some (.ref fDraw))
    (m_len : mg "len" = none) (m_list : mg "list" = none) (m_tuple : mg "tuple" = none) : FnOk P w K mg base CX0 (k + 2) f fd ["_law_deck_here", "_law_first", "_law_second", "_law_count"] (spMixed K) := by
  have GDraw : FnOk P w K mg base CX0 (k + 1) fDraw fdDraw ["_law_deck_here", "_law_limit"] spDraw := ok_draw FDraw m_len
  refine F.ok scMixed (fun vs H Q E h => ?_) (fun cdv A outer s H vs Q E hr h => ?_)
  · obtain ⟨a, c, v, u, na, nb, m, r1, r2, rfl, _⟩ := h
    rfl
  · obtain ⟨a, c, v, u, na, nb, m, r1, r2, rfl, hD, d1, d2, l1, l2, in1, in2, q⟩ := h
    refine ⟨_, pss_cons (ps_par (i := 4) (j := 5) rfl scMixed.nd rfl rfl (by decide) rfl rfl (pa_cons (pe_lst (pa_cons (pe_callTy (show CallR _ _ (rListG K) from call_listG) (by rfl) m_list (by decide +kernel) (pa_cons (pv 1) pa_nil)) (pa_cons (pe_lc (own := [("_law_button", 7)]) (g := gName 7) (tt := tYes) rfl scMixed.nd (show PI _ _ _ (iTup K _) from pi_tup (pv 2)) (blkOk_by (own := [("_law_button", 7)]) (N := nMixed) (sc := defScope sMixed) (by decide +kernel)) (fun _ _ _ _ _ => pg_name (i := 7) scMixed.nd rfl (Or.inl rfl)) (fun _ _ _ _ _ => pts_nil) (fun _ _ _ _ _ => pe_op op_add (pv 3) (pv 7))) pa_nil))) (pa_cons (pe_lst pa_nil) pa_nil)) (by rfl))
      (pss_cons (ps_while PassesOwn.never (pt_cmpR (show OpR _ _ (rNeD K) from op_neD hr.units) (pe_op op_cat (pe_ix (show IxR _ (rIxL K) from ix_list) (pv 4) pe_int (fun _ _ => rfl)) (pe_ix (show IxR _ (rIxL K) from ix_list) (pv 4) pe_int (fun _ _ => rfl))) (pe_lst pa_nil) (nomark _)) (pss_cons (ps_set (i := 6) scMixed.nd rfl (.inl rfl) (pe_call GDraw (hr.mono (by omega)) (by rfl) gDraw FDraw.kp bDraw .nil pass0 (pa_cons (pv 0) (pa_cons pe_int pa_nil))))
      (pss_cons (ps_if (pt_cmpR (show OpR _ _ (rEqD K) from op_eqD hr.units) (pe_ix (show IxR _ (rIxL K) from ix_list) (pv 4) (pv 6) (fun _ _ => rfl)) (pe_lst pa_nil) (nomark _)) (pss_one (ps_set (i := 6) scMixed.nd rfl (.inl rfl) (pe_op op_sub pe_int (pv 6)))) pss_nil)
      (pss_one (ps_expr (show PE _ _ (tBM K "list" rAppend _ _) from pe_bm PySem.F.plainAttrs_list PySem.F.slot_list_append PySem.F.type_list_append mt_append (pv 5) (pa_cons (show PE _ _ (tBM K "list" rPopAt _ _) from pe_bm PySem.F.plainAttrs_list PySem.F.slot_list_pop PySem.F.type_list_pop mt_popAt (pe_ix (show IxR _ (rIxL K) from ix_list) (pv 4) (pv 6) (fun _ _ => rfl)) (pa_cons pe_int pa_nil)) pa_nil)))))))
      (pss_one (ps_ret (pe_callTy (show CallR _ _ (rTupG K) from cr_tupG) (by rfl) m_tuple (by decide +kernel) (pa_cons (pv 5) pa_nil))))), ?_⟩
    refine gs_parQ ?_
    refine (gn_lstT (K := K) (gv_var (i := 1) rfl d1)).at fun X0 us0 H1 s1 n0 e0 dl0 => ?_
    have := dpAll_intsV dl0
    subst this
    refine (gn_lc (K := K) (i := 7) (δ := PyData.int) (as := r2) (p := fun _ => true) (f := fun x => PyData.int ((na : Int) + x)) (gvi_tup (gv_var (i := 2) rfl (d2.sm s1))) (fun x v H1 hx sx dx => ⟨gvt_yes, fun _ => gv_add (gv_var (i := 3) rfl (.int (na : Int))) (gv_var (i := 7) rfl dx)⟩) (fun _ _ => rfl) (by omega)).at fun X1 us1 H2 s2 n1 e1 dl1 => ?_
    have dl1' : DpAll K H2 us1 ((r2.map fun x => (na : Int) + x).map PyData.int) := by
      rw [List.filter_eq_self.mpr (fun _ _ => rfl)] at dl1
      rw [List.map_map]; exact dl1
    have := dpAll_intsV dl1'
    subst this
    refine ⟨(show 2 ≤ sizeLine by decide), fun R nR => ?_⟩
    have s3 := same_new (o := HO.lst [V.ref X0, V.ref X1]) nR
    have eR3 : (upd H2 R (.lst [V.ref X0, V.ref X1])) R = some (.lst [.ref X0, .ref X1]) := upd_same
    have e03 := s3 _ _ (s2 _ _ e0)
    have e13 := s3 _ _ e1
    have nX : X1 ≠ X0 := fun z => by rw [z, e0] at n1; cases n1
    have nR0 : R ≠ X0 := fun z => by rw [z, s2 _ _ e0] at nR; cases nR
    have nR1 : R ≠ X1 := fun z => by rw [z, e1] at nR; cases nR
    have hX1 : H X1 = none := s1.free n1
    have hR : H R = none := s1.free (s2.free nR)
    generalize upd H2 R (.lst [V.ref X0, V.ref X1]) = H3 at s3 eR3 e03 e13 ⊢
    refine ⟨by decide, fun F nF => ?_⟩
    have s4 := same_new (o := HO.lst []) nF
    have eF4 : (upd H3 F (.lst [])) F = some (.lst []) := upd_same
    have nF0 : F ≠ X0 := fun z => by rw [z, e03] at nF; cases nF
    have nF1 : F ≠ X1 := fun z => by rw [z, e13] at nF; cases nF
    have nFR : F ≠ R := fun z => by rw [z, eR3] at nF; cases nF
    have s03 := s1.trans (s2.trans s3)
    have hF : H F = none := s03.free nF
    have e04 := s4 _ _ e03
    have e14 := s4 _ _ e13
    have eR4 := s4 _ _ eR3
    generalize upd H3 F (.lst []) = H4 at s4 eF4 e04 e14 eR4 ⊢
    have s04 := s03.trans s4
    have f0 := hD.fresh n0
    have f1 := hD.fresh hX1
    have fR := hD.fresh hR
    have fF := hD.fresh hF
    refine ⟨_, _, rfl, ?_⟩
    refine gs_seqJ (fun σ H' => ∃ (f : List Int) (x6 x7 : Option V), H' F = some (.lst (f.map V.int)) ∧ lfR na f = r1 ∧ rtR na f = r2 ∧ (∀ x ∈ f, 0 ≤ x ∧ x < ((na + nb : Nat) : Int)) ∧ f.length = r1.length + r2.length ∧ But a c H H' ∧ Deck H' a c m ∧ σ = [some (.ref a), some v, some u, some (.int (na : Int)), some (.ref R), some (.ref F), x6, x7]) (fun σ H' hJ => ?rest) fun hk0 => ?loop
    case rest =>
      obtain ⟨f, x6, x7, eF, hlf, hrt, hin, hle, bb, DD, rfl⟩ := hJ
      exact gs_ret (gv_tupL (gl_var (K := K) (i := 5) rfl eF (dpAll_ints f)).gv) fun v' H'' s dv => q H'' v' f (bb.trans (But.of s)) (DD.same s) dv hlf hrt hin hle
    case loop =>
      refine ⟨fun mu σ H' => ∃ (p1 p2 f : List Int) (x6 x7 : Option V), p1.length + p2.length = mu ∧ H' X0 = some (.lst (p1.map V.int)) ∧ H' X1 = some (.lst ((p2.map fun x => (na : Int) + x).map V.int)) ∧ H' F = some (.lst (f.map V.int)) ∧ H' R = some (.lst [.ref X0, .ref X1]) ∧ lfR na f ++ p1 = r1 ∧ rtR na f ++ p2 = r2 ∧ (∀ x ∈ f, 0 ≤ x ∧ x < ((na + nb : Nat) : Int)) ∧ f.length + mu = r1.length + r2.length ∧ But a c H H' ∧ Deck H' a c (m + mu) ∧ σ = [some (.ref a), some v, some u, some (.int (na : Int)), some (.ref R), some (.ref F), x6, x7],
        ⟨r1.length + r2.length, r1, r2, [], none, none, rfl, e04, e14, eF4, eR4, rfl, rfl, (fun x hx => by cases hx), Nat.zero_add _, But.of s04, (hD.same s04).less (by omega), rfl⟩, fun mu σ H' hW => ?_⟩
      obtain ⟨p1, p2, f, x6, x7, hmu, eX0, eX1, eF, eR, hl, hr, hin, hle, bb, DD, rfl⟩ := hW
      have lp1 : p1.length ≤ 60 := by have := congrArg List.length hl; rw [List.length_append] at this; omega
      have lp2 : p2.length ≤ 60 := by have := congrArg List.length hr; rw [List.length_append] at this; omega
      have cat : GvL K (tOp rCat (tOp (rIxL K) (tVar 4) (tC (.int 0))) (tOp (rIxL K) (tVar 4) (tC (.int 1)))) [some (.ref a), some v, some u, some (.int (na : Int)), some (.ref R), some (.ref F), x6, x7] H' ((p1 ++ p2.map fun x => (na : Int) + x).map PyData.int) := by
        rw [List.map_append]
        exact gl_cat (gl_ixc (k := 0) rfl eR rfl eX0 (dpAll_ints _)) (gl_ixc (k := 1) rfl eR rfl eX1 (dpAll_ints _)) (by rw [List.length_map, List.length_map, List.length_map]; omega)
      refine (gvt_test (b := !decide (p1 ++ (p2.map fun x => (na : Int) + x) = [])) ((gv_neD cat.gv (gv_lst gva_nil) (shp_intsL _) rfl).to (by rw [eqv_nilL]))).at fun H6 s6 => ?_
      refine ite2 (fun hne => ?_) (fun hz => ?_)
      rotate_left
      · have hz' : p1 ++ (p2.map fun x => (na : Int) + x) = [] := by simpa using hz
        obtain ⟨z1, z2⟩ := List.append_eq_nil_iff.mp hz'
        have z2' : p2 = [] := List.map_eq_nil_iff.mp z2
        subst z1 z2'
        rw [List.append_nil] at hl hr
        simp at hmu
        exact hk0 _ _ ⟨f, _, _, s6 _ _ eF, hl, hr, hin, by omega, bb.trans (But.of s6), (DD.same s6).less (by omega), rfl⟩
      · have hne' : ¬ (p1 ++ (p2.map fun x => (na : Int) + x) = []) := fun z => by rw [decide_eq_true z] at hne; cases hne
        have mpos : 1 ≤ mu := by
          rcases Nat.eq_zero_or_pos mu with z | z
          · exfalso
            refine hne' ?_
            rw [List.eq_nil_of_length_eq_zero (show p1.length = 0 by omega), List.eq_nil_of_length_eq_zero (show p2.length = 0 by omega)]; rfl
          · exact z
        refine ⟨fun σ' H' => ∃ mu', mu' < mu ∧ ∃ (p1 p2 f : List Int) (x6 x7 : Option V), p1.length + p2.length = mu' ∧ H' X0 = some (.lst (p1.map V.int)) ∧ H' X1 = some (.lst ((p2.map fun x => (na : Int) + x).map V.int)) ∧ H' F = some (.lst (f.map V.int)) ∧ H' R = some (.lst [.ref X0, .ref X1]) ∧ lfR na f ++ p1 = r1 ∧ rtR na f ++ p2 = r2 ∧ (∀ x ∈ f, 0 ≤ x ∧ x < ((na + nb : Nat) : Int)) ∧ f.length + mu' = r1.length + r2.length ∧ But a c H H' ∧ Deck H' a c (m + mu') ∧ σ' = [some (.ref a), some v, some u, some (.int (na : Int)), some (.ref R), some (.ref F), x6, x7], fun σ' H' h => h, ?_⟩
        refine hideD fun D00 hn00 => ?_
        dsimp only at hn00
        have D6 := DD.same s6
        have small : ∀ g : List Int, g.length ≤ 200 → (g.map V.int).length < sizeLine := fun g hg => by rw [List.length_map]; exact small1000 (by omega)
        have pop0 : ∀ H8 x7, H8 X0 = some (.lst (p1.map V.int)) → H8 X1 = some (.lst ((p2.map fun x => (na : Int) + x).map V.int)) → H8 F = some (.lst (f.map V.int)) → H8 R = some (.lst [.ref X0, .ref X1]) → But a c H H8 → Deck H8 a c (m + (mu - 1)) → p1 ≠ [] →
            tDrop (tBM K "list" rAppend (tVar 5) (tCons (tBM K "list" rPopAt (tOp (rIxL K) (tVar 4) (tVar 6)) (tCons (tC (.int 0)) tNil)) tNil)) D00 [some (.ref a), some v, some u, some (.int (na : Int)), some (.ref R), some (.ref F), some (.int 0), x7] H8 := by
          intro H8 x7 g0 g1 gF gR b8 D8 hp
          obtain ⟨y, t, rfl⟩ := List.exists_cons_of_ne_nil hp
          have ry : 0 ≤ y ∧ y < (na : Int) := in1 y (by rw [← hl]; exact List.mem_append_right _ List.mem_cons_self)
          refine ⟨.ref F, rfl, .inl ⟨rfl, _, .inl (.inl gF)⟩, .ref R, rfl, .int 0, rfl, R, _, 0, .ref X0, rfl, rfl, .inl (.inl gR), rfl, .inl ⟨rfl, _, .inl (.inl g0)⟩, X0, _, 0, 0, .int y, rfl, rfl, g0, by decide, by decide, seqIndex_of (by decide) (by rw [List.length_map, List.length_cons]; omega), rfl, F, f.map V.int, _, rfl, rfl, by rw [upd_ne nF0]; exact gF, small f (by omega), ?_⟩
          obtain ⟨k1, k2⟩ := lfR_snoc na f y ry.2
          refine hn00 _ _ ⟨mu - 1, by omega, t, p2, f ++ [y], _, _, by rw [List.length_cons] at hmu; omega, ?_, ?_, ?_, ?_, by rw [k1, List.append_assoc]; exact hl, by rw [k2]; exact hr, fun x hx => ?_, by rw [List.length_append, List.length_singleton]; omega, fun b o h1 h2 e => ?_, ?_, rfl⟩
          · rw [upd_ne (Ne.symm nF0), upd_same]; rfl
          · rw [upd_ne (Ne.symm nF1), upd_ne nX]; exact g1
          · rw [upd_same, List.map_append]; rfl
          · rw [upd_ne (Ne.symm nFR), upd_ne nR0]; exact gR
          · rcases List.mem_append.mp hx with h | h
            · exact hin x h
            · rw [List.mem_singleton.mp h]; omega
          · rw [upd_ne (ne_of_none e hF), upd_ne (ne_of_none e n0)]; exact b8 _ _ h1 h2 e
          · obtain ⟨cs, nn, w1, w2, w3⟩ := D8
            exact ⟨cs, nn, by rw [upd_ne (Ne.symm fF.1), upd_ne (Ne.symm f0.1)]; exact w1, by rw [upd_ne (Ne.symm fF.2), upd_ne (Ne.symm f0.2)]; exact w2, w3⟩
        have pop1 : ∀ H8 x7, H8 X0 = some (.lst (p1.map V.int)) → H8 X1 = some (.lst ((p2.map fun x => (na : Int) + x).map V.int)) → H8 F = some (.lst (f.map V.int)) → H8 R = some (.lst [.ref X0, .ref X1]) → But a c H H8 → Deck H8 a c (m + (mu - 1)) → p2 ≠ [] →
            tDrop (tBM K "list" rAppend (tVar 5) (tCons (tBM K "list" rPopAt (tOp (rIxL K) (tVar 4) (tVar 6)) (tCons (tC (.int 0)) tNil)) tNil)) D00 [some (.ref a), some v, some u, some (.int (na : Int)), some (.ref R), some (.ref F), some (.int 1), x7] H8 := by
          intro H8 x7 g0 g1 gF gR b8 D8 hp
          obtain ⟨y, t, rfl⟩ := List.exists_cons_of_ne_nil hp
          have ry : 0 ≤ y ∧ y < (nb : Int) := in2 y (by rw [← hr]; exact List.mem_append_right _ List.mem_cons_self)
          refine ⟨.ref F, rfl, .inl ⟨rfl, _, .inl (.inl gF)⟩, .ref R, rfl, .int 1, rfl, R, _, 1, .ref X1, rfl, rfl, .inl (.inl gR), rfl, .inl ⟨rfl, _, .inl (.inl g1)⟩, X1, _, 0, 0, .int ((na : Int) + y), rfl, rfl, g1, by decide, by decide, seqIndex_of (by decide) (by rw [List.length_map, List.length_map, List.length_cons]; omega), rfl, F, f.map V.int, _, rfl, rfl, by rw [upd_ne nF1]; exact gF, small f (by omega), ?_⟩
          obtain ⟨k1, k2⟩ := rtR_snoc na f y ry.1
          refine hn00 _ _ ⟨mu - 1, by omega, p1, t, f ++ [(na : Int) + y], _, _, by rw [List.length_cons] at hmu; omega, ?_, ?_, ?_, ?_, by rw [k1]; exact hl, by rw [k2, List.append_assoc]; exact hr, fun x hx => ?_, by rw [List.length_append, List.length_singleton]; omega, fun b o h1 h2 e => ?_, ?_, rfl⟩
          · rw [upd_ne (Ne.symm nF0), upd_ne (Ne.symm nX)]; exact g0
          · rw [upd_ne (Ne.symm nF1), upd_same]; rfl
          · rw [upd_same, List.map_append]; rfl
          · rw [upd_ne (Ne.symm nFR), upd_ne nR1]; exact gR
          · rcases List.mem_append.mp hx with h | h
            · exact hin x h
            · rw [List.mem_singleton.mp h]; omega
          · rw [upd_ne (ne_of_none e hF), upd_ne (ne_of_none e hX1)]; exact b8 _ _ h1 h2 e
          · obtain ⟨cs, nn, w1, w2, w3⟩ := D8
            exact ⟨cs, nn, by rw [upd_ne (Ne.symm fF.1), upd_ne (Ne.symm f1.1)]; exact w1, by rw [upd_ne (Ne.symm fF.2), upd_ne (Ne.symm f1.2)]; exact w2, w3⟩
        refine gs_setQ ?_
        refine ⟨.ref a, rfl, a, c, m + (mu - 1), 2, rfl, D6.less (by omega), by decide, by decide, fun H7 k b7 D7 k0 k1 => ?_⟩
        have h0 := b7 _ _ f0.1 f0.2 (s6 _ _ eX0)
        have h1 := b7 _ _ f1.1 f1.2 (s6 _ _ eX1)
        have hF7 := b7 _ _ fF.1 fF.2 (s6 _ _ eF)
        have hR7 := b7 _ _ fR.1 fR.2 (s6 _ _ eR)
        have bb7 := (bb.trans (But.of s6)).trans b7
        obtain rfl | rfl : k = 0 ∨ k = 1 := by omega
        · refine gs_if1' (gvt_test (K := K) (b := decide (p1 = [])) ((gv_eqD (gl_ixv (i := 4) (j := 6) (k := 0) rfl rfl hR7 rfl h0 (dpAll_ints p1)).gv (gv_lst gva_nil) (shp_intsL _) rfl).to (by rw [eqv_nilL]))) (fun e H8 s8 => ?_) (fun e H8 s8 => ?_)
          · have e' := of_decide_eq_true e
            have : p2 ≠ [] := fun z => hne' (by rw [e', z]; rfl)
            exact (gv_sub (K := K) gv_int (gv_var (i := 6) rfl (.int 0))).at fun v9 H9 s9 d9 => by
              cases d9
              exact pop1 H9 _ (s9 _ _ (s8 _ _ h0)) (s9 _ _ (s8 _ _ h1)) (s9 _ _ (s8 _ _ hF7)) (s9 _ _ (s8 _ _ hR7)) (bb7.trans (But.of (s8.trans s9))) (D7.same (s8.trans s9)) this
          · exact pop0 H8 _ (s8 _ _ h0) (s8 _ _ h1) (s8 _ _ hF7) (s8 _ _ hR7) (bb7.trans (But.of s8)) (D7.same s8) (of_decide_eq_false e)
        · refine gs_if1' (gvt_test (K := K) (b := decide (p2.map (fun x => (na : Int) + x) = [])) ((gv_eqD (gl_ixv (i := 4) (j := 6) (k := 1) rfl rfl hR7 rfl h1 (dpAll_ints _)).gv (gv_lst gva_nil) (shp_intsL _) rfl).to (by rw [eqv_nilL]))) (fun e H8 s8 => ?_) (fun e H8 s8 => ?_)
          · have e' : p2 = [] := List.map_eq_nil_iff.mp (of_decide_eq_true e)
            have : p1 ≠ [] := fun z => hne' (by rw [e', z]; rfl)
            exact (gv_sub (K := K) gv_int (gv_var (i := 6) rfl (.int 1))).at fun v9 H9 s9 d9 => by
              cases d9
              exact pop0 H9 _ (s9 _ _ (s8 _ _ h0)) (s9 _ _ (s8 _ _ h1)) (s9 _ _ (s8 _ _ hF7)) (s9 _ _ (s8 _ _ hR7)) (bb7.trans (But.of (s8.trans s9))) (D7.same (s8.trans s9)) this
          · exact pop1 H8 _ (s8 _ _ h0) (s8 _ _ h1) (s8 _ _ hF7) (s8 _ _ hR7) (bb7.trans (But.of s8)) (D7.same s8) (fun z => of_decide_eq_false e (by rw [z]; rfl))
end
end K09
namespace K09
open PySem PySem.Spec PyProof.Rows L2 Pr
open LamX
theorem tabs_but {H H' : Hp} {a c : Addr} {m : Nat} {T : List (Addr × Str)} (D : Deck H a c m) (b : But a c H H') (h : Tabs T H) : Tabs T H' := fun p hp => by
  obtain ⟨ps, h1, h2, h3⟩ := h p hp
  have q := D.apart h1 (fun _ => by intro z; cases z)
  refine ⟨ps, b _ _ q.1 q.2 h1, h2, fun pos cv hc => ?_⟩
  obtain ⟨cc, e1, e2⟩ := h3 pos cv hc
  have q2 := D.apart e2 (fun _ => by unfold CodeO; intro z; cases z)
  exact ⟨cc, e1, b _ _ q2.1 q2.2 e2⟩
theorem pat_extN {H H' : Hp} {p : Addr} {pan : List (List Int)} (e : ExtN H H') (h : PanAt H p pan) : PanAt H' p pan := by
  obtain ⟨qs, h1, h2⟩ := h
  have ft : ∀ {a : Addr} {xs : List V}, FT H a xs → FT H' a xs := fun {a xs} ⟨o, q, z⟩ => ⟨o, e _ _ q (fun _ y => by cases y), z⟩
  exact ⟨qs, ft h1, h2.mono fun _ _ x => ft x⟩
theorem held_of {pan : List (List Int)} {n : Nat} {st : List Int} (h : Asc n st) : ∃ hs, IsHeld pan st hs := held_ex ⟨h.up, fun x hx => hx, fun C _ h x hx => h x hx⟩
theorem panT_but {K : PySem.W.Frag} {H H' : Hp} {a c p : Addr} {m : Nat} {pan : List (List Int)} (D : Deck H a c m) (b : But a c H H') (h : PanT K H p pan) : PanT K H' p pan := let ⟨qs, h1, h2⟩ := h; ⟨qs, D.sqT b h1, h2.mono fun _ _ x => D.sqT b x⟩
theorem panT_extN {K : PySem.W.Frag} {H H' : Hp} {p : Addr} {pan : List (List Int)} (e : ExtN H H') (h : PanT K H p pan) : PanT K H' p pan := let ⟨qs, h1, h2⟩ := h; ⟨qs, sqT_extN e h1, h2.mono fun _ _ x => sqT_extN e x⟩
theorem tup_but {H H' : Hp} {a c p : Addr} {m : Nat} {xs : List V} (D : Deck H a c m) (b : But a c H H') (h : H p = some (.tup xs)) : H' p = some (.tup xs) := have ap := D.apart h (fun _ => by intro z; cases z); b _ _ ap.1 ap.2 h
section
variable {K : PySem.W.Frag} {σ : L2.St} {H : Hp} {t ta tb t1 t2 t3 t4 t5 : TE} {ta' : TA} {E : XK} {pan : List (List Int)} {st goal hs : List Int} {pS : Addr}
theorem gv_CanD (h : GvA K ta' σ H [dPan pan, dInts st, dInts goal]) (hg : Good pan) (hst : Asc pan.length st) (hgo : Asc pan.length goal) : Gv K (tCall (spCan K) [] E ta') σ H (.bool (canB pan st goal)) := fun H1 s Q q => h H1 s _ fun vs H2 s2 dv => by
  obtain ⟨v, u, e, rfl, d1, d2, d3⟩ := dpAll3 dv
  obtain ⟨p, rfl, hp⟩ := panT_dp d1
  obtain ⟨a, rfl, ha⟩ := d2.intsI
  obtain ⟨g, rfl, hgl⟩ := d3.intsI
  exact ⟨p, a, g, pan, st, goal, rfl, hp, hg, ha, hst, hgl, hgo, fun H' s3 => q _ H' (s2.trans s3) (.bl _)⟩
theorem gt_ixc {i k : Nat} {S e : Addr} {xs : List V} {l : List Int} (hi : σ[i]? = some (some (.ref S))) (eS : H S = some (.lst xs)) (hx : xs[k]? = some (.ref e)) (ee : H e = some (.tup (l.map V.int))) : GvTup K (tOp (rIxL K) (tVar i) (tC (.int (k : Int)))) σ H l := fun H1 s Q q =>
  ⟨.ref S, hi, S, xs, (k : Int), .ref e, rfl, rfl, .inl (.inl (s _ _ eS)), atI_nat hx, q e H1 (Same.refl _) (s _ _ ee)⟩
theorem gv_ReachT (h1 : Gv K t1 σ H (dPan pan)) (h2 : GvTup K t2 σ H st) (few : pan.length ≤ 10) (hst : Asc pan.length st) : Gv K (tCall (spReach2 K) [] E (tCons t1 (tCons t2 tNil))) σ H (.tuple ((srtT (reachM pan st)).map dInts)) := fun H1 s Q q =>
  h1 H1 s _ fun v H2 s2 d1 => h2 H2 (s.trans s2) _ fun a H3 s3 ea => ⟨v, a, pan, st, rfl, d1.sm s3, ea, few, hst, fun v' H' s4 d => q v' H' ((s2.trans s3).trans s4) d⟩
theorem gv_Held (h : GvA K ta' σ H [dPan pan, dInts st]) (hg : Good pan) (hst : Asc pan.length st) (hh : IsHeld pan st hs) : Gv K (tCall (spHeld K) [] E ta') σ H (dInts hs) := fun H1 s Q q => h H1 s _ fun vs H2 s2 dv => by
  obtain ⟨v, u, rfl, d1, d2⟩ := dpAll2 dv
  obtain ⟨p, rfl, hp⟩ := panT_dp d1
  obtain ⟨t, rfl, ht⟩ := d2.intsI
  exact ⟨p, t, pan, st, rfl, hp, hg, ht, hst, fun H' u hs' s3 hu hh' => by rw [hh'.uniq hh] at hu; exact q _ H' (s2.trans s3) (dp_ints hu)⟩
theorem gv_Cnt (h : Gv K t σ H (dPan pan)) (hg : Good pan) (h7 : pan.length ≤ 7) : Gv K (tCall (spCnt K) [] E (tCons t tNil)) σ H (.int ((effsM pan).length : Nat)) := fun H1 s Q q => h H1 s _ fun v H2 s2 dv => ⟨v, pan, rfl, dv, hg, h7, fun H' s3 => q _ H' (s2.trans s3) (.int _)⟩
theorem call_SR {Q : VK} (h : Gv K t σ H (dPan pan)) (hg : Good pan) (hT : Tabs (TSR pS) H) (q : ∀ (H' : Hp) (a : Addr) (row : List Int), ExtN H H' → Tabs (TSR pS) H' → SqT K H' a (row.map V.int) → BestR pan row → Q (.ref a) H') : tCall (spSReset K pS) [] E (tCons t tNil) σ H Q := h H (Same.refl _) _ fun v H2 s2 dv => by
  obtain ⟨p, rfl, hp⟩ := panT_dp dv
  exact ⟨p, pan, rfl, hp, hg, hT.ext (fun b o e => s2 b o e), fun H' a row e t sq b => q H' a row ((extN_same s2).trans e) t sq b⟩
theorem call_SRlen {Q : VK} (h : Gv K t σ H (dPan pan)) (hg : Good pan) (hT : Tabs (TSR pS) H) (q : ∀ (H' : Hp) (row : List Int), ExtN H H' → Tabs (TSR pS) H' → BestR pan row → Q (.int (row.length : Int)) H') : tCB (rLenG K) (tCons (tCall (spSReset K pS) [] E (tCons t tNil)) tNil) σ H Q :=
  call_SR h hg hT fun H' a row e t sq b => ⟨a, _, rfl, .inr sq, by rw [List.length_map]; exact q H' row e t b⟩
end
theorem best_mn {pan : List (List Int)} {row : List Int} (b : BestR pan row) : Mn pan row.length := by
  refine ⟨⟨row, b.asc.rng, cov_iff.mp b.res, rfl⟩, fun r hr hc => ?_⟩
  obtain ⟨q, q1, q2, q3⟩ := dedup_ex _ r hr
  have := b.best q q1 (cov_iff.mpr (hc.sub fun x hx => (q2 x).mpr hx))
  rcases Nat.lt_or_ge q.length row.length with z | z
  · exact absurd (.inl z) this
  · omega
theorem gv_mul {K : PySem.W.Frag} {σ : L2.St} {H : Hp} {ta tb : TE} {i j : Int} (ha : Gv K ta σ H (.int i)) (hb : Gv K tb σ H (.int j)) (h0 : 0 ≤ i) (h : i < 2 ^ 64) : Gv K (tOp (rI CMul fun i j => V.int (i * j)) ta tb) σ H (.int (i * j)) := gv_op2 ha hb fun x y H1 Q s hx hy q => by
  cases hx; cases hy
  exact ⟨i, j, rfl, rfl, .inl ⟨by omega, h⟩, q _ _ (Same.refl _) (.int _)⟩
theorem effs_few {pan : List (List Int)} (g : Good pan) (h7 : pan.length ≤ 7) : (effsM pan).length ≤ 2187 := by
  unfold effsM
  rw [List.length_map]
  exact bfs_fewE g (m := 7) h7 (pke0 pan) 2187
def L2P (A B : List (List Int)) : Nat → List Int → Prop
  | 0, l => l = []
  | 1, l => ∃ x : Nat, Mn A x ∧ l = [(x : Int)]
  | 2, l => ∃ x y : Nat, Mn A x ∧ Mn B y ∧ l = [(x : Int), (y : Int)]
  | _, _ => False
theorem extN_upd {H1 H3 : Hp} {D : Addr} {o : HO} (e : ExtN H1 H3) (n : H1 D = none) : ExtN H1 (upd H3 D o) := fun b x h hn => by
  rw [upd_ne (ne_of_none h n)]; exact e b x h hn
theorem tabs_updN {H : Hp} {D : Addr} {T : List (Addr × Str)} {xs ys : List V} (h : Tabs T H) (eD : H D = some (.lst xs)) : Tabs T (upd H D (.lst ys)) := fun p hp => by
  obtain ⟨ps, h1, h2, h3⟩ := h p hp
  have n1 : p.1 ≠ D := fun z => by rw [z, eD] at h1; cases h1
  refine ⟨ps, by rw [upd_ne n1]; exact h1, h2, fun pos cv hc => ?_⟩
  obtain ⟨cc, e1, e2⟩ := h3 pos cv hc
  refine ⟨cc, e1, ?_⟩
  have n2 : cc ≠ D := fun z => by rw [z, eD] at e2; unfold CodeO at e2; cases e2
  rw [upd_ne n2]; exact e2
def nNums : List Str := ["_law_panels", "_law_whole", "_law_many", "_law_short", "_law_panel_here"]
theorem scNums : FnScope nNums ["_law_panels", "_law_whole"] (defScope sNums) := ⟨rfl, rfl, rfl, by decide +kernel, rfl, by decide +kernel, by decide +kernel⟩
section
variable {P : Program} {w : World} {K : PySem.W.Frag} {mg : Str → Option Value} {base : Heap}
def spNums (K : PySem.W.Frag) (pS : Addr) : Sp := fun vs H Q _ => ∃ (P_ : Addr) (v : V) (p1 p2 : Addr) (A B : List (List Int)), vs = [.ref P_, v] ∧ H P_ = some (.lst [.ref p1, .ref p2]) ∧ PanAt H p1 A ∧ PanAt H p2 B ∧ Dp K H v (dPan (besP A B)) ∧ Good A ∧ Good B ∧ A.length + B.length ≤ 7 ∧ Tabs (TSR pS) H ∧
  ∀ (H' : Hp), ExtN H H' → Tabs (TSR pS) H' → Q (.bl true) H'
theorem ok_Nums {fRows : Addr} {fdRows : FuncData} {fNo : Addr} {fdNo : FuncData} {fPressE : Addr} {fdPressE : FuncData} {fJoin : Addr} {fdJoin : FuncData} {fWith : Addr} {fdWith : FuncData} {fEff : Addr} {fdEff : FuncData} {fCnt : Addr} {fdCnt : FuncData} {fAllE : Addr} {fdAllE : FuncData} {fBetw : Addr} {fdBetw : FuncData} {fReset : Addr} {fdReset : FuncData} {fSReset : Addr} {fdSReset : FuncData} {f : Addr} {fd : FuncData} {k : Nat} (F : Fun K "_law_numbers_right" "_law_numbers_right" sNums f fd)
    (FRows : Fun K "shortest_rows" "shortest_rows" sRows fRows fdRows) (bRows : Binds K fdRows ["panel", "first", "step"] []) (gRows : mg "shortest_rows" = some (.ref fRows))
    (FNo : Fun K "no_effect" "no_effect" sNo fNo fdNo) (bNo : Binds K fdNo ["panel"] []) (gNo : mg "no_effect" = some (.ref fNo))
    (FPressE : Fun K "press_effect" "press_effect" sPressE fPressE fdPressE) (bPressE : Binds K fdPressE ["panel", "button"] []) (gPressE : mg "press_effect" = some (.ref fPressE))
    (FJoin : Fun K "joined_effect" "joined_effect" sJoin fJoin fdJoin) (bJoin : Binds K fdJoin ["first", "second"] []) (gJoin : mg "joined_effect" = some (.ref fJoin))
    (FWith : Fun K "effect_with_press" "effect_with_press" sWith fWith fdWith) (bWith : Binds K fdWith ["panel", "effect", "button"] []) (gWith : mg "effect_with_press" = some (.ref fWith))
    (FEff : Fun K "effect_of" "effect_of" sEff fEff fdEff) (bEff : Binds K fdEff ["panel", "row"] []) (gEff : mg "effect_of" = some (.ref fEff))
    (FCnt : Fun K "count_effects" "count_effects" sCnt fCnt fdCnt) (bCnt : Binds K fdCnt ["panel"] []) (gCnt : mg "count_effects" = some (.ref fCnt))
    (FAllE : Fun K "all_effects" "all_effects" sAllE fAllE fdAllE) (bAllE : Binds K fdAllE ["panel"] []) (gAllE : mg "all_effects" = some (.ref fAllE))
    (FBetw : Fun K "states_between" "states_between" sBetw fBetw fdBetw) (bBetw : Binds K fdBetw ["least", "most"] []) (gBetw : mg "states_between" = some (.ref fBetw))
    (FReset : Fun K "is_reset" "is_reset" sReset fReset fdReset) (bReset : Binds K fdReset ["panel", "row"] []) (gReset : mg "is_reset" = some (.ref fReset))
    (FSReset : Fun K "shortest_reset" "shortest_reset" sSReset fSReset fdSReset) (bSReset : Binds K fdSReset ["panel"] []) (gSReset : mg "shortest_reset" = some (.ref fSReset))
    (m_len : mg "len" = none) (m_list : mg "list" = none) (m_min : mg "min" = none) (m_range : mg "range" = none) (m_sorted : mg "sorted" = none) (m_sum : mg "sum" = none) (m_tuple : mg "tuple" = none) (m_zip : mg "zip" = none) {tkS : Tok} (y_SMALL_BUTTONS : mg "SMALL_BUTTONS" = some (.int 7 tkS)) {cS pS : Addr} (ecS : fdSReset.code = .ref cS) (TBS : TabB base mg cS pS) : FnOk P w K mg base CX0 (k + 7) f fd ["_law_panels", "_law_whole"] (spNums K pS) := by
  have GCnt : FnOk P w K mg base CX0 (k + 6) fCnt fdCnt ["panel"] (spCnt K) := ok_Cnt FCnt FRows bRows gRows FNo bNo gNo FPressE bPressE gPressE FJoin bJoin gJoin FWith bWith gWith FAllE bAllE gAllE m_len m_list m_range m_sorted m_tuple m_zip y_SMALL_BUTTONS
  have GSReset : FnOk P w K mg base CX0 (k + 6) fSReset fdSReset ["panel"] (spSReset K pS) := ok_SReset FSReset FNo bNo gNo FPressE bPressE gPressE FJoin bJoin gJoin FWith bWith gWith FEff bEff gEff FBetw bBetw gBetw FReset bReset gReset m_len m_list m_range m_sorted m_tuple m_zip m_min ecS TBS
  refine F.ok scNums (fun vs H Q E h => ?_) (fun cdv A outer s H vs Q E hr h => ?_)
  · obtain ⟨P_, v, p1, p2, A, B, rfl, _⟩ := h
    rfl
  · obtain ⟨P_, v, p1, p2, A, B, rfl, eP, hp1, hp2, dW, ga, gb, h7, hT, q⟩ := h
    refine ⟨_, pss_cons (ps_setLc (i := 2) (own := [("_law_panel_here", 4)]) (g := gName 4) (tt := tYes) rfl scNums.nd rfl rfl (sw_true rfl rfl rfl (by decide +kernel)) (show PI _ _ _ (iList K _) from pi_list (pv 0)) (blkOk_by (own := [("_law_panel_here", 4)]) (N := nNums) (sc := defScope sNums) (by decide +kernel)) (fun _ _ _ _ _ => pg_name (i := 4) scNums.nd rfl (Or.inl rfl)) (fun _ _ _ _ _ => pts_nil) (fun _ _ _ _ _ => pe_call GCnt (hr.mono (by omega)) (by rfl) gCnt FCnt.kp bCnt .nil pass0 (pa_cons (pv 4) pa_nil)))
      (pss_cons (ps_setLc (i := 3) (own := [("_law_panel_here", 4)]) (g := gName 4) (tt := tYes) rfl scNums.nd rfl rfl (sw_true rfl rfl rfl (by decide +kernel)) (show PI _ _ _ (iList K _) from pi_list (pv 0)) (blkOk_by (own := [("_law_panel_here", 4)]) (N := nNums) (sc := defScope sNums) (by decide +kernel)) (fun _ _ _ _ _ => pg_name (i := 4) scNums.nd rfl (Or.inl rfl)) (fun _ _ _ _ _ => pts_nil) (fun _ _ _ _ _ => pe_callB (show CallR _ _ (rLenG K) from cr_lenG) (by rfl) m_len PySem.boot_len (pa_cons (pe_call GSReset (hr.mono (by omega)) (by rfl) gSReset FSReset.kp bSReset .nil pass0 (pa_cons (pv 4) pa_nil)) pa_nil)))
      (pss_one (ps_ret (pe_and (pe_cmpR op_eq (pe_call GCnt (hr.mono (by omega)) (by rfl) gCnt FCnt.kp bCnt .nil pass0 (pa_cons (pv 1) pa_nil)) (pe_op op_mul (pe_ix (show IxR _ (rIxL K) from ix_list) (pv 2) pe_int (fun _ _ => rfl)) (pe_ix (show IxR _ (rIxL K) from ix_list) (pv 2) pe_int (fun _ _ => rfl))) (nomark _)) (pe_one (pe_cmpR op_eq (pe_callB (show CallR _ _ (rLenG K) from cr_lenG) (by rfl) m_len PySem.boot_len (pa_cons (pe_call GSReset (hr.mono (by omega)) (by rfl) gSReset FSReset.kp bSReset .nil pass0 (pa_cons (pv 1) pa_nil)) pa_nil)) (pe_callB (show CallR _ _ (rSum K) from cr_sum (by rfl)) (by rfl) m_sum (by decide +kernel) (pa_cons (pv 3) pa_nil)) (nomark _))))))), ?_⟩
    have few1 := ga.few
    have few2 := gb.few
    have hl := besP_len A B
    have gw := bes_good ga gb (by omega)
    refine gs_setN (K := K) (gn_lc (δ := dPan) (as := [A, B]) (p := fun _ => true) (f := fun x => PyData.int ((effsM x).length : Nat)) (gvi_list (gl_var (i := 0) rfl eP (.cons hp1.dp (.cons hp2.dp .nil))).gv) (fun x v Hz hx sz dz => ⟨gvt_yes, fun _ => ?_⟩) (fun _ _ => rfl) (show 2 ≤ 100000 by decide)) fun M vsM H1 s1 nM eM dM => ?_
    · rcases (show x = A ∨ x = B by simpa using hx) with rfl | rfl
      · exact gv_Cnt (gv_var (i := 4) rfl dz) ga (by omega)
      · exact gv_Cnt (gv_var (i := 4) rfl dz) gb (by omega)
    have dM' : DpAll K H1 vsM (([((effsM A).length : Int), ((effsM B).length : Int)]).map PyData.int) := by
      rw [List.filter_eq_self.mpr (fun _ _ => rfl)] at dM; exact dM
    have := dpAll_intsV dM'
    subst this
    have T1 := hT.ext fun b o e => s1 b o e
    refine gs_setQ ?_
    refine ⟨.ref P_, rfl, P_, rfl, ⟨_, .inl (.inl (s1 _ _ eP))⟩, fun D nD => lc_list (K := K) (xs := [.ref p1, .ref p2]) (fun i H3 => ExtN H1 H3 ∧ Tabs (TSR pS) H3 ∧ ∃ l : List Int, L2P A B i l ∧ H3 D = some (.lst (l.map V.int)))
      ⟨extN_upd (ExtN.refl _) nD, T1.ext (fun b o e => same_new nD b o e), [], rfl, upd_same⟩ (fun i H3 _ hP => .inl (.inl (hP.1 _ _ (s1 _ _ eP) (fun _ z => by cases z)))) (fun i x H3 hx hP => ?_) (fun H3 hP => ?_)⟩
    · obtain ⟨e3, T3, l, hl3, eD⟩ := hP
      have hpp1 : PanAt H3 p1 A := pat_extN e3 (hp1.same s1)
      have hpp2 : PanAt H3 p2 B := pat_extN e3 (hp2.same s1)
      match i, hx with
      | 0, hx =>
        cases hx
        obtain rfl : l = [] := hl3
        refine ⟨rfl, tyes (iteT (call_SRlen (pan := A) (gv_var (K := K) (i := 4) rfl hpp1.dp) ga T3 fun H4 r e4 T4 best => ?_))⟩
        have eD4 := e4 _ _ eD (fun _ z => by cases z)
        exact ⟨_, eD4, by decide, extN_upd (e3.trans e4) nD, tabs_updN T4 eD4, [(r.length : Int)], ⟨_, best_mn best, rfl⟩, upd_same⟩
      | 1, hx =>
        cases hx
        obtain ⟨x0, hx0, rfl⟩ := hl3
        refine ⟨rfl, tyes (iteT (call_SRlen (pan := B) (gv_var (K := K) (i := 4) rfl hpp2.dp) gb T3 fun H4 r e4 T4 best => ?_))⟩
        have eD4 := e4 _ _ eD (fun _ z => by cases z)
        exact ⟨_, eD4, (show 1 < sizeLine by decide), extN_upd (e3.trans e4) nD, tabs_updN T4 eD4, [(x0 : Int), (r.length : Int)], ⟨_, _, hx0, best_mn best, rfl⟩, upd_same⟩
      | n + 2, hx => cases hx
    · obtain ⟨e3, T3, l, ⟨x, y, hx, hy, rfl⟩, eD⟩ := hP
      have eM3 := e3 _ _ eM (fun _ z => by cases z)
      have dW3 : Dp K H3 v (dPan (besP A B)) := dp_extN e3 _ _ (dW.sm s1)
      refine ((gv_eqI (gv_Cnt (pan := besP A B) (gv_var (K := K) (i := 1) rfl dW3) gw (by omega)) (gv_mul (gv_ixL (j := 0) (gl_var (i := 2) rfl eM3 (dpAll_ints _)).gv gv_int rfl rfl) (gv_ixL (j := 1) (gl_var (i := 2) rfl eM3 (dpAll_ints _)).gv gv_int rfl rfl) (by omega) (by have := effs_few ga (by omega); omega))).to (e := .bool true) (by rw [bes_effs ga gb h7]; rw [decide_eq_true (by rw [Int.natCast_mul])])).at fun v4 H4 s4 d4 => ?_
      cases d4
      refine ⟨true, rfl, ?_⟩
      refine (if_pos rfl).mpr ?_
      have T4 := T3.ext fun b o e => s4 b o e
      refine call_SRlen (pan := besP A B) (gv_var (K := K) (i := 1) rfl (dW3.sm s4)) gw T4 fun H5 r e5 T5 best => ?_
      have eD5 := e5 _ _ (s4 _ _ eD) (fun _ z => by cases z)
      refine (gv_sum (ns := [(x : Int), (y : Int)]) (gl_var (K := K) (i := 3) rfl eD5 (dpAll_ints _)).gv).at fun v6 H6 s6 d6 => ?_
      cases d6
      have hm := bes_mn ga.rng gb.rng (best_mn best) hx hy
      refine ⟨rfl, ?_⟩
      rw [show decide (V.int (r.length : Int) = V.int ([(x : Int), (y : Int)].sum)) = true from decide_eq_true (by congr 1; simp; omega)]
      exact q H6 (((extN_same s1).trans ((e3.trans (extN_same s4)).trans e5)).trans (extN_same s6)) (T5.ext fun b o e => s6 b o e)
end
end K09
namespace K09
open PySem PySem.Spec PyProof.Rows L2 Pr
open LamX
theorem shp_ways {p1 p2 : List (List Int)} (f1 : p1.length ≤ 10) (f2 : p2.length ≤ 10) (s1 s2 : List Int) (k1 k2 : List Key) : SeqAt.shaped (.list [wayOf (foundM p1 s1) k1, wayOf (foundM p2 s2) k2]) = true := by
  rcases way_shw f1 s1 k1 with e | ⟨r, e, _⟩ <;> rcases way_shw f2 s2 k2 with e2 | ⟨r2, e2, _⟩ <;> rw [e, e2]
  · rfl
  · obtain ⟨h1, h2⟩ := canLay_ints r2
    exact shp_of (by simp [PyData.canLay0, PyData.canLayAll0, dInts, h1]) (by simp [PyData.depth, PyData.depthAll, dInts, h2])
  · obtain ⟨h1, h2⟩ := canLay_ints r
    exact shp_of (by simp [PyData.canLay0, PyData.canLayAll0, dInts, h1]) (by simp [PyData.depth, PyData.depthAll, dInts, h2])
  · exact shp_rowsL [r, r2]
theorem can_bes {A B : List (List Int)} (ga : Good A) (gb : Good B) (h10 : A.length + B.length ≤ 10) {s1 s2 k1 k2 : List Int} (a : Asc A.length s1) (b : Asc B.length s2) (c : Asc A.length k1) (d : Asc B.length k2) : canB (besP A B) (jnM A.length s1 s2) (jnM A.length k1 k2) = (canB A s1 k1 && canB B s2 k2) := by
  rw [Bool.eq_iff_iff, Bool.and_eq_true, canB_iff, canB_iff, canB_iff]; exact bes_reach ga gb h10 a b c d
section
variable {K : PySem.W.Frag} {σ : L2.St} {H : Hp} {t ta tb t1 t2 t3 : TE} {E : XK} {pan : List (List Int)} {st gl : List Int}
theorem gt_Joined {na : Nat} {s1 s2 : List Int} (h1 : GvTup K t1 σ H s1) (h2 : Gv K t2 σ H (dInts s2)) (h3 : Gv K t3 σ H (.int (na : Int))) (l1 : s1.length ≤ 100) (l2 : s2.length ≤ 100) : GvTup K (tCall (spJoined K) [] E (tCons t1 (tCons t2 (tCons t3 tNil)))) σ H (jnM na s1 s2) := fun H1 s Q q =>
  h1 H1 s _ fun a H2 s2' ea => h2 H2 (s.trans s2') _ fun v H3 s3 d2 => h3 H3 ((s.trans s2').trans s3) _ fun w H4 s4 d3 => by
    cases d3
    have e4 := s4 _ _ (s3 _ _ ea)
    exact ⟨a, v, na, s1, s2, rfl, .inl (.inl e4), d2.sm s4, l1, l2, fun H' p s5 _ hp => q p H' (((s2'.trans s3).trans s4).trans s5) (hp e4)⟩
theorem gv_JoinedD {na : Nat} {s1 s2 : List Int} (h1 : Gv K t1 σ H (dInts s1)) (h2 : Gv K t2 σ H (dInts s2)) (h3 : Gv K t3 σ H (.int (na : Int))) (l1 : s1.length ≤ 100) (l2 : s2.length ≤ 100) : Gv K (tCall (spJoined K) [] E (tCons t1 (tCons t2 (tCons t3 tNil)))) σ H (dInts (jnM na s1 s2)) := fun H1 s Q q =>
  h1 H1 s _ fun v1 H2 s2' d1 => h2 H2 (s.trans s2') _ fun v H3 s3 d2 => h3 H3 ((s.trans s2').trans s3) _ fun w H4 s4 d3 => by
    cases d3
    obtain ⟨a, rfl, ha⟩ := d1.intsI
    exact ⟨a, v, na, s1, s2, rfl, same_sqT (s3.trans s4) ha, d2.sm s4, l1, l2, fun H' p s5 hp _ => q _ H' (((s2'.trans s3).trans s4).trans s5) (dp_ints hp)⟩
theorem gv_WayT (h1 : Gv K t1 σ H (dPan pan)) (h2 : GvTup K t2 σ H st) (h3 : GvTup K t3 σ H gl) (few : pan.length ≤ 10) (hst : Asc pan.length st) : Gv K (tCall (spWay K) [] E (tCons t1 (tCons t2 (tCons t3 tNil)))) σ H (wayOf (foundM pan st) (kInt gl)) := fun H1 s Q q =>
  h1 H1 s _ fun v H2 s2 d1 => h2 H2 (s.trans s2) _ fun a H3 s3 ea => h3 H3 ((s.trans s2).trans s3) _ fun g H4 s4 eg =>
    ⟨v, a, g, pan, st, gl, rfl, (d1.sm s3).sm s4, s4 _ _ ea, eg, few, hst, fun v' H' s5 d => q v' H' (((s2.trans s3).trans s4).trans s5) d⟩
theorem gv_inD {d : PyData} {ds : List PyData} (ha : Gv K ta σ H d) (hb : Gv K tb σ H (.list ds)) (h1 : SeqAt.shaped d = true) (h2 : SeqAt.shaped (.list ds) = true) : Gv K (tOp (rInD K) ta tb) σ H (.bool (ds.any fun z => PyData.eqv z d)) := gv_op2 ha hb fun x y H1 Q s hx hy q => ⟨d, ds, hx, hy, h1, h2, q _ _ (Same.refl _) (.bl _)⟩
theorem gt_ixv {i j k : Nat} {S e : Addr} {xs : List V} {l : List Int} (hi : σ[i]? = some (some (.ref S))) (hj : σ[j]? = some (some (.int (k : Int)))) (eS : H S = some (.lst xs)) (hx : xs[k]? = some (.ref e)) (ee : H e = some (.tup (l.map V.int))) : GvTup K (tOp (rIxL K) (tVar i) (tVar j)) σ H l := fun H1 s Q q =>
  ⟨.ref S, hi, .int (k : Int), hj, S, xs, (k : Int), .ref e, rfl, rfl, .inl (.inl (s _ _ eS)), atI_nat hx, q e H1 (Same.refl _) (s _ _ ee)⟩
end
def nWays : List Str := ["_law_panels", "_law_whole", "_law_starts", "_law_goals", "_law_count", "_law_start", "_law_goal", "_law_can", "_law_way", "_law_parts", "_law_many", "_law_k"]
theorem scWays : FnScope nWays ["_law_panels", "_law_whole", "_law_starts", "_law_goals"] (defScope sWays) := ⟨rfl, rfl, rfl, by decide +kernel, rfl, by decide +kernel, by decide +kernel⟩
section
variable {P : Program} {w : World} {K : PySem.W.Frag} {mg : Str → Option Value} {base : Heap}
def spWays (K : PySem.W.Frag) : Sp := fun vs H Q _ => ∃ (P_ S_ G_ : Addr) (v : V) (p1 p2 a1 a2 g1 g2 : Addr) (A B : List (List Int)) (s1 s2 k1 k2 : List Int), vs = [.ref P_, v, .ref S_, .ref G_] ∧ H P_ = some (.lst [.ref p1, .ref p2]) ∧ PanAt H p1 A ∧ PanAt H p2 B ∧ Dp K H v (dPan (besP A B)) ∧ Good A ∧ Good B ∧ A.length + B.length ≤ 7 ∧
  H S_ = some (.lst [.ref a1, .ref a2]) ∧ H a1 = some (.tup (s1.map V.int)) ∧ H a2 = some (.tup (s2.map V.int)) ∧ H G_ = some (.lst [.ref g1, .ref g2]) ∧ H g1 = some (.tup (k1.map V.int)) ∧ H g2 = some (.tup (k2.map V.int)) ∧ Asc A.length s1 ∧ Asc B.length s2 ∧ Asc A.length k1 ∧ Asc B.length k2 ∧
  ∀ (H' : Hp), Same H H' → Q (.bl true) H'
theorem ok_Ways {fRows : Addr} {fdRows : FuncData} {fPress : Addr} {fdPress : FuncData} {fAny : Addr} {fdAny : FuncData} {fHeld : Addr} {fdHeld : FuncData} {fGath : Addr} {fdGath : FuncData} {fCan : Addr} {fdCan : FuncData} {fWay : Addr} {fdWay : FuncData} {fReach2 : Addr} {fdReach2 : FuncData} {fJoined : Addr} {fdJoined : FuncData} {f : Addr} {fd : FuncData} {k : Nat} (F : Fun K "_law_ways_right" "_law_ways_right" sWays f fd)
    (FRows : Fun K "shortest_rows" "shortest_rows" sRows fRows fdRows) (bRows : Binds K fdRows ["panel", "first", "step"] []) (gRows : mg "shortest_rows" = some (.ref fRows))
    (FPress : Fun K "press_button" "press_button" sPress fPress fdPress) (bPress : Binds K fdPress ["panel", "state", "button"] []) (gPress : mg "press_button" = some (.ref fPress))
    (FAny : Fun K "releases_any" "releases_any" sAny fAny fdAny) (bAny : Binds K fdAny ["panel", "button", "others"] []) (gAny : mg "releases_any" = some (.ref fAny))
    (FHeld : Fun K "held_buttons" "held_buttons" sHeld fHeld fdHeld) (bHeld : Binds K fdHeld ["panel", "state"] []) (gHeld : mg "held_buttons" = some (.ref fHeld))
    (FGath : Fun K "gathered_buttons" "gathered_buttons" sGath fGath fdGath) (bGath : Binds K fdGath ["panel", "goal"] []) (gGath : mg "gathered_buttons" = some (.ref fGath))
    (FCan : Fun K "can_reach" "can_reach" sCan fCan fdCan) (bCan : Binds K fdCan ["panel", "start", "goal"] []) (gCan : mg "can_reach" = some (.ref fCan))
    (FWay : Fun K "shortest_way" "shortest_way" sWay fWay fdWay) (bWay : Binds K fdWay ["panel", "start", "goal"] []) (gWay : mg "shortest_way" = some (.ref fWay))
    (FReach2 : Fun K "reachable_states" "reachable_states" sReach2 fReach2 fdReach2) (bReach2 : Binds K fdReach2 ["panel", "start"] []) (gReach2 : mg "reachable_states" = some (.ref fReach2))
    (FJoined : Fun K "_law_joined" "_law_joined" sJoined fJoined fdJoined) (bJoined : Binds K fdJoined ["_law_first", "_law_second", "_law_count"] []) (gJoined : mg "_law_joined" = some (.ref fJoined))
    (m_all : mg "all" = none) (m_any : mg "any" = none) (m_len : mg "len" = none) (m_list : mg "list" = none) (m_range : mg "range" = none) (m_sorted : mg "sorted" = none) (m_tuple : mg "tuple" = none) : FnOk P w K mg base CX0 (k + 5) f fd ["_law_panels", "_law_whole", "_law_starts", "_law_goals"] (spWays K) := by
  have GJoined : FnOk P w K mg base CX0 (k + 1) fJoined fdJoined ["_law_first", "_law_second", "_law_count"] (spJoined K) := ok_Joined FJoined m_tuple
  have GCan : FnOk P w K mg base CX0 (k + 4) fCan fdCan ["panel", "start", "goal"] (spCan K) := ok_Can FCan FAny bAny gAny FHeld bHeld gHeld FGath bGath gGath m_all m_any m_len m_range m_sorted m_tuple
  have GWay : FnOk P w K mg base CX0 (k + 3) fWay fdWay ["panel", "start", "goal"] (spWay K) := ok_Way FWay FRows bRows gRows FPress bPress gPress m_len m_range m_sorted m_tuple
  have GReach2 : FnOk P w K mg base CX0 (k + 3) fReach2 fdReach2 ["panel", "start"] (spReach2 K) := ok_Reach2 FReach2 FRows bRows gRows FPress bPress gPress m_len m_list m_range m_sorted m_tuple
  refine F.ok scWays (fun vs H Q E h => ?_) (fun cdv A outer s H vs Q E hr h => ?_)
  · obtain ⟨P_, S_, G_, v, p1, p2, a1, a2, g1, g2, A, B, s1, s2, k1, k2, rfl, _⟩ := h
    rfl
  · obtain ⟨P_, S_, G_, v, p1, p2, a1, a2, g1, g2, A, B, s1, s2, k1, k2, rfl, eP, hp1, hp2, dW, ga, gb, h7, eS, ea1, ea2, eG, eg1, eg2, as1, as2, ak1, ak2, q⟩ := h
    refine ⟨_, pss_cons (ps_set (i := 4) scWays.nd rfl (.inl rfl) (pe_callB (show CallR _ _ (rLenG K) from cr_lenG) (by rfl) m_len PySem.boot_len (pa_cons (pe_ix (show IxR _ (rIxL K) from ix_list) (pv 0) pe_int (fun _ _ => rfl)) pa_nil)))
      (pss_cons (ps_par (i := 5) (j := 6) rfl scWays.nd rfl rfl (by decide) rfl rfl (pa_cons (pe_call GJoined (hr.mono (by omega)) (by rfl) gJoined FJoined.kp bJoined .nil pass0 (pa_cons (pe_ix (show IxR _ (rIxL K) from ix_list) (pv 2) pe_int (fun _ _ => rfl)) (pa_cons (pe_ix (show IxR _ (rIxL K) from ix_list) (pv 2) pe_int (fun _ _ => rfl)) (pa_cons (pv 4) pa_nil)))) (pa_cons (pe_call GJoined (hr.mono (by omega)) (by rfl) gJoined FJoined.kp bJoined .nil pass0 (pa_cons (pe_ix (show IxR _ (rIxL K) from ix_list) (pv 3) pe_int (fun _ _ => rfl)) (pa_cons (pe_ix (show IxR _ (rIxL K) from ix_list) (pv 3) pe_int (fun _ _ => rfl)) (pa_cons (pv 4) pa_nil)))) pa_nil)) (by rfl))
      (pss_cons (ps_setLc (i := 7) (own := [("_law_k", 11)]) (g := gName 11) (tt := tYes) rfl scWays.nd rfl rfl (sw_true rfl rfl rfl (by decide +kernel)) (pi_range1 (by rfl) m_range (pa_cons pe_int pa_nil)) (blkOk_by (own := [("_law_k", 11)]) (N := nWays) (sc := defScope sWays) (by decide +kernel)) (fun _ _ _ _ _ => pg_name (i := 11) scWays.nd rfl (Or.inl rfl)) (fun _ _ _ _ _ => pts_nil) (fun _ _ _ _ _ => pe_call GCan (hr.mono (by omega)) (by rfl) gCan FCan.kp bCan .nil pass0 (pa_cons (pe_ix (show IxR _ (rIxL K) from ix_list) (pv 0) (pv 11) (fun _ _ => rfl)) (pa_cons (pe_ix (show IxR _ (rIxL K) from ix_list) (pv 2) (pv 11) (fun _ _ => rfl)) (pa_cons (pe_ix (show IxR _ (rIxL K) from ix_list) (pv 3) (pv 11) (fun _ _ => rfl)) pa_nil)))))
      (pss_cons (ps_par (i := 8) (j := 9) rfl scWays.nd rfl rfl (by decide) rfl rfl (pa_cons (pe_call GWay (hr.mono (by omega)) (by rfl) gWay FWay.kp bWay .nil pass0 (pa_cons (pv 1) (pa_cons (pv 5) (pa_cons (pv 6) pa_nil)))) (pa_cons (pe_lc (own := [("_law_k", 11)]) (g := gName 11) (tt := tYes) rfl scWays.nd (pi_range1 (by rfl) m_range (pa_cons pe_int pa_nil)) (blkOk_by (own := [("_law_k", 11)]) (N := nWays) (sc := defScope sWays) (by decide +kernel)) (fun _ _ _ _ _ => pg_name (i := 11) scWays.nd rfl (Or.inl rfl)) (fun _ _ _ _ _ => pts_nil) (fun _ _ _ _ _ => pe_call GWay (hr.mono (by omega)) (by rfl) gWay FWay.kp bWay .nil pass0 (pa_cons (pe_ix (show IxR _ (rIxL K) from ix_list) (pv 0) (pv 11) (fun _ _ => rfl)) (pa_cons (pe_ix (show IxR _ (rIxL K) from ix_list) (pv 2) (pv 11) (fun _ _ => rfl)) (pa_cons (pe_ix (show IxR _ (rIxL K) from ix_list) (pv 3) (pv 11) (fun _ _ => rfl)) pa_nil))))) pa_nil)) (by rfl))
      (pss_cons (ps_if (PW.pt (pw_or (pt_cmpR op_ne (pe_call GCan (hr.mono (by omega)) (by rfl) gCan FCan.kp bCan .nil pass0 (pa_cons (pv 1) (pa_cons (pv 5) (pa_cons (pv 6) pa_nil)))) (pe_and (pe_ix (show IxR _ (rIxL K) from ix_list) (pv 7) pe_int (fun _ _ => rfl)) (pe_one (pe_ix (show IxR _ (rIxL K) from ix_list) (pv 7) pe_int (fun _ _ => rfl)))) (nomark _)) (pw_or1 (pt_cmpR op_ne (pe_cmpR op_isN (pv 8) pe_non (by rfl)) (pe_cmpR (show OpR _ _ (rInD K) from op_inD (Room.u65 hr)) pe_non (pv 9) (by rfl)) (nomark _))))) (pss_one (ps_ret pe_bl)) pss_nil)
      (pss_cons (ps_if (PW.pt (pw_and (pt_cmpR op_notN (pv 8) pe_non (by rfl)) (pw_and1 (pt_cmpR op_ne (pe_callB (show CallR _ _ (rLenG K) from cr_lenG) (by rfl) m_len PySem.boot_len (pa_cons (pv 8) pa_nil)) (pe_op op_add (pe_callB (show CallR _ _ (rLenG K) from cr_lenG) (by rfl) m_len PySem.boot_len (pa_cons (pe_ix (show IxR _ (rIxL K) from ix_list) (pv 9) pe_int (fun _ _ => rfl)) pa_nil)) (pe_callB (show CallR _ _ (rLenG K) from cr_lenG) (by rfl) m_len PySem.boot_len (pa_cons (pe_ix (show IxR _ (rIxL K) from ix_list) (pv 9) pe_int (fun _ _ => rfl)) pa_nil))) (nomark _))))) (pss_one (ps_ret pe_bl)) pss_nil)
      (pss_cons (ps_setLc (i := 10) (own := [("_law_k", 11)]) (g := gName 11) (tt := tYes) rfl scWays.nd rfl rfl (sw_true rfl rfl rfl (by decide +kernel)) (pi_range1 (by rfl) m_range (pa_cons pe_int pa_nil)) (blkOk_by (own := [("_law_k", 11)]) (N := nWays) (sc := defScope sWays) (by decide +kernel)) (fun _ _ _ _ _ => pg_name (i := 11) scWays.nd rfl (Or.inl rfl)) (fun _ _ _ _ _ => pts_nil) (fun _ _ _ _ _ => pe_callB (show CallR _ _ (rLenG K) from cr_lenG) (by rfl) m_len PySem.boot_len (pa_cons (pe_call GReach2 (hr.mono (by omega)) (by rfl) gReach2 FReach2.kp bReach2 .nil pass0 (pa_cons (pe_ix (show IxR _ (rIxL K) from ix_list) (pv 0) (pv 11) (fun _ _ => rfl)) (pa_cons (pe_ix (show IxR _ (rIxL K) from ix_list) (pv 2) (pv 11) (fun _ _ => rfl)) pa_nil))) pa_nil)))
      (pss_one (ps_ret (pe_cmpR op_eq (pe_callB (show CallR _ _ (rLenG K) from cr_lenG) (by rfl) m_len PySem.boot_len (pa_cons (pe_call GReach2 (hr.mono (by omega)) (by rfl) gReach2 FReach2.kp bReach2 .nil pass0 (pa_cons (pv 1) (pa_cons (pv 5) pa_nil))) pa_nil)) (pe_op op_mul (pe_ix (show IxR _ (rIxL K) from ix_list) (pv 10) pe_int (fun _ _ => rfl)) (pe_ix (show IxR _ (rIxL K) from ix_list) (pv 10) pe_int (fun _ _ => rfl))) (nomark _)))))))))), ?_⟩
    have few1 := ga.few
    have few2 := gb.few
    have hl := besP_len A B
    have gw := bes_good ga gb (by omega)
    have h10 : A.length + B.length ≤ 10 := by omega
    have sl1 := as1.len
    have sl2 := as2.len
    have kl1 := ak1.len
    have kl2 := ak2.len
    have jS : Asc (besP A B).length (jnM A.length s1 s2) := by rw [hl]; exact jn_asc as1 as2
    have jG : Asc (besP A B).length (jnM A.length k1 k2) := by rw [hl]; exact jn_asc ak1 ak2
    have dP : DpAll K H [.ref p1, .ref p2] [dPan A, dPan B] := .cons hp1.dp (.cons hp2.dp .nil)
    have rl1 := reach_len few1 as1
    obtain ⟨w1, hw1⟩ : ∃ w, w = wayOf (foundM A s1) (kInt k1) := ⟨_, rfl⟩
    obtain ⟨w2, hw2⟩ : ∃ w, w = wayOf (foundM B s2) (kInt k2) := ⟨_, rfl⟩
    obtain ⟨m1, hm1⟩ : ∃ m : Int, m = ((reachM A s1).length : Int) := ⟨_, rfl⟩
    obtain ⟨m2, hm2⟩ : ∃ m : Int, m = ((reachM B s2).length : Int) := ⟨_, rfl⟩
    refine gs_set1 (K := K) ((gv_lenT (gv_ixL (j := 0) (gl_var (i := 0) rfl eP dP).gv gv_int rfl rfl)).to (e := .int (A.length : Int)) (by rw [List.length_map])) fun vc H1 r1 dc => ?_
    cases dc
    refine gs_parQ ?_
    refine (gt_Joined (K := K) (gt_ixc (i := 2) (k := 0) rfl (r1 _ _ eS) rfl (r1 _ _ ea1)) (gt_ixc (i := 2) (k := 1) rfl (r1 _ _ eS) rfl (r1 _ _ ea2)).gv (gv_var (i := 4) rfl (.int (A.length : Int))) (by omega) (by omega)).at fun t1 H2 r2 et1 => ?_
    have r12 := r1.trans r2
    refine (gt_Joined (K := K) (gt_ixc (i := 3) (k := 0) rfl (r12 _ _ eG) rfl (r12 _ _ eg1)) (gt_ixc (i := 3) (k := 1) rfl (r12 _ _ eG) rfl (r12 _ _ eg2)).gv (gv_var (i := 4) rfl (.int (A.length : Int))) (by omega) (by omega)).at fun t2 H3 r3 et2 => ?_
    have r13 := r12.trans r3
    have et13 := r3 _ _ et1
    refine ⟨_, _, rfl, ?_⟩
    refine gs_setN (K := K) (gn_lc (i := 11) (δ := fun k : Nat => PyData.int (k : Int)) (as := List.range 2) (p := fun _ => true) (f := fun k : Nat => PyData.bool ([canB A s1 k1, canB B s2 k2].getD k true)) (gvi_range (n := 2) (gv_int (i := 2)) (by decide)) (fun k v Hz hk sz dz => ⟨gvt_yes, fun _ => ?_⟩) (fun _ _ => rfl) (show 2 ≤ 100000 by decide)) fun LC vLC H4 r4 nLC eLC dLC => ?_
    · have r1z := r13.trans sz
      cases dz
      obtain rfl | rfl : k = 0 ∨ k = 1 := by have := List.mem_range.mp hk; omega
      · exact gv_CanD (pan := A) (st := s1) (goal := k1) (gva_cons (gv_ixL (j := 0) (gl_var (i := 0) rfl (r1z _ _ eP) (dP.sm r1z)).gv (gv_var (i := 11) rfl (.int ((0 : Nat) : Int))) rfl rfl) (gva_cons (gt_ixv (i := 2) (j := 11) (k := 0) rfl rfl (r1z _ _ eS) rfl (r1z _ _ ea1)).gv (gva_cons (gt_ixv (i := 3) (j := 11) (k := 0) rfl rfl (r1z _ _ eG) rfl (r1z _ _ eg1)).gv gva_nil))) ga as1 ak1
      · exact gv_CanD (pan := B) (st := s2) (goal := k2) (gva_cons (gv_ixL (j := 1) (gl_var (i := 0) rfl (r1z _ _ eP) (dP.sm r1z)).gv (gv_var (i := 11) rfl (.int ((1 : Nat) : Int))) rfl rfl) (gva_cons (gt_ixv (i := 2) (j := 11) (k := 1) rfl rfl (r1z _ _ eS) rfl (r1z _ _ ea2)).gv (gva_cons (gt_ixv (i := 3) (j := 11) (k := 1) rfl rfl (r1z _ _ eG) rfl (r1z _ _ eg2)).gv gva_nil))) gb as2 ak2
    have dLC' : DpAll K H4 vLC [.bool (canB A s1 k1), .bool (canB B s2 k2)] := dLC
    have r14 := r13.trans r4
    have et14 := r4 _ _ et13
    have et24 := r4 _ _ et2
    refine gs_parQ ?_
    refine (gv_WayT (K := K) (pan := besP A B) (st := jnM A.length s1 s2) (gl := jnM A.length k1 k2) (gv_var (i := 1) rfl (dW.sm r14)) (gt_var (i := 5) rfl et14) (gt_var (i := 6) rfl et24) (by omega) jS).at fun vw H5 r5 dw => ?_
    have r15 := r14.trans r5
    refine (gn_lc (K := K) (i := 11) (δ := fun k : Nat => PyData.int (k : Int)) (as := List.range 2) (p := fun _ => true) (f := fun k : Nat => [w1, w2].getD k .none) (gvi_range (n := 2) (gv_int (i := 2)) (by decide)) (fun k v Hz hk sz dz => ⟨gvt_yes, fun _ => ?_⟩) (fun k hk => ?_) (show 2 ≤ 100000 by decide)).at fun LP vLP H6 r6 nLP eLP dLP => ?_
    · have r1z := r15.trans sz
      cases dz
      obtain rfl | rfl : k = 0 ∨ k = 1 := by have := List.mem_range.mp hk; omega
      · exact (gv_WayT (pan := A) (st := s1) (gl := k1) (gv_ixL (j := 0) (gl_var (i := 0) rfl (r1z _ _ eP) (dP.sm r1z)).gv (gv_var (i := 11) rfl (.int ((0 : Nat) : Int))) rfl rfl) (gt_ixv (i := 2) (j := 11) (k := 0) rfl rfl (r1z _ _ eS) rfl (r1z _ _ ea1)) (gt_ixv (i := 3) (j := 11) (k := 0) rfl rfl (r1z _ _ eG) rfl (r1z _ _ eg1)) few1 as1).to hw1.symm
      · exact (gv_WayT (pan := B) (st := s2) (gl := k2) (gv_ixL (j := 1) (gl_var (i := 0) rfl (r1z _ _ eP) (dP.sm r1z)).gv (gv_var (i := 11) rfl (.int ((1 : Nat) : Int))) rfl rfl) (gt_ixv (i := 2) (j := 11) (k := 1) rfl rfl (r1z _ _ eS) rfl (r1z _ _ ea2)) (gt_ixv (i := 3) (j := 11) (k := 1) rfl rfl (r1z _ _ eG) rfl (r1z _ _ eg2)) few2 as2).to hw2.symm
    · obtain rfl | rfl : k = 0 ∨ k = 1 := by have := List.mem_range.mp hk; omega
      · show lf w1 = true
        rw [hw1]; exact wayOf_lf _ _
      · show lf w2 = true
        rw [hw2]; exact wayOf_lf _ _
    have dLP' : DpAll K H6 vLP [w1, w2] := dLP
    rw [hw1, hw2] at dLP'
    refine ⟨_, _, rfl, ?_⟩
    have r16 := r15.trans r6
    have et16 := r6 _ _ (r5 _ _ et14)
    have et26 := r6 _ _ (r5 _ _ et24)
    have eLC6 := r6 _ _ (r5 _ _ eLC)
    have dLC6 := (dLC'.sm r5).sm r6
    have dw6 := dw.sm r6
    have inN : ([wayOf (foundM A s1) (kInt k1), wayOf (foundM B s2) (kInt k2)].any fun z => PyData.eqv z .none) = dNone (wayOf (foundM (besP A B) (jnM A.length s1 s2)) (kInt (jnM A.length k1 k2))) := by
      rcases bes_way ga gb h10 as1 as2 ak1 ak2 with ⟨e, e1 | e1⟩ | ⟨r, q1, q2, e, e1, e2, _⟩
      · rw [e, e1]; rfl
      · rw [e, e1, List.any_cons, List.any_cons, show PyData.eqv .none .none = true from rfl, Bool.true_or, Bool.or_true]; rfl
      · rw [e, e1, e2]; rfl
    refine gs_no (b := false) ((gvt_or (b := false) (c := false) (gvt_test ((gv_neB (K := K) (gv_CanD (pan := besP A B) (gva_cons (gv_var (i := 1) rfl (dW.sm r16)) (gva_cons (gv_var (i := 5) rfl (dp_ints (.inl (.inl et16)))) (gva_cons (gv_var (i := 6) rfl (dp_ints (.inl (.inl et26)))) gva_nil))) gw jS jG) (gv_andV (gv_ixL (j := 0) (gl_var (i := 7) rfl eLC6 dLC6).gv gv_int rfl rfl) (fun _ => gv_ixL (j := 1) (gl_var (i := 7) rfl eLC6 dLC6).gv gv_int rfl rfl))).to (by rw [can_bes ga gb h10 as1 as2 ak1 ak2, decide_eq_true rfl]; rfl))) (fun Hy sy _ => gvt_test ((gv_neB (gv_isN (gv_var (i := 8) rfl (dw6.sm sy)) rfl) (gv_inD (gv_non) (gl_var (i := 9) rfl (sy _ _ eLP) (dLP'.sm sy)).gv rfl (shp_ways few1 few2 _ _ _ _))).to (by rw [inN, decide_eq_true rfl]; rfl)))).to rfl) rfl fun H7 r7 => ?_
    have r17 := r16.trans r7
    have eLP7 := r7 _ _ eLP
    have dLP7 := dLP'.sm r7
    have dw7 := dw6.sm r7
    have second : GvT (tAnd (tTest (tOp (fun x y H Q => y = V.non ∧ Q (V.bl !decide (x = V.non)) H) (tVar 8) (tC V.non))) (tTest (tOp rNe (tCB (rLenG K) (tCons (tVar 8) tNil)) (tOp (rI0 fun i j => V.int (i + j)) (tCB (rLenG K) (tCons (tOp (rIxL K) (tVar 9) (tC (V.int 0))) tNil)) (tCB (rLenG K) (tCons (tOp (rIxL K) (tVar 9) (tC (V.int 1))) tNil)))))) [some (.ref P_), some v, some (.ref S_), some (.ref G_), some (.int (A.length : Int)), some (.ref t1), some (.ref t2), some (.ref LC), some vw, some (.ref LP), none, none] H7 false := by
      rcases bes_way ga gb h10 as1 as2 ak1 ak2 with ⟨e, _⟩ | ⟨r, q1, q2, e, e1, e2, el⟩
      · rw [e] at dw7
        exact (gvt_and (b := false) (c := false) (gvt_test ((gv_notN (K := K) (gv_var (i := 8) rfl dw7) rfl).to rfl)) (fun Hy sy h => by cases h)).to rfl
      · rw [e] at dw7
        rw [e1, e2] at dLP7
        exact (gvt_and (b := true) (c := false) (gvt_test ((gv_notN (K := K) (gv_var (i := 8) rfl dw7) rfl).to rfl)) (fun Hy sy _ => gvt_test ((gv_neI (gv_lenT (gv_var (i := 8) rfl (dw7.sm sy))) (gv_add (gv_lenT (gv_ixL (j := 0) (gl_var (i := 9) rfl (sy _ _ eLP7) (dLP7.sm sy)).gv gv_int rfl rfl)) (gv_lenT (gv_ixL (j := 1) (gl_var (i := 9) rfl (sy _ _ eLP7) (dLP7.sm sy)).gv gv_int rfl rfl)))).to (by rw [List.length_map, List.length_map, List.length_map, el, decide_eq_true (by rw [Int.natCast_add])]; rfl)))).to rfl
    refine gs_no (b := false) second rfl fun H8 r8 => ?_
    have r18 := r17.trans r8
    have et18 := r8 _ _ (r7 _ _ et16)
    refine gs_setN (K := K) (gn_lc (i := 11) (δ := fun k : Nat => PyData.int (k : Int)) (as := List.range 2) (p := fun _ => true) (f := fun k : Nat => PyData.int ([m1, m2].getD k 0)) (gvi_range (n := 2) (gv_int (i := 2)) (by decide)) (fun k v Hz hk sz dz => ⟨gvt_yes, fun _ => ?_⟩) (fun _ _ => rfl) (show 2 ≤ 100000 by decide)) fun LM vLM H9 r9 nLM eLM dLM => ?_
    · have r1z := r18.trans sz
      cases dz
      obtain rfl | rfl : k = 0 ∨ k = 1 := by have := List.mem_range.mp hk; omega
      · exact (gv_lenT (gv_ReachT (pan := A) (st := s1) (gv_ixL (j := 0) (gl_var (i := 0) rfl (r1z _ _ eP) (dP.sm r1z)).gv (gv_var (i := 11) rfl (.int ((0 : Nat) : Int))) rfl rfl) (gt_ixv (i := 2) (j := 11) (k := 0) rfl rfl (r1z _ _ eS) rfl (r1z _ _ ea1)) few1 as1)).to (e := .int m1) (by rw [List.length_map, (srtT_perm _).length_eq, hm1])
      · exact (gv_lenT (gv_ReachT (pan := B) (st := s2) (gv_ixL (j := 1) (gl_var (i := 0) rfl (r1z _ _ eP) (dP.sm r1z)).gv (gv_var (i := 11) rfl (.int ((1 : Nat) : Int))) rfl rfl) (gt_ixv (i := 2) (j := 11) (k := 1) rfl rfl (r1z _ _ eS) rfl (r1z _ _ ea2)) few2 as2)).to (e := .int m2) (by rw [List.length_map, (srtT_perm _).length_eq, hm2])
    have dLM' : DpAll K H9 vLM [.int m1, .int m2] := dLM
    refine gs_ret ((gv_eqI (K := K) (gv_lenT (gv_ReachT (pan := besP A B) (st := jnM A.length s1 s2) (gv_var (i := 1) rfl (dW.sm (r18.trans r9))) (gt_var (i := 5) rfl (r9 _ _ et18)) (by omega) jS)) (gv_mul (gv_ixL (j := 0) (gl_var (i := 10) rfl eLM dLM').gv gv_int rfl rfl) (gv_ixL (j := 1) (gl_var (i := 10) rfl eLM dLM').gv gv_int rfl rfl) (by omega) (by omega))).to (e := .bool true) (by rw [List.length_map, (srtT_perm _).length_eq, bes_states ga gb h10 as1 as2, hm1, hm2, decide_eq_true (by rw [Int.natCast_mul])])) fun v' H' r' dv' => ?_
    cases dv'
    exact q H' ((r18.trans r9).trans r')
end
end K09
namespace Pr
open PySem PySem.Spec PyProof.Rows L2
end Pr
namespace K09
open PySem PySem.Spec PyProof.Rows L2 Pr
open LamX
theorem gv_Eff {K : PySem.W.Frag} {σ : L2.St} {H : Hp} {t : TA} {E : XK} {pan : List (List Int)} {row : List Int} (h : GvA K t σ H [dPan pan, dInts row]) (hg : Good pan) (hr : ∀ x ∈ row, 0 ≤ x ∧ x < (pan.length : Int)) : Gv K (tCall (spEff K) [] E t) σ H (dStrs (effM pan row)) := fun H1 s Q q => h H1 s _ fun vs H2 s2 dv => by
  obtain ⟨v, u, rfl, d1, d2⟩ := dpAll2 dv
  obtain ⟨p, rfl, hp⟩ := panT_dp d1
  obtain ⟨r, rfl, hr'⟩ := d2.intsI
  exact ⟨p, r, pan, row, rfl, hp, hg, hr', hr, fun H' u s3 e => q _ H' (s2.trans s3) (dp_strs (.inl (.inl e)))⟩
theorem bes_two (a b : List (List Int)) : besM [a, b] = besP a b := by
  unfold besM besP
  rw [List.foldl_cons, List.foldl_cons, List.foldl_nil, List.nil_append]
  have h0 : shM 0 a = a := by
    unfold shM
    refine (List.map_congr_left fun l _ => ?_).trans (List.map_id a)
    refine (List.map_congr_left fun x _ => ?_).trans (List.map_id l)
    show ((0 : Nat) : Int) + x = x
    omega
  rw [show ([] : List (List Int)).length = 0 from rfl, h0]
  rfl
section
variable {K : PySem.W.Frag} {σ : L2.St} {H : Hp} {ta' : TA} {E : XK}
theorem gv_Bes {ps : List (List (List Int))} (h : GvA K ta' σ H (ps.map dPan)) (ok : OkPs ps) (ht : totM ps ≤ 10) : Gv K (fun σ H Q => ta' σ H fun vs H1 => spBes K vs H1 Q E) σ H (dPan (besM ps)) := fun H1 s Q q => h H1 s _ fun vs H2 s2 dv => by
  have lv : vs.length = ps.length := by have := dv.length; rwa [List.length_map] at this
  refine ⟨[], vs, rfl, rfl, ?_, fun p np => ⟨p, ps, rfl, .tup (.inl (.inl upd_same)) (dv.sm (same_new np)), ok, ht, fun v H3 s3 dv3 => q v H3 (s2.trans ((same_new np).trans s3)) dv3⟩⟩
  have := ok.few
  exact Nat.le_trans (by omega) (show 11 ≤ sizeLine by decide)
end
theorem most_ix : ∀ i : Nat, i < 3 → ∃ most : Int, ([.int 4, .int 2, .int 4] : List PyData)[i]? = some (.int most) ∧ 1 ≤ most ∧ most ≤ 4
  | 0, _ => ⟨4, rfl, by decide, by decide⟩
  | 1, _ => ⟨2, rfl, by decide, by decide⟩
  | 2, _ => ⟨4, rfl, by decide, by decide⟩
  | n + 3, h => by omega
def S2P (na nb : Nat) (D : Addr) (H : Hp) : Nat → Prop
  | 0 => H D = some (.lst [])
  | 1 => ∃ (t1 : Addr) (s1 : List Int), H D = some (.lst [.ref t1]) ∧ H t1 = some (.tup (s1.map V.int)) ∧ Asc na s1
  | 2 => ∃ (t1 t2 : Addr) (s1 s2 : List Int), H D = some (.lst [.ref t1, .ref t2]) ∧ H t1 = some (.tup (s1.map V.int)) ∧ Asc na s1 ∧ H t2 = some (.tup (s2.map V.int)) ∧ Asc nb s2
  | _ => False
theorem but_upd {H H3 : Hp} {a c D : Addr} {o : HO} (b : But a c H H3) (n : H D = none) : But a c H (upd H3 D o) := fun x y h1 h2 e => by
  rw [upd_ne (ne_of_none e n)]; exact b x y h1 h2 e
theorem states2 {K : PySem.W.Frag} {H : Hp} {a c C : Addr} {na nb m : Nat} {x0 x2 x3 x4 x6 x7 x8 x9 x10 x11 x12 x13 x14 x15 x16 x17 : Option V} {Q : VK} (eC : H C = some (.lst [.int (na : Int), .int (nb : Int)])) (fC : C ≠ a ∧ C ≠ c) (D0 : Deck H a c (m + 40)) (n1 : na ≤ 10) (n2 : nb ≤ 10)
    (q : ∀ (H' : Hp) (L t1 t2 : Addr) (s1 s2 : List Int), But a c H H' → Deck H' a c m → (L ≠ a ∧ L ≠ c) → H' L = some (.lst [.ref t1, .ref t2]) → H' t1 = some (.tup (s1.map V.int)) → Asc na s1 → H' t2 = some (.tup (s2.map V.int)) → Asc nb s2 → Q (.ref L) H') :
    tLc (iList K (tVar 5)) (gName 16) tYes (tCall (spState K) [] E0 (tCons (tVar 1) (tCons (tVar 16) tNil))) [16] [x0, some (.ref a), x2, x3, x4, some (.ref C), x6, x7, x8, x9, x10, x11, x12, x13, x14, x15, x16, x17] H Q := by
  refine ⟨.ref C, rfl, C, rfl, ⟨_, .inl (.inl eC)⟩, fun D nD => ?_⟩
  have fD := D0.fresh nD
  refine lc_list (K := K) (xs := [.int (na : Int), .int (nb : Int)]) (fun i H3 => But a c H H3 ∧ Deck H3 a c (m + 40 - 20 * i) ∧ S2P na nb D H3 i) ⟨but_upd (But.refl _ _ _) nD, deckU D0 fD, upd_same⟩ (fun i H3 _ hP => .inl (.inl (hP.1 _ _ fC.1 fC.2 eC))) (fun i x H3 hx hP => ?_) (fun H3 hP => ?_)
  · obtain ⟨b3, D3, hS⟩ := hP
    match i, hx with
    | 0, hx =>
      cases hx
      refine ⟨rfl, tyes (iteT ⟨.ref a, rfl, .int (na : Int), rfl, a, c, m + 20, na, rfl, D3.less (by omega), n1, fun H4 t st b4 D4 et ha => ?_⟩)⟩
      have eD := b4 _ _ fD.1 fD.2 (show H3 D = some (.lst []) from hS)
      have nt : t ≠ D := fun z => by rw [z, eD] at et; cases et
      exact ⟨_, eD, by decide, but_upd (b3.trans b4) nD, (deckU D4 fD).less (by omega), t, st, upd_same, by rw [upd_ne nt]; exact et, ha⟩
    | 1, hx =>
      cases hx
      obtain ⟨t1, s1, eD0, et1, ha1⟩ := hS
      refine ⟨rfl, tyes (iteT ⟨.ref a, rfl, .int (nb : Int), rfl, a, c, m, nb, rfl, D3.less (by omega), n2, fun H4 t st b4 D4 et ha => ?_⟩)⟩
      have eD := b4 _ _ fD.1 fD.2 eD0
      have et14 := tup_but D3 b4 et1
      have nt : t ≠ D := fun z => by rw [z, eD] at et; cases et
      have nt1 : t1 ≠ D := fun z => by rw [z, eD] at et14; cases et14
      exact ⟨_, eD, (show 1 < sizeLine by decide), but_upd (b3.trans b4) nD, (deckU D4 fD).less (by omega), t1, t, s1, st, upd_same, by rw [upd_ne nt1]; exact et14, ha1, by rw [upd_ne nt]; exact et, ha⟩
    | n + 2, hx => cases hx
  · obtain ⟨b3, D3, t1, t2, s1, s2, eD, e1, a1, e2, a2⟩ := hP
    exact q H3 D t1 t2 s1 s2 b3 (D3.less (by show m ≤ m + 40 - 20 * 2; omega)) fD eD e1 a1 e2 a2
def R2P (K : PySem.W.Frag) (na nb : Nat) (D : Addr) (H : Hp) : Nat → Prop
  | 0 => H D = some (.lst [])
  | 1 => ∃ (t1 : Addr) (s1 : List Int), H D = some (.lst [.ref t1]) ∧ SqT K H t1 (s1.map V.int) ∧ (∀ x ∈ s1, 0 ≤ x ∧ x < (na : Int)) ∧ s1.length ≤ 5
  | 2 => ∃ (t1 t2 : Addr) (s1 s2 : List Int), H D = some (.lst [.ref t1, .ref t2]) ∧ SqT K H t1 (s1.map V.int) ∧ (∀ x ∈ s1, 0 ≤ x ∧ x < (na : Int)) ∧ s1.length ≤ 5 ∧ SqT K H t2 (s2.map V.int) ∧ (∀ x ∈ s2, 0 ≤ x ∧ x < (nb : Int)) ∧ s2.length ≤ 5
  | _ => False
theorem sqT_upd {K : PySem.W.Frag} {H : Hp} {D t : Addr} {xs ys zs : List V} (eD : H D = some (.lst ys)) (h : SqT K H t xs) : SqT K (upd H D (.lst zs)) t xs := by
  rcases h with (h | ⟨o, h⟩) | h
  · exact .inl (.inl (by rw [upd_ne (fun z => by rw [z, eD] at h; cases h)]; exact h))
  · exact .inl (.inr ⟨o, by rw [upd_ne (fun z => by rw [z, eD] at h; cases h)]; exact h⟩)
  · exact .inr h
theorem rows2 {K : PySem.W.Frag} {H : Hp} {a c C : Addr} {na nb m : Nat} {x0 x2 x3 x4 x6 x7 x8 x9 x10 x11 x12 x13 x14 x15 x16 x17 : Option V} {Q : VK} (eC : H C = some (.lst [.int (na : Int), .int (nb : Int)])) (fC : C ≠ a ∧ C ≠ c) (D0 : Deck H a c (m + 400)) (p1 : 1 ≤ na) (p2 : 1 ≤ nb) (n1 : na ≤ 10) (n2 : nb ≤ 10)
    (q : ∀ (H' : Hp) (L t1 t2 : Addr) (s1 s2 : List Int), But a c H H' → Deck H' a c m → (L ≠ a ∧ L ≠ c) → H' L = some (.lst [.ref t1, .ref t2]) → SqT K H' t1 (s1.map V.int) → (∀ x ∈ s1, 0 ≤ x ∧ x < (na : Int)) → s1.length ≤ 5 → SqT K H' t2 (s2.map V.int) → (∀ x ∈ s2, 0 ≤ x ∧ x < (nb : Int)) → s2.length ≤ 5 → Q (.ref L) H') :
    tLc (iList K (tVar 5)) (gName 16) tYes (tCall (spRow K) [] E0 (tCons (tVar 1) (tCons (tVar 16) (tCons (tC (.int 5)) tNil)))) [16] [x0, some (.ref a), x2, x3, x4, some (.ref C), x6, x7, x8, x9, x10, x11, x12, x13, x14, x15, x16, x17] H Q := by
  refine ⟨.ref C, rfl, C, rfl, ⟨_, .inl (.inl eC)⟩, fun D nD => ?_⟩
  have fD := D0.fresh nD
  refine lc_list (K := K) (xs := [.int (na : Int), .int (nb : Int)]) (fun i H3 => But a c H H3 ∧ Deck H3 a c (m + 400 - 200 * i) ∧ R2P K na nb D H3 i) ⟨but_upd (But.refl _ _ _) nD, deckU D0 fD, upd_same⟩ (fun i H3 _ hP => .inl (.inl (hP.1 _ _ fC.1 fC.2 eC))) (fun i x H3 hx hP => ?_) (fun H3 hP => ?_)
  · obtain ⟨b3, D3, hS⟩ := hP
    match i, hx with
    | 0, hx =>
      cases hx
      refine ⟨rfl, tyes (iteT ⟨.ref a, rfl, .int (na : Int), rfl, a, c, m + 200, na, 5, rfl, D3.less (by omega), p1, n1, by decide, fun H4 v row b4 D4 dv hr hl => ?_⟩)⟩
      obtain ⟨t, rfl, ht⟩ := dv.intsI
      have eD := b4 _ _ fD.1 fD.2 (show H3 D = some (.lst []) from hS)
      exact ⟨_, eD, by decide, but_upd (b3.trans b4) nD, (deckU D4 fD).less (by omega), t, row, upd_same, sqT_upd eD ht, hr, hl⟩
    | 1, hx =>
      cases hx
      obtain ⟨t1, s1, eD0, et1, hr1, hl1⟩ := hS
      refine ⟨rfl, tyes (iteT ⟨.ref a, rfl, .int (nb : Int), rfl, a, c, m, nb, 5, rfl, D3.less (by omega), p2, n2, by decide, fun H4 v row b4 D4 dv hr hl => ?_⟩)⟩
      obtain ⟨t, rfl, ht⟩ := dv.intsI
      have eD := b4 _ _ fD.1 fD.2 eD0
      exact ⟨_, eD, (show 1 < sizeLine by decide), but_upd (b3.trans b4) nD, (deckU D4 fD).less (by omega), t1, t, s1, row, upd_same, sqT_upd eD (D3.sqT b4 et1), hr1, hl1, sqT_upd eD ht, hr, hl⟩
    | n + 2, hx => cases hx
  · obtain ⟨b3, D3, t1, t2, s1, s2, eD, e1, a1, l1, e2, a2, l2⟩ := hP
    exact q H3 D t1 t2 s1 s2 b3 (D3.less (by show m ≤ m + 400 - 200 * 2; omega)) fD eD e1 a1 l1 e2 a2 l2
def E2P (l1 l2 : List Int) (D : Addr) (H : Hp) : Nat → Prop
  | 0 => H D = some (.lst [])
  | 1 => ∃ t1 : Addr, H D = some (.lst [.ref t1]) ∧ H t1 = some (.tup (l1.map V.int))
  | 2 => ∃ t1 t2 : Addr, H D = some (.lst [.ref t1, .ref t2]) ∧ H t1 = some (.tup (l1.map V.int)) ∧ H t2 = some (.tup (l2.map V.int))
  | _ => False
theorem tups2 {K : PySem.W.Frag} {σ : L2.St} {H : Hp} {te : TE} {l1 l2 : List Int} {Q : VK} (h0 : ∀ H1, Same H H1 → GvTup K te ((σ.set 17 none).set 17 (some (.int 0))) H1 l1) (h1 : ∀ H1, Same H H1 → GvTup K te ((σ.set 17 none).set 17 (some (.int 1))) H1 l2)
    (q : ∀ (H' : Hp) (L e1 e2 : Addr), Same H H' → H L = none → H' L = some (.lst [.ref e1, .ref e2]) → H' e1 = some (.tup (l1.map V.int)) → H' e2 = some (.tup (l2.map V.int)) → Q (.ref L) H') : tLc (iRng1 (tCons (tC (.int 2)) tNil)) (gName 17) tYes te [17] σ H Q := by
  refine ⟨2, rfl, by decide, by decide, fun D nD => ?_⟩
  have w : wipe ((wipe σ [17]).set 17 (some (.int 0))) [17] = wipe σ [17] := by show ((σ.set 17 none).set 17 _).set 17 none = σ.set 17 none; rw [List.set_set, List.set_set]
  have w1 : wipe ((wipe σ [17]).set 17 (some (.int 1))) [17] = wipe σ [17] := by show ((σ.set 17 none).set 17 _).set 17 none = σ.set 17 none; rw [List.set_set, List.set_set]
  have up : ∀ {H3 : Hp} {o : HO}, Same H H3 → Same H (upd H3 D o) := fun {H3 o} s b x e => by rw [upd_ne (ne_of_none e nD)]; exact s b x e
  refine lc_range (n := 2) (lo := 0) (fun i H3 => Same H H3 ∧ E2P l1 l2 D H3 i) ⟨up (Same.refl _), upd_same⟩ (fun i H3 hi hP => ?_) (fun H3 hP => ?_)
  · obtain ⟨s3, hS⟩ := hP
    match i, hi with
    | 0, _ =>
      refine ⟨w, tyes (iteT ((h0 H3 s3).at fun t H4 s4 et => ?_))⟩
      have eD := s4 _ _ (show H3 D = some (.lst []) from hS)
      have nt : t ≠ D := fun z => by rw [z, eD] at et; cases et
      exact ⟨_, eD, by decide, up (s3.trans s4), t, upd_same, by rw [upd_ne nt]; exact et⟩
    | 1, _ =>
      obtain ⟨t1, eD0, et1⟩ := hS
      refine ⟨w1, tyes (iteT ((h1 H3 s3).at fun t H4 s4 et => ?_))⟩
      have eD := s4 _ _ eD0
      have et14 := s4 _ _ et1
      have nt : t ≠ D := fun z => by rw [z, eD] at et; cases et
      have nt1 : t1 ≠ D := fun z => by rw [z, eD] at et14; cases et14
      exact ⟨_, eD, (show 1 < sizeLine by decide), up (s3.trans s4), t1, t, upd_same, by rw [upd_ne nt1]; exact et14, by rw [upd_ne nt]; exact et⟩
  · obtain ⟨s3, t1, t2, eD, e1, e2⟩ := hP
    exact q H3 D t1 t2 s3 nD eD e1 e2
structure St9 (K : PySem.W.Frag) (P_ C p1 p2 o : Addr) (A B : List (List Int)) (H : Hp) : Prop where
  eP : H P_ = some (.lst [.ref p1, .ref p2])
  hp1 : PanAt H p1 A
  hp2 : PanAt H p2 B
  ho : PanT K H o (besP A B)
  eC : H C = some (.lst [.int (A.length : Int), .int (B.length : Int)])
theorem St9.same {K : PySem.W.Frag} {P_ C p1 p2 o : Addr} {A B : List (List Int)} {H H' : Hp} (h : St9 K P_ C p1 p2 o A B H) (s : Same H H') : St9 K P_ C p1 p2 o A B H' := ⟨s _ _ h.eP, h.hp1.same s, h.hp2.same s, h.ho.same s, s _ _ h.eC⟩
theorem St9.but {K : PySem.W.Frag} {P_ C p1 p2 o a c : Addr} {A B : List (List Int)} {H H' : Hp} {m : Nat} (h : St9 K P_ C p1 p2 o A B H) (fP : P_ ≠ a ∧ P_ ≠ c) (fC : C ≠ a ∧ C ≠ c) (D : Deck H a c m) (b : But a c H H') : St9 K P_ C p1 p2 o A B H' := ⟨b _ _ fP.1 fP.2 h.eP, h.hp1.but D b, h.hp2.but D b, panT_but D b h.ho, b _ _ fC.1 fC.2 h.eC⟩
theorem St9.dP {K : PySem.W.Frag} {P_ C p1 p2 o : Addr} {A B : List (List Int)} {H : Hp} (h : St9 K P_ C p1 p2 o A B H) : DpAll K H [.ref p1, .ref p2] [dPan A, dPan B] := .cons h.hp1.dp (.cons h.hp2.dp .nil)
theorem bes_reset {A B : List (List Int)} (ga : Good A) (gb : Good B) (row : List Int) (hr : ∀ b ∈ row, 0 ≤ b ∧ b < ((A.length + B.length : Nat) : Int)) : (!decide (wSame ∈ effM (besP A B) row)) = (!decide (wSame ∈ effM A (lfR A.length row)) && !decide (wSame ∈ effM B (rtR A.length row))) := by
  rw [bes_eff ga gb row hr, Bool.eq_iff_iff]
  simp [List.mem_append, not_or]
def nLaw : List Str := ["_law_script", "_law_deck_here", "_law_turn", "_law_panels", "_law_whole", "_law_counts", "_law_k", "_law_starts", "_law_goals", "_law_rows", "_law_row_here", "_law_ends", "_law_start", "_law_held", "_law_goal", "_law_panel_here", "_law_count", "_law_j"]
theorem scLaw : FnScope nLaw ["_law_script"] (defScope sLaw) := ⟨rfl, rfl, rfl, by decide +kernel, rfl, by decide +kernel, by decide +kernel⟩
section
variable {P : Program} {w : World} {K : PySem.W.Frag} {mg : Str → Option Value} {base : Heap}
def spLaw (K : PySem.W.Frag) (pS : Addr) : Sp := fun vs H Q _ => ∃ (s : Addr) (ns : List Int), vs = [.ref s] ∧ SqL K H s (ns.map V.int) ∧ ns.length ≤ 63 ∧ Tabs (TSR pS) H ∧ ∀ H', Q (.bl true) H'
theorem ok_law {fBes : Addr} {fdBes : FuncData} {fRows : Addr} {fdRows : FuncData} {fNo : Addr} {fdNo : FuncData} {fPressE : Addr} {fdPressE : FuncData} {fJoin : Addr} {fdJoin : FuncData} {fWith : Addr} {fdWith : FuncData} {fEff : Addr} {fdEff : FuncData} {fCnt : Addr} {fdCnt : FuncData} {fAllE : Addr} {fdAllE : FuncData} {fBtn : Addr} {fdBtn : FuncData} {fPress : Addr} {fdPress : FuncData} {fChkR : Addr} {fdChkR : FuncData} {fRun : Addr} {fdRun : FuncData} {fAny : Addr} {fdAny : FuncData} {fHeld : Addr} {fdHeld : FuncData} {fGath : Addr} {fdGath : FuncData} {fCan : Addr} {fdCan : FuncData} {fWay : Addr} {fdWay : FuncData} {fReach2 : Addr} {fdReach2 : FuncData} {fBetw : Addr} {fdBetw : FuncData} {fReset : Addr} {fdReset : FuncData} {fSReset : Addr} {fdSReset : FuncData} {fDeck : Addr} {fdDeck : FuncData} {fDraw : Addr} {fdDraw : FuncData} {fPanel : Addr} {fdPanel : FuncData} {fState : Addr} {fdState : FuncData} {fRow : Addr} {fdRow : FuncData} {fJoined : Addr} {fdJoined : FuncData} {fMixed : Addr} {fdMixed : FuncData} {fNums : Addr} {fdNums : FuncData} {fWays : Addr} {fdWays : FuncData} {f : Addr} {fd : FuncData} (F : Fun K "law" "law" sLaw f fd)
    (FBes : Fun K "beside" "beside" sBes fBes fdBes) (gBes : mg "beside" = some (.ref fBes))
    (FRows : Fun K "shortest_rows" "shortest_rows" sRows fRows fdRows) (bRows : Binds K fdRows ["panel", "first", "step"] []) (gRows : mg "shortest_rows" = some (.ref fRows))
    (FNo : Fun K "no_effect" "no_effect" sNo fNo fdNo) (bNo : Binds K fdNo ["panel"] []) (gNo : mg "no_effect" = some (.ref fNo))
    (FPressE : Fun K "press_effect" "press_effect" sPressE fPressE fdPressE) (bPressE : Binds K fdPressE ["panel", "button"] []) (gPressE : mg "press_effect" = some (.ref fPressE))
    (FJoin : Fun K "joined_effect" "joined_effect" sJoin fJoin fdJoin) (bJoin : Binds K fdJoin ["first", "second"] []) (gJoin : mg "joined_effect" = some (.ref fJoin))
    (FWith : Fun K "effect_with_press" "effect_with_press" sWith fWith fdWith) (bWith : Binds K fdWith ["panel", "effect", "button"] []) (gWith : mg "effect_with_press" = some (.ref fWith))
    (FEff : Fun K "effect_of" "effect_of" sEff fEff fdEff) (bEff : Binds K fdEff ["panel", "row"] []) (gEff : mg "effect_of" = some (.ref fEff))
    (FCnt : Fun K "count_effects" "count_effects" sCnt fCnt fdCnt) (bCnt : Binds K fdCnt ["panel"] []) (gCnt : mg "count_effects" = some (.ref fCnt))
    (FAllE : Fun K "all_effects" "all_effects" sAllE fAllE fdAllE) (bAllE : Binds K fdAllE ["panel"] []) (gAllE : mg "all_effects" = some (.ref fAllE))
    (FBtn : Fun K "is_button" "is_button" sBtn fBtn fdBtn) (bBtn : Binds K fdBtn ["value", "many"] []) (gBtn : mg "is_button" = some (.ref fBtn))
    (FPress : Fun K "press_button" "press_button" sPress fPress fdPress) (bPress : Binds K fdPress ["panel", "state", "button"] []) (gPress : mg "press_button" = some (.ref fPress))
    (FChkR : Fun K "check_row" "check_row" sChkR fChkR fdChkR) (bChkR : Binds K fdChkR ["panel", "value"] []) (gChkR : mg "check_row" = some (.ref fChkR))
    (FRun : Fun K "run" "run" sRun fRun fdRun) (bRun : Binds K fdRun ["panel", "state", "value"] []) (gRun : mg "run" = some (.ref fRun))
    (FAny : Fun K "releases_any" "releases_any" sAny fAny fdAny) (bAny : Binds K fdAny ["panel", "button", "others"] []) (gAny : mg "releases_any" = some (.ref fAny))
    (FHeld : Fun K "held_buttons" "held_buttons" sHeld fHeld fdHeld) (bHeld : Binds K fdHeld ["panel", "state"] []) (gHeld : mg "held_buttons" = some (.ref fHeld))
    (FGath : Fun K "gathered_buttons" "gathered_buttons" sGath fGath fdGath) (bGath : Binds K fdGath ["panel", "goal"] []) (gGath : mg "gathered_buttons" = some (.ref fGath))
    (FCan : Fun K "can_reach" "can_reach" sCan fCan fdCan) (bCan : Binds K fdCan ["panel", "start", "goal"] []) (gCan : mg "can_reach" = some (.ref fCan))
    (FWay : Fun K "shortest_way" "shortest_way" sWay fWay fdWay) (bWay : Binds K fdWay ["panel", "start", "goal"] []) (gWay : mg "shortest_way" = some (.ref fWay))
    (FReach2 : Fun K "reachable_states" "reachable_states" sReach2 fReach2 fdReach2) (bReach2 : Binds K fdReach2 ["panel", "start"] []) (gReach2 : mg "reachable_states" = some (.ref fReach2))
    (FBetw : Fun K "states_between" "states_between" sBetw fBetw fdBetw) (bBetw : Binds K fdBetw ["least", "most"] []) (gBetw : mg "states_between" = some (.ref fBetw))
    (FReset : Fun K "is_reset" "is_reset" sReset fReset fdReset) (bReset : Binds K fdReset ["panel", "row"] []) (gReset : mg "is_reset" = some (.ref fReset))
    (FSReset : Fun K "shortest_reset" "shortest_reset" sSReset fSReset fdSReset) (bSReset : Binds K fdSReset ["panel"] []) (gSReset : mg "shortest_reset" = some (.ref fSReset))
    (FDeck : Fun K "_law_deck" "_law_deck" sDeck fDeck fdDeck) (bDeck : Binds K fdDeck ["_law_script"] []) (gDeck : mg "_law_deck" = some (.ref fDeck))
    (FDraw : Fun K "_law_draw" "_law_draw" sDraw fDraw fdDraw) (bDraw : Binds K fdDraw ["_law_deck_here", "_law_limit"] []) (gDraw : mg "_law_draw" = some (.ref fDraw))
    (FPanel : Fun K "_law_panel" "_law_panel" sPanel fPanel fdPanel) (bPanel : Binds K fdPanel ["_law_deck_here", "_law_most"] []) (gPanel : mg "_law_panel" = some (.ref fPanel))
    (FState : Fun K "_law_state" "_law_state" sState fState fdState) (bState : Binds K fdState ["_law_deck_here", "_law_count"] []) (gState : mg "_law_state" = some (.ref fState))
    (FRow : Fun K "_law_row" "_law_row" sRow fRow fdRow) (bRow : Binds K fdRow ["_law_deck_here", "_law_count", "_law_most"] []) (gRow : mg "_law_row" = some (.ref fRow))
    (FJoined : Fun K "_law_joined" "_law_joined" sJoined fJoined fdJoined) (bJoined : Binds K fdJoined ["_law_first", "_law_second", "_law_count"] []) (gJoined : mg "_law_joined" = some (.ref fJoined))
    (FMixed : Fun K "_law_mixed" "_law_mixed" sMixed fMixed fdMixed) (bMixed : Binds K fdMixed ["_law_deck_here", "_law_first", "_law_second", "_law_count"] []) (gMixed : mg "_law_mixed" = some (.ref fMixed))
    (FNums : Fun K "_law_numbers_right" "_law_numbers_right" sNums fNums fdNums) (bNums : Binds K fdNums ["_law_panels", "_law_whole"] []) (gNums : mg "_law_numbers_right" = some (.ref fNums))
    (FWays : Fun K "_law_ways_right" "_law_ways_right" sWays fWays fdWays) (bWays : Binds K fdWays ["_law_panels", "_law_whole", "_law_starts", "_law_goals"] []) (gWays : mg "_law_ways_right" = some (.ref fWays))
    (m_abs : mg "abs" = none) (m_all : mg "all" = none) (m_any : mg "any" = none) (m_bool : mg "bool" = none) (m_enumerate : mg "enumerate" = none) (m_int : mg "int" = none) (m_isinstance : mg "isinstance" = none) (m_len : mg "len" = none) (m_list : mg "list" = none) (m_min : mg "min" = none) (m_range : mg "range" = none) (m_sorted : mg "sorted" = none) (m_sum : mg "sum" = none) (m_tuple : mg "tuple" = none) (m_zip : mg "zip" = none) {cS pS : Addr} (ecS : fdSReset.code = .ref cS) (TBS : TabB base mg cS pS) {tkM : Tok} (y_MAX_BUTTONS : mg "MAX_BUTTONS" = some (.int 10 tkM)) {tkR : Tok} (y_MAX_ROW : mg "MAX_ROW" = some (.int 60 tkR)) {tkS : Tok} (y_SMALL_BUTTONS : mg "SMALL_BUTTONS" = some (.int 7 tkS)) : FnG P w K mg base (8) f fd ["_law_script"] (spLaw K pS) := by
  have GDeck : FnOk P w K mg base CX0 (1) fDeck fdDeck ["_law_script"] (spDeck K) := ok_deck FDeck m_abs
  have GPanel : FnOk P w K mg base CX0 (2) fPanel fdPanel ["_law_deck_here", "_law_most"] spPanel := ok_panel FPanel FDraw bDraw gDraw m_len m_range m_tuple
  have GNums : FnOk P w K mg base CX0 (7) fNums fdNums ["_law_panels", "_law_whole"] (spNums K pS) := ok_Nums FNums FRows bRows gRows FNo bNo gNo FPressE bPressE gPressE FJoin bJoin gJoin FWith bWith gWith FEff bEff gEff FCnt bCnt gCnt FAllE bAllE gAllE FBetw bBetw gBetw FReset bReset gReset FSReset bSReset gSReset m_len m_list m_min m_range m_sorted m_sum m_tuple m_zip y_SMALL_BUTTONS ecS TBS
  have GState : FnOk P w K mg base CX0 (2) fState fdState ["_law_deck_here", "_law_count"] (spState K) := ok_State FState FDraw bDraw gDraw m_len m_range m_tuple
  have GRow : FnOk P w K mg base CX0 (2) fRow fdRow ["_law_deck_here", "_law_count", "_law_most"] (spRow K) := ok_Row FRow FDraw bDraw gDraw m_len m_range m_tuple
  have GMixed : FnOk P w K mg base CX0 (2) fMixed fdMixed ["_law_deck_here", "_law_first", "_law_second", "_law_count"] (spMixed K) := ok_Mixed FMixed FDraw bDraw gDraw m_len m_list m_tuple
  have GRun : FnOk P w K mg base CX0 (3) fRun fdRun ["panel", "state", "value"] (spRun K) := ok_Run FRun FBtn bBtn gBtn FPress bPress gPress FChkR bChkR gChkR m_bool m_enumerate m_int m_isinstance m_len m_sorted m_tuple y_MAX_ROW
  have GJoined : FnOk P w K mg base CX0 (1) fJoined fdJoined ["_law_first", "_law_second", "_law_count"] (spJoined K) := ok_Joined FJoined m_tuple
  have GEff : FnOk P w K mg base CX0 (4) fEff fdEff ["panel", "row"] (spEff K) := ok_eff FEff FNo bNo gNo FPressE bPressE gPressE FJoin bJoin gJoin FWith bWith gWith m_len m_list m_tuple m_zip
  have GReset : FnOk P w K mg base CX0 (5) fReset fdReset ["panel", "row"] (spReset K) := ok_Reset FReset FNo bNo gNo FPressE bPressE gPressE FJoin bJoin gJoin FWith bWith gWith FEff bEff gEff m_len m_list m_tuple m_zip
  have GHeld : FnOk P w K mg base CX0 (2) fHeld fdHeld ["panel", "state"] (spHeld K) := ok_held FHeld FAny bAny gAny m_len m_tuple m_any
  have GWays : FnOk P w K mg base CX0 (5) fWays fdWays ["_law_panels", "_law_whole", "_law_starts", "_law_goals"] (spWays K) := ok_Ways FWays FRows bRows gRows FPress bPress gPress FAny bAny gAny FHeld bHeld gHeld FGath bGath gGath FCan bCan gCan FWay bWay gWay FReach2 bReach2 gReach2 FJoined bJoined gJoined m_all m_any m_len m_list m_range m_sorted m_tuple
  have GDraw : FnOk P w K mg base CX0 (1) fDraw fdDraw ["_law_deck_here", "_law_limit"] spDraw := ok_draw FDraw m_len
  have GBes : FnR P w K mg base CX0 1 fBes (spBes K) := ok_Bes FBes y_MAX_BUTTONS m_len m_sum m_tuple
  refine okG F scLaw (fun vs H Q E h => ?_) (fun cdv A outer s H vs Q E gd hr h => ?_)
  · obtain ⟨s, ns, rfl, _⟩ := h
    rfl
  · obtain ⟨sc, ns, rfl, hS, hlen, hT0, q⟩ := h
    refine ⟨_, pss_cons (ps_set (i := 1) scLaw.nd rfl (.inr rfl) (pe_call GDeck (hr.mono (by omega)) (by rfl) gDeck FDeck.kp bDeck .nil pass0 (pa_cons (pv 0) pa_nil)))
      (pss_cons (ps_for PassesOwn.never rfl (pi_range1 (by rfl) m_range (pa_cons pe_int pa_nil)) (pg_name (i := 2) scLaw.nd rfl (Or.inl rfl)) (pss_cons (ps_set (i := 3) scLaw.nd rfl (.inr rfl) (pe_lst (pa_cons (pe_call GPanel (hr.mono (by omega)) (by rfl) gPanel FPanel.kp bPanel .nil pass0 (pa_cons (pv 1) (pa_cons pe_int pa_nil))) (pa_cons (pe_call GPanel (hr.mono (by omega)) (by rfl) gPanel FPanel.kp bPanel .nil pass0 (pa_cons (pv 1) (pa_cons (pe_ix (show IxR _ (rIxL K) from ix_list) (pe_lst (pa_cons pe_int (pa_cons pe_int (pa_cons pe_int pa_nil)))) (pv 2) (fun _ _ => rfl)) pa_nil))) pa_nil))))
      (pss_cons (ps_par (i := 4) (j := 5) rfl scLaw.nd rfl rfl (by decide) rfl rfl (pa_cons (pe_callR GBes (hr.mono (by omega)) FBes.kp (by rfl) gBes L2.pass0 (pa_cons (pe_ix (show IxR _ (rIxL K) from ix_list) (pv 3) pe_int (fun _ _ => rfl)) (pa_cons (pe_ix (show IxR _ (rIxL K) from ix_list) (pv 3) pe_int (fun _ _ => rfl)) pa_nil))) (pa_cons (pe_lc (own := [("_law_panel_here", 15)]) (g := gName 15) (tt := tYes) rfl scLaw.nd (show PI _ _ _ (iList K _) from pi_list (pv 3)) (blkOk_by (own := [("_law_panel_here", 15)]) (N := nLaw) (sc := defScope sLaw) (by decide +kernel)) (fun _ _ _ _ _ => pg_name (i := 15) scLaw.nd rfl (Or.inl rfl)) (fun _ _ _ _ _ => pts_nil) (fun _ _ _ _ _ => pe_callB (show CallR _ _ (rLenG K) from cr_lenG) (by rfl) m_len PySem.boot_len (pa_cons (pv 15) pa_nil))) pa_nil)) (by rfl))
      (pss_cons (ps_if (pt_not (pt_val (pe_call GNums (hr.mono (by omega)) (by rfl) gNums FNums.kp bNums .nil pass0 (pa_cons (pv 3) (pa_cons (pv 4) pa_nil))))) (pss_one (ps_ret pe_bl)) pss_nil)
      (pss_one (ps_for PassesOwn.never rfl (pi_range1 (by rfl) m_range (pa_cons pe_int pa_nil)) (pg_name (i := 6) scLaw.nd rfl (Or.inl rfl)) (pss_cons (ps_set (i := 7) scLaw.nd rfl (.inr rfl) (pe_lc (own := [("_law_count", 16)]) (g := gName 16) (tt := tYes) rfl scLaw.nd (show PI _ _ _ (iList K _) from pi_list (pv 5)) (blkOk_by (own := [("_law_count", 16)]) (N := nLaw) (sc := defScope sLaw) (by decide +kernel)) (fun _ _ _ _ _ => pg_name (i := 16) scLaw.nd rfl (Or.inl rfl)) (fun _ _ _ _ _ => pts_nil) (fun _ _ _ _ _ => pe_call GState (hr.mono (by omega)) (by rfl) gState FState.kp bState .nil pass0 (pa_cons (pv 1) (pa_cons (pv 16) pa_nil)))))
      (pss_cons (ps_set (i := 8) scLaw.nd rfl (.inr rfl) (pe_lc (own := [("_law_count", 16)]) (g := gName 16) (tt := tYes) rfl scLaw.nd (show PI _ _ _ (iList K _) from pi_list (pv 5)) (blkOk_by (own := [("_law_count", 16)]) (N := nLaw) (sc := defScope sLaw) (by decide +kernel)) (fun _ _ _ _ _ => pg_name (i := 16) scLaw.nd rfl (Or.inl rfl)) (fun _ _ _ _ _ => pts_nil) (fun _ _ _ _ _ => pe_call GState (hr.mono (by omega)) (by rfl) gState FState.kp bState .nil pass0 (pa_cons (pv 1) (pa_cons (pv 16) pa_nil)))))
      (pss_cons (ps_set (i := 9) scLaw.nd rfl (.inr rfl) (pe_lc (own := [("_law_count", 16)]) (g := gName 16) (tt := tYes) rfl scLaw.nd (show PI _ _ _ (iList K _) from pi_list (pv 5)) (blkOk_by (own := [("_law_count", 16)]) (N := nLaw) (sc := defScope sLaw) (by decide +kernel)) (fun _ _ _ _ _ => pg_name (i := 16) scLaw.nd rfl (Or.inl rfl)) (fun _ _ _ _ _ => pts_nil) (fun _ _ _ _ _ => pe_call GRow (hr.mono (by omega)) (by rfl) gRow FRow.kp bRow .nil pass0 (pa_cons (pv 1) (pa_cons (pv 16) (pa_cons pe_int pa_nil))))))
      (pss_cons (ps_set (i := 10) scLaw.nd rfl (.inl rfl) (pe_call GMixed (hr.mono (by omega)) (by rfl) gMixed FMixed.kp bMixed .nil pass0 (pa_cons (pv 1) (pa_cons (pe_ix (show IxR _ (rIxL K) from ix_list) (pv 9) pe_int (fun _ _ => rfl)) (pa_cons (pe_ix (show IxR _ (rIxL K) from ix_list) (pv 9) pe_int (fun _ _ => rfl)) (pa_cons (pe_ix (show IxR _ (rIxL K) from ix_list) (pv 5) pe_int (fun _ _ => rfl)) pa_nil))))))
      (pss_cons (ps_setLc (i := 11) (own := [("_law_j", 17)]) (g := gName 17) (tt := tYes) rfl scLaw.nd rfl rfl (sw_true rfl rfl rfl (by decide +kernel)) (pi_range1 (by rfl) m_range (pa_cons pe_int pa_nil)) (blkOk_by (own := [("_law_j", 17)]) (N := nLaw) (sc := defScope sLaw) (by decide +kernel)) (fun _ _ _ _ _ => pg_name (i := 17) scLaw.nd rfl (Or.inl rfl)) (fun _ _ _ _ _ => pts_nil) (fun _ _ _ _ _ => pe_call GRun (hr.mono (by omega)) (by rfl) gRun FRun.kp bRun .nil pass0 (pa_cons (pe_ix (show IxR _ (rIxL K) from ix_list) (pv 3) (pv 17) (fun _ _ => rfl)) (pa_cons (pe_ix (show IxR _ (rIxL K) from ix_list) (pv 7) (pv 17) (fun _ _ => rfl)) (pa_cons (pe_ix (show IxR _ (rIxL K) from ix_list) (pv 9) (pv 17) (fun _ _ => rfl)) pa_nil)))))
      (pss_cons (ps_set (i := 12) scLaw.nd rfl (.inl rfl) (pe_call GJoined (hr.mono (by omega)) (by rfl) gJoined FJoined.kp bJoined .nil pass0 (pa_cons (pe_ix (show IxR _ (rIxL K) from ix_list) (pv 7) pe_int (fun _ _ => rfl)) (pa_cons (pe_ix (show IxR _ (rIxL K) from ix_list) (pv 7) pe_int (fun _ _ => rfl)) (pa_cons (pe_ix (show IxR _ (rIxL K) from ix_list) (pv 5) pe_int (fun _ _ => rfl)) pa_nil)))))
      (pss_cons (ps_if (pt_cmpR (show OpR _ _ (rNeD K) from op_neD hr.units) (pe_call GRun (hr.mono (by omega)) (by rfl) gRun FRun.kp bRun .nil pass0 (pa_cons (pv 4) (pa_cons (pv 12) (pa_cons (pv 10) pa_nil)))) (pe_call GJoined (hr.mono (by omega)) (by rfl) gJoined FJoined.kp bJoined .nil pass0 (pa_cons (pe_ix (show IxR _ (rIxL K) from ix_list) (pv 11) pe_int (fun _ _ => rfl)) (pa_cons (pe_ix (show IxR _ (rIxL K) from ix_list) (pv 11) pe_int (fun _ _ => rfl)) (pa_cons (pe_ix (show IxR _ (rIxL K) from ix_list) (pv 5) pe_int (fun _ _ => rfl)) pa_nil)))) (nomark _)) (pss_one (ps_ret pe_bl)) pss_nil)
      (pss_cons (ps_if (pt_cmpR (show OpR _ _ (rNeD K) from op_neD hr.units) (pe_call GEff (hr.mono (by omega)) (by rfl) gEff FEff.kp bEff .nil pass0 (pa_cons (pv 4) (pa_cons (pv 10) pa_nil))) (pe_op (show OpR _ _ (rCatS K) from op_catS) (pe_call GEff (hr.mono (by omega)) (by rfl) gEff FEff.kp bEff .nil pass0 (pa_cons (pe_ix (show IxR _ (rIxL K) from ix_list) (pv 3) pe_int (fun _ _ => rfl)) (pa_cons (pe_ix (show IxR _ (rIxL K) from ix_list) (pv 9) pe_int (fun _ _ => rfl)) pa_nil))) (pe_call GEff (hr.mono (by omega)) (by rfl) gEff FEff.kp bEff .nil pass0 (pa_cons (pe_ix (show IxR _ (rIxL K) from ix_list) (pv 3) pe_int (fun _ _ => rfl)) (pa_cons (pe_ix (show IxR _ (rIxL K) from ix_list) (pv 9) pe_int (fun _ _ => rfl)) pa_nil)))) (nomark _)) (pss_one (ps_ret pe_bl)) pss_nil)
      (pss_cons (ps_if (pt_cmpR op_ne (pe_call GReset (hr.mono (by omega)) (by rfl) gReset FReset.kp bReset .nil pass0 (pa_cons (pv 4) (pa_cons (pv 10) pa_nil))) (pe_and (pe_call GReset (hr.mono (by omega)) (by rfl) gReset FReset.kp bReset .nil pass0 (pa_cons (pe_ix (show IxR _ (rIxL K) from ix_list) (pv 3) pe_int (fun _ _ => rfl)) (pa_cons (pe_ix (show IxR _ (rIxL K) from ix_list) (pv 9) pe_int (fun _ _ => rfl)) pa_nil))) (pe_one (pe_call GReset (hr.mono (by omega)) (by rfl) gReset FReset.kp bReset .nil pass0 (pa_cons (pe_ix (show IxR _ (rIxL K) from ix_list) (pv 3) pe_int (fun _ _ => rfl)) (pa_cons (pe_ix (show IxR _ (rIxL K) from ix_list) (pv 9) pe_int (fun _ _ => rfl)) pa_nil))))) (nomark _)) (pss_one (ps_ret pe_bl)) pss_nil)
      (pss_cons (ps_setLc (i := 13) (own := [("_law_j", 17)]) (g := gName 17) (tt := tYes) rfl scLaw.nd rfl rfl (sw_true rfl rfl rfl (by decide +kernel)) (pi_range1 (by rfl) m_range (pa_cons pe_int pa_nil)) (blkOk_by (own := [("_law_j", 17)]) (N := nLaw) (sc := defScope sLaw) (by decide +kernel)) (fun _ _ _ _ _ => pg_name (i := 17) scLaw.nd rfl (Or.inl rfl)) (fun _ _ _ _ _ => pts_nil) (fun _ _ _ _ _ => pe_call GHeld (hr.mono (by omega)) (by rfl) gHeld FHeld.kp bHeld .nil pass0 (pa_cons (pe_ix (show IxR _ (rIxL K) from ix_list) (pv 3) (pv 17) (fun _ _ => rfl)) (pa_cons (pe_ix (show IxR _ (rIxL K) from ix_list) (pv 8) (pv 17) (fun _ _ => rfl)) pa_nil))))
      (pss_cons (ps_set (i := 14) scLaw.nd rfl (.inl rfl) (pe_call GJoined (hr.mono (by omega)) (by rfl) gJoined FJoined.kp bJoined .nil pass0 (pa_cons (pe_ix (show IxR _ (rIxL K) from ix_list) (pv 8) pe_int (fun _ _ => rfl)) (pa_cons (pe_ix (show IxR _ (rIxL K) from ix_list) (pv 8) pe_int (fun _ _ => rfl)) (pa_cons (pe_ix (show IxR _ (rIxL K) from ix_list) (pv 5) pe_int (fun _ _ => rfl)) pa_nil)))))
      (pss_cons (ps_if (pt_cmpR (show OpR _ _ (rNeD K) from op_neD hr.units) (pe_call GHeld (hr.mono (by omega)) (by rfl) gHeld FHeld.kp bHeld .nil pass0 (pa_cons (pv 4) (pa_cons (pv 14) pa_nil))) (pe_call GJoined (hr.mono (by omega)) (by rfl) gJoined FJoined.kp bJoined .nil pass0 (pa_cons (pe_ix (show IxR _ (rIxL K) from ix_list) (pv 13) pe_int (fun _ _ => rfl)) (pa_cons (pe_ix (show IxR _ (rIxL K) from ix_list) (pv 13) pe_int (fun _ _ => rfl)) (pa_cons (pe_ix (show IxR _ (rIxL K) from ix_list) (pv 5) pe_int (fun _ _ => rfl)) pa_nil)))) (nomark _)) (pss_one (ps_ret pe_bl)) pss_nil)
      (pss_one (ps_if (pt_not (pt_val (pe_call GWays (hr.mono (by omega)) (by rfl) gWays FWays.kp bWays .nil pass0 (pa_cons (pv 3) (pa_cons (pv 4) (pa_cons (pv 7) (pa_cons (pe_ix (show IxR _ (rIxL K) from ix_list) (pe_lst (pa_cons (pv 8) (pa_cons (pv 11) pa_nil))) (pe_call GDraw (hr.mono (by omega)) (by rfl) gDraw FDraw.kp bDraw .nil pass0 (pa_cons (pv 1) (pa_cons pe_int pa_nil))) (fun _ _ => rfl)) pa_nil))))))) (pss_one (ps_ret pe_bl)) pss_nil))))))))))))))))))))
      (pss_one (ps_ret pe_bl))), ?_⟩
    refine gs_setQ ?_
    refine ⟨.ref sc, rfl, sc, ns, rfl, hS, hlen, fun H1 a c s1 D1 => ?_⟩
    refine gs_seqJ (fun σ H' => True) (fun σ H' _ => gs_ret (K := K) gv_bl fun v H3 s3 dv => by cases dv; exact q H3) fun hk0 => ?_
    refine ⟨3, rfl, by decide, by decide, ?_⟩
    refine for_range (n := 3) (fun i σ H2 => Deck H2 a c (9000 - 2800 * i) ∧ Tabs (TSR pS) H2 ∧ ∃ x2 x3 x4 x5 x6 x7 x8 x9 x10 x11 x12 x13 x14 x15 x16 x17, σ = [some (.ref sc), some (.ref a), x2, x3, x4, x5, x6, x7, x8, x9, x10, x11, x12, x13, x14, x15, x16, x17]) ⟨D1.less (by decide), hT0.ext (fun b o e => s1 b o e), _, _, _, _, _, _, _, _, _, _, _, _, _, _, _, _, rfl⟩ (fun i σ H2 hi hP => ?step) (fun σ H2 hP => hk0 σ H2 True.intro)
    obtain ⟨D2, T2, x2, x3, x4, x5, x6, x7, x8, x9, x10, x11, x12, x13, x14, x15, x16, x17, rfl⟩ := hP
    refine hideD fun D0 hn0 => ?_
    obtain ⟨most, hm0, m1, m4⟩ := most_ix i hi
    refine gs_setQ ?_
    refine ⟨.ref a, rfl, a, c, 8700 - 2800 * i, 3, rfl, D2.less (by omega), by decide, by decide, fun H3 p1 A b3 D3 hp1 ga hA => ?_⟩
    refine ⟨.ref a, rfl, (gv_ixL (K := K) (j := i) (gv_lst (gva_cons gv_int (gva_cons gv_int (gva_cons gv_int gva_nil)))) (gv_var (i := 2) rfl (.int (0 + (i : Int)))) (by omega) hm0).at fun v4 H4 s4 dv4 => ?_⟩
    cases dv4
    refine ⟨a, c, 8400 - 2800 * i, most, rfl, (D3.same s4).less (by omega), m1, by omega, fun H5 p2 B b5 D5 hp2 gb hB => ?_⟩
    refine ⟨(show 2 ≤ sizeLine by decide), fun P_ nP => ?_⟩
    have T5 := tabs_but (D3.same s4) b5 ((tabs_but D2 b3 T2).ext fun b o e => s4 b o e)
    have hp1' := (hp1.same s4).but (D3.same s4) b5
    have s6 := same_new (o := HO.lst [.ref p1, .ref p2]) nP
    have eP : (upd H5 P_ (.lst [.ref p1, .ref p2])) P_ = some (.lst [.ref p1, .ref p2]) := upd_same
    have fP := D5.fresh nP
    generalize upd H5 P_ (.lst [.ref p1, .ref p2]) = H6 at s6 eP ⊢
    have hl := besP_len A B
    have h7 : A.length + B.length ≤ 7 := by omega
    have few1 := ga.few
    have few2 := gb.few
    have pos1 := ga.pos
    have pos2 := gb.pos
    have gw := bes_good ga gb (by omega)
    have dP6 : DpAll K H6 [.ref p1, .ref p2] [dPan A, dPan B] := .cons (hp1'.same s6).dp (.cons (hp2.same s6).dp .nil)
    have okp : ∀ {pan : List (List Int)}, Good pan → pan.length ≤ 10 ∧ ∀ l ∈ pan, l.length ≤ 10 := fun {pan} g => ⟨g.few, fun l hl => by
      have := pw_length (n := 10) (lo := 0) (g.up l hl) fun x hx => by have := g.rng l hl x hx; have := g.few; omega
      omega⟩
    refine gs_parQ ?_
    refine ((gv_Bes (K := K) (ps := [A, B]) (gva_cons (gv_ixL (j := 0) (gl_var (i := 3) rfl eP dP6).gv gv_int rfl rfl) (gva_cons (gv_ixL (j := 1) (gl_var (i := 3) rfl eP dP6).gv gv_int rfl rfl) gva_nil)) ⟨(show 2 ≤ 11 by decide), fun x hx => by rcases (show x = A ∨ x = B by simpa using hx) with rfl | rfl; exact okp ga; exact okp gb⟩ (by show A.length + (B.length + 0) ≤ 10; omega)).to (by rw [bes_two])).at fun vW H7 s7 dW => ?_
    obtain ⟨o, rfl, ho7⟩ := panT_dp dW
    refine (gn_lc (K := K) (i := 15) (δ := dPan) (as := [A, B]) (p := fun _ => true) (f := fun p => PyData.int (p.length : Nat)) (gvi_list (gl_var (i := 3) rfl (s7 _ _ eP) (dP6.sm s7)).gv) (fun p v Hz hp sz dz => ⟨gvt_yes, fun _ => (gv_lenT (gv_var (i := 15) rfl dz)).to (by rw [List.length_map])⟩) (fun _ _ => rfl) (show 2 ≤ 100000 by decide)).at fun C vsC H8 s8 nC eC dC => ?_
    have dC' : DpAll K H8 vsC (([(A.length : Int), (B.length : Int)]).map PyData.int) := dC
    have := dpAll_intsV dC'
    subst this
    refine ⟨_, _, rfl, ?_⟩
    have s68 := s7.trans s8
    have D7 := (D5.same s6).same s7
    have fC := D7.fresh nC
    refine ⟨.ref P_, rfl, .ref o, rfl, P_, .ref o, p1, p2, A, B, rfl, s68 _ _ eP, (hp1'.same s6).same s68, (hp2.same s6).same s68, dW.sm s8, ga, gb, h7, T5.ext (fun b o e => s68 b o (s6 b o e)), fun H9 e9 T9 => ⟨true, rfl, ite2 (fun z => by cases z) fun _ => ?_⟩⟩
    have St0 : St9 K P_ C p1 p2 o A B H9 := ⟨e9 _ _ (s68 _ _ eP) (fun _ z => by cases z), pat_extN e9 ((hp1'.same s6).same s68), pat_extN e9 ((hp2.same s6).same s68), panT_extN e9 (ho7.same s8), e9 _ _ eC (fun _ z => by cases z)⟩
    have D9 := deck_extN e9 (D7.same s8)
    refine ⟨3, rfl, by decide, by decide, ?_⟩
    refine for_range (n := 3) (fun j σ H' => Deck H' a c (8400 - 2800 * i - 700 * j) ∧ Tabs (TSR pS) H' ∧ St9 K P_ C p1 p2 o A B H' ∧ ∃ x6 x7 x8 x9 x10 x11 x12 x13 x14 x15 x16 x17, σ = [some (.ref sc), some (.ref a), some (.int (0 + (i : Int))), some (.ref P_), some (.ref o), some (.ref C), x6, x7, x8, x9, x10, x11, x12, x13, x14, x15, x16, x17]) ⟨D9.less (by omega), T9, St0, _, _, _, _, _, _, _, _, _, _, _, _, rfl⟩ (fun j σ H10 hj hP => ?_) (fun σ H' hP => ?_)
    rotate_left
    · obtain ⟨D', T', _, y6, y7, y8, y9, y10, y11, y12, y13, y14, y15, y16, y17, rfl⟩ := hP
      exact hn0 _ _ ⟨D'.less (by omega), T', _, _, _, _, _, _, _, _, _, _, _, _, _, _, _, _, rfl⟩
    obtain ⟨D10, T10, S10, y6, y7, y8, y9, y10, y11, y12, y13, y14, y15, y16, y17, rfl⟩ := hP
    refine hideD fun D00 hn00 => ?_
    generalize hM : 8400 - 2800 * i - 700 * j = M at D10 hn00
    have hM' : 8400 - 2800 * i - 700 * (j + 1) = M - 700 := by omega
    rw [hM'] at hn00
    have hM2 : 1400 ≤ M := by omega
    refine gs_setQ ?_
    refine states2 (K := K) (na := A.length) (nb := B.length) (m := M - 40) S10.eC fC (D10.less (by omega)) few1 few2 fun H11 S_ a1 a2 s1_ s2_ b11 D11 fS eS ea1 as1 ea2 as2 => ?_
    have S11 := S10.but fP fC D10 b11
    have T11 := tabs_but D10 b11 T10
    refine gs_setQ ?_
    refine states2 (K := K) (na := A.length) (nb := B.length) (m := M - 80) S11.eC fC (D11.less (by omega)) few1 few2 fun H12 G_ g1 g2 k1 k2 b12 D12 fG eG eg1 ak1 eg2 ak2 => ?_
    have S12 := S11.but fP fC D11 b12
    have T12 := tabs_but D11 b12 T11
    have eS12 := b12 _ _ fS.1 fS.2 eS
    have ea1_12 := tup_but D11 b12 ea1
    have ea2_12 := tup_but D11 b12 ea2
    refine gs_setQ ?_
    refine rows2 (K := K) (na := A.length) (nb := B.length) (m := M - 480) S12.eC fC (D12.less (by omega)) pos1 pos2 few1 few2 fun H13 R_ r1 r2 row1 row2 b13 D13 fR eR er1 in1 ln1 er2 in2 ln2 => ?_
    have S13 := S12.but fP fC D12 b13
    have T13 := tabs_but D12 b13 T12
    have eS13 := b13 _ _ fS.1 fS.2 eS12
    have ea1_13 := tup_but D12 b13 ea1_12
    have ea2_13 := tup_but D12 b13 ea2_12
    have eG13 := b13 _ _ fG.1 fG.2 eG
    have eg1_13 := tup_but D12 b13 eg1
    have eg2_13 := tup_but D12 b13 eg2
    refine gs_setQ ?_
    refine ⟨.ref a, rfl, .ref R_, rfl, R_, _, 0, .ref r1, rfl, rfl, .inl (.inl eR), rfl, .ref R_, rfl, R_, _, 1, .ref r2, rfl, rfl, .inl (.inl eR), rfl, .ref C, rfl, C, _, 0, .int (A.length : Int), rfl, rfl, .inl (.inl S13.eC), rfl, a, c, .ref r1, .ref r2, A.length, B.length, M - 620, row1, row2, rfl, D13.less (by omega), dp_ints er1, dp_ints er2, by omega, by omega, in1, in2, fun H14 vm row b14 D14 dm hlf hrt inr ln => ?_⟩
    have S14 := S13.but fP fC D13 b14
    have T14 := tabs_but D13 b14 T13
    have eS14 := b14 _ _ fS.1 fS.2 eS13
    have ea1_14 := tup_but D13 b14 ea1_13
    have ea2_14 := tup_but D13 b14 ea2_13
    have eG14 := b14 _ _ fG.1 fG.2 eG13
    have eg1_14 := tup_but D13 b14 eg1_13
    have eg2_14 := tup_but D13 b14 eg2_13
    have eR14 := b14 _ _ fR.1 fR.2 eR
    have er1_14 := D13.sqT b14 er1
    have er2_14 := D13.sqT b14 er2
    have dR14 : DpAll K H14 [.ref r1, .ref r2] [dInts row1, dInts row2] := .cons (dp_ints er1_14) (.cons (dp_ints er2_14) .nil)
    have dC14 : DpAll K H14 [.int (A.length : Int), .int (B.length : Int)] [.int (A.length : Int), .int (B.length : Int)] := .cons (.int _) (.cons (.int _) .nil)
    have la1 := as1.len
    have la2 := as2.len
    have lk1 := ak1.len
    have lk2 := ak2.len
    have jS : Asc (besP A B).length (jnM A.length s1_ s2_) := by rw [hl]; exact jn_asc as1 as2
    have jG : Asc (besP A B).length (jnM A.length k1 k2) := by rw [hl]; exact jn_asc ak1 ak2
    have inr' : ∀ y ∈ row, 0 ≤ y ∧ y < ((besP A B).length : Int) := by rw [hl]; exact inr
    refine gs_setQ ?_
    refine tups2 (K := K) (l1 := runM A s1_ row1) (l2 := runM B s2_ row2) (fun Hz sz => gt_Run (pan := A) (st := s1_) (row := row1) (gv_ixL (j := 0) (gl_var (i := 3) rfl (sz _ _ S14.eP) (S14.dP.sm sz)).gv (gv_var (i := 17) rfl (.int 0)) rfl rfl) (gt_ixv (i := 7) (j := 17) (k := 0) rfl rfl (sz _ _ eS14) rfl (sz _ _ ea1_14)) (gv_ixL (j := 0) (gl_var (i := 9) rfl (sz _ _ eR14) (dR14.sm sz)).gv (gv_var (i := 17) rfl (.int 0)) rfl rfl) ⟨few1, by omega, in1, as1⟩)
      (fun Hz sz => gt_Run (pan := B) (st := s2_) (row := row2) (gv_ixL (j := 1) (gl_var (i := 3) rfl (sz _ _ S14.eP) (S14.dP.sm sz)).gv (gv_var (i := 17) rfl (.int 1)) rfl rfl) (gt_ixv (i := 7) (j := 17) (k := 1) rfl rfl (sz _ _ eS14) rfl (sz _ _ ea2_14)) (gv_ixL (j := 1) (gl_var (i := 9) rfl (sz _ _ eR14) (dR14.sm sz)).gv (gv_var (i := 17) rfl (.int 1)) rfl rfl) ⟨few2, by omega, in2, as2⟩)
      fun H15 E_ e1 e2 s15 nE eE ee1 ee2 => ?_
    have fE := D14.fresh nE
    refine gs_setQ ?_
    refine (gt_Joined (K := K) (gt_ixc (i := 7) (k := 0) rfl (s15 _ _ eS14) rfl (s15 _ _ ea1_14)) (gt_ixc (i := 7) (k := 1) rfl (s15 _ _ eS14) rfl (s15 _ _ ea2_14)).gv (gv_ixL (j := 0) (gl_var (i := 5) rfl (s15 _ _ S14.eC) (dC14.sm s15)).gv gv_int rfl rfl) (by omega) (by omega)).at fun t1 H16 s16 et1 => ?_
    have s1416 := s15.trans s16
    have S16 := S14.same s1416
    have dm16 := dm.sm s1416
    have eE16 := s16 _ _ eE
    have ee1_16 := s16 _ _ ee1
    have ee2_16 := s16 _ _ ee2
    have ar1 := runM_asc (pan := A) (row := row1) as1
    have ar2 := runM_asc (pan := B) (row := row2) as2
    have lr1 := ar1.len
    have lr2 := ar2.len
    refine gs_no (b := false) (gvt_test ((gv_neI1 (K := K) (gt_Run (pan := besP A B) (st := jnM A.length s1_ s2_) (row := row) (gv_var (i := 4) rfl S16.ho.dp) (gt_var (i := 12) rfl et1) (gv_var (i := 10) rfl dm16) ⟨by omega, by omega, inr', jS⟩).gv
      (gt_Joined (gt_ixc (i := 11) (k := 0) rfl eE16 rfl ee1_16) (gt_ixc (i := 11) (k := 1) rfl eE16 rfl ee2_16).gv (gv_ixL (j := 0) (gl_var (i := 5) rfl S16.eC (dC14.sm s1416)).gv gv_int rfl rfl) (by omega) (by omega)).gv).to (by rw [bes_run ga gb as1 as2 inr, hlf, hrt, decide_eq_true rfl]; rfl))) rfl fun H17 s17 => ?_
    have s1417 := s1416.trans s17
    have S17 := S14.same s1417
    have dm17 := dm.sm s1417
    have dR17 := dR14.sm s1417
    have eR17 := s1417 _ _ eR14
    refine gs_no (b := false) (gvt_test ((gv_neD (K := K) (gv_Eff (pan := besP A B) (row := row) (gva_cons (gv_var (i := 4) rfl S17.ho.dp) (gva_cons (gv_var (i := 10) rfl dm17) gva_nil)) gw inr') ((gv_catT (gv_Eff (pan := A) (row := row1) (gva_cons (gv_ixL (j := 0) (gl_var (i := 3) rfl S17.eP S17.dP).gv gv_int rfl rfl) (gva_cons (gv_ixL (j := 0) (gl_var (i := 9) rfl eR17 dR17).gv gv_int rfl rfl) gva_nil)) ga in1) (gv_Eff (pan := B) (row := row2) (gva_cons (gv_ixL (j := 1) (gl_var (i := 3) rfl S17.eP S17.dP).gv gv_int rfl rfl) (gva_cons (gv_ixL (j := 1) (gl_var (i := 9) rfl eR17 dR17).gv gv_int rfl rfl) gva_nil)) gb in2) (by rw [List.length_map, List.length_map, effM_len, effM_len]; omega)).to (e := dStrs (effM (besP A B) row)) (by rw [bes_eff ga gb row inr, hlf, hrt]; unfold dStrs; rw [List.map_append])) (shp_words fun x hx => eff3 hx) (shp_words fun x hx => eff3 hx)).to (by rw [eqv_strs, decide_eq_true rfl]; rfl))) rfl fun H18 s18 => ?_
    have s1418 := s1417.trans s18
    have S18 := S14.same s1418
    have dm18 := dm.sm s1418
    have dR18 := dR14.sm s1418
    have eR18 := s1418 _ _ eR14
    refine gs_no (b := false) (gvt_test ((gv_neB (K := K) (gv_Reset (pan := besP A B) (row := row) (gva_cons (gv_var (i := 4) rfl S18.ho.dp) (gva_cons (gv_var (i := 10) rfl dm18) gva_nil)) gw inr') (gv_andV (gv_Reset (pan := A) (row := row1) (gva_cons (gv_ixL (j := 0) (gl_var (i := 3) rfl S18.eP S18.dP).gv gv_int rfl rfl) (gva_cons (gv_ixL (j := 0) (gl_var (i := 9) rfl eR18 dR18).gv gv_int rfl rfl) gva_nil)) ga in1) (fun _ => gv_Reset (pan := B) (row := row2) (gva_cons (gv_ixL (j := 1) (gl_var (i := 3) rfl S18.eP S18.dP).gv gv_int rfl rfl) (gva_cons (gv_ixL (j := 1) (gl_var (i := 9) rfl eR18 dR18).gv gv_int rfl rfl) gva_nil)) gb in2))).to (by rw [bes_reset ga gb row inr, hlf, hrt, decide_eq_true rfl]; rfl))) rfl fun H19 s19 => ?_
    have s1419 := s1418.trans s19
    have S19 := S14.same s1419
    have eG19 := s1419 _ _ eG14
    have eg1_19 := s1419 _ _ eg1_14
    have eg2_19 := s1419 _ _ eg2_14
    obtain ⟨h1_, hh1⟩ := held_of (pan := A) ak1
    obtain ⟨h2_, hh2⟩ := held_of (pan := B) ak2
    have ah1 : Asc A.length h1_ := ⟨hh1.up, fun x hx => ak1.rng x (hh1.sub x hx)⟩
    have ah2 : Asc B.length h2_ := ⟨hh2.up, fun x hx => ak2.rng x (hh2.sub x hx)⟩
    have lh1 := ah1.len
    have lh2 := ah2.len
    refine gs_setN (K := K) (gn_lc (i := 17) (δ := fun k : Nat => PyData.int (k : Int)) (as := List.range 2) (p := fun _ => true) (f := fun k : Nat => dInts ([h1_, h2_].getD k [])) (gvi_range (n := 2) (gv_int (i := 2)) (by decide)) (fun k v Hz hk sz dz => ⟨gvt_yes, fun _ => ?_⟩) (fun _ _ => lf_ints _) (show 2 ≤ 100000 by decide)) fun LH vLH H20 s20 nLH eLH dLH => ?_
    · cases dz
      obtain rfl | rfl : k = 0 ∨ k = 1 := by have := List.mem_range.mp hk; omega
      · exact gv_Held (pan := A) (st := k1) (hs := h1_) (gva_cons (gv_ixL (j := 0) (gl_var (i := 3) rfl (sz _ _ S19.eP) (S19.dP.sm sz)).gv (gv_var (i := 17) rfl (.int ((0 : Nat) : Int))) rfl rfl) (gva_cons (gt_ixv (i := 8) (j := 17) (k := 0) rfl rfl (sz _ _ eG19) rfl (sz _ _ eg1_19)).gv gva_nil)) ga ak1 hh1
      · exact gv_Held (pan := B) (st := k2) (hs := h2_) (gva_cons (gv_ixL (j := 1) (gl_var (i := 3) rfl (sz _ _ S19.eP) (S19.dP.sm sz)).gv (gv_var (i := 17) rfl (.int ((1 : Nat) : Int))) rfl rfl) (gva_cons (gt_ixv (i := 8) (j := 17) (k := 1) rfl rfl (sz _ _ eG19) rfl (sz _ _ eg2_19)).gv gva_nil)) gb ak2 hh2
    have dLH' : DpAll K H20 vLH [dInts h1_, dInts h2_] := dLH
    have s1420 := s1419.trans s20
    refine gs_setQ ?_
    refine (gt_Joined (K := K) (gt_ixc (i := 8) (k := 0) rfl (s20 _ _ eG19) rfl (s20 _ _ eg1_19)) (gt_ixc (i := 8) (k := 1) rfl (s20 _ _ eG19) rfl (s20 _ _ eg2_19)).gv (gv_ixL (j := 0) (gl_var (i := 5) rfl (s1420 _ _ S14.eC) (dC14.sm s1420)).gv gv_int rfl rfl) (by omega) (by omega)).at fun t2 H21 s21 et2 => ?_
    have s1421 := s1420.trans s21
    have S21 := S14.same s1421
    refine gs_no (b := false) (gvt_test ((gv_neI1 (K := K) (gv_Held (pan := besP A B) (st := jnM A.length k1 k2) (hs := jnM A.length h1_ h2_) (gva_cons (gv_var (i := 4) rfl S21.ho.dp) (gva_cons (gv_var (i := 14) rfl (dp_ints (.inl (.inl et2)))) gva_nil)) gw jG (bes_held ga gb ak1 ak2 hh1 hh2)) (gv_JoinedD (gv_ixL (j := 0) (gl_var (i := 13) rfl (s21 _ _ eLH) (dLH'.sm s21)).gv gv_int rfl rfl) (gv_ixL (j := 1) (gl_var (i := 13) rfl (s21 _ _ eLH) (dLH'.sm s21)).gv gv_int rfl rfl) (gv_ixL (j := 0) (gl_var (i := 5) rfl S21.eC (dC14.sm s1421)).gv gv_int rfl rfl) (by omega) (by omega))).to (by rw [decide_eq_true rfl]; rfl))) rfl fun H22 s22 => ?_
    have s1422 := s1421.trans s22
    have s1622 := s17.trans (s18.trans (s19.trans (s20.trans (s21.trans s22))))
    refine ⟨.ref P_, rfl, .ref o, rfl, .ref S_, rfl, .ref G_, rfl, .ref E_, rfl, (show 2 ≤ sizeLine by decide), fun Lx nLx => ?_⟩
    have s23 := same_new (o := HO.lst [.ref G_, .ref E_]) nLx
    have eLx : (upd H22 Lx (.lst [.ref G_, .ref E_])) Lx = some (.lst [.ref G_, .ref E_]) := upd_same
    have fLx := (D14.same s1422).fresh nLx
    generalize upd H22 Lx (.lst [.ref G_, .ref E_]) = H23 at s23 eLx ⊢
    have s1423 := s1422.trans s23
    have s1623 := s1622.trans s23
    have D23 := D14.same s1423
    refine ⟨.ref a, rfl, a, c, M - 640, 2, rfl, D23.less (by omega), by decide, by decide, fun H24 dd b24 D24 dd0 dd1 => ?_⟩
    have S24 := (S14.same s1423).but fP fC D23 b24
    have T24 := tabs_but D23 b24 (T14.ext fun b o e => s1423 b o e)
    have hgoal : ∃ (X g1' g2' : Addr) (q1 q2 : List Int), atI [V.ref G_, V.ref E_] dd = some (.ref X) ∧ H24 X = some (.lst [.ref g1', .ref g2']) ∧ H24 g1' = some (.tup (q1.map V.int)) ∧ H24 g2' = some (.tup (q2.map V.int)) ∧ Asc A.length q1 ∧ Asc B.length q2 := by
      obtain rfl | rfl : dd = 0 ∨ dd = 1 := by omega
      · exact ⟨G_, g1, g2, k1, k2, rfl, b24 _ _ fG.1 fG.2 (s1423 _ _ eG14), tup_but D23 b24 (s1423 _ _ eg1_14), tup_but D23 b24 (s1423 _ _ eg2_14), ak1, ak2⟩
      · exact ⟨E_, e1, e2, _, _, rfl, b24 _ _ fE.1 fE.2 (s1623 _ _ eE16), tup_but D23 b24 (s1623 _ _ ee1_16), tup_but D23 b24 (s1623 _ _ ee2_16), ar1, ar2⟩
    obtain ⟨X, g1', g2', q1, q2, hat, eX, eq1, eq2, aq1, aq2⟩ := hgoal
    refine ⟨Lx, _, dd, .ref X, rfl, rfl, .inl (.inl (b24 _ _ fLx.1 fLx.2 eLx)), hat, P_, S_, X, .ref o, p1, p2, a1, a2, g1', g2', A, B, s1_, s2_, q1, q2, rfl, S24.eP, S24.hp1, S24.hp2, S24.ho.dp, ga, gb, h7, b24 _ _ fS.1 fS.2 (s1423 _ _ eS14), tup_but D23 b24 (s1423 _ _ ea1_14), tup_but D23 b24 (s1423 _ _ ea2_14), eX, eq1, eq2, as1, as2, aq1, aq2, fun H25 s25 => ⟨true, rfl, ite2 (fun z => by cases z) fun _ => ?_⟩⟩
    exact hn00 _ _ ⟨(D24.same s25).less (by omega), T24.ext (fun b o e => s25 b o e), S24.same s25, _, _, _, _, _, _, _, _, _, _, _, _, rfl⟩
end
end K09
namespace Pr
open PySem PySem.Spec PyProof.Rows L2
end Pr
namespace Pr
open PySem PySem.Spec PyProof.Rows L2 LamX
/-- nothing is tracked but the script and empty tables -/
def OnlyT (ts : List Addr) (H : Hp) : Prop := ∀ b, H b = none ∨ (b ∈ ts ∧ H b = some (.tbl #[])) ∨ ∃ o xs, H b = some (.frz o (.lst xs))
abbrev tab0 : Obj := { cls := .none, data := .fields #[] }
theorem lawGT {P : Program} {w : World} {K : PySem.W.Frag} {mg mb : Str → Option Value} {k : Nat} {fa a : Addr} {fd : FuncData} {x : Str} {sp : Sp} {s1 : Shared} {vs : List Value} {ns : List Int} {cs : List (Addr × Addr)}
    (kin : K.In s1.heap) (nsg : s1.heap.Ns mainGlobals mg) (nsb : s1.heap.Ns builtinsNs mb) (bb : ∀ y : Str, y ≠ "__name__" → mb y = bootBuiltins y) (lim : s1.heap.NoLimit) (g0 : s1.gens = #[])
    (hT : ∀ p ∈ cs, s1.heap.get? p.2 = some tab0) (nT : ∀ p ∈ cs, K.lookup p.2 = none) (C : ∀ p ∈ cs, PySem.W.CodeHd s1.heap p.1 p.2)
    (hbm : ∃ (bm : Addr) (ob : Obj), mg "__builtins__" = some (.ref bm) ∧ bm ≠ builtinsNs ∧ s1.heap.get? bm = some ob ∧ ob.cls = .type "module" ∧ ob.dict = some builtinsNs ∧ ob.data = .plain)
    (la : s1.heap.get? a = some { cls := .type "list", data := .seq vs.toArray }) (hints : IntsAre vs ns) (few : ns.length ≤ sizeLine) (rm : Room k callerA)
    (F : ∀ base : Heap, K.In base → base.Ns mainGlobals mg → (∀ p ∈ cs, TabB base mg p.1 p.2) → FnG P w K mg base k fa fd [x] sp) (bd : ∀ (s : Shared) (u : Value), BindsTo s fd ⟨[u], []⟩ [(x, u)])
    (wish : ∀ H : Hp, (∀ p ∈ cs, H p.2 = some (.tbl #[])) → SqL K H a (ns.map V.int) → sp [.ref a] H (fun v _ => v = .bl true) E0) :
    codeAny (model P w) callerA (.call (.ref fa) ⟨[.ref a], []⟩) (fun r s' => r = .ok (.ret (.bool true)) ∧ OldK s1.heap s'.heap ∧ s'.os = s1.os ∧ AllBare s'.gens) s1 := by
  have rv := vals_ints hints
  have lv := hints.length
  have tabOf : ∀ b, b ∈ cs.map (·.2) → s1.heap.get? b = some tab0 := fun b hb => by
    obtain ⟨p, hp, rfl⟩ := List.mem_map.mp hb
    exact hT p hp
  have inTs : ∀ p ∈ cs, p.2 ∈ cs.map (·.2) := fun p hp => List.mem_map.mpr ⟨p, hp, rfl⟩
  have aNot : a ∉ cs.map (·.2) := fun z => by
    have e := tabOf a z
    rw [la] at e
    exact nomatch (show Data.seq vs.toArray 0 = Data.fields #[] from congrArg Obj.data (Option.some.inj e))
  have main : ∀ H : Hp, (∀ p ∈ cs, H p.2 = some (.tbl #[])) → OnlyT (cs.map (·.2)) H → SqL K H a (ns.map V.int) → HOk P w H s1.heap → (∀ b, H b ≠ none → b = a ∨ b ∈ cs.map (·.2)) → (H a ≠ none → K.lookup a = none) →
      codeAny (model P w) callerA (.call (.ref fa) ⟨[.ref a], []⟩) (fun r s' => r = .ok (.ret (.bool true)) ∧ OldK s1.heap s'.heap ∧ s'.os = s1.os ∧ AllBare s'.gens) s1 := by
    intro H hTab hO hS hok hA hK
    -- what is neither a list nor an empty table is not tracked
    have free : ∀ {b : Addr} {o : Obj}, s1.heap.get? b = some o → (∀ us n, o.data ≠ .seq us n) → o.data ≠ .fields #[] → H b = none := fun {b o} e n1 n2 => by
      cases q : H b with
      | none => rfl
      | some u =>
        rcases hA b (by rw [q]; simp) with rfl | z
        · rw [la] at e; cases e
          exact absurd rfl (n1 _ _)
        · rw [tabOf b z] at e; cases e
          exact absurd rfl n2
    have dictFree : ∀ {b : Addr} {o : Obj} {es : Array DictEntry} {ep : Nat}, s1.heap.get? b = some o → o.data = .dict es ep → H b = none := fun {b o es ep} e d =>
      free e (fun us n z => nomatch d.symm.trans z) fun z => nomatch d.symm.trans z
    have nsH : ∀ {b : Addr} {m : Str → Option Value}, s1.heap.Ns b m → (hidT s1.heap H).Ns b m := fun {b m} ⟨o, es, ep, e, d, r⟩ => ⟨o, es, ep, hidT_get e (dictFree e d), d, r⟩
    have kinH : K.In (hidT s1.heap H) := fun b o e => hidT_get (kin b o e) (by
      cases q : H b with
      | none => rfl
      | some u =>
        rcases hA b (by rw [q]; simp) with rfl | z
        · rw [hK (by rw [q]; simp)] at e; cases e
        · obtain ⟨p, hp, rfl⟩ := List.mem_map.mp z
          rw [nT p hp] at e; cases e)
    have md : Mod K mg (hidT s1.heap H) := ⟨kinH, nsH nsg, ⟨mb, nsH nsb, bb⟩, let ⟨mc, h1, h2⟩ := lim; ⟨mc, nsH h1, h2⟩⟩
    have tb : ∀ p ∈ cs, TabB (hidT s1.heap H) mg p.1 p.2 := fun p hp => by
      have e2 := hT p hp
      constructor
      · obtain ⟨o, us, fl, t1, fg, t2, b1, tx, t3, g1, r1, r2, r3, r⟩ := C p hp
        have go : H p.1 = none := free g1 (fun us n z => nomatch r2.symm.trans z) fun z => by
          have := Data.fields.inj (r2.symm.trans z)
          rw [this] at r3
          simp at r3
        exact ⟨o, us, fl, t1, fg, t2, b1, tx, t3, hidT_get g1 go, r1, r2, r3, r⟩
      · obtain ⟨bm, ob, b1, b2, b3, b4, b5, b6⟩ := hbm
        refine ⟨bm, ob, b1, b2, fun z => ?_, fun z => ?_, hidT_get b3 (free b3 (fun us n y => nomatch b6.symm.trans y) fun y => nomatch b6.symm.trans y), b4, b5, b6⟩
        · obtain ⟨o, es, ep, e, d, _⟩ := nsg
          rw [← z, b3] at e; cases e
          exact nomatch b6.symm.trans d
        · rw [← z, b3] at e2; cases e2
          exact nomatch b6
      · intro z
        obtain ⟨o, es, ep, e, d, _⟩ := nsg
        rw [z, e2] at e; cases e
        exact nomatch d
    have e0 : Env0 P w K mg (hidT s1.heap H) callerA [] s1 H :=
      ⟨rfl, md, fun b o e => of_hidT e, Nat.le_of_eq (hidT_size _ _), trivial, fun b hb => absurd (show b ∈ ([] : List Addr) from hb) (by simp), hok, .of_eq g0⟩
    refine codeAny_mono ((F _ kinH (nsH nsg) tb).go callerA [] s1 H ⟨[.ref a], []⟩ [.ref a] [.ref a] _ _ rfl rm e0 (bd s1 (.ref a)) (.cons rfl .nil) (wish H hTab hS)) fun r s' h => ?_
    cases r with
    | error e => exact h.elim
    | ok fl =>
      cases fl with
      | next => exact h.elim
      | brk => exact h.elim
      | cont => exact h.elim
      | ret u =>
        obtain ⟨v, H', os, bare, un, hok', r', q⟩ := h
        obtain rfl : v = .bl true := q
        obtain rfl : u = Value.bool true := r'
        have stay : ∀ b o, b ∉ cs.map (·.2) → s1.heap.get? b = some o → s'.heap.get? b = some o := fun b o nb e => by
          rcases hO b with z | ⟨z, _⟩ | ⟨ob, xs, z⟩
          · exact un.keep b o e z (fun y => absurd (show b ∈ ([] : List Addr) from y) (by simp)) (by simp)
          · exact absurd z nb
          · have e1 := (hok b _ z).1
            rw [e] at e1; cases e1
            exact (hok' b _ (un.frzs b o _ z)).1
        have grow : ∀ p ∈ cs, ∃ more : Array Value, s'.heap.get? p.2 = some { cls := .none, data := .fields more } := fun p hp => by
          obtain ⟨more, z⟩ := un.tbls p.2 #[] (hTab p hp)
          exact ⟨_, hok' p.2 _ z⟩
        refine ⟨rfl, ⟨fun b o e => ?_, fun b o e => ?_⟩, os, bare⟩
        · by_cases hb : b ∈ cs.map (·.2)
          · obtain ⟨p, hp, rfl⟩ := List.mem_map.mp hb
            obtain ⟨more, hm⟩ := grow p hp
            have e2 := hT p hp
            rw [e2] at e; cases e
            exact .inr (.inl ⟨((C p hp).tab e2).isCodeTable, rfl, #[], more, rfl, by rw [Array.empty_append]; exact hm⟩)
          · exact .inl (stay b o hb e)
        · by_cases hb : b ∈ cs.map (·.2)
          · obtain ⟨p, hp, rfl⟩ := List.mem_map.mp hb
            obtain ⟨more, hm⟩ := grow p hp
            exact ⟨_, hm⟩
          · exact ⟨o, stay b o hb e⟩
  cases hk : K.lookup a with
  | some o =>
    have e := kin a o hk
    rw [la] at e
    cases e
    refine main (fun b => if b ∈ cs.map (·.2) then some (.tbl #[]) else none) (fun p hp => if_pos (inTs p hp)) (fun b => ?_) (.inr ⟨_, vs.toArray, _, hk, rfl, rfl, rfl, by rw [List.size_toArray, lv]; exact few, by simpa using rv⟩) (fun b u z => ?_) (fun b z => ?_) fun z => absurd (if_neg aNot) z
    · by_cases hb : b ∈ cs.map (·.2)
      · exact .inr (.inl ⟨hb, if_pos hb⟩)
      · exact .inl (if_neg hb)
    · by_cases hb : b ∈ cs.map (·.2)
      · cases (if_pos hb).symm.trans z
        exact tabOf b hb
      · cases (if_neg hb).symm.trans z
    · by_cases hb : b ∈ cs.map (·.2)
      · exact .inr hb
      · exact absurd (if_neg hb) z
  | none =>
    refine main (upd (fun b => if b ∈ cs.map (·.2) then some (.tbl #[]) else none) a (.frz { cls := .type "list", data := .seq vs.toArray } (.lst (ns.map V.int)))) (fun p hp => ?_) (fun b => ?_) (.inl (.inr ⟨_, upd_same⟩)) (fun b u z => ?_) (fun b z => ?_) fun _ => hk
    · rw [upd_ne (fun z : p.2 = a => aNot (by rw [← z]; exact inTs p hp))]; exact if_pos (inTs p hp)
    · by_cases hb : b = a
      · subst hb; exact .inr (.inr ⟨_, _, upd_same⟩)
      · rw [upd_ne hb]
        by_cases hb2 : b ∈ cs.map (·.2)
        · exact .inr (.inl ⟨hb2, if_pos hb2⟩)
        · exact .inl (if_neg hb2)
    · by_cases hb : b = a
      · subst hb
        rw [upd_same] at z
        cases z
        exact ⟨la, by rw [List.length_map]; exact few, vs, _, rv, la⟩
      · rw [upd_ne hb] at z
        by_cases hb2 : b ∈ cs.map (·.2)
        · cases (if_pos hb2).symm.trans z
          exact tabOf b hb2
        · cases (if_neg hb2).symm.trans z
    · by_cases hb : b = a
      · exact .inl hb
      · rw [upd_ne hb] at z
        by_cases hb2 : b ∈ cs.map (·.2)
        · exact .inr hb2
        · exact absurd (if_neg hb2) z
theorem walkGT {l : PySem.W.OpenLaw} {n k : Nat} {q : Program} {loose : List Str} {XP : (Str → Option Value) → Heap → Prop} {YP : World → Heap → Prop} {d : DefRec} {sp : PySem.W.Frag → Sp} {x : Str}
    (hn : l.most = some n) (hn2 : n ≤ sizeLine) (hdf : d.params.defaults = []) (hr : Room k callerA)
    (F : ∀ (w : World) (mg : Str → Option Value) (fa : Addr) (h : Heap), YP w h → h.Ns mainGlobals mg → mg d.name = some (.ref fa) →
      ∃ (K : PySem.W.Frag) (cs : List (Addr × Addr)), K.In h ∧ (∀ p ∈ cs, h.get? p.2 = some tab0) ∧ (∀ p ∈ cs, K.lookup p.2 = none) ∧ (∀ p ∈ cs, PySem.W.CodeHd h p.1 p.2) ∧
        (∀ (H : Hp) (a : Addr) (ns : List Int), ns.length ≤ n → (∀ p ∈ cs, H p.2 = some (.tbl #[])) → SqL K H a (ns.map V.int) → sp K [.ref a] H (fun v _ => v = .bl true) E0) ∧
        ∃ fd : FuncData, (∀ (s : Shared) (u : Value), BindsTo s fd ⟨[u], []⟩ [(x, u)]) ∧ ∀ base : Heap, K.In base → base.Ns mainGlobals mg → (∀ p ∈ cs, TabB base mg p.1 p.2) → FnG l.prog w K mg base k fa fd [x] (sp K)) :
    PySem.W.WalkO q loose XP YP l.row.toRowW d [] (fun f vs => PySem.call f vs) := by
  refine Att.attach_callB hn hdf fun w s0 s1 mg mb fa o pm cd doc a vs ns G Y ho hd hcd hmg hobj hints hlen hbits hg => ?_
  obtain ⟨K, cs, KX, hT, nT, C, hsp, fd, hb, hF⟩ := F w mg fa _ Y G.T.g hmg
  exact lawGT KX G.T.g G.T.b G.T.builtins G.T.nolimit hg hT nT C G.T.bmain hobj hints (Nat.le_trans hlen hn2) hr hF hb fun H hH hS => hsp H a ns hlen hH hS
end Pr
namespace K09
open PySem PySem.Spec PyProof.Rows L2 Pr LamX
theorem all_mk {l : PySem.W.OpenLaw} {w : World} {K : PySem.W.Frag} {h : Heap} {mg : Str → Option Value} {fa f1 f2 f3 f4 f5 f6 f7 f8 f9 f10 f11 f12 f13 f14 f15 f16 f17 f18 f19 f20 f21 f22 f23 f24 f25 f26 f27 f28 f29 f30 f31 f32 : Addr} (X : K.In h) (G : h.Ns mainGlobals mg) (hfa : mg "law" = some (.ref fa))
     {cS pS : Addr} {odcS : Option Addr} {vsS : Array Value} {slcS : Array (Option Value)} {flS : Str} {tfS tgS ttS : Tok} {fgS txS : Int} {inS : Bool}
    {od1 an1 od2 an2 od3 an3 od4 an4 od5 an5 od6 an6 od7 an7 od8 an8 od9 an9 od10 an10 od11 an11 od12 an12 od13 an13 od14 an14 od15 an15 od16 an16 od17 an17 od18 an18 od19 an19 od20 an20 od21 an21 od22 an22 od23 an23 od24 an24 od25 an25 od26 an26 od27 an27 od28 an28 od29 an29 od30 an30 od31 an31 od32 an32 : Option Addr} {sl1 sl2 sl3 sl4 sl5 sl6 sl7 sl8 sl9 sl10 sl11 sl12 sl13 sl14 sl15 sl16 sl17 sl18 sl19 sl20 sl21 sl22 sl23 sl24 sl25 sl26 sl27 sl28 sl29 sl30 sl31 sl32 : Array (Option Value)} {oc1 kV1 dc1 pm1 cd1 ct1 oc2 kV2 dc2 pm2 cd2 ct2 oc3 kV3 dc3 pm3 cd3 ct3 oc4 kV4 dc4 pm4 cd4 ct4 oc5 kV5 dc5 pm5 cd5 ct5 oc6 kV6 dc6 pm6 cd6 ct6 oc7 kV7 dc7 pm7 cd7 ct7 oc8 kV8 dc8 pm8 cd8 ct8 oc9 kV9 dc9 pm9 cd9 ct9 oc10 kV10 dc10 pm10 cd10 ct10 oc11 kV11 dc11 pm11 cd11 ct11 oc12 kV12 dc12 pm12 cd12 ct12 oc13 kV13 dc13 pm13 cd13 ct13 oc14 kV14 dc14 pm14 cd14 ct14 oc15 kV15 dc15 pm15 cd15 ct15 oc16 kV16 dc16 pm16 cd16 ct16 oc17 kV17 dc17 pm17 cd17 ct17 oc18 kV18 dc18 pm18 cd18 ct18 oc19 kV19 dc19 pm19 cd19 ct19 oc20 kV20 dc20 pm20 cd20 ct20 oc21 kV21 dc21 pm21 cd21 ct21 oc22 kV22 dc22 pm22 ct22 oc23 kV23 dc23 pm23 cd23 ct23 oc24 kV24 dc24 pm24 cd24 ct24 oc25 kV25 dc25 pm25 cd25 ct25 oc26 kV26 dc26 pm26 cd26 ct26 oc27 kV27 dc27 pm27 cd27 ct27 oc28 kV28 dc28 pm28 cd28 ct28 oc29 kV29 dc29 pm29 cd29 ct29 oc30 kV30 dc30 pm30 cd30 ct30 oc31 kV31 dc31 pm31 cd31 ct31 oc32 kV32 dc32 pm32 cd32 ct32 : Value}
    (a1 : PySem.W.nsIn K mainGlobals "beside" = some (some (.ref f1))) (l1 : K.lookup f1 = some ⟨oc1, od1, .func (PySem.W.fnOf "beside" "beside" (defArgs sBes) (defBody sBes) (defScope sBes) .none kV1 dc1 pm1 an1 cd1 ct1), sl1⟩) (c1 : PySem.W.codeIn K cd1 "beside" = true) (k1 : PySem.W.keepIn K (.ref f1) = true)
    (a2 : PySem.W.nsIn K mainGlobals "shortest_rows" = some (some (.ref f2))) (l2 : K.lookup f2 = some ⟨oc2, od2, .func (PySem.W.fnOf "shortest_rows" "shortest_rows" (defArgs sRows) (defBody sRows) (defScope sRows) .none kV2 dc2 pm2 an2 cd2 ct2), sl2⟩) (c2 : PySem.W.codeIn K cd2 "shortest_rows" = true) (k2 : PySem.W.keepIn K (.ref f2) = true)
    (a3 : PySem.W.nsIn K mainGlobals "no_effect" = some (some (.ref f3))) (l3 : K.lookup f3 = some ⟨oc3, od3, .func (PySem.W.fnOf "no_effect" "no_effect" (defArgs sNo) (defBody sNo) (defScope sNo) .none kV3 dc3 pm3 an3 cd3 ct3), sl3⟩) (c3 : PySem.W.codeIn K cd3 "no_effect" = true) (k3 : PySem.W.keepIn K (.ref f3) = true)
    (a4 : PySem.W.nsIn K mainGlobals "press_effect" = some (some (.ref f4))) (l4 : K.lookup f4 = some ⟨oc4, od4, .func (PySem.W.fnOf "press_effect" "press_effect" (defArgs sPressE) (defBody sPressE) (defScope sPressE) .none kV4 dc4 pm4 an4 cd4 ct4), sl4⟩) (c4 : PySem.W.codeIn K cd4 "press_effect" = true) (k4 : PySem.W.keepIn K (.ref f4) = true)
    (a5 : PySem.W.nsIn K mainGlobals "joined_effect" = some (some (.ref f5))) (l5 : K.lookup f5 = some ⟨oc5, od5, .func (PySem.W.fnOf "joined_effect" "joined_effect" (defArgs sJoin) (defBody sJoin) (defScope sJoin) .none kV5 dc5 pm5 an5 cd5 ct5), sl5⟩) (c5 : PySem.W.codeIn K cd5 "joined_effect" = true) (k5 : PySem.W.keepIn K (.ref f5) = true)
    (a6 : PySem.W.nsIn K mainGlobals "effect_with_press" = some (some (.ref f6))) (l6 : K.lookup f6 = some ⟨oc6, od6, .func (PySem.W.fnOf "effect_with_press" "effect_with_press" (defArgs sWith) (defBody sWith) (defScope sWith) .none kV6 dc6 pm6 an6 cd6 ct6), sl6⟩) (c6 : PySem.W.codeIn K cd6 "effect_with_press" = true) (k6 : PySem.W.keepIn K (.ref f6) = true)
    (a7 : PySem.W.nsIn K mainGlobals "effect_of" = some (some (.ref f7))) (l7 : K.lookup f7 = some ⟨oc7, od7, .func (PySem.W.fnOf "effect_of" "effect_of" (defArgs sEff) (defBody sEff) (defScope sEff) .none kV7 dc7 pm7 an7 cd7 ct7), sl7⟩) (c7 : PySem.W.codeIn K cd7 "effect_of" = true) (k7 : PySem.W.keepIn K (.ref f7) = true)
    (a8 : PySem.W.nsIn K mainGlobals "count_effects" = some (some (.ref f8))) (l8 : K.lookup f8 = some ⟨oc8, od8, .func (PySem.W.fnOf "count_effects" "count_effects" (defArgs sCnt) (defBody sCnt) (defScope sCnt) .none kV8 dc8 pm8 an8 cd8 ct8), sl8⟩) (c8 : PySem.W.codeIn K cd8 "count_effects" = true) (k8 : PySem.W.keepIn K (.ref f8) = true)
    (a9 : PySem.W.nsIn K mainGlobals "all_effects" = some (some (.ref f9))) (l9 : K.lookup f9 = some ⟨oc9, od9, .func (PySem.W.fnOf "all_effects" "all_effects" (defArgs sAllE) (defBody sAllE) (defScope sAllE) .none kV9 dc9 pm9 an9 cd9 ct9), sl9⟩) (c9 : PySem.W.codeIn K cd9 "all_effects" = true) (k9 : PySem.W.keepIn K (.ref f9) = true)
    (a10 : PySem.W.nsIn K mainGlobals "is_button" = some (some (.ref f10))) (l10 : K.lookup f10 = some ⟨oc10, od10, .func (PySem.W.fnOf "is_button" "is_button" (defArgs sBtn) (defBody sBtn) (defScope sBtn) .none kV10 dc10 pm10 an10 cd10 ct10), sl10⟩) (c10 : PySem.W.codeIn K cd10 "is_button" = true) (k10 : PySem.W.keepIn K (.ref f10) = true)
    (a11 : PySem.W.nsIn K mainGlobals "press_button" = some (some (.ref f11))) (l11 : K.lookup f11 = some ⟨oc11, od11, .func (PySem.W.fnOf "press_button" "press_button" (defArgs sPress) (defBody sPress) (defScope sPress) .none kV11 dc11 pm11 an11 cd11 ct11), sl11⟩) (c11 : PySem.W.codeIn K cd11 "press_button" = true) (k11 : PySem.W.keepIn K (.ref f11) = true)
    (a12 : PySem.W.nsIn K mainGlobals "check_row" = some (some (.ref f12))) (l12 : K.lookup f12 = some ⟨oc12, od12, .func (PySem.W.fnOf "check_row" "check_row" (defArgs sChkR) (defBody sChkR) (defScope sChkR) .none kV12 dc12 pm12 an12 cd12 ct12), sl12⟩) (c12 : PySem.W.codeIn K cd12 "check_row" = true) (k12 : PySem.W.keepIn K (.ref f12) = true)
    (a13 : PySem.W.nsIn K mainGlobals "run" = some (some (.ref f13))) (l13 : K.lookup f13 = some ⟨oc13, od13, .func (PySem.W.fnOf "run" "run" (defArgs sRun) (defBody sRun) (defScope sRun) .none kV13 dc13 pm13 an13 cd13 ct13), sl13⟩) (c13 : PySem.W.codeIn K cd13 "run" = true) (k13 : PySem.W.keepIn K (.ref f13) = true)
    (a14 : PySem.W.nsIn K mainGlobals "releases_any" = some (some (.ref f14))) (l14 : K.lookup f14 = some ⟨oc14, od14, .func (PySem.W.fnOf "releases_any" "releases_any" (defArgs sAny) (defBody sAny) (defScope sAny) .none kV14 dc14 pm14 an14 cd14 ct14), sl14⟩) (c14 : PySem.W.codeIn K cd14 "releases_any" = true) (k14 : PySem.W.keepIn K (.ref f14) = true)
    (a15 : PySem.W.nsIn K mainGlobals "held_buttons" = some (some (.ref f15))) (l15 : K.lookup f15 = some ⟨oc15, od15, .func (PySem.W.fnOf "held_buttons" "held_buttons" (defArgs sHeld) (defBody sHeld) (defScope sHeld) .none kV15 dc15 pm15 an15 cd15 ct15), sl15⟩) (c15 : PySem.W.codeIn K cd15 "held_buttons" = true) (k15 : PySem.W.keepIn K (.ref f15) = true)
    (a16 : PySem.W.nsIn K mainGlobals "gathered_buttons" = some (some (.ref f16))) (l16 : K.lookup f16 = some ⟨oc16, od16, .func (PySem.W.fnOf "gathered_buttons" "gathered_buttons" (defArgs sGath) (defBody sGath) (defScope sGath) .none kV16 dc16 pm16 an16 cd16 ct16), sl16⟩) (c16 : PySem.W.codeIn K cd16 "gathered_buttons" = true) (k16 : PySem.W.keepIn K (.ref f16) = true)
    (a17 : PySem.W.nsIn K mainGlobals "can_reach" = some (some (.ref f17))) (l17 : K.lookup f17 = some ⟨oc17, od17, .func (PySem.W.fnOf "can_reach" "can_reach" (defArgs sCan) (defBody sCan) (defScope sCan) .none kV17 dc17 pm17 an17 cd17 ct17), sl17⟩) (c17 : PySem.W.codeIn K cd17 "can_reach" = true) (k17 : PySem.W.keepIn K (.ref f17) = true)
    (a18 : PySem.W.nsIn K mainGlobals "shortest_way" = some (some (.ref f18))) (l18 : K.lookup f18 = some ⟨oc18, od18, .func (PySem.W.fnOf "shortest_way" "shortest_way" (defArgs sWay) (defBody sWay) (defScope sWay) .none kV18 dc18 pm18 an18 cd18 ct18), sl18⟩) (c18 : PySem.W.codeIn K cd18 "shortest_way" = true) (k18 : PySem.W.keepIn K (.ref f18) = true)
    (a19 : PySem.W.nsIn K mainGlobals "reachable_states" = some (some (.ref f19))) (l19 : K.lookup f19 = some ⟨oc19, od19, .func (PySem.W.fnOf "reachable_states" "reachable_states" (defArgs sReach2) (defBody sReach2) (defScope sReach2) .none kV19 dc19 pm19 an19 cd19 ct19), sl19⟩) (c19 : PySem.W.codeIn K cd19 "reachable_states" = true) (k19 : PySem.W.keepIn K (.ref f19) = true)
    (a20 : PySem.W.nsIn K mainGlobals "states_between" = some (some (.ref f20))) (l20 : K.lookup f20 = some ⟨oc20, od20, .func (PySem.W.fnOf "states_between" "states_between" (defArgs sBetw) (defBody sBetw) (defScope sBetw) .none kV20 dc20 pm20 an20 cd20 ct20), sl20⟩) (c20 : PySem.W.codeIn K cd20 "states_between" = true) (k20 : PySem.W.keepIn K (.ref f20) = true)
    (a21 : PySem.W.nsIn K mainGlobals "is_reset" = some (some (.ref f21))) (l21 : K.lookup f21 = some ⟨oc21, od21, .func (PySem.W.fnOf "is_reset" "is_reset" (defArgs sReset) (defBody sReset) (defScope sReset) .none kV21 dc21 pm21 an21 cd21 ct21), sl21⟩) (c21 : PySem.W.codeIn K cd21 "is_reset" = true) (k21 : PySem.W.keepIn K (.ref f21) = true)
    (a22 : PySem.W.nsIn K mainGlobals "shortest_reset" = some (some (.ref f22))) (l22 : K.lookup f22 = some ⟨oc22, od22, .func (PySem.W.fnOf "shortest_reset" "shortest_reset" (defArgs sSReset) (defBody sSReset) (defScope sSReset) .none kV22 dc22 pm22 an22 (.ref cS) ct22), sl22⟩) (c22 : PySem.W.codeIn K (.ref cS) "shortest_reset" = true) (k22 : PySem.W.keepIn K (.ref f22) = true)
    (a23 : PySem.W.nsIn K mainGlobals "_law_deck" = some (some (.ref f23))) (l23 : K.lookup f23 = some ⟨oc23, od23, .func (PySem.W.fnOf "_law_deck" "_law_deck" (defArgs sDeck) (defBody sDeck) (defScope sDeck) .none kV23 dc23 pm23 an23 cd23 ct23), sl23⟩) (c23 : PySem.W.codeIn K cd23 "_law_deck" = true) (k23 : PySem.W.keepIn K (.ref f23) = true)
    (a24 : PySem.W.nsIn K mainGlobals "_law_draw" = some (some (.ref f24))) (l24 : K.lookup f24 = some ⟨oc24, od24, .func (PySem.W.fnOf "_law_draw" "_law_draw" (defArgs sDraw) (defBody sDraw) (defScope sDraw) .none kV24 dc24 pm24 an24 cd24 ct24), sl24⟩) (c24 : PySem.W.codeIn K cd24 "_law_draw" = true) (k24 : PySem.W.keepIn K (.ref f24) = true)
    (a25 : PySem.W.nsIn K mainGlobals "_law_panel" = some (some (.ref f25))) (l25 : K.lookup f25 = some ⟨oc25, od25, .func (PySem.W.fnOf "_law_panel" "_law_panel" (defArgs sPanel) (defBody sPanel) (defScope sPanel) .none kV25 dc25 pm25 an25 cd25 ct25), sl25⟩) (c25 : PySem.W.codeIn K cd25 "_law_panel" = true) (k25 : PySem.W.keepIn K (.ref f25) = true)
    (a26 : PySem.W.nsIn K mainGlobals "_law_state" = some (some (.ref f26))) (l26 : K.lookup f26 = some ⟨oc26, od26, .func (PySem.W.fnOf "_law_state" "_law_state" (defArgs sState) (defBody sState) (defScope sState) .none kV26 dc26 pm26 an26 cd26 ct26), sl26⟩) (c26 : PySem.W.codeIn K cd26 "_law_state" = true) (k26 : PySem.W.keepIn K (.ref f26) = true)
    (a27 : PySem.W.nsIn K mainGlobals "_law_row" = some (some (.ref f27))) (l27 : K.lookup f27 = some ⟨oc27, od27, .func (PySem.W.fnOf "_law_row" "_law_row" (defArgs sRow) (defBody sRow) (defScope sRow) .none kV27 dc27 pm27 an27 cd27 ct27), sl27⟩) (c27 : PySem.W.codeIn K cd27 "_law_row" = true) (k27 : PySem.W.keepIn K (.ref f27) = true)
    (a28 : PySem.W.nsIn K mainGlobals "_law_joined" = some (some (.ref f28))) (l28 : K.lookup f28 = some ⟨oc28, od28, .func (PySem.W.fnOf "_law_joined" "_law_joined" (defArgs sJoined) (defBody sJoined) (defScope sJoined) .none kV28 dc28 pm28 an28 cd28 ct28), sl28⟩) (c28 : PySem.W.codeIn K cd28 "_law_joined" = true) (k28 : PySem.W.keepIn K (.ref f28) = true)
    (a29 : PySem.W.nsIn K mainGlobals "_law_mixed" = some (some (.ref f29))) (l29 : K.lookup f29 = some ⟨oc29, od29, .func (PySem.W.fnOf "_law_mixed" "_law_mixed" (defArgs sMixed) (defBody sMixed) (defScope sMixed) .none kV29 dc29 pm29 an29 cd29 ct29), sl29⟩) (c29 : PySem.W.codeIn K cd29 "_law_mixed" = true) (k29 : PySem.W.keepIn K (.ref f29) = true)
    (a30 : PySem.W.nsIn K mainGlobals "_law_numbers_right" = some (some (.ref f30))) (l30 : K.lookup f30 = some ⟨oc30, od30, .func (PySem.W.fnOf "_law_numbers_right" "_law_numbers_right" (defArgs sNums) (defBody sNums) (defScope sNums) .none kV30 dc30 pm30 an30 cd30 ct30), sl30⟩) (c30 : PySem.W.codeIn K cd30 "_law_numbers_right" = true) (k30 : PySem.W.keepIn K (.ref f30) = true)
    (a31 : PySem.W.nsIn K mainGlobals "_law_ways_right" = some (some (.ref f31))) (l31 : K.lookup f31 = some ⟨oc31, od31, .func (PySem.W.fnOf "_law_ways_right" "_law_ways_right" (defArgs sWays) (defBody sWays) (defScope sWays) .none kV31 dc31 pm31 an31 cd31 ct31), sl31⟩) (c31 : PySem.W.codeIn K cd31 "_law_ways_right" = true) (k31 : PySem.W.keepIn K (.ref f31) = true)
    (a32 : PySem.W.nsIn K mainGlobals "law" = some (some (.ref f32))) (l32 : K.lookup f32 = some ⟨oc32, od32, .func (PySem.W.fnOf "law" "law" (defArgs sLaw) (defBody sLaw) (defScope sLaw) .none kV32 dc32 pm32 an32 cd32 ct32), sl32⟩) (c32 : PySem.W.codeIn K cd32 "law" = true) (k32 : PySem.W.keepIn K (.ref f32) = true)
    {tk_MAX_BUTTONS tk_MAX_ROW tk_SMALL_BUTTONS : Tok} (y_MAX_BUTTONS : PySem.W.nsIn K mainGlobals "MAX_BUTTONS" = some (some (.int 10 tk_MAX_BUTTONS))) (y_MAX_ROW : PySem.W.nsIn K mainGlobals "MAX_ROW" = some (some (.int 60 tk_MAX_ROW))) (y_SMALL_BUTTONS : PySem.W.nsIn K mainGlobals "SMALL_BUTTONS" = some (some (.int 7 tk_SMALL_BUTTONS)))
    (lCS : K.lookup cS = some ⟨.type "code", odcS, .fields vsS, slcS⟩)
    (g11S : vsS[11]? = some (.ref pS))
    (d11S : vsS.getD 11 .none = .ref pS)
    (d18S : vsS.getD 18 .none = .str flS tfS)
    (d7S : vsS.getD 7 .none = .int fgS tgS)
    (d9S : vsS.getD 9 .none = .bool inS)
    (d10S : vsS.getD 10 .none = .int txS ttS)
    (ncPS : cS ≠ pS)
    (z1 : PySem.W.nsIn K mainGlobals "abs" = some none) (z2 : PySem.W.nsIn K mainGlobals "all" = some none) (z3 : PySem.W.nsIn K mainGlobals "any" = some none) (z4 : PySem.W.nsIn K mainGlobals "bool" = some none) (z5 : PySem.W.nsIn K mainGlobals "enumerate" = some none) (z6 : PySem.W.nsIn K mainGlobals "int" = some none) (z7 : PySem.W.nsIn K mainGlobals "isinstance" = some none) (z8 : PySem.W.nsIn K mainGlobals "len" = some none) (z9 : PySem.W.nsIn K mainGlobals "list" = some none) (z10 : PySem.W.nsIn K mainGlobals "min" = some none) (z11 : PySem.W.nsIn K mainGlobals "range" = some none) (z12 : PySem.W.nsIn K mainGlobals "sorted" = some none) (z13 : PySem.W.nsIn K mainGlobals "sum" = some none) (z14 : PySem.W.nsIn K mainGlobals "tuple" = some none) (z15 : PySem.W.nsIn K mainGlobals "zip" = some none) :
    PySem.W.CodeHd h cS pS ∧ ∃ fd : FuncData, (∀ (s : Shared) (v : Value), BindsTo s fd ⟨[v], []⟩ [("_law_script", v)]) ∧ ∀ base : Heap, K.In base → base.Ns mainGlobals mg → TabB base mg cS pS → FnG l.prog w K mg base 8 fa fd ["_law_script"] (spLaw K pS) := by
  have e := hfa.symm.trans (PySem.W.mg_of X G a32)
  cases e
  have F1 := fun_mk (st := sBes) l1 c1 k1
  have F2 := fun_mk (st := sRows) l2 c2 k2
  have F3 := fun_mk (st := sNo) l3 c3 k3
  have F4 := fun_mk (st := sPressE) l4 c4 k4
  have F5 := fun_mk (st := sJoin) l5 c5 k5
  have F6 := fun_mk (st := sWith) l6 c6 k6
  have F7 := fun_mk (st := sEff) l7 c7 k7
  have F8 := fun_mk (st := sCnt) l8 c8 k8
  have F9 := fun_mk (st := sAllE) l9 c9 k9
  have F10 := fun_mk (st := sBtn) l10 c10 k10
  have F11 := fun_mk (st := sPress) l11 c11 k11
  have F12 := fun_mk (st := sChkR) l12 c12 k12
  have F13 := fun_mk (st := sRun) l13 c13 k13
  have F14 := fun_mk (st := sAny) l14 c14 k14
  have F15 := fun_mk (st := sHeld) l15 c15 k15
  have F16 := fun_mk (st := sGath) l16 c16 k16
  have F17 := fun_mk (st := sCan) l17 c17 k17
  have F18 := fun_mk (st := sWay) l18 c18 k18
  have F19 := fun_mk (st := sReach2) l19 c19 k19
  have F20 := fun_mk (st := sBetw) l20 c20 k20
  have F21 := fun_mk (st := sReset) l21 c21 k21
  have F22 := fun_mk (st := sSReset) l22 c22 k22
  have F23 := fun_mk (st := sDeck) l23 c23 k23
  have F24 := fun_mk (st := sDraw) l24 c24 k24
  have F25 := fun_mk (st := sPanel) l25 c25 k25
  have F26 := fun_mk (st := sState) l26 c26 k26
  have F27 := fun_mk (st := sRow) l27 c27 k27
  have F28 := fun_mk (st := sJoined) l28 c28 k28
  have F29 := fun_mk (st := sMixed) l29 c29 k29
  have F30 := fun_mk (st := sNums) l30 c30 k30
  have F31 := fun_mk (st := sWays) l31 c31 k31
  have F32 := fun_mk (st := sLaw) l32 c32 k32
  have b2 := F2.binds (ps := ["panel", "first", "step"]) fun _ _ _ _ _ _ us hl => match us, hl with | [_, _, _], _ => rfl
  have b3 := F3.binds (ps := ["panel"]) fun _ _ _ _ _ _ us hl => match us, hl with | [_], _ => rfl
  have b4 := F4.binds (ps := ["panel", "button"]) fun _ _ _ _ _ _ us hl => match us, hl with | [_, _], _ => rfl
  have b5 := F5.binds (ps := ["first", "second"]) fun _ _ _ _ _ _ us hl => match us, hl with | [_, _], _ => rfl
  have b6 := F6.binds (ps := ["panel", "effect", "button"]) fun _ _ _ _ _ _ us hl => match us, hl with | [_, _, _], _ => rfl
  have b7 := F7.binds (ps := ["panel", "row"]) fun _ _ _ _ _ _ us hl => match us, hl with | [_, _], _ => rfl
  have b8 := F8.binds (ps := ["panel"]) fun _ _ _ _ _ _ us hl => match us, hl with | [_], _ => rfl
  have b9 := F9.binds (ps := ["panel"]) fun _ _ _ _ _ _ us hl => match us, hl with | [_], _ => rfl
  have b10 := F10.binds (ps := ["value", "many"]) fun _ _ _ _ _ _ us hl => match us, hl with | [_, _], _ => rfl
  have b11 := F11.binds (ps := ["panel", "state", "button"]) fun _ _ _ _ _ _ us hl => match us, hl with | [_, _, _], _ => rfl
  have b12 := F12.binds (ps := ["panel", "value"]) fun _ _ _ _ _ _ us hl => match us, hl with | [_, _], _ => rfl
  have b13 := F13.binds (ps := ["panel", "state", "value"]) fun _ _ _ _ _ _ us hl => match us, hl with | [_, _, _], _ => rfl
  have b14 := F14.binds (ps := ["panel", "button", "others"]) fun _ _ _ _ _ _ us hl => match us, hl with | [_, _, _], _ => rfl
  have b15 := F15.binds (ps := ["panel", "state"]) fun _ _ _ _ _ _ us hl => match us, hl with | [_, _], _ => rfl
  have b16 := F16.binds (ps := ["panel", "goal"]) fun _ _ _ _ _ _ us hl => match us, hl with | [_, _], _ => rfl
  have b17 := F17.binds (ps := ["panel", "start", "goal"]) fun _ _ _ _ _ _ us hl => match us, hl with | [_, _, _], _ => rfl
  have b18 := F18.binds (ps := ["panel", "start", "goal"]) fun _ _ _ _ _ _ us hl => match us, hl with | [_, _, _], _ => rfl
  have b19 := F19.binds (ps := ["panel", "start"]) fun _ _ _ _ _ _ us hl => match us, hl with | [_, _], _ => rfl
  have b20 := F20.binds (ps := ["least", "most"]) fun _ _ _ _ _ _ us hl => match us, hl with | [_, _], _ => rfl
  have b21 := F21.binds (ps := ["panel", "row"]) fun _ _ _ _ _ _ us hl => match us, hl with | [_, _], _ => rfl
  have b22 := F22.binds (ps := ["panel"]) fun _ _ _ _ _ _ us hl => match us, hl with | [_], _ => rfl
  have b23 := F23.binds (ps := ["_law_script"]) fun _ _ _ _ _ _ us hl => match us, hl with | [_], _ => rfl
  have b24 := F24.binds (ps := ["_law_deck_here", "_law_limit"]) fun _ _ _ _ _ _ us hl => match us, hl with | [_, _], _ => rfl
  have b25 := F25.binds (ps := ["_law_deck_here", "_law_most"]) fun _ _ _ _ _ _ us hl => match us, hl with | [_, _], _ => rfl
  have b26 := F26.binds (ps := ["_law_deck_here", "_law_count"]) fun _ _ _ _ _ _ us hl => match us, hl with | [_, _], _ => rfl
  have b27 := F27.binds (ps := ["_law_deck_here", "_law_count", "_law_most"]) fun _ _ _ _ _ _ us hl => match us, hl with | [_, _, _], _ => rfl
  have b28 := F28.binds (ps := ["_law_first", "_law_second", "_law_count"]) fun _ _ _ _ _ _ us hl => match us, hl with | [_, _, _], _ => rfl
  have b29 := F29.binds (ps := ["_law_deck_here", "_law_first", "_law_second", "_law_count"]) fun _ _ _ _ _ _ us hl => match us, hl with | [_, _, _, _], _ => rfl
  have b30 := F30.binds (ps := ["_law_panels", "_law_whole"]) fun _ _ _ _ _ _ us hl => match us, hl with | [_, _], _ => rfl
  have b31 := F31.binds (ps := ["_law_panels", "_law_whole", "_law_starts", "_law_goals"]) fun _ _ _ _ _ _ us hl => match us, hl with | [_, _, _, _], _ => rfl
  exact ⟨⟨_, vsS, flS, tfS, fgS, tgS, inS, txS, ttS, X _ _ lCS, rfl, rfl, g11S, d11S, d18S, d7S, d9S, d10S, ncPS⟩, _, fun s v => .of_eq rfl, fun base _ _ tbS => ok_law F32 F1 (PySem.W.mg_of X G a1) F2 b2 (PySem.W.mg_of X G a2) F3 b3 (PySem.W.mg_of X G a3) F4 b4 (PySem.W.mg_of X G a4) F5 b5 (PySem.W.mg_of X G a5) F6 b6 (PySem.W.mg_of X G a6) F7 b7 (PySem.W.mg_of X G a7) F8 b8 (PySem.W.mg_of X G a8) F9 b9 (PySem.W.mg_of X G a9) F10 b10 (PySem.W.mg_of X G a10) F11 b11 (PySem.W.mg_of X G a11) F12 b12 (PySem.W.mg_of X G a12) F13 b13 (PySem.W.mg_of X G a13) F14 b14 (PySem.W.mg_of X G a14) F15 b15 (PySem.W.mg_of X G a15) F16 b16 (PySem.W.mg_of X G a16) F17 b17 (PySem.W.mg_of X G a17) F18 b18 (PySem.W.mg_of X G a18) F19 b19 (PySem.W.mg_of X G a19) F20 b20 (PySem.W.mg_of X G a20) F21 b21 (PySem.W.mg_of X G a21) F22 b22 (PySem.W.mg_of X G a22) F23 b23 (PySem.W.mg_of X G a23) F24 b24 (PySem.W.mg_of X G a24) F25 b25 (PySem.W.mg_of X G a25) F26 b26 (PySem.W.mg_of X G a26) F27 b27 (PySem.W.mg_of X G a27) F28 b28 (PySem.W.mg_of X G a28) F29 b29 (PySem.W.mg_of X G a29) F30 b30 (PySem.W.mg_of X G a30) F31 b31 (PySem.W.mg_of X G a31) (PySem.W.mg_none_of X G z1) (PySem.W.mg_none_of X G z2) (PySem.W.mg_none_of X G z3) (PySem.W.mg_none_of X G z4) (PySem.W.mg_none_of X G z5) (PySem.W.mg_none_of X G z6) (PySem.W.mg_none_of X G z7) (PySem.W.mg_none_of X G z8) (PySem.W.mg_none_of X G z9) (PySem.W.mg_none_of X G z10) (PySem.W.mg_none_of X G z11) (PySem.W.mg_none_of X G z12) (PySem.W.mg_none_of X G z13) (PySem.W.mg_none_of X G z14) (PySem.W.mg_none_of X G z15)  rfl tbS (PySem.W.mg_of X G y_MAX_BUTTONS) (PySem.W.mg_of X G y_MAX_ROW) (PySem.W.mg_of X G y_SMALL_BUTTONS)⟩
theorem endT {l : PySem.W.OpenLaw} {w : World} {K : PySem.W.Frag} {h : Heap} {mg : Str → Option Value} {fa : Addr} {cS pS : Addr} (KX : K.In h) (TS : h.get? pS = some tab0) (NS : K.lookup pS = none) (A : PySem.W.CodeHd h cS pS ∧ ∃ fd : FuncData, (∀ (s : Shared) (v : Value), BindsTo s fd ⟨[v], []⟩ [("_law_script", v)]) ∧ ∀ base : Heap, K.In base → base.Ns mainGlobals mg → TabB base mg cS pS → FnG l.prog w K mg base 8 fa fd ["_law_script"] (spLaw K pS)) :
    ∃ (K : PySem.W.Frag) (cs : List (Addr × Addr)), K.In h ∧ (∀ p ∈ cs, h.get? p.2 = some tab0) ∧ (∀ p ∈ cs, K.lookup p.2 = none) ∧ (∀ p ∈ cs, PySem.W.CodeHd h p.1 p.2) ∧
      (∀ (H : Hp) (a : Addr) (ns : List Int), ns.length ≤ 63 → (∀ p ∈ cs, H p.2 = some (.tbl #[])) → SqL K H a (ns.map V.int) → spLaw K pS [.ref a] H (fun v _ => v = .bl true) E0) ∧
      ∃ fd : FuncData, (∀ (s : Shared) (u : Value), BindsTo s fd ⟨[u], []⟩ [("_law_script", u)]) ∧ ∀ base : Heap, K.In base → base.Ns mainGlobals mg → (∀ p ∈ cs, TabB base mg p.1 p.2) → FnG l.prog w K mg base 8 fa fd ["_law_script"] (spLaw K pS) := by
  obtain ⟨CS, fd, bd, F⟩ := A
  refine ⟨K, [(cS, pS)], KX, ?_, ?_, ?_, fun H a ns hl hT hS => ?_, fd, bd, fun base k1 k2 hB => F base k1 k2 (hB (cS, pS) (List.mem_cons_self))⟩
  · exact fun p hp => by
      simp only [List.mem_cons, List.not_mem_nil, or_false] at hp
      subst hp
      · exact TS
  · exact fun p hp => by
      simp only [List.mem_cons, List.not_mem_nil, or_false] at hp
      subst hp
      · exact NS
  · exact fun p hp => by
      simp only [List.mem_cons, List.not_mem_nil, or_false] at hp
      subst hp
      · exact CS
  · exact ⟨a, ns, rfl, hS, hl, fun p hp => by
      simp only [List.mem_cons, List.not_mem_nil, or_false] at hp
      subst hp
      exact TabS.nil (hT (cS, pS) List.mem_cons_self), fun _ => rfl⟩
end K09
open PySem PySem.W PyProof.Rows
theorem PySem.Challenge.cw_pressrelease_k09_whole_panels_side_by_si_holds : PySem.Challenge.rw_pressrelease_k09_whole_panels_side_by_si.Holds := by
  w_on; o_law; k_head; (case hw => w_witness2)
  k_fill
  refine Pr.walkGT (l := PySem.Challenge.rw_pressrelease_k09_whole_panels_side_by_si) (n := 63) (k := 8) (x := "_law_script") (sp := fun K => K09.spLaw K 198) rfl (by decide) rfl ⟨rfl, by decide, by decide⟩ ?F
  case F =>
    intro w mg fa h Y G hmg
    have KX := PySem.W.km_in_of Y
    have KT := PySem.W.km_tabs_of Y
    refine' K09.endT KX (KT 198 (by decide)) ?NS (K09.all_mk KX G hmg ?a1 ?l1 ?c1 ?k1 ?a2 ?l2 ?c2 ?k2 ?a3 ?l3 ?c3 ?k3 ?a4 ?l4 ?c4 ?k4 ?a5 ?l5 ?c5 ?k5 ?a6 ?l6 ?c6 ?k6 ?a7 ?l7 ?c7 ?k7 ?a8 ?l8 ?c8 ?k8 ?a9 ?l9 ?c9 ?k9 ?a10 ?l10 ?c10 ?k10 ?a11 ?l11 ?c11 ?k11 ?a12 ?l12 ?c12 ?k12 ?a13 ?l13 ?c13 ?k13 ?a14 ?l14 ?c14 ?k14 ?a15 ?l15 ?c15 ?k15 ?a16 ?l16 ?c16 ?k16 ?a17 ?l17 ?c17 ?k17 ?a18 ?l18 ?c18 ?k18 ?a19 ?l19 ?c19 ?k19 ?a20 ?l20 ?c20 ?k20 ?a21 ?l21 ?c21 ?k21 ?a22 ?l22 ?c22 ?k22 ?a23 ?l23 ?c23 ?k23 ?a24 ?l24 ?c24 ?k24 ?a25 ?l25 ?c25 ?k25 ?a26 ?l26 ?c26 ?k26 ?a27 ?l27 ?c27 ?k27 ?a28 ?l28 ?c28 ?k28 ?a29 ?l29 ?c29 ?k29 ?a30 ?l30 ?c30 ?k30 ?a31 ?l31 ?c31 ?k31 ?a32 ?l32 ?c32 ?k32 ?y_MAX_BUTTONS ?y_MAX_ROW ?y_SMALL_BUTTONS ?lCS ?g11S ?d11S ?d18S ?d7S ?d9S ?d10S ?ncPS ?z1 ?z2 ?z3 ?z4 ?z5 ?z6 ?z7 ?z8 ?z9 ?z10 ?z11 ?z12 ?z13 ?z14 ?z15)
    (case NS => first | rfl | decide +kernel | kernel_rfl)
    (case a1 => k_is); (case l1 => k_is); (case c1 => k_is); (case k1 => k_is); (case a2 => k_is); (case l2 => k_is); (case c2 => k_is); (case k2 => k_is); (case a3 => k_is); (case l3 => k_is); (case c3 => k_is); (case k3 => k_is)
    (case a4 => k_is); (case l4 => k_is); (case c4 => k_is); (case k4 => k_is); (case a5 => k_is); (case l5 => k_is); (case c5 => k_is); (case k5 => k_is); (case a6 => k_is); (case l6 => k_is); (case c6 => k_is); (case k6 => k_is)
    (case a7 => k_is); (case l7 => k_is); (case c7 => k_is); (case k7 => k_is); (case a8 => k_is); (case l8 => k_is); (case c8 => k_is); (case k8 => k_is); (case a9 => k_is); (case l9 => k_is); (case c9 => k_is); (case k9 => k_is)
    (case a10 => k_is); (case l10 => k_is); (case c10 => k_is); (case k10 => k_is); (case a11 => k_is); (case l11 => k_is); (case c11 => k_is); (case k11 => k_is); (case a12 => k_is); (case l12 => k_is); (case c12 => k_is); (case k12 => k_is)
    (case a13 => k_is); (case l13 => k_is); (case c13 => k_is); (case k13 => k_is); (case a14 => k_is); (case l14 => k_is); (case c14 => k_is); (case k14 => k_is); (case a15 => k_is); (case l15 => k_is); (case c15 => k_is); (case k15 => k_is)
    (case a16 => k_is); (case l16 => k_is); (case c16 => k_is); (case k16 => k_is); (case a17 => k_is); (case l17 => k_is); (case c17 => k_is); (case k17 => k_is); (case a18 => k_is); (case l18 => k_is); (case c18 => k_is); (case k18 => k_is)
    (case a19 => k_is); (case l19 => k_is); (case c19 => k_is); (case k19 => k_is); (case a20 => k_is); (case l20 => k_is); (case c20 => k_is); (case k20 => k_is); (case a21 => k_is); (case l21 => k_is); (case c21 => k_is); (case k21 => k_is)
    (case a22 => k_is); (case l22 => k_is); (case c22 => k_is); (case k22 => k_is); (case a23 => k_is); (case l23 => k_is); (case c23 => k_is); (case k23 => k_is); (case a24 => k_is); (case l24 => k_is); (case c24 => k_is); (case k24 => k_is)
    (case a25 => k_is); (case l25 => k_is); (case c25 => k_is); (case k25 => k_is); (case a26 => k_is); (case l26 => k_is); (case c26 => k_is); (case k26 => k_is); (case a27 => k_is); (case l27 => k_is); (case c27 => k_is); (case k27 => k_is)
    (case a28 => k_is); (case l28 => k_is); (case c28 => k_is); (case k28 => k_is); (case a29 => k_is); (case l29 => k_is); (case c29 => k_is); (case k29 => k_is); (case a30 => k_is); (case l30 => k_is); (case c30 => k_is); (case k30 => k_is)
    (case a31 => k_is); (case l31 => k_is); (case c31 => k_is); (case k31 => k_is); (case a32 => k_is); (case l32 => k_is); (case c32 => k_is); (case k32 => k_is); (case y_MAX_BUTTONS => k_is); (case y_MAX_ROW => k_is); (case y_SMALL_BUTTONS => k_is); (case lCS => first | k_is | k_exc | rfl | decide +kernel | kernel_rfl)
    (case g11S => first | k_is | k_exc | rfl | decide +kernel | kernel_rfl); (case d11S => first | k_is | k_exc | rfl | decide +kernel | kernel_rfl); (case d18S => first | k_is | k_exc | rfl | decide +kernel | kernel_rfl); (case d7S => first | k_is | k_exc | rfl | decide +kernel | kernel_rfl); (case d9S => first | k_is | k_exc | rfl | decide +kernel | kernel_rfl); (case d10S => first | k_is | k_exc | rfl | decide +kernel | kernel_rfl); (case ncPS => first | k_is | k_exc | rfl | decide +kernel | kernel_rfl); (case z1 => k_is); (case z2 => k_is); (case z3 => k_is); (case z4 => k_is); (case z5 => k_is)
    (case z6 => k_is); (case z7 => k_is); (case z8 => k_is); (case z9 => k_is); (case z10 => k_is); (case z11 => k_is); (case z12 => k_is); (case z13 => k_is); (case z14 => k_is); (case z15 => k_is)
