import PyProof.Rows.All
import Wide.All
import OpenK.AllK
import Wide.FinOn
import HandS.ForMost
import HandS.TupMul
import HandS.TupAny
import HandS.SetFor
import HandS.Walk
import HandS.EndBits
import KE.GoesEnum
import PyProof.ReprRoads
import HandS.Zip
import HandS.NoneIn
import HandS.Strs
import PyProof.ListNew
import PyProof.Rows.CountFlat
import HandS.More
import HandS.IsInst
import HandS.Conv
import KE.DataMinMax
import HandS.Star
import HandS.SortRule
import HandS.NamedTupSort
import HandS.TupLe
import KE.KSortTup
import KE.SortData
import HandS.CallLocal
import KE.KDictDisplayH
import HandS.Style
import HandS.Dict
import HandS.SetBool
import HandS.TupSets
import HandS.ListItems
import KE.KExcIs
import HandS.Exc
import HandS.ExcIs
import HandS.ExcInit
import HandS.ExcField
import HandS.ExcOwn
import HandS.WordsExc
import HandS.RaiseMore
import HandS.DictComp
import KE.DataMinKey
import KE.DataCmp
import KE.LtData
import HandS.Lambda
import HandS.SortKw
import HandS.Deep
import HandS.Head0
import HandS.Head1
import HandS.Head2
import HandS.HeadHook1
import HandS.EndTab
import PySem.Challenge.RW_pressrelease_k39_whole_fewest_buttons_of
set_option Elab.async false
set_option linter.all false
set_option maxRecDepth 100000
set_option maxHeartbeats 4000000
set_option genInjectivity false
set_option genSizeOfSpec false
namespace Pr
open PySem PySem.Spec PyProof.Rows L2
structure FnG (P : Program) (w : World) (K : PySem.W.Frag) (mg : Str → Option Value) (base : Heap) (k : Nat) (f : Addr) (fd : FuncData) (ps : List Str) (sp : Sp) : Prop where
  len : ∀ vs H Q E, sp vs H Q E → vs.length = ps.length
  go : ∀ (A : Around) (outer : List Env) (s : Shared) (H : Hp) (args : Args) (us : List Value) (vs : List V) (Q : VK) (E : XK), A.guards = some [] → Room k A →
    Env0 P w K mg base A outer s H → BindsTo s fd args (ps.zip us) → Vals vs us → sp vs H Q E →
    codeAny (model P w) A (.call (.ref f) args) (CR CX0 outer P w H s Q E) s
section
variable {P : Program} {w : World} {K : PySem.W.Frag} {mg : Str → Option Value} {base : Heap}
theorem FnG.of {k : Nat} {f : Addr} {fd : FuncData} {ps : List Str} {sp : Sp} (F : FnOk P w K mg base CX0 k f fd ps sp) : FnG P w K mg base k f fd ps sp :=
  ⟨F.len, fun A outer s H args us vs Q E _ hr => F.run A outer s H args us vs Q E hr⟩
/-- a def by its body, where no repr is under way -/
theorem okG {x qual : Str} {st : Stmt} {f : Addr} {fd : FuncData} {N ps : List Str} {k : Nat} {sp : Sp} (F : Fun K x qual st f fd) (S : FnScope N ps (defScope st))
    (len : ∀ vs H Q E, sp vs H Q E → vs.length = ps.length)
    (body : ∀ (cdv : Value) (A : Around) (outer : List Env) (s : Shared) (H : Hp) (vs : List V) (Q : VK) (E : XK), A.guards = some [] →
      Room k (A.deeper (envOfC qual (defScope st) s.heap.objs.size f cdv)) → sp vs H Q E →
      ∃ t, PSs (cxOf CX0 P w K mg base N qual (defScope st) f cdv A outer s H E).nox (defBody st) t ∧ t { nx := fun _ H' => Q .non H', rt := Q } (start N vs) H) :
    FnG P w K mg base (k + 1) f fd ps sp := by
  obtain ⟨oc, od, kV, doc, pm, an, cdv, ct, osl, rfl, lk, hcd⟩ := F.ex
  refine ⟨len, fun A outer s H args us vs Q E hg hr e0 hb r hsp => ?_⟩
  have hin : K.In s.heap := e0.mod.kin.keeps fun b o e => (e0.bs b o e).1
  have hlm : s.heap.NoLimit := e0.mod.nolimit.keeps fun b o e => (e0.bs b o e).1
  refine codeAny_call_function hr.depth (hin _ _ lk) rfl S.co S.gen rfl (PySem.W.codeRec_of hin hcd) (hb _ _ _ _ ?_)
  refine wpAny_newFunctionEnv_cells S.kind (fun ⟨n, v⟩ hy => ?_) fun env he s1 x => ?_
  · rcases S.par n (List.of_mem_zip hy).1 with q | q
    · exact .inl q
    · exact .inr ⟨q, PySem.W.cellsFrom_some _ _ _ (.inl q)⟩
  · subst he
    refine ⟨hlm.keeps x.toInCall.keep, codeAny_func ?_⟩
    obtain ⟨t, ht, hq⟩ := body cdv A outer s H vs Q E hg (hr.deeper _) hsp
    have I := inv_start (CX := CX0) (E := E) S hr.hd e0 (len _ _ _ _ hsp) r x
    refine wpAny_mono (ht.nox.run [] s1 (start N vs) H _ I hq) (fun fl s' hs => ?_) fun e s' hs => hs
    cases fl with
    | ret u => obtain ⟨v, σ', H', J, rv, q⟩ := hs; exact ⟨v, H', J.os, J.bare, J.base, J.hok, rv, q⟩
    | next => obtain ⟨σ', H', J, q⟩ := hs; exact ⟨V.non, H', J.os, J.bare, J.base, J.hok, rfl, q⟩
    | brk => obtain ⟨_, _, _, q⟩ := hs; exact q.elim
    | cont => obtain ⟨_, _, _, q⟩ := hs; exact q.elim
end
end Pr
namespace Pr
open PySem PySem.Spec PyProof.Rows L2
/-- a tuple of which it is known that it has no attributes of its own -/
def FT (H : Hp) (a : Addr) (xs : List V) : Prop := ∃ o : Obj, H a = some (.frz o (.tup xs)) ∧ o.dict = none
theorem FT.sq {K : PySem.W.Frag} {H : Hp} {a : Addr} {xs : List V} (h : FT H a xs) : SqT K H a xs := let ⟨o, e, _⟩ := h; .inl (.inr ⟨o, e⟩)
theorem FT.same {H H' : Hp} {a : Addr} {xs : List V} (e : Same H H') (h : FT H a xs) : FT H' a xs := let ⟨o, q, z⟩ := h; ⟨o, e _ _ q, z⟩
theorem same_sqT {K : PySem.W.Frag} {H H' : Hp} {a : Addr} {xs : List V} (e : Same H H') (h : SqT K H a xs) : SqT K H' a xs := by
  rcases h with (h | ⟨o, h⟩) | h
  · exact .inl (.inl (e _ _ h))
  · exact .inl (.inr ⟨o, e _ _ h⟩)
  · exact .inr h
section
variable {X : Cx}
def rTupF (K : PySem.W.Frag) : List V → Hp → VK → Prop := fun xs H Q => ∃ p ys, xs = [.ref p] ∧ SqL K H p ys ∧ ∀ l o, H l = none → o.dict = none → Q (.ref l) (upd H l (.frz o (.tup ys)))
theorem call_tupF : CallR X (.type "tuple") (rTupF X.K) := by
  intro pins s σ H xs us Q I r h
  obtain ⟨p, ys, rfl, hq, q⟩ := h
  obtain ⟨u, rfl, rx⟩ := vals1 r
  cases rx
  obtain ⟨its, r', pl, hz⟩ := I.list hq
  have hlen := r'.length
  refine call_tuple_list pl.isList (fun h' kp => ?_) (by simp only [List.size_toArray] <;> omega)
  have I1 : Inv X pins σ H { s with heap := h' } := I.kept (t' := s.toks) kp
  have I2 := I1.laid (t' := s.toks) (h' := h'.push { cls := .type "tuple", data := .seq its.toArray }) (a := h'.objs.size)
    (o := .frz { cls := .type "tuple", data := .seq its.toArray } (.tup ys)) (fun b o e => Heap.get?_push_of_some _ e) (Nat.le_refl _) ⟨Heap.get?_push_size _ rfl, hz, its, r', IsTup.new _ _⟩
  exact ⟨.ref h'.objs.size, _, I2, rfl, q _ _ (I1.hok.fresh (Nat.le_refl _)) rfl⟩
end
theorem tup_mul0 (l : Addr) (y : Value) (n : Nat) (dd : Option Addr) (sl : Array (Option Value)) (u : Tok) :
    Meets (Builtin.«tuple.__mul__» ⟨[.ref l, .int 0 u], []⟩) (fun _ R s => s.heap.get? l = some { cls := .type "tuple", dict := dd, data := .seq #[y] n, slots := sl } ∧
      R (.ok (.ret (Value.ref s.heap.objs.size))) { s with heap := s.heap.push { cls := Value.type "tuple", data := Data.seq #[] }, toks := s.toks }) :=
  .of_wp fun prog w A R s h => by
    obtain ⟨hp, g, d, tk, os⟩ := s
    obtain ⟨hl, h⟩ := h
    have f1 := AutoSeq1.idx_int
    wp_walk using AutoSeq1.wpAny_loadPart' hl
    exact ⟨_, rfl, h⟩
theorem tup_mul1 (l : Addr) (y : Value) (n : Nat) (dd : Option Addr) (sl : Array (Option Value)) (u : Tok) :
    Meets (Builtin.«tuple.__mul__» ⟨[.ref l, .int 1 u], []⟩) (fun _ R s => s.heap.get? l = some { cls := .type "tuple", dict := dd, data := .seq #[y] n, slots := sl } ∧ R (.ok (.ret (.ref l))) s) :=
  .of_wp fun prog w A R s h => by
    obtain ⟨hp, g, d, tk, os⟩ := s
    obtain ⟨hl, h⟩ := h
    have f1 := AutoSeq1.idx_int
    wp_walk using AutoSeq1.wpAny_loadPart' hl
    exact ⟨_, rfl, h⟩
section
variable {X : Cx}
def rRep1 (K : PySem.W.Frag) : R2 := fun x y H Q => ∃ l v, x = .ref l ∧ SqT K H l [v] ∧ ((y = .int 1 ∧ Q (.ref l) H) ∨ (y = .int 0 ∧ ∀ p, H p = none → Q (.ref p) (upd H p (.tup []))))
theorem op_rep1 : OpR X (binaryOp .Mult) (rRep1 X.K) := by
  intro pins s σ H x y v u Q I rx ry h
  obtain ⟨l, z, rfl, hT, h⟩ := h
  cases rx
  obtain ⟨its, r, ⟨⟨cls, dd, data, sl⟩, ho, hc, n, hd⟩, hs⟩ := I.tuple hT
  simp only at hc hd
  subst hc hd
  obtain ⟨a, rfl, ra⟩ := vals1 r
  rcases h with ⟨rfl, q⟩ | ⟨rfl, q⟩
  · obtain ⟨t, rfl⟩ := ry
    refine wpAny_binaryOp_repeat_ref (T := "tuple") (U := "int") (by decide) ⟨_, ho, rfl⟩ (fun s' => typeIs_int s' 1 t) noFill_tuple_mul F.fills_int_mul F.slot_int_rmul repeat_tuple F.slot_int_index.lookup
      (call_meets F.slot_int_rmul (typeIs_int s 1 t) F.entry_int_rmul (F.args_int_rmul_2 _ _) (int_rmul_tuple 1 t l #[a] n dd sl)
        ⟨ho, rfl, ⟨_, ho, rfl⟩, call_meets F.slot_tuple_mul ⟨_, ho, rfl⟩ F.entry_tuple_mul (F.args_tuple_mul_2 _ _) (tup_mul1 l a n dd sl t) ⟨ho, ?_⟩⟩)
    exact ⟨.ref l, H, I, rfl, q⟩
  · obtain ⟨t, rfl⟩ := ry
    refine wpAny_binaryOp_repeat_ref (T := "tuple") (U := "int") (by decide) ⟨_, ho, rfl⟩ (fun s' => typeIs_int s' 0 t) noFill_tuple_mul F.fills_int_mul F.slot_int_rmul repeat_tuple F.slot_int_index.lookup
      (call_meets F.slot_int_rmul (typeIs_int s 0 t) F.entry_int_rmul (F.args_int_rmul_2 _ _) (int_rmul_tuple 0 t l #[a] n dd sl)
        ⟨ho, rfl, ⟨_, ho, rfl⟩, call_meets F.slot_tuple_mul ⟨_, ho, rfl⟩ F.entry_tuple_mul (F.args_tuple_mul_2 _ _) (tup_mul0 l a n dd sl t) ⟨ho, ?_⟩⟩)
    refine ⟨.ref s.heap.objs.size, _, I.laid (t' := s.toks) (o := .tup []) (fun b ob q => Heap.get?_push_of_some _ q) (Nat.le_refl _) ?_, rfl, q _ (I.hok.fresh (Nat.le_refl _))⟩
    exact ⟨Nat.zero_le _, [], .nil, IsTup.new _ _⟩
end
theorem enum_newT (l : Addr) (items : Array Value) (n : Nat) (dct : Option Addr) (sl : Array (Option Value)) :
    Meets (Builtin.«enumerate.__new__» ⟨[.type "enumerate", .ref l], []⟩) (fun _ R s => s.heap.get? l = some { cls := .type "tuple", dict := dct, data := .seq items n, slots := sl } ∧
      R (.ok (.ret (.ref (s.heap.push { cls := .type "tuple_iterator", data := .fields #[.ref l, .int 0 0] }).objs.size)))
        { s with heap := (s.heap.push { cls := .type "tuple_iterator", data := .fields #[.ref l, .int 0 0] }).push { cls := .type "enumerate", data := .fields #[.none, .bool false, .ref s.heap.objs.size, rawInt 0, .none, .none] } }) :=
  .of_wp fun prog w A R s h => by
    obtain ⟨hp, g, d, tk, os⟩ := s; obtain ⟨hl, h⟩ := h
    have hsub := sub_enumerate
    have hL : Heap.IsTuple (Shared.heap ⟨hp, g, d, tk, os⟩) l items := ⟨_, hl, rfl, n, rfl⟩
    wp_walk using AutoSeq1.wpAny_loadPart' hl
    refine wpAny_stack_any fun st => wpAny_pure ?_
    split
    · rename_i c _ _ _ _ _
      cases (c == Value.type "enumerate") <;> (wp_walk using AutoSeq1.wpAny_loadPart' hl, wpAny_pyIter_tuple hL; exact ⟨_, rfl, h⟩)
    · wp_walk using AutoSeq1.wpAny_loadPart' hl, wpAny_pyIter_tuple hL
      exact ⟨_, rfl, h⟩
theorem call_enumT {prog : Program} {w : World} {A : Around} {E : Value → Shared → Prop} {s : Shared} {l : Addr} {items : Array Value} {Q : Value → Shared → Prop} (hL : s.heap.IsTuple l items)
    (h : ∀ h', IsEnum h' (s.heap.objs.size + 1) s.heap.objs.size 0 .none → h'.IsTupleIter s.heap.objs.size l 0 → h'.objs.size = s.heap.objs.size + 2 →
      (∀ b o, s.heap.get? b = some o → h'.get? b = some o) → Q (.ref (s.heap.objs.size + 1)) { s with heap := h' }) :
    wpAny (model prog w) A (call (.type "enumerate") [.ref l]) Q E s := by
  obtain ⟨⟨c, dct, dt, sl⟩, hl, hc, n, hd⟩ := hL
  simp only at hc hd
  subst hc hd
  refine callType_new F.called_enumerate (by decide) (F.typeCall_enumerate_1 _) (F.newCall_enumerate_1 _) (fun obj => F.args_object_init_2 obj _) F.entry_enumerate_new (enum_newT l items n dct sl) ⟨hl, ?_⟩
  generalize ho : ({ cls := .type "tuple_iterator", data := .fields #[.ref l, .int 0 0] } : Obj) = o1
  have f1 : o1.isFreed = false := by rw [← ho]; rfl
  generalize hp : ({ cls := .type "enumerate", data := .fields #[.none, .bool false, .ref s.heap.objs.size, rawInt 0, .none, .none] } : Obj) = o2
  have f2 : o2.isFreed = false := by rw [← hp]; rfl
  have hz : (s.heap.push o1).objs.size = s.heap.objs.size + 1 := Heap.size_push ..
  have hg := Heap.get?_push_size (s.heap.push o1) (o := o2) f2
  show _ ∧ _
  rw [hz] at hg ⊢
  have he : IsEnum ((s.heap.push o1).push o2) (s.heap.objs.size + 1) s.heap.objs.size 0 .none := by rw [hp.symm] at hg ⊢; exact hg
  refine ⟨⟨_, he, rfl⟩, h _ he ⟨_, Heap.get?_push_of_some _ (Heap.get?_push_size _ f1), by rw [← ho], by rw [← ho]; rfl⟩ (by rw [Heap.size_push, hz]) fun b o x => Heap.get?_push_of_some _ (Heap.get?_push_of_some _ x)⟩
/-- the tuple at a, each item in a new pair -/
def Itet (K : PySem.W.Frag) (a : Addr) : It :=
  ⟨fun i H => ∃ (xs : List V) (x : V), SqT K H a xs ∧ xs[i]? = some x, fun i H v H' => ∃ T x, v = .ref T ∧ H T = none ∧ H' = upd H T (.tup [.int (i : Nat), x]) ∧ ∀ xs, SqT K H a xs → xs[i]? = some x,
    fun i H => ∃ xs : List V, SqT K H a xs ∧ xs.length ≤ i⟩
theorem turn_enumT {P : Program} {w : World} {K : PySem.W.Frag} {elts : List Expr} {kk : Nat} {tpos : Pos} (a e it : Addr) :
    Turn P w K (.Tuple elts kk tpos) (Itet K a) [e, it] e (fun i h => (∃ old, IsEnum h e it ((i : Nat) : Int) old) ∧ h.IsTupleIter it a i ∧ e ≠ it) where
  mem := by simp
  obj := fun i h st b hb => by
    obtain ⟨⟨old, he⟩, ⟨o, ho, hc, hd⟩, _⟩ := st
    rcases (show b = e ∨ b = it by simpa using hb) with rfl | rfl
    · exact ⟨_, he, fun v q => nomatch q⟩
    · exact ⟨o, ho, fun v q => by rw [hd] at q; cases q⟩
  keep := fun i h h' st k => let ⟨⟨old, he⟩, hi, hne⟩ := st; ⟨⟨old, k e (by simp) _ he⟩, hi.at fun o q => k it (by simp) o q, hne⟩
  item := by
    intro X hP hw hK hc i pins s σ H E I hf st hg
    subst hP hw hK
    obtain ⟨⟨old, he⟩, hit, hne⟩ := st
    obtain ⟨xs, x, hq, hx⟩ := hg
    obtain ⟨its, rv, pt, hz⟩ := I.tuple hq
    have hT : s.heap.IsTuple a its.toArray := pt
    obtain ⟨u, hu, ru⟩ := rv.get hx
    have hel : e < s.heap.objs.size := Heap.lt_size he
    have hil : it < s.heap.objs.size := by obtain ⟨_, q, _⟩ := hit; exact Heap.lt_size q
    have nai : a ≠ it := fun z => by
      subst z
      obtain ⟨o1, q1, c1, _⟩ := hit
      obtain ⟨o2, q2, c2, _⟩ := hT
      rw [q1] at q2; cases q2
      rw [c1] at c2; exact absurd c2 (by decide)
    have nea : e ≠ a := fun z => by
      subst z
      obtain ⟨o2, q2, c2, _⟩ := hT
      have he' : s.heap.get? e = _ := he
      rw [he'] at q2; cases q2
      exact absurd (show Value.type "enumerate" = Value.type "tuple" from c2) (by decide)
    have hi : i < its.toArray.size := by
      have := (List.getElem?_eq_some_iff.mp hu).1
      simpa using this
    refine wpAny_pyNext_enum_itemD (Draws.tuple (A := X.A.in1) (I.ok.hd hc) it a nai its.toArray) he ⟨hit, hT⟩ hi hne (by simp [hne, nea]) fun y h' tk hy ho hit' hT' hsz hk => ?_
    obtain rfl : y = u := by
      have hy' : its.toArray[i]? = some y := hy
      rw [List.getElem?_toArray, hu] at hy'
      exact (Option.some.inj hy').symm
    refine ⟨_, rfl, wpAny_letOwnedTupleGo_enum (s := { s with heap := h', toks := tk + 1 }) ho fun h'' he' sb => ?_⟩
    have hT2 : h''.get? s.heap.objs.size = some { cls := .type "tuple", data := .seq #[.int i tk, y] } := (sb.2 _ (Nat.ne_of_gt hel)).trans hT'
    have new : ObjOk X.prog X.w (upd H s.heap.objs.size (.tup [.int (i : Nat), x])) h'' s.heap.objs.size (.tup [.int (i : Nat), x]) :=
      ⟨by show 2 ≤ sizeLine; decide, [.int i tk, y], .cons ⟨_, rfl⟩ (.cons ru .nil), ⟨_, hT2, rfl, _, rfl⟩⟩
    have I1 := I.turnedNew (t' := tk + 1) (ch := [e, it]) (fun b ob hb q => (sb.2 b (fun z => hb (by simp [z]))).trans (hk b ob (fun z => hb (by simp [z])) (fun z => hb (by simp [z])) q)) hf (Nat.le_refl _) new
    refine ⟨.ref s.heap.objs.size, _, I1, rfl, ⟨_, x, rfl, I.hok.fresh (Nat.le_refl _), rfl, fun ys hys => by rw [I.tuple_inj hys hq]; exact hx⟩, ⟨⟨y, ?_⟩, hit'.1.at fun o q => (sb.2 it (Ne.symm hne)).trans q, hne⟩, fun b hb => ?_⟩
    · rw [show ((i + 1 : Nat) : Int) = (i : Int) + 1 by omega]; exact he'
    · have hb' : b < s.heap.objs.size := by
        rcases (show b = e ∨ b = it by simpa using hb) with rfl | rfl
        · exact hel
        · exact hil
      rw [upd_ne (Nat.ne_of_lt hb')]
      exact (hf b hb).1
  done := by
    intro X hP hw hK hc i pins s σ H E I hf st hg
    subst hP hw hK
    obtain ⟨⟨old, he⟩, hit, hne⟩ := st
    obtain ⟨xs, hq, hx⟩ := hg
    obtain ⟨its, rv, pt, hz⟩ := I.tuple hq
    have hT : s.heap.IsTuple a its.toArray := pt
    obtain ⟨f0, f1, f2, f3, f4, f5⟩ := hf it (by simp)
    have hl := rv.length
    have hT : s.TypeIs (.ref e) "enumerate" := ⟨_, he, rfl⟩
    unfold pyNext
    refine wpAny_bind (wpAny_attempt (wpAny_callSpecial?_slot (name := Str.ofString "__next__") hT F.slot_enumerate_next (wpAny_call_entry F.slot_enumerate_next hT F.entry_enumerate_next ?_ (F.args_enumerate_next_1 _))))
    show wpAny _ _ (field (.ref e) 2 >>= _) _ _ _
    refine wpAny_bind (wpAny_field he rfl (x := .ref it) rfl ?_)
    refine wpAny_bind (wpAny_nextOf_tuple_end (I.ok.hd hc) hit pt (by simp; omega) fun h' x eb hx' => ?_)
    obtain ⟨o, ho, hcx⟩ := hx'
    refine wpAny_bind (wpAny_isInstance (T := "StopIteration") (b := true) ⟨o, ho, hcx⟩ isSubtype_stop ?_)
    exact wpAny_pure ⟨rfl, I.turned (t' := s.toks) (fun b o hb q => eb b o hb q) f0 f1 f3 f4 f5⟩
  self := fun A i s Q E st h => let ⟨⟨_, he⟩, _⟩ := st; wpAny_pyIter_enum he h
def iEnumT (K : PySem.W.Frag) (ta : TA) : TI := fun σ H R => ta σ H fun vs H1 => ∃ a xs, vs = [.ref a] ∧ SqT K H1 a xs ∧ R (Itet K a) H1
theorem pi_enumT {X : Cx} {e : Expr} {ta : TA} {p pos tpos : Pos} {elts : List Expr} {kk : Nat} (hg : Gl X "enumerate") (hm : X.mg "enumerate" = none) (ha : PA X [e] ta)
    (hs : starEach [e] X.env = [(false, eval e X.env)] := by rfl) : PI X (.Tuple elts kk tpos) (.Call (.Name "enumerate" p) [e] [] pos) (iEnumT X.K ta) := by
  refine ⟨fun pins s σ H R I h => Call_ (ld_blt I hg hm boot_enumerate (PyProof.Rows.callWith_type1 (thn (ha.run pos pins s σ H _ I h) fun us s1 ⟨vs, H1, I1, r1, a, xs, ex, hq, q⟩ => ?_) hs rfl))⟩
  subst ex
  obtain ⟨u, rfl, rx⟩ := vals1 r1
  cases rx
  obtain ⟨its, rv, pt, hz⟩ := I1.tuple hq
  refine call_enumT pt fun h' he hit hsz hk => wpAny_pyIter_enum he ?_
  refine ⟨s1.heap.objs.size + 1, [s1.heap.objs.size + 1, s1.heap.objs.size], _, _, H1, rfl, I1.kept (t' := s1.toks) hk, turn_enumT a (s1.heap.objs.size + 1) s1.heap.objs.size, ⟨⟨.none, he⟩, hit, Nat.succ_ne_self _⟩, fun b hb => ?_, q⟩
  have hle : s1.heap.objs.size ≤ b := by
    rcases (show b = s1.heap.objs.size + 1 ∨ b = s1.heap.objs.size by simpa using hb) with rfl | rfl
    · exact Nat.le_add_right _ _
    · exact Nat.le_refl _
  exact I1.fpOk hle (I1.hok.fresh hle)
theorem walk_enumT {K : PySem.W.Frag} {a : Addr} {xs : List V} : Walk (Itet K a) xs.length (fun H => SqT K H a xs) (YPair (fun i => some (.int (i : Nat))) (fun i => xs[i]?)) := by
  refine ⟨fun i _ hi q => ⟨xs, xs[i], q, by simp [hi]⟩, fun _ q => ⟨xs, q, Nat.le_refl _⟩, fun i H v H' _ q y => ?_⟩
  obtain ⟨T, x, h1, h2, h3, h4⟩ := y
  exact ⟨T, .int (i : Nat), x, h1, h2, h3, rfl, h4 xs q⟩
end Pr
namespace Pr
open PySem PySem.Spec PyProof.Rows L2
structure Shw (dep n : Nat) (d : PyData) : Prop where
  sh : d.showable = true
  nd : d.hasDict = false
  dp : d.depth ≤ dep
  ln : d.shown.length ≤ n
theorem Shw.mono {dep dep' n n' : Nat} {d : PyData} (h : Shw dep n d) (h1 : dep ≤ dep') (h2 : n ≤ n') : Shw dep' n' d := ⟨h.sh, h.nd, Nat.le_trans h.dp h1, Nat.le_trans h.ln h2⟩
theorem Shw.int {i : Int} {k : Nat} (h0 : 0 ≤ i) (hk : 0 < k) (hk2 : k ≤ 100) (h : i < 10 ^ k) : Shw 0 k (.int i) := by
  refine ⟨?_, by simp only [PyData.hasDict], by simp [PyData.depth], ?_⟩
  · simp only [PyData.showable, decide_eq_true_eq]
    by_cases hz : i.natAbs = 0
    · rw [hz]; decide
    · refine (Nat.log2_lt hz).mpr ?_
      have h1 : (i.natAbs : Int) < ((10 ^ k : Nat) : Int) := by
        rw [Int.natCast_pow]
        have : ((i.natAbs : Nat) : Int) = i := Int.natAbs_of_nonneg h0
        rw [this]; exact h
      have h2 : i.natAbs < 10 ^ k := by exact_mod_cast h1
      have h3 : (10 : Nat) ^ k ≤ 10 ^ 100 := Nat.pow_le_pow_right (by decide) hk2
      have h4 : (10 : Nat) ^ 100 < 2 ^ 1920 := by decide +kernel
      omega
  · simp only [PyData.shown]
    exact toString_length_le h0 hk h
theorem shownAll_map : ∀ ds : List PyData, PyData.shownAll ds = ds.map PyData.shown
  | [] => rfl
  | d :: r => by simp only [PyData.shownAll, List.map_cons, shownAll_map r]
theorem piled_le {n : Nat} : ∀ {ds : List PyData}, (∀ d ∈ ds, d.shown.length ≤ n) → piled (ds.map PyData.shown) ≤ ds.length * (n + 2)
  | [], _ => by simp [piled_nil]
  | d :: r, h => by
    have h1 := piled_le (ds := r) fun x hx => h x (List.mem_cons_of_mem _ hx)
    have h2 := h d List.mem_cons_self
    rw [List.map_cons, piled_cons, List.length_cons, Nat.succ_mul]
    omega
theorem showAll_of {dep n : Nat} : ∀ {ds : List PyData}, (∀ d ∈ ds, Shw dep n d) → PyData.showableAll ds = true ∧ PyData.hasDictAll ds = false ∧ PyData.depthAll ds ≤ dep
  | [], _ => ⟨by simp only [PyData.showableAll], by simp only [PyData.hasDictAll], by simp [PyData.depthAll]⟩
  | d :: r, h => by
    obtain ⟨h1, h2, h3⟩ := showAll_of (ds := r) fun x hx => h x (List.mem_cons_of_mem _ hx)
    have g := h d List.mem_cons_self
    refine ⟨by simp only [PyData.showableAll, g.sh, h1, Bool.and_self], by simp only [PyData.hasDictAll, g.nd, h2, Bool.or_self], ?_⟩
    simp only [PyData.depthAll]
    exact Nat.max_le.mpr ⟨g.dp, h3⟩
theorem tupleText_len (ts : List Str) : (tupleText ts).length ≤ piled ts + 3 := by
  unfold tupleText
  rw [strLen_append, strLen_append]
  have e1 : (("(" : Str)).length = 1 := by decide +kernel
  have e2 : ((if ts.length == 1 then ",)" else ")" : String) : Str).length ≤ 2 := by
    cases ts.length == 1 <;> decide +kernel
  by_cases h : ts = []
  · subst h
    have : (Str.join ", " ([] : List Str)).length = 0 := by decide +kernel
    omega
  · have := join_length_add ts h
    omega
theorem textFrom_le : ∀ (ts : List Str) (k : Nat) (acc : Str), (textFrom k acc ts).length ≤ acc.length + piled ts
  | [], k, acc => by simp [textFrom, piled_nil]
  | t :: r, k, acc => by
    have h := textFrom_le r (k + 1) (acc ++ (if k > 0 then ", " else "" : String) ++ t)
    rw [piled_cons]
    show (textFrom (k + 1) _ r).length ≤ _
    have e : ((if k > 0 then ", " else "" : String) : Str).length ≤ 2 := by split <;> decide +kernel
    rw [strLen_append, strLen_append] at h
    omega
theorem listText_len (ts : List Str) : (listText ts).length ≤ piled ts + 2 := by
  unfold listText
  rw [strLen_append]
  have h := textFrom_le ts 0 "["
  have e1 : (("[" : Str)).length = 1 := by decide +kernel
  have e2 : (("]" : Str)).length = 1 := by decide +kernel
  omega
theorem Shw.tuple {dep n m : Nat} {ds : List PyData} (h : ∀ d ∈ ds, Shw dep n d) (hm : ds.length ≤ m) : Shw (dep + 1) (m * (n + 2) + 3) (.tuple ds) := by
  obtain ⟨h1, h2, h3⟩ := showAll_of h
  refine ⟨by simp only [PyData.showable, h1], by simp only [PyData.hasDict, h2], by simp only [PyData.depth]; omega, ?_⟩
  simp only [PyData.shown]
  rw [shownAll_map]
  have a1 := tupleText_len (ds.map PyData.shown)
  have a2 := piled_le fun d hd => (h d hd).ln
  have a3 : ds.length * (n + 2) ≤ m * (n + 2) := Nat.mul_le_mul_right _ hm
  omega
theorem Shw.list {dep n m : Nat} {ds : List PyData} (h : ∀ d ∈ ds, Shw dep n d) (hm : ds.length ≤ m) : Shw (dep + 1) (m * (n + 2) + 3) (.list ds) := by
  obtain ⟨h1, h2, h3⟩ := showAll_of h
  refine ⟨by simp only [PyData.showable, h1], by simp only [PyData.hasDict, h2], by simp only [PyData.depth]; omega, ?_⟩
  simp only [PyData.shown]
  rw [shownAll_map]
  have a1 := listText_len (ds.map PyData.shown)
  have a2 := piled_le fun d hd => (h d hd).ln
  have a3 : ds.length * (n + 2) ≤ m * (n + 2) := Nat.mul_le_mul_right _ hm
  omega
/-- only what stands at a and c may have changed -/
def But (a c : Addr) (H H' : Hp) : Prop := ∀ b o, b ≠ a → b ≠ c → H b = some o → H' b = some o
theorem But.refl (a c : Addr) (H : Hp) : But a c H H := fun _ _ _ _ h => h
theorem But.trans {a c : Addr} {H H1 H2 : Hp} (x : But a c H H1) (y : But a c H1 H2) : But a c H H2 := fun b o h1 h2 h => y b o h1 h2 (x b o h1 h2 h)
theorem But.of {a c : Addr} {H H' : Hp} (x : Same H H') : But a c H H' := fun b o _ _ h => x b o h
theorem same_new {H : Hp} {p : Addr} {o : HO} (h : H p = none) : Same H (upd H p o) := fun b x e => by
  rw [upd_ne (ne_of_none e h)]; exact e
/-- the deck at a, its cells at c, m draws may still be made -/
def Deck (H : Hp) (a c : Addr) (m : Nat) : Prop :=
  ∃ (cells : List Int) (n : Nat), H a = some (.lst [.ref c, .int (n : Int)]) ∧ H c = some (.lst (cells.map V.int)) ∧ a ≠ c ∧ cells.length ≤ 63 ∧ n + m ≤ 1000000
theorem Deck.same {H H' : Hp} {a c : Addr} {m : Nat} (e : Same H H') (h : Deck H a c m) : Deck H' a c m :=
  let ⟨cs, n, h1, h2, h3⟩ := h; ⟨cs, n, e _ _ h1, e _ _ h2, h3⟩
theorem Deck.less {H : Hp} {a c : Addr} {m m' : Nat} (h : Deck H a c m) (z : m' ≤ m) : Deck H a c m' :=
  let ⟨cs, n, h1, h2, h3, h4, h5⟩ := h; ⟨cs, n, h1, h2, h3, h4, by omega⟩
theorem Deck.apart {H : Hp} {a c : Addr} {m : Nat} (h : Deck H a c m) {b : Addr} {o : HO} (e : H b = some o) (ho : ∀ xs, o ≠ .lst xs) : b ≠ a ∧ b ≠ c := by
  obtain ⟨cs, n, h1, h2, _⟩ := h
  exact ⟨ne_of e h1 (ho _), ne_of e h2 (ho _)⟩
theorem Deck.fresh {H : Hp} {a c : Addr} {m : Nat} (h : Deck H a c m) {b : Addr} (e : H b = none) : b ≠ a ∧ b ≠ c := by
  obtain ⟨cs, n, h1, h2, _⟩ := h
  exact ⟨Ne.symm (ne_of_none h1 e), Ne.symm (ne_of_none h2 e)⟩
theorem FT.but {H H' : Hp} {a c p : Addr} {m : Nat} {xs : List V} (d : Deck H a c m) (b : But a c H H') (h : FT H p xs) : FT H' p xs := by
  obtain ⟨o, e, z⟩ := h
  have q := d.apart e (fun _ => by intro z; cases z)
  exact ⟨o, b _ _ q.1 q.2 e, z⟩
/-- a panel at p -/
def PanAt (H : Hp) (p : Addr) (pan : List (List Int)) : Prop := ∃ qs : List Addr, FT H p (qs.map V.ref) ∧ Paired (fun q l => FT H q (l.map V.int)) qs pan
theorem PanAt.same {H H' : Hp} {p : Addr} {pan : List (List Int)} (e : Same H H') (h : PanAt H p pan) : PanAt H' p pan :=
  let ⟨qs, h1, h2⟩ := h; ⟨qs, h1.same e, h2.mono fun _ _ x => x.same e⟩
theorem PanAt.but {H H' : Hp} {a c p : Addr} {m : Nat} {pan : List (List Int)} (d : Deck H a c m) (b : But a c H H') (h : PanAt H p pan) : PanAt H' p pan :=
  let ⟨qs, h1, h2⟩ := h; ⟨qs, h1.but d b, h2.mono fun _ _ x => x.but d b⟩
theorem paired_get {α β : Type} {F : α → β → Prop} : ∀ {l1 : List α} {l2 : List β}, Paired F l1 l2 → ∀ (i : Nat) (y : β), l2[i]? = some y → ∃ x, l1[i]? = some x ∧ F x y
  | _, _, .nil, i, y, h => by simp at h
  | _, _, .cons r t, 0, y, h => by simp at h; subst h; exact ⟨_, rfl, r⟩
  | _, _, .cons r t, i + 1, y, h => by
    obtain ⟨x, h1, h2⟩ := paired_get t i y (by simpa using h)
    exact ⟨x, by simpa using h1, h2⟩
/-- what the document calls a panel of at most ten buttons -/
structure Good (pan : List (List Int)) : Prop where
  pos : 1 ≤ pan.length
  few : pan.length ≤ 10
  up : ∀ l ∈ pan, l.Pairwise (· < ·)
  rng : ∀ l ∈ pan, ∀ x ∈ l, 0 ≤ x ∧ x < (pan.length : Int)
  own : ∀ (i : Nat) (l : List Int), pan[i]? = some l → (i : Int) ∉ l
def dInts (l : List Int) : PyData := .tuple (l.map PyData.int)
def dPan (pan : List (List Int)) : PyData := .tuple (pan.map dInts)
section
variable {K : PySem.W.Frag} {H : Hp}
theorem dpAll_ints : ∀ l : List Int, DpAll K H (l.map V.int) (l.map PyData.int)
  | [] => .nil
  | x :: r => .cons (.int x) (dpAll_ints r)
theorem dp_ints {q : Addr} {l : List Int} (h : SqT K H q (l.map V.int)) : Dp K H (.ref q) (dInts l) := .tup h (dpAll_ints l)
theorem dpAll_pan : ∀ {qs : List Addr} {pan : List (List Int)}, Paired (fun q l => FT H q (l.map V.int)) qs pan → DpAll K H (qs.map V.ref) (pan.map dInts)
  | _, _, .nil => .nil
  | _, _, .cons r t => .cons (dp_ints r.sq) (dpAll_pan t)
theorem PanAt.dp {p : Addr} {pan : List (List Int)} (h : PanAt H p pan) : Dp K H (.ref p) (dPan pan) := by
  obtain ⟨qs, h1, h2⟩ := h
  exact .tup h1.sq (dpAll_pan h2)
end
theorem pw_length {n : Nat} : ∀ {l : List Int} {lo : Int}, l.Pairwise (· < ·) → (∀ x ∈ l, lo ≤ x ∧ x < lo + n) → l.length ≤ n := by
  induction n with
  | zero =>
    intro l lo _ h
    cases l with
    | nil => exact Nat.le_refl _
    | cons x r => have := h x List.mem_cons_self; omega
  | succ n ih =>
    intro l lo hp h
    cases l with
    | nil => exact Nat.zero_le _
    | cons x r =>
      have hx := h x List.mem_cons_self
      rw [List.pairwise_cons] at hp
      have := ih (l := r) (lo := lo + 1) hp.2 fun y hy => by
        have h1 := hp.1 y hy
        have h2 := h y (List.mem_cons_of_mem _ hy)
        omega
      rw [List.length_cons]; omega
end Pr
namespace Pr
open PySem PySem.Spec PyProof.Rows L2
def intL (n : Nat) : List Int := (List.range n).map fun i : Nat => (i : Int)
theorem mem_intL {n : Nat} {x : Int} : x ∈ intL n ↔ 0 ≤ x ∧ x < (n : Int) := by
  unfold intL
  rw [List.mem_map]
  constructor
  · rintro ⟨i, hi, rfl⟩
    have := List.mem_range.mp hi
    omega
  · rintro ⟨h0, h1⟩
    exact ⟨x.toNat, List.mem_range.mpr (by omega), Int.toNat_of_nonneg h0⟩
theorem intL_up (n : Nat) : (intL n).Pairwise (· < ·) := by
  unfold intL
  rw [List.pairwise_map]
  exact List.pairwise_lt_range.imp fun {a b} (h : a < b) => by omega
theorem intL_len (n : Nat) : (intL n).length = n := by unfold intL; rw [List.length_map, List.length_range]
/-- a state of n buttons -/
structure Asc (n : Nat) (st : List Int) : Prop where
  up : st.Pairwise (· < ·)
  rng : ∀ x ∈ st, 0 ≤ x ∧ x < (n : Int)
theorem Asc.nil (n : Nat) : Asc n [] := ⟨List.Pairwise.nil, fun _ h => by cases h⟩
theorem Asc.full (n : Nat) : Asc n (intL n) := ⟨intL_up n, fun _ h => mem_intL.mp h⟩
theorem Asc.filter (n : Nat) (f : Int → Bool) : Asc n ((intL n).filter f) := ⟨(intL_up n).filter f, fun _ h => mem_intL.mp (List.mem_filter.mp h).1⟩
theorem Asc.len {n : Nat} {st : List Int} (h : Asc n st) : st.length ≤ n := pw_length (lo := 0) h.up fun x hx => by have := h.rng x hx; omega
theorem asc_ext : ∀ {l1 l2 : List Int}, l1.Pairwise (· < ·) → l2.Pairwise (· < ·) → (∀ x, x ∈ l1 ↔ x ∈ l2) → l1 = l2
  | [], [], _, _, _ => rfl
  | [], y :: r, _, _, h => absurd ((h y).mpr List.mem_cons_self) (by simp)
  | x :: r, [], _, _, h => absurd ((h x).mp List.mem_cons_self) (by simp)
  | x :: r, y :: t, h1, h2, h => by
    rw [List.pairwise_cons] at h1 h2
    have exy : x = y := by
      rcases List.mem_cons.mp ((h x).mp List.mem_cons_self) with e | e
      · exact e
      · rcases List.mem_cons.mp ((h y).mpr List.mem_cons_self) with e' | e'
        · exact e'.symm
        · have a1 := h2.1 x e
          have a2 := h1.1 y e'
          omega
    subst exy
    have : r = t := asc_ext h1.2 h2.2 fun z => by
      constructor
      · intro hz
        rcases List.mem_cons.mp ((h z).mp (List.mem_cons_of_mem _ hz)) with e | e
        · have := h1.1 z hz; omega
        · exact e
      · intro hz
        rcases List.mem_cons.mp ((h z).mpr (List.mem_cons_of_mem _ hz)) with e | e
        · have := h2.1 z hz; omega
        · exact e
    rw [this]
end Pr
namespace Pr
open PySem PySem.Spec PyProof.Rows L2
abbrev wSame : Str := "same"
abbrev wOn : Str := "on"
abbrev wOff : Str := "off"
/-- a press of b behind, where c had the word w -/
def wordM (pan : List (List Int)) (c : Int) (w : Str) (b : Int) : Str := if b = c then wOn else if c ∈ pan.getD b.toNat [] then wOff else w
def wordsM (pan : List (List Int)) (row : List Int) (c : Int) : Str := row.foldl (wordM pan c) wSame
def effM (pan : List (List Int)) (row : List Int) : List Str := (List.range pan.length).map fun c : Nat => wordsM pan row (c : Int)
def onM (l : List Int) (b : Int) (c : Nat) : Str := if (c : Int) ∈ l then wOff else if (c : Int) = b then wOn else wSame
def pressW (pan : List (List Int)) (b : Int) : List Str := (List.range pan.length).map (onM (pan.getD b.toNat []) b)
def joinM (xs ys : List Str) : List Str := List.zipWith (fun e l => if l = wSame then e else l) xs ys
theorem effM_len (pan : List (List Int)) (row : List Int) : (effM pan row).length = pan.length := by unfold effM; rw [List.length_map, List.length_range]
theorem pressW_len (pan : List (List Int)) (b : Int) : (pressW pan b).length = pan.length := by unfold pressW; rw [List.length_map, List.length_range]
theorem joinM_len {xs ys : List Str} (h : xs.length = ys.length) : (joinM xs ys).length = ys.length := by unfold joinM; rw [List.length_zipWith, h, Nat.min_self]
theorem effM_nil (pan : List (List Int)) : effM pan [] = List.replicate pan.length wSame := by
  unfold effM
  show (List.range pan.length).map (fun _ => wSame) = _
  rw [List.map_const', List.length_range]
theorem same_ne_on : wSame ≠ wOn := by decide +kernel
theorem same_ne_off : wSame ≠ wOff := by decide +kernel
theorem Good.own' {pan : List (List Int)} (g : Good pan) {b : Int} (h0 : 0 ≤ b) (h1 : b < (pan.length : Int)) : b ∉ pan.getD b.toNat [] := by
  have hb : b.toNat < pan.length := by omega
  have := g.own b.toNat pan[b.toNat] (List.getElem?_eq_getElem hb)
  rw [List.getD_eq_getElem?_getD, List.getElem?_eq_getElem hb]
  rw [Int.toNat_of_nonneg h0] at this
  exact this
theorem wordM_join {pan : List (List Int)} (g : Good pan) {b : Int} (h0 : 0 ≤ b) (h1 : b < (pan.length : Int)) (c : Nat) (w : Str) :
    (if onM (pan.getD b.toNat []) b c = wSame then w else onM (pan.getD b.toNat []) b c) = wordM pan (c : Int) w b := by
  unfold onM wordM
  by_cases e : (c : Int) ∈ pan.getD b.toNat []
  · have hne : b ≠ (c : Int) := fun z => g.own' h0 h1 (z ▸ e)
    rw [if_pos e, if_neg hne, if_pos e, if_neg (Ne.symm same_ne_off)]
  · rw [if_neg e, if_neg e]
    by_cases e2 : (c : Int) = b
    · rw [if_pos e2, if_pos e2.symm, if_neg (Ne.symm same_ne_on)]
    · rw [if_neg e2, if_pos rfl, if_neg (Ne.symm e2)]
theorem eff_step {pan : List (List Int)} (g : Good pan) {b : Int} (h0 : 0 ≤ b) (h1 : b < (pan.length : Int)) (row : List Int) : joinM (effM pan row) (pressW pan b) = effM pan (row ++ [b]) := by
  unfold joinM effM pressW
  rw [List.zipWith_map, List.zipWith_self]
  refine List.map_congr_left fun c _ => ?_
  rw [wordM_join g h0 h1]
  unfold wordsM
  rw [List.foldl_append]; rfl
theorem eff_take {pan : List (List Int)} (g : Good pan) {row : List Int} {k : Nat} {b : Int} (hk : row[k]? = some b) (h0 : 0 ≤ b) (h1 : b < (pan.length : Int)) : joinM (effM pan (row.take k)) (pressW pan b) = effM pan (row.take (k + 1)) := by
  rw [eff_step g h0 h1, List.take_add_one, hk]; rfl
theorem set_map_range {α : Type} (f : Nat → α) (n j : Nat) (v : α) : ((List.range n).map f).set j v = (List.range n).map fun c => if c = j then v else f c := by
  refine List.ext_getElem? fun i => ?_
  rw [List.getElem?_set, List.getElem?_map]
  by_cases h : i < n
  · rw [List.getElem?_map, List.getElem?_range h, List.length_map, List.length_range]
    by_cases e : j = i
    · subst e; rw [if_pos rfl, if_pos h]; simp
    · rw [if_neg e]; simp [Ne.symm e]
  · rw [List.getElem?_map, List.getElem?_eq_none (by rw [List.length_range]; omega), List.length_map, List.length_range]
    by_cases e : j = i
    · subst e; rw [if_pos rfl, if_neg h]; rfl
    · rw [if_neg e]; rfl
theorem replicate_map_range {α : Type} (n : Nat) (v : α) : List.replicate n v = (List.range n).map fun _ => v := by
  rw [List.map_const', List.length_range]
def dStrs (l : List Str) : PyData := .tuple (l.map PyData.str)
theorem rep_flat {α : Type} (n : Nat) (v : α) : (List.replicate n [v]).flatten = List.replicate n v := by
  induction n with
  | zero => rfl
  | succ n ih => rw [List.replicate_succ, List.flatten_cons, ih]; rfl
theorem walk_zipT {K : PySem.W.Frag} {a b : Addr} {xs ys : List V} {n : Nat} (hn : n = min xs.length ys.length) : Walk (RZ.ItzT K a b) n (fun H => SqT K H a xs ∧ SqT K H b ys) (YPair (fun i => xs[i]?) (fun i => ys[i]?)) := by
  subst hn
  refine ⟨fun i _ hi q => ?_, fun _ q => ⟨xs, ys, q.1, q.2, by omega⟩, fun i H v H' _ q y => ?_⟩
  · have h1 : i < xs.length := by omega
    have h2 : i < ys.length := by omega
    exact ⟨xs, ys, xs[i], ys[i], q.1, q.2, by simp [h1], by simp [h2]⟩
  · obtain ⟨T, x, z, h1, h2, h3, h4, h5⟩ := y
    exact ⟨T, x, z, h1, h2, h3, h4 xs q.1, h5 ys q.2⟩
theorem str_get {os : List Str} {k : Nat} {x : V} (h : (os.map V.str)[k]? = some x) : ∃ z, os[k]? = some z ∧ x = .str z := by
  rw [List.getElem?_map] at h
  cases e : os[k]? with
  | none => rw [e] at h; cases h
  | some z => rw [e] at h; exact ⟨z, rfl, (Option.some.inj h).symm⟩
theorem int_get {os : List Int} {k : Nat} {x : V} (h : (os.map V.int)[k]? = some x) : ∃ z, os[k]? = some z ∧ x = .int z := by
  rw [List.getElem?_map] at h
  cases e : os[k]? with
  | none => rw [e] at h; cases h
  | some z => rw [e] at h; exact ⟨z, rfl, (Option.some.inj h).symm⟩
theorem joinM_get {xs ys : List Str} {i : Nat} {x y : Str} (hx : xs[i]? = some x) (hy : ys[i]? = some y) : (joinM xs ys)[i]? = some (if y = wSame then x else y) := by
  unfold joinM
  rw [List.getElem?_zipWith, hx, hy]
theorem ixN_nat {n j : Nat} (h : j < n) : ixN n (j : Int) = some j := by
  unfold ixN
  rw [if_pos (by omega), if_pos (by omega)]; rfl
theorem gen_heap {X : Hp} {R : Hp → Prop} (C : Hp → Prop) (hX : C X) (h : ∀ H', C H' → R H') : R X := h X hX
theorem gen_name {i : Nat} {v : V} {σ : L2.St} {X : Hp} {D : L2.St → Hp → Prop} (C : Hp → Prop) (hX : C X) (h : ∀ H', C H' → gName i v σ H' D) : gName i v σ X D := h X hX
theorem tyes {σ : L2.St} {H : Hp} {Q : Bool → Hp → Prop} (h : Q true H) : tYes σ H Q := h
theorem inV_ints {b : Int} (l : List Int) : inV (.int b) (l.map V.int) = decide (b ∈ l) := by
  unfold inV
  rw [List.any_map, Bool.eq_iff_iff, List.any_eq_true, decide_eq_true_eq]
  constructor
  · rintro ⟨x, hx, e⟩
    have e' : x = b := by simpa [eqV] using e
    rw [← e']; exact hx
  · intro h
    exact ⟨b, h, by simp [eqV]⟩
theorem flat_ints : ∀ l : List Int, (l.map V.int).all flatV = true
  | [] => rfl
  | x :: r => by rw [List.map_cons, List.all_cons, flat_ints r]; rfl
end Pr
namespace Pr
open PySem PySem.Spec PyProof.Rows L2
section
variable {P : Program} {w : World} {A : Around} {E : Value → Shared → Prop} {s : Shared}
/-- a set just made -/
def set0 (w : World) : Obj := { cls := .type "set", dict := none, data := .set #[] 0 (.fresh 0 0 (!w.params.followText "set-order")) }
/-- a type's call by the codes of its two steps -/
theorem type_by {T nw ini : String} {xs : List Value} {Q Q1 : Value → Shared → Prop} (tc : TypeCalled T nw ini) (ok : checkTypeCall T ⟨xs, []⟩ = pure ())
    (first : codeAny (model P w) A.in1 (.call (.builtin nw) ⟨.type T :: xs, []⟩) (wants Q1 E) s)
    (second : ∀ v t, Q1 v t → t.TypeIs v T ∧ codeAny (model P w) A.in1 (.call (.builtin ini) ⟨v :: xs, []⟩) (wants (fun u t' => u = .none ∧ Q v t') E) t) :
    wpAny (model P w) A (call (.type T) xs) Q E s := by
  have f1 := tc.made; have f2 := tc.sub; have f3 := tc.notType; have f4 := tc.canCreate
  obtain ⟨c0, cs, f5⟩ := tc.mro
  apply wpAny_call; apply codeAny_of_tree
  change wpAny _ _ (callAny (Value.type T) _) _ _ _
  apply wpAny_pure; refine ⟨Code.quiet_builtin _ (by decide +kernel), ?_⟩
  apply codeAny_builtin F.entry_type_call; rw [Around.under_plain (weight_type_call_type T xs []) rfl]
  repeat (any_goals (first | assumption | wp_step))
  apply codeAny_mono first; intro r t hr
  match r, hr with
  | .error e, hr => exact hr
  | .ok .next, hr => exact hr.elim
  | .ok .brk, hr => exact hr.elim
  | .ok .cont, hr => exact hr.elim
  | .ok (.ret v), hr =>
    obtain ⟨hT, hc⟩ := second v t hr
    have f6 := tc.init.lookup; have f7 := tc.init.bind v
    repeat (any_goals (first | assumption | wp_step))
    apply codeAny_mono hc; intro r2 t2 hr2
    match r2, hr2 with
    | .error e, hr2 => exact hr2
    | .ok .next, hr2 => exact hr2.elim
    | .ok .brk, hr2 => exact hr2.elim
    | .ok .cont, hr2 => exact hr2.elim
    | .ok (.ret u), hr2 =>
      obtain ⟨rfl, hq⟩ := hr2
      repeat (any_goals (first | assumption | wp_step))
theorem call_setL {l : Addr} {its : Array Value} (ns : List Int) {Q : Value → Shared → Prop} (hh : A.handled = none) (hl : s.heap.IsList l its) (hi : IntsAre its.toList ns) (hb : ns.length + 1 < scanBound)
    (h : ∀ (h' : Heap) (tk c : Nat), SetR w h' s.heap.objs.size (fun j => decide (j ∈ ns)) c → (∀ b o, s.heap.get? b = some o → h'.get? b = some o) → Q (.ref s.heap.objs.size) { s with heap := h', toks := tk }) :
    wpAny (model P w) A (call (.type "set") [.ref l]) Q E s := by
  have hn : its.size = ns.length := by simpa using hi.length
  refine type_by F.called_set (F.typeCall_set_1 (.ref l)) (Q1 := fun v t => v = .ref s.heap.objs.size ∧ t = { s with heap := s.heap.push (set0 w) }) (code_set_led1 (.ref l) ⟨rfl, rfl⟩) ?_
  rintro obj t ⟨rfl, rfl⟩
  have hS : (s.heap.push (set0 w)).get? s.heap.objs.size = some (set0 w) := Heap.get?_push_size _ rfl
  refine ⟨⟨_, hS, rfl⟩, codeAny_call_builtin F.called_set.init.plain F.entry_set_init (check_set_init_1 ⟨_, hS, rfl⟩ ?_)⟩
  obtain ⟨⟨oc, od, odt, osl⟩, hol, hc, n, hd⟩ := id hl
  simp only at hc hd
  subst hc hd
  have lS : l < s.heap.objs.size := Heap.lt_size hol
  have hL : (s.heap.push (set0 w)).get? l = some { cls := .type "list", dict := od, data := .seq its n, slots := osl } := Heap.get?_push_of_some _ hol
  have hLl : (s.heap.push (set0 w)).IsList l its := ⟨_, hL, rfl, n, rfl⟩
  have k1 := F.sub_list_set
  have k2 := F.sub_list_frozenset
  have k3 : (Value.type "list" == Value.type "dict") = false := by decide
  have hz : (s.heap.push (set0 w)).objs.size = s.heap.objs.size + 1 := Heap.size_push ..
  have hP : s.heap.push (set0 w) = s.heap.push { cls := .type "set", dict := none, data := .set #[] 0 (.fresh 0 0 (!w.params.followText "set-order")) } := rfl
  generalize hG : s.heap.push (set0 w) = G at hS hL hLl hz ⊢
  unfold Builtin.«set.__init__» noKeywords Builtin.Frozenset.updateFrom
  generalize hI : pyIter = PI
  wp_walk
  subst hI
  refine wpAny_pyIter_list hLl (wpAny_bind (wpAny_runValue ?_))
  have at0 : (G.push { cls := .type "list_iterator", data := .fields #[.ref l, .int 0 0] }).get? s.heap.objs.size = some (set0 w) := Heap.get?_push_of_some _ hS
  have out1 : l ≠ G.objs.size := by rw [hz]; exact Nat.ne_of_lt (Nat.lt_succ_of_lt lS)
  have out2 : s.heap.objs.size ∉ [G.objs.size, l] := by
    rw [hz]
    intro q
    rcases List.mem_cons.mp q with e | e
    · exact Nat.ne_of_lt (Nat.lt_succ_self _) e
    · exact Nat.ne_of_lt lS (List.mem_singleton.mp e).symm
  have vals : ∀ (i : Nat) (v : Value), its[i]? = some v → ∃ k t, ns[i]? = some k ∧ v = .int k t := by
    intro i v hv
    have li : i < ns.length := hn ▸ (Array.getElem?_eq_some_iff.mp hv).1
    obtain ⟨t, e⟩ := hi.int_at i v (by rw [Array.getElem?_toList]; exact hv)
    rw [List.getD_eq_getElem?_getD, List.getElem?_eq_getElem li] at e
    exact ⟨ns[i], t, List.getElem?_eq_getElem li, e⟩
  have hh' : A.in1.in1.in1.handled = none := by simp [hh]
  refine set_update_ints (Walks.list hh' G.objs.size l out1 its).toS s.heap.objs.size out2 ns hn hb vals its.size 0 _ (Nat.sub_zero _) (Nat.zero_le _) ⟨⟨_, Heap.get?_push_size _ rfl, rfl, rfl⟩, hLl.push _⟩ ⟨0, Nat.le_refl _, setR_new_at at0⟩ ?_
  intro t' c mv _ R
  obtain ⟨h2, g2, d2, tk2, os2⟩ := t'
  obtain rfl : g2 = s.gens := mv.gens
  obtain rfl : d2 = s.drawn := mv.drawn
  obtain rfl : os2 = s.os := mv.os
  refine wpAny_pure (wpAny_pure ⟨rfl, h h2 tk2 c R fun b o e => ?_⟩)
  have lb : b < s.heap.objs.size := Heap.lt_size e
  refine mv.heap b o (fun q => ?_) (Heap.get?_push_of_some _ (by rw [← hG]; exact Heap.get?_push_of_some _ e))
  rcases List.mem_cons.mp q with e | e
  · exact Nat.ne_of_lt lb e
  · exact Nat.ne_of_lt (Nat.lt_succ_of_lt lb) ((List.mem_singleton.mp e).trans hz)
end
theorem nodup_few : ∀ (m : Nat) (l : List Int), l.Nodup → (∀ x ∈ l, 0 ≤ x ∧ x < (m : Int)) → l.length ≤ m
  | 0, l, _, h => by
    cases l with
    | nil => exact Nat.le_refl _
    | cons x r => have := h x List.mem_cons_self; omega
  | m + 1, l, hn, h => by
    have ih := nodup_few m (l.erase (m : Int)) (hn.erase _) fun x hx => by
      have h1 := (hn.mem_erase_iff.mp hx)
      have h2 := h x h1.2
      have h3 := h1.1
      omega
    have hl := List.length_erase (a := (m : Int)) (l := l)
    split at hl <;> omega
section
variable {X : Cx}
/-- set(list of ints) -/
def rSetL' (K : PySem.W.Frag) (w : World) : List V → Hp → VK → Prop := fun vs H Q => ∃ (a : Addr) (ns : List Int), vs = [V.ref a] ∧ SqL K H a (ns.map V.int) ∧ ns.length ≤ 1000 ∧
  ∀ (l : Addr) (n : Nat) (ks : List Int), H l = none → ks.Nodup → (∀ k, k ∈ ks ↔ k ∈ ns) → ks.length = n → Q (.ref l) (upd H l (SetO w l (fun j => decide (j ∈ ns)) n))
theorem cr_setL (hc : X.calm = true) : CallR X (.type "set") (rSetL' X.K X.w) := by
  intro pins s σ H vs us Q I r h
  obtain ⟨a, ns, rfl, hs, hn, q⟩ := h
  obtain ⟨its, rv, pl, hz⟩ := I.list hs
  rw [Vals.ref1 r]
  have hi := rv.ints
  refine call_setL ns (I.ok.hd hc) pl.isList (by simpa using hi) (Nat.lt_of_le_of_lt (Nat.add_le_add_right hn 1) (by decide)) fun h' tk n R kp => ?_
  obtain ⟨o, es, ep, t, h1, h2, h3, h4, h5, h6, h7, h8, h9, h10⟩ := id R
  refine ⟨.ref s.heap.objs.size, _, I.laid (t' := tk) kp (Nat.le_refl _) (setO_new R), rfl, q _ n (es.toList.map keyOf) (I.hok.fresh (Nat.le_refl _)) h5 (fun k => ?_) (by rw [List.length_map, Array.length_toList]; exact h9)⟩
  rw [← h6 k, decide_eq_true_eq]
/-- sorted(set(list of ints)), the ints from 0 to 62 -/
def rSortSet (K : PySem.W.Frag) : List V → Hp → VK → Prop := fun vs H Q => ∃ (a : Addr) (ns : List Int) (m : Nat), vs = [V.ref a] ∧ SqL K H a (ns.map V.int) ∧ ns.length ≤ 1000 ∧ m < 64 ∧ (∀ x ∈ ns, 0 ≤ x ∧ x < (m : Int)) ∧
  ∀ (ms : List Int) (p : Addr) (H' : Hp), Same H H' → H' p = some (.lst (ms.map V.int)) → ms.Pairwise (· < ·) → (∀ k, k ∈ ms ↔ k ∈ ns) → H p = none → Q (.ref p) H'
/-- what set asks, where sorted stands around it -/
theorem sortSet_of {w : World} {K : PySem.W.Frag} {vs : List V} {H : Hp} {Q : VK} (h : rSortSet K vs H Q) : rSetL' K w vs H (fun x H1 => rSortedSet w [x] H1 Q) := by
  obtain ⟨a, ns, m, rfl, hs, hn, hm, hr, q⟩ := h
  refine ⟨a, ns, rfl, hs, hn, fun l n ks nl nd mem len => ⟨l, _, n, rfl, upd_same, ?_, fun ms p up mm _ np => ?_⟩⟩
  · rw [← len]
    exact Nat.lt_of_le_of_lt (nodup_few m ks nd fun x hx => hr x ((mem x).mp hx)) hm
  · have sl : Same H (upd H l (SetO w l (fun j => decide (j ∈ ns)) n)) := same_new nl
    exact q ms p _ (sl.trans (same_new np)) upd_same up (fun k => by rw [mm k, decide_eq_true_eq]) (sl.free np)
end
end Pr
namespace Pr
open PySem PySem.Spec PyProof.Rows L2
def PanT (K : PySem.W.Frag) (H : Hp) (p : Addr) (pan : List (List Int)) : Prop := ∃ qs : List Addr, SqT K H p (qs.map V.ref) ∧ Paired (fun q l => SqT K H q (l.map V.int)) qs pan
section
variable {K : PySem.W.Frag} {H H' : Hp} {p : Addr} {pan : List (List Int)}
theorem PanT.same (e : Same H H') (h : PanT K H p pan) : PanT K H' p pan :=
  let ⟨qs, h1, h2⟩ := h; ⟨qs, same_sqT e h1, h2.mono fun _ _ x => same_sqT e x⟩
theorem PanAt.t (h : PanAt H p pan) : PanT K H p pan :=
  let ⟨qs, h1, h2⟩ := h; ⟨qs, h1.sq, h2.mono fun _ _ x => x.sq⟩
theorem panT_at (h : PanT K H p pan) {b : Int} (h0 : 0 ≤ b) (h1 : b < (pan.length : Int)) :
    ∃ (qs : List Addr) (q : Addr), SqT K H p (qs.map V.ref) ∧ atI (qs.map V.ref) b = some (.ref q) ∧ SqT K H q ((pan.getD b.toNat []).map V.int) ∧ qs.length = pan.length := by
  obtain ⟨qs, hq, hqs⟩ := h
  obtain ⟨n, rfl⟩ : ∃ n : Nat, b = (n : Int) := ⟨b.toNat, (Int.toNat_of_nonneg h0).symm⟩
  have hn : n < pan.length := by omega
  obtain ⟨q', g1, g2⟩ := paired_get hqs n pan[n] (List.getElem?_eq_getElem hn)
  refine ⟨qs, q', hq, atI_nat (by rw [List.getElem?_map, g1]; rfl), ?_, hqs.length⟩
  rw [Int.toNat_natCast, List.getD_eq_getElem?_getD, List.getElem?_eq_getElem hn]
  exact g2
theorem PanT.len (h : PanT K H p pan) : ∃ xs : List V, SqT K H p xs ∧ xs.length = pan.length :=
  let ⟨qs, h1, h2⟩ := h; ⟨_, h1, by rw [List.length_map, h2.length]⟩
theorem dpAll_panT : ∀ {qs : List Addr} {pan : List (List Int)}, Paired (fun q l => SqT K H q (l.map V.int)) qs pan → DpAll K H (qs.map V.ref) (pan.map dInts)
  | _, _, .nil => .nil
  | _, _, .cons r t => .cons (dp_ints r) (dpAll_panT t)
theorem PanT.dp (h : PanT K H p pan) : Dp K H (.ref p) (dPan pan) := let ⟨_, h1, h2⟩ := h; .tup h1 (dpAll_panT h2)
end
def metB (pan : List (List Int)) (row : List Int) (c : Int) : Prop := c ∈ row ∨ ∃ b ∈ row, c ∈ pan.getD b.toNat []
theorem words_same {pan : List (List Int)} {c : Int} : ∀ (row : List Int) (w : Str), row.foldl (wordM pan c) w = wSame ↔ w = wSame ∧ ¬ metB pan row c
  | [], w => by
    refine ⟨fun h => ⟨h, fun z => z.elim (fun q => by cases q) fun ⟨_, q, _⟩ => by cases q⟩, fun h => h.1⟩
  | b :: r, w => by
    rw [List.foldl_cons, words_same r]
    unfold wordM metB
    by_cases h1 : b = c
    · rw [if_pos h1]
      refine ⟨fun h => absurd h.1.symm same_ne_on, fun h => absurd ?_ h.2⟩
      exact .inl (by rw [h1]; exact List.mem_cons_self)
    · rw [if_neg h1]
      by_cases h2 : c ∈ pan.getD b.toNat []
      · rw [if_pos h2]
        refine ⟨fun h => absurd h.1.symm same_ne_off, fun h => absurd ?_ h.2⟩
        exact .inr ⟨b, List.mem_cons_self, h2⟩
      · rw [if_neg h2]
        refine and_congr_right fun _ => not_congr ⟨fun h => ?_, fun h => ?_⟩
        · rcases h with h | ⟨d, h3, h4⟩
          · exact .inl (List.mem_cons_of_mem _ h)
          · exact .inr ⟨d, List.mem_cons_of_mem _ h3, h4⟩
        · rcases h with h | ⟨d, h3, h4⟩
          · exact .inl ((List.mem_cons.mp h).resolve_left (Ne.symm h1))
          · rcases List.mem_cons.mp h3 with e | e
            · subst e; exact absurd h4 h2
            · exact .inr ⟨d, e, h4⟩
theorem inV_strs {b : Str} (l : List Str) : inV (.str b) (l.map V.str) = decide (b ∈ l) := by
  unfold inV
  rw [List.any_map, Bool.eq_iff_iff, List.any_eq_true, decide_eq_true_eq]
  constructor
  · rintro ⟨x, hx, e⟩
    have e' : x = b := by simpa [eqV] using e
    rw [← e']; exact hx
  · intro h
    exact ⟨b, h, by simp [eqV]⟩
end Pr
namespace K39
open PySem PySem.Spec PyProof.Rows L2 Pr
def topS (i : Nat) : Stmt := PySem.Challenge.pw_pressrelease_k39_whole_fewest_buttons_of.main.body.getD i (.Pass ⟨0, 0, 0, 0⟩)
abbrev sNo : Stmt := topS 5
abbrev sPressE : Stmt := topS 6
abbrev sJoin : Stmt := topS 7
abbrev sWith : Stmt := topS 8
abbrev sEff : Stmt := topS 9
abbrev sRel : Stmt := topS 11
abbrev sBetw : Stmt := topS 13
abbrev sReset : Stmt := topS 15
abbrev sSReset : Stmt := topS 16
abbrev sWl : Stmt := topS 18
abbrev sLi : Stmt := topS 19
abbrev sUn : Stmt := topS 20
abbrev sRen : Stmt := topS 21
abbrev sBes : Stmt := topS 22
abbrev sDeck : Stmt := topS 24
abbrev sDraw : Stmt := topS 25
abbrev sPanel : Stmt := topS 26
abbrev sRow : Stmt := topS 27
abbrev sApart : Stmt := topS 28
abbrev sLinks : Stmt := topS 29
abbrev sNames : Stmt := topS 30
abbrev sLaw : Stmt := topS 31
theorem scDeck : FnScope ["_law_script", "_law_cell"] ["_law_script"] (defScope sDeck) := ⟨rfl, rfl, rfl, by decide +kernel, rfl, by decide +kernel, by decide +kernel⟩
theorem scDraw : FnScope ["_law_deck_here", "_law_bound", "_law_at", "_law_cell", "_law_mixed"] ["_law_deck_here", "_law_bound"] (defScope sDraw) := ⟨rfl, rfl, rfl, by decide +kernel, rfl, by decide +kernel, by decide +kernel⟩
theorem cut_ints (ns : List Int) (lo hi : Option Int) : ∃ ms : List Int, cutV (ns.map V.int) lo hi = ms.map V.int ∧ ms.length ≤ ns.length := by
  refine ⟨(ns.drop (HT.sIx ns.length 0 lo)).take (HT.sIx ns.length ns.length hi - HT.sIx ns.length 0 lo), ?_, ?_⟩
  · unfold cutV
    rw [List.length_map, List.map_take, List.map_drop]
  · rw [List.length_take, List.length_drop]; omega
section
variable {P : Program} {w : World} {K : PySem.W.Frag} {mg : Str → Option Value} {base : Heap}
def spDeck (K : PySem.W.Frag) : Sp := fun vs H Q _ => ∃ (s : Addr) (ns : List Int), vs = [.ref s] ∧ SqL K H s (ns.map V.int) ∧ ns.length ≤ 63 ∧
  ∀ H' a c, Same H H' → Deck H' a c 1000000 → Q (.ref a) H'
theorem ok_deck {f : Addr} {fd : FuncData} {k : Nat} (F : Fun K "_law_deck" "_law_deck" sDeck f fd) (ma : mg "abs" = none) : FnOk P w K mg base CX0 (k + 1) f fd ["_law_script"] (spDeck K) := by
  refine F.ok scDeck (fun vs H Q E h => ?_) (fun cdv A outer s H vs Q E hr h => ?_)
  · obtain ⟨s, ns, rfl, _⟩ := h
    rfl
  · obtain ⟨sa, ns, rfl, hS, hlen, q⟩ := h
    refine ⟨_, pss_one (ps_ret (pe_lst (pa_cons
      (pe_lc (own := [("_law_cell", 1)]) (g := gName 1) (tt := tYes) rfl scDeck.nd (pi_list (pe_slice sl_list (pv 0) po_none (po_some pe_int)))
        (blkOk_by (own := [("_law_cell", 1)]) (N := ["_law_script", "_law_cell"]) (sc := defScope sDeck) (by decide +kernel))
        (fun _ _ _ _ _ => pg_name (i := 1) scDeck.nd rfl (Or.inl rfl)) (fun _ _ _ _ _ => pts_nil)
        (fun _ _ _ _ _ => pe_callB call_abs (by rfl) ma (by decide +kernel) (pa_cons (pv 1) pa_nil)))
      (pa_cons pe_int pa_nil)))), ?_⟩
    refine ⟨.ref sa, rfl, 60, rfl, sa, ns.map V.int, rfl, hS, fun l nl => ?_⟩
    obtain ⟨ms, em, lm⟩ := cut_ints ns none (some 60)
    rw [em]
    have s1 : Same H (upd H l (.lst (ms.map V.int))) := same_new nl
    refine ⟨l, rfl, ⟨_, .inl (.inl upd_same)⟩, fun D nD => ?_⟩
    refine lc_list (xs := ms.map V.int) (fun i H3 => Same (upd H l (.lst (ms.map V.int))) H3 ∧ ∃ cells : List Int, cells.length = i ∧ H3 D = some (.lst (cells.map V.int)))
      ⟨same_new nD, [], rfl, upd_same⟩ (fun i H3 _ hP => hP.1.seq (.inl (.inl upd_same))) (fun i x H3 hx hP => ?_) (fun H3 hP => ?_)
    · obtain ⟨sm, cells, hc, eD⟩ := hP
      obtain ⟨z, hz, rfl⟩ := int_get hx
      have hi : i < ms.length := (List.getElem?_eq_some_iff.mp hz).1
      refine ⟨rfl, tyes (iteT ⟨_, rfl, _, rfl, cells.map V.int, eD, ?_, ?_, cells ++ [if z < 0 then -z else z], ?_, ?_⟩)⟩
      · rw [List.length_map]; exact small1000 (by omega)
      · intro b o e
        rw [upd_ne (ne_of_none e nD)]
        exact sm _ _ e
      · rw [List.length_append, hc]; rfl
      · rw [upd_same, List.map_append]; rfl
    · obtain ⟨sm, cells, hc, eD⟩ := hP
      rw [List.length_map] at hc
      refine ⟨by show 2 ≤ sizeLine; decide, fun p np => ?_⟩
      have nDp : D ≠ p := ne_of_none eD np
      refine q _ p D ((s1.trans sm).trans (same_new np)) ⟨cells, 0, upd_same, ?_, Ne.symm nDp, by omega, by omega⟩
      rw [upd_ne nDp]; exact eD
def spDraw : Sp := fun vs H Q _ => ∃ (a c : Addr) (m : Nat) (lim : Int), vs = [.ref a, .int lim] ∧ Deck H a c (m + 1) ∧ 0 < lim ∧ lim < 1000000 ∧
  ∀ H' r, But a c H H' → Deck H' a c m → 0 ≤ r → r < lim → Q (.int r) H'
theorem ok_draw {f : Addr} {fd : FuncData} {k : Nat} (F : Fun K "_law_draw" "_law_draw" sDraw f fd) (ml : mg "len" = none) (mx : mg "max" = none) : FnOk P w K mg base CX0 (k + 1) f fd ["_law_deck_here", "_law_bound"] spDraw := by
  refine F.ok scDraw (fun vs H Q E h => ?_) (fun cdv A outer s H vs Q E hr h => ?_)
  · obtain ⟨a, c, m, lim, rfl, _⟩ := h
    rfl
  · obtain ⟨a, c, m, lim, rfl, hD, l0, l1, q⟩ := h
    refine ⟨_, pss_cons (ps_asg (pe_op op_add (pe_ix ix_list (pv 0) pe_int (fun _ _ => rfl)) pe_int) (pg_sub (pv 0) pe_int set_list))
      (pss_cons (ps_set (i := 2) scDraw.nd rfl (.inl rfl) (pe_op op_mod (pe_ix ix_list (pv 0) pe_int (fun _ _ => rfl)) (pe_callB (call_max2 rfl) (by rfl) mx (by decide +kernel) (pa_cons pe_int (pa_cons (pe_callB call_len_seq (by rfl) ml PySem.boot_len (pa_cons (pe_ix ix_list (pv 0) pe_int (fun _ _ => rfl)) pa_nil)) pa_nil)))))
      (pss_cons (ps_set (i := 3) scDraw.nd rfl (.inl rfl) (pe_ix ix_list (pe_op op_cat (pe_ix ix_list (pv 0) pe_int (fun _ _ => rfl)) (pe_lst (pa_cons pe_int pa_nil))) (pv 2) (fun _ _ => rfl)))
      (pss_cons (ps_if (pt_cmpR op_ge (pv 3) (pe_op op_pow pe_int pe_int) (nomark _))
        (pss_cons (ps_asg (pe_op op_fdiv (pv 3) (pv 1)) (pg_sub (pe_ix ix_list (pv 0) pe_int (fun _ _ => rfl)) (pv 2) set_list))
          (pss_one (ps_ret (pe_op op_mod (pv 3) (pv 1)))))
        pss_nil)
      (pss_cons (ps_set (i := 4) scDraw.nd rfl (.inl rfl) (pe_op op_mod (pe_op op_pow (pe_op op_add (pe_op op_add (pe_op op_mod (pv 3) pe_int) (pe_op op_mul pe_int (pe_ix ix_list (pv 0) pe_int (fun _ _ => rfl)))) pe_int) pe_int) pe_int))
      (pss_one (ps_ret (pe_op op_mod (pe_op op_add (pe_op op_fdiv (pv 4) pe_int) (pe_op op_mul pe_int (pe_ix ix_list (pv 0) pe_int (fun _ _ => rfl)))) (pv 1)))))))), ?_⟩
    obtain ⟨cells, n, ha, hc, nac, hlen, hn⟩ := hD
    refine ⟨.ref a, rfl, a, _, 1, .int n, rfl, rfl, .inl (.inl ha), atI_nat (j := 1) rfl, n, 1, rfl, rfl, .ref a, rfl, a, _, 1, 1, rfl, rfl, ha, rfl, ?_⟩
    refine gen_heap (fun H1 => H1 a = some (.lst [.ref c, .int ((n : Int) + 1)]) ∧ H1 c = some (.lst (cells.map V.int)) ∧ But a c H H1) ⟨upd_same, by rw [upd_ne (Ne.symm nac)]; exact hc, fun b o h1 _ e => by rw [upd_ne h1]; exact e⟩ fun H1 ⟨ha1, hc1, b1⟩ => ?_
    have has : SqL K H1 a [.ref c, .int ((n : Int) + 1)] := .inl (.inl ha1)
    have hcs : SqL K H1 c (cells.map V.int) := .inl (.inl hc1)
    have hcl : ((cells.map V.int).length : Int) = (cells.length : Int) := by rw [List.length_map]
    obtain ⟨mm, hmm, mm1, mm2⟩ : ∃ mm : Nat, (if ((cells.map V.int).length : Int) > 1 then ((cells.map V.int).length : Int) else 1) = (mm : Int) ∧ 1 ≤ mm ∧ mm ≤ cells.length + 1 := by
      rw [hcl]
      by_cases e : (cells.length : Int) > 1
      · rw [if_pos e]; exact ⟨cells.length, rfl, by omega, by omega⟩
      · rw [if_neg e]; exact ⟨1, rfl, by omega, by omega⟩
    have hmc : mm = cells.length ∨ (cells.length = 0 ∧ mm = 1) := by
      rw [hcl] at hmm
      split at hmm <;> omega
    have l2 := Int.emod_nonneg ((n : Int) + 1) (show ((mm : Int)) ≠ 0 by omega)
    have l3 := Int.emod_lt_of_pos ((n : Int) + 1) (show (0 : Int) < (mm : Int) by omega)
    obtain ⟨j, hj⟩ : ∃ j : Nat, ((n : Int) + 1) % (mm : Int) = (j : Int) := ⟨_, (Int.toNat_of_nonneg l2).symm⟩
    refine ⟨.ref a, rfl, a, _, 1, .int ((n : Int) + 1), rfl, rfl, has, rfl, .ref a, rfl, a, _, 0, .ref c, rfl, rfl, has, rfl, c, _, rfl, .inl hcs, 1, _, rfl, (n : Int) + 1, (mm : Int), rfl, congrArg V.int hmm, (by omega), ?_⟩
    dsimp only
    rw [hj]
    obtain ⟨z, hz⟩ : ∃ z : Int, (cells ++ [0])[j]? = some z := ⟨_, List.getElem?_eq_getElem (by rw [List.length_append]; show j < cells.length + 1; omega)⟩
    have gz : (cells.map V.int ++ [V.int 0])[j]? = some (.int z) := by
      rw [show cells.map V.int ++ [V.int 0] = (cells ++ [0]).map V.int by rw [List.map_append]; rfl, List.getElem?_map, hz]; rfl
    have zin : (10 : Int) ^ 18 ≤ z → j < cells.length := fun hge => by
      rcases Nat.lt_or_ge j cells.length with q' | q'
      · exact q'
      · rw [List.getElem?_append_right q'] at hz
        have : z = 0 := by
          have hm := List.mem_of_getElem? hz
          exact List.mem_singleton.mp hm
        rw [this] at hge
        exact absurd hge (by decide)
    refine ⟨.ref a, rfl, a, _, 0, .ref c, rfl, rfl, has, rfl, by show 1 ≤ sizeLine; decide, fun L nL => ?_⟩
    have sL : Same H1 (upd H1 L (.lst [.int 0])) := same_new nL
    refine ⟨c, L, _, _, rfl, rfl, sL _ _ hc1, upd_same, by rw [List.length_map]; exact Nat.le_of_lt (small1000 (show cells.length + 1 ≤ 1000 by omega)), fun M nM => ?_⟩
    have sM := sL.trans (same_new (o := .lst (cells.map V.int ++ [.int 0])) nM)
    refine ⟨.int (j : Int), rfl, M, _, _, .int z, rfl, rfl, .inl (.inl upd_same), atI_nat gz, ?_⟩
    refine gen_name (fun H2 => H2 a = some (.lst [.ref c, .int ((n : Int) + 1)]) ∧ H2 c = some (.lst (cells.map V.int)) ∧ But a c H H2) ⟨sM _ _ ha1, sM _ _ hc1, b1.trans (But.of sM)⟩ fun H2 ⟨ha2, hc2, b2⟩ => ?_
    have has2 : SqL K H2 a [.ref c, .int ((n : Int) + 1)] := .inl (.inl ha2)
    refine ⟨.int z, rfl, 10, 18, rfl, rfl, ⟨by decide, by decide, by decide⟩, z, _, rfl, rfl, _, rfl, ite2 (fun e => ?_) (fun e => ?_)⟩
    · have ez : (10 : Int) ^ 18 ≤ z := of_decide_eq_true e
      refine ⟨.int z, rfl, .int lim, rfl, z, lim, rfl, rfl, ⟨l0, by omega⟩, .ref a, rfl, a, _, 0, .ref c, rfl, rfl, has2, rfl, .int (j : Int), rfl, c, _, _, j, rfl, rfl, hc2, ixN_nat (by rw [List.length_map]; exact zin ez),
        .int z, rfl, .int lim, rfl, z, lim, rfl, rfl, l0, ?_⟩
      refine q _ _ (b2.trans fun b o _ h2 e => by rw [upd_ne h2]; exact e) ⟨cells.set j (z / lim), n + 1, ?_, ?_, nac, by rw [List.length_set]; exact hlen, by omega⟩ (Int.emod_nonneg _ (by omega)) (Int.emod_lt_of_pos _ l0)
      · rw [upd_ne nac, ha2]; rfl
      · rw [upd_same, List.map_set]
    · have m1 : 0 ≤ z % 2147483563 := Int.emod_nonneg _ (by decide)
      have m2 : z % 2147483563 < 2147483563 := Int.emod_lt_of_pos _ (by decide)
      refine ⟨.int z, rfl, z, 2147483563, rfl, rfl, (by show (0 : Int) < 2147483563; decide), .ref a, rfl, a, _, 1, .int ((n : Int) + 1), rfl, rfl, has2, rfl, 104729, (n : Int) + 1, rfl, rfl, .inl ⟨by decide, by decide⟩, _, _, rfl, rfl, _, 7, rfl, rfl, _, 4, rfl, rfl, ⟨by decide, by decide, ?_⟩,
        _, 2147483629, rfl, rfl, (by show (0 : Int) < 2147483629; decide), ?_⟩
      · omega
      · dsimp only
        generalize (z % 2147483563 + 104729 * ((n : Int) + 1) + 7) ^ (4 : Int).toNat % 2147483629 = my
        refine ⟨.int my, rfl, my, 8, rfl, rfl, ⟨by decide, by decide⟩, .ref a, rfl, a, _, 1, .int ((n : Int) + 1), rfl, rfl, has2, rfl, 31, (n : Int) + 1, rfl, rfl, .inl ⟨by decide, by decide⟩, _, _, rfl, rfl, .int lim, rfl, _, lim, rfl, rfl, l0, ?_⟩
        exact q _ _ b2 ⟨cells, n + 1, by rw [ha2]; rfl, hc2, nac, hlen, by omega⟩ (Int.emod_nonneg _ (by omega)) (Int.emod_lt_of_pos _ l0)
end
end K39
namespace K39
open PySem PySem.Spec PyProof.Rows L2 Pr
def nPanel : List Str := ["_law_deck_here", "_law_most", "_law_n", "_law_way", "_law_found", "_law_button", "_law_own", "_law_other"]
theorem scPanel : FnScope nPanel ["_law_deck_here", "_law_most"] (defScope sPanel) := ⟨rfl, rfl, rfl, by decide +kernel, rfl, by decide +kernel, by decide +kernel⟩
def nRow : List Str := ["_law_deck_here", "_law_n", "_law_most", "_law_few", "_law_way", "_law_k"]
theorem scRow : FnScope nRow ["_law_deck_here", "_law_n", "_law_most"] (defScope sRow) := ⟨rfl, rfl, rfl, by decide +kernel, rfl, by decide +kernel, by decide +kernel⟩
theorem pick5 {y : Int} (h0 : 0 ≤ y) (h1 : y < 5) : ∃ v : Int, atI [V.int 2, .int 5, .int 9, .int 7, .int 1] y = some (.int v) ∧ 0 < v ∧ v < 1000000 := by
  obtain rfl | rfl | rfl | rfl | rfl : y = 0 ∨ y = 1 ∨ y = 2 ∨ y = 3 ∨ y = 4 := by omega
  · exact ⟨2, rfl, by decide, by decide⟩
  · exact ⟨5, rfl, by decide, by decide⟩
  · exact ⟨9, rfl, by decide, by decide⟩
  · exact ⟨7, rfl, by decide, by decide⟩
  · exact ⟨1, rfl, by decide, by decide⟩
def rInt1 : List V → Hp → VK → Prop := fun xs H Q => (∃ i, xs = [V.int i] ∧ Q (V.int i) H) ∨ ∃ k, xs = [V.bl k] ∧ Q (V.int (if k = true then 1 else 0)) H
def upto (nn i : Nat) (l : List Int) : Prop := ∀ x ∈ l, 0 ≤ x ∧ x < (nn : Int) ∧ x ≠ (i : Int)
section
variable {P : Program} {w : World} {K : PySem.W.Frag} {mg : Str → Option Value} {base : Heap}
/-- found.append(tuple(sorted(set(own * ..)))) -/
theorem panel_append {D : Ends} {σ : L2.St} {a c F O : Addr} {m nn i : Nat} {y : Int} {qs : List Addr} {pan : List (List Int)} {l : List Int} {H H8 : Hp} (h3 : σ[3]? = some (some (.int y))) (h4 : σ[4]? = some (some (.ref F))) (h6 : σ[6]? = some (some (.ref O)))
    (nF : H F = none) (b8 : But a c H H8) (D8 : Deck H8 a c m) (Fa : F ≠ a) (Fc : F ≠ c) (hF : H8 F = some (.lst (qs.map V.ref))) (hqs : Paired (fun q l => FT H8 q (l.map V.int)) qs pan) (hO : H8 O = some (.lst (l.map V.int))) (few : qs.length ≤ 100) (n10 : nn ≤ 10) (ll : l.length ≤ 100) (lu : upto nn i l)
    (nx : ∀ H9 q' ms, But a c H H9 → Deck H9 a c m → ms.Pairwise (· < ·) → upto nn i ms → H9 F = some (.lst ((qs ++ [q']).map V.ref)) → Paired (fun q l => FT H9 q (l.map V.int)) (qs ++ [q']) (pan ++ [ms]) → D.nx σ H9) :
    tDrop (tBM K "list" rAppend (tVar 4) (tCons (tCB (rTupF K) (tCons (tCB (rSortedSet w) (tCons (tCB (rSetL' K w) (tCons (tOp rRep (tVar 6) (tCB rInt1 (tCons (tOp rNe (tVar 3) (tC (.int 4))) tNil))) tNil)) tNil)) tNil)) tNil)) D σ H8 := by
  refine ⟨.ref F, h4, .inl ⟨rfl, _, .inl (.inl hF)⟩, .ref O, h6, .int y, h3, rfl, .inr ⟨_, rfl, O, _, _, rfl, rfl, hO, ?_, ?_, ?_, fun O2 nO2 => ?_⟩⟩
  · split <;> omega
  · split <;> omega
  · have : (l.map V.int).length * (if (!decide (V.int y = V.int 4)) = true then (1 : Int) else 0).toNat ≤ 100 := by
      rw [List.length_map]
      split
      · show l.length * 1 ≤ 100; omega
      · show l.length * 0 ≤ 100; omega
    exact Nat.le_of_lt (small1000 (by omega))
  · obtain ⟨l2, hl2, l2l, l2u⟩ : ∃ l2 : List Int, (List.replicate (if (!decide (V.int y = V.int 4)) = true then (1 : Int) else 0).toNat (l.map V.int)).flatten = l2.map V.int ∧ l2.length ≤ 100 ∧ upto nn i l2 := by
      split
      · exact ⟨l, by show (l.map V.int) ++ [] = _; rw [List.append_nil], ll, lu⟩
      · exact ⟨[], rfl, by decide, fun x h => by cases h⟩
    rw [hl2]
    have sO : Same H8 (upd H8 O2 (.lst (l2.map V.int))) := same_new nO2
    refine sortSet_of (w := w) (K := K) (vs := [.ref O2]) (H := upd H8 O2 (.lst (l2.map V.int))) (Q := fun y H2 => rTupF K [y] H2 fun z H4 => rAppend (.ref F) [z] H4 fun _ H6 => D.nx σ H6) ⟨O2, l2, nn, rfl, .inl (.inl upd_same), by omega, by omega, fun x hx => ⟨(l2u x hx).1, (l2u x hx).2.1⟩, fun ms p H9 s9 e9 up mm _ => ?_⟩
    refine ⟨p, _, rfl, .inl (.inl e9), fun t o nt ho => ?_⟩
    have s89 : Same H8 (upd H9 t (.frz o (.tup (ms.map V.int)))) := (sO.trans s9).trans (same_new nt)
    have tF : t ≠ F := Ne.symm (ne_of_none ((sO.trans s9) _ _ hF) nt)
    refine ⟨F, _, .ref t, rfl, rfl, s89 _ _ hF, by rw [List.length_map]; exact small1000 (by omega), ?_⟩
    have keep : ∀ b o', b ≠ F → H8 b = some o' → (upd (upd H9 t (.frz o (.tup (ms.map V.int)))) F (.lst (qs.map V.ref ++ [.ref t]))) b = some o' := fun b o' hb e => by
      rw [upd_ne hb]; exact s89 _ _ e
    refine nx _ t ms (fun b o' h1 h2 e => keep b o' (ne_of_none e nF) (b8 b o' h1 h2 e)) ?_ up (fun x hx => l2u x ((mm x).mp hx)) (by rw [upd_same, List.map_append]; rfl) ?_
    · obtain ⟨cs, n, e1, e2, e3⟩ := D8
      exact ⟨cs, n, keep _ _ (Ne.symm Fa) e1, keep _ _ (Ne.symm Fc) e2, e3⟩
    · refine Paired.snoc (hqs.mono fun q l ⟨oq, e, z⟩ => ⟨oq, keep q _ (ne_of e hF (by intro z; cases z)) e, z⟩) ⟨o, ?_, ho⟩
      rw [upd_ne tF, upd_same]
def spPanel : Sp := fun vs H Q _ => ∃ (a c : Addr) (m : Nat) (most : Int), vs = [.ref a, .int most] ∧ Deck H a c (m + 200) ∧ 1 ≤ most ∧ most ≤ 10 ∧
  ∀ H' p pan, But a c H H' → Deck H' a c m → PanAt H' p pan → Good pan → (pan.length : Int) ≤ most → Q (.ref p) H'
theorem ok_panel {f fD : Addr} {fd fdD : FuncData} {k : Nat} (F : Fun K "_law_panel" "_law_panel" sPanel f fd) (FD : Fun K "_law_draw" "_law_draw" sDraw fD fdD) (bD : Binds K fdD ["_law_deck_here", "_law_bound"] []) (gD : mg "_law_draw" = some (.ref fD))
    (ml : mg "len" = none) (mr : mg "range" = none) (mt : mg "tuple" = none) (mi : mg "int" = none) (mx : mg "max" = none) (mse : mg "set" = none) (mso : mg "sorted" = none) : FnOk P w K mg base CX0 (k + 2) f fd ["_law_deck_here", "_law_most"] spPanel := by
  have GD : FnOk P w K mg base CX0 (k + 1) fD fdD ["_law_deck_here", "_law_bound"] spDraw := ok_draw FD ml mx
  refine F.ok scPanel (fun vs H Q E h => ?_) (fun cdv A outer s H vs Q E hr h => ?_)
  · obtain ⟨a, c, m, most, rfl, _⟩ := h
    rfl
  · obtain ⟨a, c, m, most, rfl, hD, m1, m2, q⟩ := h
    refine ⟨_, pss_cons (ps_asg (pe_tup (pa_cons (pe_op op_add pe_int (pe_call GD hr (by rfl) gD FD.kp bD .nil pass0 (pa_cons (pv 0) (pa_cons (pv 1) pa_nil)))) (pa_cons (pe_call GD hr (by rfl) gD FD.kp bD .nil pass0 (pa_cons (pv 0) (pa_cons pe_int pa_nil))) (pa_cons (pe_lst pa_nil) pa_nil))))
        (pg_tup rfl (pgs_cons (pg_name (i := 2) scPanel.nd rfl (.inl rfl)) (pgs_cons (pg_name (i := 3) scPanel.nd rfl (.inr rfl)) (pgs_cons (pg_name (i := 4) scPanel.nd rfl (.inl rfl)) pgs_nil)))))
      (pss_cons (ps_for PassesOwn.never rfl (pi_range1 (by rfl) mr (pa_cons (pv 2) pa_nil)) (pg_name (i := 5) scPanel.nd rfl (.inr rfl))
        (pss_cons (ps_set (i := 6) scPanel.nd rfl (.inr rfl) (pe_lc (own := [("_law_other", 7)]) (g := gName 7) rfl scPanel.nd (pi_range1 (by rfl) mr (pa_cons (pv 2) pa_nil))
            (blkOk_by (own := [("_law_other", 7)]) (N := nPanel) (sc := defScope sPanel) (by decide +kernel)) (fun _ _ _ _ _ => pg_name (i := 7) scPanel.nd rfl (Or.inl rfl))
            (fun _ _ _ _ _ => pts_one (PW.pt (pw_and (pt_cmpR op_ne (pv 7) (pv 5) (nomark _)) (pw_and1 (pt_cmpR op_eq (pe_call GD hr (by rfl) gD FD.kp bD .nil pass0 (pa_cons (pv 0) (pa_cons (pe_ix (show IxR _ (rIxL K) from ix_list) (pe_lst (pa_cons pe_int (pa_cons pe_int (pa_cons pe_int (pa_cons pe_int (pa_cons pe_int pa_nil)))))) (pv 3) (fun _ _ => rfl)) pa_nil))) pe_int (nomark _))))))
            (fun _ _ _ _ _ => pv 7)))
        (pss_cons (ps_if (pt_cmpR op_eq (pv 3) pe_int (nomark _))
          (pss_one (ps_set (i := 6) scPanel.nd rfl (.inr rfl) (pe_lc (own := [("_law_other", 7)]) (g := gName 7) rfl scPanel.nd (pi_range1 (by rfl) mr (pa_cons (pv 2) pa_nil))
            (blkOk_by (own := [("_law_other", 7)]) (N := nPanel) (sc := defScope sPanel) (by decide +kernel)) (fun _ _ _ _ _ => pg_name (i := 7) scPanel.nd rfl (Or.inl rfl))
            (fun _ _ _ _ _ => pts_one (PW.pt (pw_and (pt_cmpR op_ne (pv 7) (pv 5) (nomark _)) (pw_and1 (pt_cmpR (show OpR _ _ (rIn K true) from op_notIn_seq) (pv 7) (pv 6) (by rfl))))))
            (fun _ _ _ _ _ => pv 7)))) pss_nil)
        (pss_cons (ps_if (PW.pt (pw_and (pt_cmpR op_eq (pv 3) pe_int (nomark _)) (pw_and1 (pt_cmpR op_gt (pv 2) pe_int (nomark _)))))
          (pss_one (ps_set (i := 6) scPanel.nd rfl (.inr rfl) (pe_op op_cat (pv 6) (pe_lst (pa_cons (pe_op op_mod (pe_op op_add (pv 5) pe_int) (pv 2)) pa_nil))))) pss_nil)
        (pss_one (ps_expr (pe_bm PySem.F.plainAttrs_list PySem.F.slot_list_append PySem.F.type_list_append mt_append (pv 4) (pa_cons (pe_callTy call_tupF (by rfl) mt (by decide +kernel) (pa_cons
            (pe_callB (cr_sortedSet rfl) (by rfl) mso (by decide +kernel) (pa_cons (pe_callTy (cr_setL rfl) (by rfl) mse (by decide +kernel) (pa_cons (pe_op op_rep (pv 6) (pe_callTy (show CallR _ _ rInt1 from call_int1) (by rfl) mi (by decide +kernel) (pa_cons (pe_cmpR op_ne (pv 3) pe_int (nomark _)) pa_nil))) pa_nil)) pa_nil)) pa_nil)) pa_nil))))))))
      (pss_one (ps_ret (pe_callTy call_tupF (by rfl) mt (by decide +kernel) (pa_cons (pv 4) pa_nil))))), ?_⟩
    refine ⟨.ref a, rfl, .int most, rfl, a, c, m + 199, most, rfl, hD.less (by omega), by omega, by omega, fun H1 r1 b1 D1 r1a r1b => ?_⟩
    refine ⟨1, r1, rfl, rfl, .ref a, rfl, a, c, m + 198, 5, rfl, D1, by decide, by decide, fun H2 y b2 D2 y0 y5 => ?_⟩
    refine ⟨Nat.zero_le _, fun F nF => ?_⟩
    have sF : Same H2 (upd H2 F (.lst [])) := same_new nF
    refine ⟨by show 3 ≤ sizeLine; decide, fun T nT => ⟨T, _, rfl, .inl (.inl upd_same), rfl, _, _, rfl, _, _, rfl, _, _, rfl, rfl, ?_⟩⟩
    have FD' := D2.fresh nF
    have b12 := b1.trans b2
    have hnF : H F = none := by
      cases e : H F with
      | none => rfl
      | some o =>
        have := b12 F o FD'.1 FD'.2 e
        rw [nF] at this; cases this
    refine gen_heap (fun H4 => But a c H H4 ∧ Deck H4 a c (m + 198) ∧ H4 F = some (.lst [])) ⟨(b12.trans (But.of sF)).trans (But.of (same_new nT)), (D2.same sF).same (same_new nT), (same_new nT) _ _ upd_same⟩ fun H4 ⟨b4, D4, eF4⟩ => ?_
    obtain ⟨nn, hnn⟩ : ∃ nn : Nat, 1 + r1 = (nn : Int) := ⟨(1 + r1).toNat, (Int.toNat_of_nonneg (by omega)).symm⟩
    have nn1 : 1 ≤ nn := by omega
    have nn2 : (nn : Int) ≤ most := by omega
    have nn3 : nn ≤ 10 := by omega
    dsimp only
    rw [hnn]
    refine ⟨.int (nn : Int), rfl, (nn : Int), rfl, by omega, by omega, ?_⟩
    refine for_range (n := nn) (fun i σ H5 => But a c H H5 ∧ Deck H5 a c (m + 10 * (10 - i)) ∧ i ≤ nn ∧
        (∃ (qs : List Addr) (pan : List (List Int)), H5 F = some (.lst (qs.map V.ref)) ∧ Paired (fun q l => FT H5 q (l.map V.int)) qs pan ∧ pan.length = i ∧
          ∀ (j : Nat) (l : List Int), pan[j]? = some l → l.Pairwise (· < ·) ∧ upto nn j l) ∧
        ∃ x5 x6 x7, σ = [some (.ref a), some (.int most), some (.int (nn : Int)), some (.int y), some (.ref F), x5, x6, x7]) ?_ ?_ ?_
    · exact ⟨b4, D4.less (by omega), Nat.zero_le _, ⟨[], [], eF4, .nil, rfl, fun j l h => by simp at h⟩, none, none, none, rfl⟩
    · intro i σ H5 hi hP
      obtain ⟨b5, D5, _, ⟨qs, pan, hF, hqs, hpl, hpan⟩, x5, x6, x7, rfl⟩ := hP
      rw [Int.zero_add]
      have few : qs.length ≤ 100 := by rw [hqs.length, hpl]; omega
      have close : ∀ (H9 : Hp) (q' : Addr) (ms : List Int), But a c H H9 → Deck H9 a c (m + 10 * (10 - (i + 1))) → ms.Pairwise (· < ·) → upto nn i ms → H9 F = some (.lst ((qs ++ [q']).map V.ref)) → Paired (fun q l => FT H9 q (l.map V.int)) (qs ++ [q']) (pan ++ [ms]) →
          But a c H H9 ∧ Deck H9 a c (m + 10 * (10 - (i + 1))) ∧ i + 1 ≤ nn ∧ (∃ (qs : List Addr) (pan : List (List Int)), H9 F = some (.lst (qs.map V.ref)) ∧ Paired (fun q l => FT H9 q (l.map V.int)) qs pan ∧ pan.length = i + 1 ∧
            ∀ (j : Nat) (l : List Int), pan[j]? = some l → l.Pairwise (· < ·) ∧ upto nn j l) := by
        intro H9 q' ms g1 g2 gu gm g3 g4
        refine ⟨g1, g2, hi, _, _, g3, g4, by rw [List.length_append, hpl]; rfl, fun j l' hj => ?_⟩
        by_cases hji : j < i
        · rw [List.getElem?_append_left (by omega)] at hj
          exact hpan j l' hj
        · rw [List.getElem?_append_right (by omega), hpl] at hj
          obtain rfl : j = i := by
            have := (List.getElem?_eq_some_iff.mp hj).1
            rw [List.length_singleton] at this; omega
          rw [Nat.sub_self] at hj
          obtain rfl : ms = l' := by simpa using hj
          exact ⟨gu, gm⟩
      -- own
      refine ⟨.int (nn : Int), rfl, (nn : Int), rfl, by omega, by omega, fun O nO => ?_⟩
      have oO := D5.fresh nO
      refine lc_range (n := nn) (fun k H6 => But a c H5 H6 ∧ Deck H6 a c (m + 10 * (10 - i) - k) ∧ ∃ acc : List Int, H6 O = some (.lst (acc.map V.int)) ∧ acc.length ≤ k ∧ upto nn i acc)
        ⟨But.of (same_new nO), (D5.same (same_new nO)).less (by omega), [], upd_same, Nat.le_refl _, fun x h => by cases h⟩ (fun k H6 hk hP => ?_) (fun H6 hP => ?_)
      · obtain ⟨b6, D6, acc, eO, al, am⟩ := hP
        rw [Int.zero_add]
        refine ⟨rfl, .int (k : Int), rfl, .int (i : Int), rfl, rfl, _, rfl, ite2 (fun e => ?_) (fun e => ?_)⟩
        · have hne : (k : Int) ≠ (i : Int) := fun z => by rw [z] at e; simp at e
          obtain ⟨v, hv, v0, v1⟩ := pick5 y0 y5
          refine ⟨.ref a, rfl, by show 5 ≤ sizeLine; decide, fun L nL => ⟨.int y, rfl, L, _, y, .int v, rfl, rfl, .inl (.inl upd_same), hv, a, c, m + 10 * (10 - i) - (k + 1), v, rfl,
            (D6.same (same_new nL)).less (by omega), v0, v1, fun H8 r b8 D8 r0 r1 => ⟨rfl, _, rfl, ite2 (fun e => ?_) (fun e => ?_)⟩⟩⟩
          all_goals
            have b78 : But a c H6 H8 := (But.of (same_new nL)).trans b8
            have eO8 : H8 O = some (.lst (acc.map V.int)) := b78 _ _ oO.1 oO.2 eO
          · refine ⟨_, rfl, acc.map V.int, eO8, by rw [List.length_map]; exact small1000 (by omega), ?_, ?_, acc ++ [(k : Int)], ?_, by rw [List.length_append]; show acc.length + 1 ≤ k + 1; omega, ?_⟩
            · intro b o h1 h2 e
              rw [upd_ne (ne_of_none e nO)]
              exact b78 _ _ h1 h2 (b6 _ _ h1 h2 e)
            · obtain ⟨cs, n, e1, e2, e3⟩ := D8
              exact ⟨cs, n, by rw [upd_ne (Ne.symm oO.1)]; exact e1, by rw [upd_ne (Ne.symm oO.2)]; exact e2, e3⟩
            · rw [upd_same, List.map_append]; rfl
            · intro x hx
              rcases List.mem_append.mp hx with h | h
              · exact am x h
              · rw [List.mem_singleton.mp h]; omega
          · exact ⟨b6.trans b78, D8, acc, eO8, by omega, am⟩
        · exact iteF ⟨b6, D6.less (by omega), acc, eO, by omega, am⟩
      · obtain ⟨b6, D6, l, eO, ll, lu⟩ := hP
        have b56 := b5.trans b6
        have hF6 := b6 _ _ FD'.1 FD'.2 hF
        have hq6 : Paired (fun q l => FT H6 q (l.map V.int)) qs pan := hqs.mono fun _ _ x => x.but D5 b6
        have D6' : Deck H6 a c (m + 10 * (10 - (i + 1))) := D6.less (by omega)
        by_cases h2 : y = 2
        · -- the others
          subst h2
          refine ⟨.int 2, rfl, rfl, _, rfl, iteT ⟨.int (nn : Int), rfl, (nn : Int), rfl, by omega, by omega, fun O2 nO2 => ?_⟩⟩
          refine lc_range (n := nn) (fun k H7 => Same H6 H7 ∧ ∃ acc : List Int, H7 O2 = some (.lst (acc.map V.int)) ∧ acc.length ≤ k ∧ upto nn i acc)
            ⟨same_new nO2, [], upd_same, Nat.le_refl _, fun x h => by cases h⟩ (fun k H7 hk hP => ?_) (fun H7 hP => ?_)
          · obtain ⟨s7, acc, eO2, al, am⟩ := hP
            rw [Int.zero_add]
            refine ⟨rfl, .int (k : Int), rfl, .int (i : Int), rfl, rfl, _, rfl, ite2 (fun e => ?_) (fun e => ?_)⟩
            · have hne : (k : Int) ≠ (i : Int) := fun z => by rw [z] at e; simp at e
              refine ⟨.int (k : Int), rfl, .ref O, rfl, O, _, rfl, .inl (.inl (.inl (s7 _ _ eO))), rfl, flat_ints _, _, rfl, ite2 (fun e2 => ?_) (fun e2 => ?_)⟩
              · refine ⟨_, rfl, acc.map V.int, eO2, by rw [List.length_map]; exact small1000 (by omega), ?_, acc ++ [(k : Int)], ?_, by rw [List.length_append]; show acc.length + 1 ≤ k + 1; omega, ?_⟩
                · intro b o e
                  rw [upd_ne (ne_of_none e nO2)]
                  exact s7 _ _ e
                · rw [upd_same, List.map_append]; rfl
                · intro x hx
                  rcases List.mem_append.mp hx with h | h
                  · exact am x h
                  · rw [List.mem_singleton.mp h]; omega
              · exact ⟨s7, acc, eO2, by omega, am⟩
            · exact iteF ⟨s7, acc, eO2, by omega, am⟩
          · obtain ⟨s7, acc, eO2, al, am⟩ := hP
            refine ⟨.int 2, rfl, rfl, _, rfl, iteF (iteF ?_)⟩
            refine panel_append (m := m + 10 * (10 - (i + 1))) (l := acc) rfl rfl rfl hnF (b56.trans (But.of s7)) (D6'.same s7) FD'.1 FD'.2 (s7 _ _ hF6) (hq6.mono fun _ _ x => x.same s7) eO2 few nn3 (by omega) am fun H9 q' ms g1 g2 gu gm g3 g4 => ?_
            obtain ⟨r1, r2, r3, r4⟩ := close H9 q' ms g1 g2 gu gm g3 g4
            exact ⟨r1, r2, r3, r4, _, _, _, rfl⟩
        · have n2 : decide (V.int y = V.int 2) = false := decide_eq_false fun z => h2 (V.int.inj z)
          refine ⟨.int y, rfl, rfl, _, rfl, ?_⟩
          rw [n2]
          refine iteF ?_
          by_cases h3 : y = 3
          · subst h3
            refine ⟨.int 3, rfl, rfl, _, rfl, iteT ⟨.int (nn : Int), rfl, _, 1, rfl, rfl, _, rfl, ite2 (fun e => ?_) (fun e => ?_)⟩⟩
            · have hn1 : (1 : Int) < (nn : Int) := of_decide_eq_true e
              refine ⟨.ref O, rfl, .int (i : Int), rfl, _, 1, rfl, rfl, .int (nn : Int), rfl, _, _, rfl, rfl, (by show (0 : Int) < (nn : Int); omega), by show 1 ≤ sizeLine; decide, fun L nL => ?_⟩
              have sL : Same H6 (upd H6 L (.lst [.int (((i : Int) + 1) % (nn : Int))])) := same_new nL
              refine ⟨O, L, _, _, rfl, rfl, sL _ _ eO, upd_same, by rw [List.length_map]; exact Nat.le_of_lt (small1000 (show l.length + 1 ≤ 1000 by omega)), fun O3 nO3 => ?_⟩
              have s3 := sL.trans (same_new (o := .lst (l.map V.int ++ [.int (((i : Int) + 1) % (nn : Int))])) nO3)
              have u3 : upto nn i (l ++ [((i : Int) + 1) % (nn : Int)]) := fun x hx => by
                rcases List.mem_append.mp hx with h | h
                · exact lu x h
                · rw [List.mem_singleton.mp h]
                  have e1 := Int.emod_nonneg ((i : Int) + 1) (show (nn : Int) ≠ 0 by omega)
                  have e2 := Int.emod_lt_of_pos ((i : Int) + 1) (show (0 : Int) < (nn : Int) by omega)
                  refine ⟨e1, e2, fun e3 => ?_⟩
                  by_cases h4 : (i : Int) + 1 < (nn : Int)
                  · rw [Int.emod_eq_of_lt (by omega) h4] at e3; omega
                  · have h5 : (i : Int) + 1 = (nn : Int) := by omega
                    rw [h5, Int.emod_self] at e3; omega
              refine panel_append (m := m + 10 * (10 - (i + 1))) (l := l ++ [((i : Int) + 1) % (nn : Int)]) rfl rfl rfl hnF (b56.trans (But.of s3)) (D6'.same s3) FD'.1 FD'.2 (s3 _ _ hF6) (hq6.mono fun _ _ x => x.same s3) (by rw [upd_same, List.map_append]; rfl) few nn3 (by rw [List.length_append]; show l.length + 1 ≤ 100; omega) u3 fun H9 q' ms g1 g2 gu gm g3 g4 => ?_
              obtain ⟨r1, r2, r3, r4⟩ := close H9 q' ms g1 g2 gu gm g3 g4
              exact ⟨r1, r2, r3, r4, _, _, _, rfl⟩
            · refine panel_append (m := m + 10 * (10 - (i + 1))) (l := l) rfl rfl rfl hnF b56 D6' FD'.1 FD'.2 hF6 hq6 eO few nn3 (by omega) lu fun H9 q' ms g1 g2 gu gm g3 g4 => ?_
              obtain ⟨r1, r2, r3, r4⟩ := close H9 q' ms g1 g2 gu gm g3 g4
              exact ⟨r1, r2, r3, r4, _, _, _, rfl⟩
          · have n3 : decide (V.int y = V.int 3) = false := decide_eq_false fun z => h3 (V.int.inj z)
            refine ⟨.int y, rfl, rfl, _, rfl, ?_⟩
            rw [n3]
            refine iteF (iteF ?_)
            refine panel_append (m := m + 10 * (10 - (i + 1))) (l := l) rfl rfl rfl hnF b56 D6' FD'.1 FD'.2 hF6 hq6 eO few nn3 (by omega) lu fun H9 q' ms g1 g2 gu gm g3 g4 => ?_
            obtain ⟨r1, r2, r3, r4⟩ := close H9 q' ms g1 g2 gu gm g3 g4
            exact ⟨r1, r2, r3, r4, _, _, _, rfl⟩
    · intro σ H5 hP
      obtain ⟨b5, D5, _, ⟨qs, pan, hF, hqs, hpl, hpan⟩, x5, x6, x7, rfl⟩ := hP
      refine ⟨.ref F, rfl, F, _, rfl, .inl (.inl hF), fun l o nl ho => ?_⟩
      have sl : Same H5 (upd H5 l (.frz o (.tup (qs.map V.ref)))) := same_new nl
      refine q _ l pan (b5.trans (But.of sl)) ((D5.same sl).less (by omega)) ⟨qs, ⟨o, upd_same, ho⟩, hqs.mono fun _ _ z => z.same sl⟩ ?_ (by omega)
      have hnn : (pan.length : Int) = (nn : Int) := by omega
      refine ⟨by omega, by omega, fun l hl => ?_, fun l hl => ?_, fun j l hl h => ?_⟩
      · obtain ⟨j, hj⟩ := List.getElem?_of_mem hl
        exact (hpan j l hj).1
      · obtain ⟨j, hj⟩ := List.getElem?_of_mem hl
        intro x hx
        have := (hpan j l hj).2 x hx
        exact ⟨this.1, by omega⟩
      · exact ((hpan j l hl).2 _ h).2.2 rfl
def spRow : Sp := fun vs H Q _ => ∃ (a c : Addr) (m : Nat) (n most : Int), vs = [.ref a, .int n, .int most] ∧ Deck H a c (m + 65) ∧ 1 ≤ n ∧ n < 1000000 ∧ 0 ≤ most ∧ most ≤ 60 ∧
  ∀ (H' : Hp) (t : Addr) (row : List Int), But a c H H' → Deck H' a c m → FT H' t (row.map V.int) → (∀ x ∈ row, 0 ≤ x ∧ x < n) → (row.length : Int) ≤ most → Q (.ref t) H'
theorem ok_row {f fD : Addr} {fd fdD : FuncData} {k : Nat} (F : Fun K "_law_row" "_law_row" sRow f fd) (FD : Fun K "_law_draw" "_law_draw" sDraw fD fdD) (bD : Binds K fdD ["_law_deck_here", "_law_bound"] []) (gD : mg "_law_draw" = some (.ref fD))
    (ml : mg "len" = none) (mr : mg "range" = none) (mt : mg "tuple" = none) (mx : mg "max" = none) : FnOk P w K mg base CX0 (k + 2) f fd ["_law_deck_here", "_law_n", "_law_most"] spRow := by
  have GD : FnOk P w K mg base CX0 (k + 1) fD fdD ["_law_deck_here", "_law_bound"] spDraw := ok_draw FD ml mx
  refine F.ok scRow (fun vs H Q E h => ?_) (fun cdv A outer s H vs Q E hr h => ?_)
  · obtain ⟨a, c, m, n, most, rfl, _⟩ := h
    rfl
  · obtain ⟨a, c, m, n, most, rfl, hD, n1, n2, m1, m2, q⟩ := h
    refine ⟨_, pss_cons (ps_set (i := 3) scRow.nd rfl (.inr rfl) (pe_lst (pa_cons (pe_call GD hr (by rfl) gD FD.kp bD .nil pass0 (pa_cons (pv 0) (pa_cons (pv 1) pa_nil))) (pa_cons (pe_call GD hr (by rfl) gD FD.kp bD .nil pass0 (pa_cons (pv 0) (pa_cons (pv 1) pa_nil))) (pa_cons (pe_call GD hr (by rfl) gD FD.kp bD .nil pass0 (pa_cons (pv 0) (pa_cons (pv 1) pa_nil))) pa_nil)))))
      (pss_cons (ps_set (i := 4) scRow.nd rfl (.inr rfl) (pe_call GD hr (by rfl) gD FD.kp bD .nil pass0 (pa_cons (pv 0) (pa_cons pe_int pa_nil))))
      (pss_one (ps_ret (pe_callTy call_tupF (by rfl) mt (by decide +kernel) (pa_cons
        (pe_lc (own := [("_law_k", 5)]) (g := gName 5) (tt := tYes) rfl scRow.nd (pi_range1 (by rfl) mr (pa_cons (pe_call GD hr (by rfl) gD FD.kp bD .nil pass0 (pa_cons (pv 0) (pa_cons (pe_op op_add (pv 2) pe_int) pa_nil))) pa_nil))
          (blkOk_by (own := [("_law_k", 5)]) (N := nRow) (sc := defScope sRow) (by decide +kernel)) (fun _ _ _ _ _ => pg_name (i := 5) scRow.nd rfl (Or.inl rfl)) (fun _ _ _ _ _ => pts_nil)
          (fun _ _ _ _ _ => pe_ix (show IxR _ (rIxL K) from ix_list) (pe_lst (pa_cons (pe_call GD hr (by rfl) gD FD.kp bD .nil pass0 (pa_cons (pv 0) (pa_cons (pv 1) pa_nil))) (pa_cons (pe_ix (show IxR _ (rIxL K) from ix_list) (pv 3) (pe_op op_mod (pv 5) pe_int) (fun _ _ => rfl)) pa_nil))) (pv 4) (fun _ _ => rfl))) pa_nil))))), ?_⟩
    refine ⟨.ref a, rfl, .int n, rfl, a, c, m + 64, n, rfl, hD.less (by omega), by omega, n2, fun H1 z1 b1 D1 z1a z1b => ?_⟩
    refine ⟨.ref a, rfl, .int n, rfl, a, c, m + 63, n, rfl, D1, by omega, n2, fun H2 z2 b2 D2 z2a z2b => ?_⟩
    refine ⟨.ref a, rfl, .int n, rfl, a, c, m + 62, n, rfl, D2, by omega, n2, fun H3 z3 b3 D3 z3a z3b => ?_⟩
    refine ⟨by show 3 ≤ sizeLine; decide, fun W nW => ?_⟩
    have oW := D3.fresh nW
    refine gen_name (fun H4 => But a c H H4 ∧ Deck H4 a c (m + 62) ∧ H4 W = some (.lst [.int z1, .int z2, .int z3])) ⟨((b1.trans b2).trans b3).trans (But.of (same_new nW)), D3.same (same_new nW), upd_same⟩ fun H4 ⟨b4, D4, eW⟩ => ?_
    refine ⟨.ref a, rfl, a, c, m + 61, 2, rfl, D4, by decide, by decide, fun H5 y b5 D5 y0 y1 => ?_⟩
    have eW5 := b5 _ _ oW.1 oW.2 eW
    refine ⟨.ref a, rfl, .int most, rfl, most, 1, rfl, rfl, a, c, m + 60, most + 1, rfl, D5, by omega, by omega, fun H6 u b6 D6 u0 u1 => ?_⟩
    have eW6 := b6 _ _ oW.1 oW.2 eW5
    obtain ⟨un, rfl⟩ : ∃ un : Nat, u = (un : Int) := ⟨u.toNat, (Int.toNat_of_nonneg u0).symm⟩
    refine ⟨_, rfl, by omega, by omega, fun D nD => ?_⟩
    have oD := D6.fresh nD
    refine lc_range (n := un) (fun i H7 => But a c H6 H7 ∧ Deck H7 a c (m + 60 - i) ∧ ∃ acc : List Int, H7 D = some (.lst (acc.map V.int)) ∧ acc.length = i ∧ ∀ x ∈ acc, 0 ≤ x ∧ x < n)
      ⟨But.of (same_new nD), (D6.same (same_new nD)).less (by omega), [], upd_same, rfl, fun x h => by cases h⟩ (fun i H7 hi hP => ?_) (fun H7 hP => ?_)
    · obtain ⟨b7, D7, acc, eD, al, am⟩ := hP
      rw [Int.zero_add]
      refine ⟨rfl, tyes (iteT ⟨.ref a, rfl, .int n, rfl, a, c, m + 60 - (i + 1), n, rfl, D7.less (by omega), by omega, n2, fun H8 z b8 D8 z0 z1' => ?_⟩)⟩
      have b68 := b7.trans b8
      obtain ⟨v, hv, v0, v1⟩ : ∃ v : Int, atI [V.int z1, V.int z2, V.int z3] ((i : Int) % 3) = some (.int v) ∧ 0 ≤ v ∧ v < n := by
        have e1 := Int.emod_nonneg (i : Int) (show (3 : Int) ≠ 0 by decide)
        have e2 := Int.emod_lt_of_pos (i : Int) (show (0 : Int) < 3 by decide)
        generalize (i : Int) % 3 = g at e1 e2
        obtain rfl | rfl | rfl : g = 0 ∨ g = 1 ∨ g = 2 := by omega
        · exact ⟨z1, rfl, z1a, z1b⟩
        · exact ⟨z2, rfl, z2a, z2b⟩
        · exact ⟨z3, rfl, z3a, z3b⟩
      refine ⟨.ref W, rfl, .int (i : Int), rfl, _, 3, rfl, rfl, (by show (0 : Int) < 3; decide), W, _, _, .int v, rfl, rfl, .inl (.inl (b68 _ _ oW.1 oW.2 eW6)), hv, by show 2 ≤ sizeLine; decide, fun L nL => ?_⟩
      have sL : Same H8 (upd H8 L (.lst [.int z, .int v])) := same_new nL
      obtain ⟨x, hx, x0, x1⟩ : ∃ x : Int, atI [V.int z, V.int v] y = some (.int x) ∧ 0 ≤ x ∧ x < n := by
        obtain rfl | rfl : y = 0 ∨ y = 1 := by omega
        · exact ⟨z, rfl, z0, z1'⟩
        · exact ⟨v, rfl, v0, v1⟩
      refine ⟨.int y, rfl, L, _, _, .int x, rfl, rfl, .inl (.inl upd_same), hx, acc.map V.int, sL _ _ (b8 _ _ oD.1 oD.2 eD), ?_, ?_, ?_, acc ++ [x], ?_, ?_, ?_⟩
      · rw [List.length_map]; exact small1000 (by omega)
      · intro b o h1 h2 e
        rw [upd_ne (ne_of_none e nD)]
        exact sL _ _ (b8 _ _ h1 h2 (b7 _ _ h1 h2 e))
      · obtain ⟨cs, n', e1, e2, e3⟩ := D8.same sL
        exact ⟨cs, n', by rw [upd_ne (Ne.symm oD.1)]; exact e1, by rw [upd_ne (Ne.symm oD.2)]; exact e2, e3⟩
      · rw [upd_same, List.map_append]; rfl
      · rw [List.length_append, al]; rfl
      · intro x' hx'
        rcases List.mem_append.mp hx' with h | h
        · exact am x' h
        · rw [List.mem_singleton.mp h]; exact ⟨x0, x1⟩
    · obtain ⟨b7, D7, acc, eD, al, am⟩ := hP
      refine ⟨D, _, rfl, .inl (.inl eD), fun t o nt ho => ?_⟩
      exact q _ t acc (((b4.trans b5).trans b6).trans (b7.trans (But.of (same_new nt)))) ((D7.same (same_new nt)).less (by omega)) ⟨o, upd_same, ho⟩ am (by omega)
end
end K39
namespace Pr
open PySem PySem.Spec PyProof.Rows L2
section
variable {X : Cx}
def tTupF (t : TA) : TE := fun σ H Q => t σ H fun xs H1 => xs.length ≤ sizeLine ∧ ∀ p o, H1 p = none → o.dict = none → Q (.ref p) (upd H1 p (.frz o (.tup xs)))
theorem pe_tupF {es : List Expr} {t : TA} {x1 : Nat} {pos : Pos} (h : PA X es t) : PE X (.Tuple es x1 pos) (tTupF t) :=
  ⟨fun pins s σ H Q I hq => wpAny_Tuple_spliced (thn (h.run pos pins s σ H _ I hq) fun us s1 ⟨xs, H1, I1, r, z, q⟩ => ⟨r.length ▸ z,
    ⟨.ref s1.heap.objs.size, _, I1.laid (t' := s1.toks) (o := .frz { cls := .type "tuple", data := .seq us.toArray } (.tup xs)) (fun _ _ e => Heap.get?_push_of_some _ e) (Nat.le_refl _) ⟨Heap.get?_push_size _ rfl, z, us, r, IsTup.new _ _⟩, rfl,
      q _ _ (I1.hok.fresh (Nat.le_refl _)) rfl⟩⟩)⟩
/-- (v,) * k of a known tuple -/
def rRepF : R2 := fun x y H Q => ∃ (l : Addr) (v : V) (k : Nat), x = .ref l ∧ y = .int (k : Int) ∧ FT H l [v] ∧ 1 ≤ k ∧ k ≤ 1000 ∧ ∀ p H', Same H H' → FT H' p (List.replicate k v) → Q (.ref p) H'
theorem op_repF : OpR X (binaryOp .Mult) rRepF := by
  intro pins s σ H x y u1 u2 Q I rx ry h
  obtain ⟨l, v, k, rfl, rfl, hF, h1, h2, q⟩ := h
  by_cases e1 : k = 1
  · subst e1
    exact op_rep1 pins s σ H _ _ u1 u2 Q I rx ry ⟨l, v, rfl, hF.sq, .inl ⟨rfl, q l H (Same.refl _) hF⟩⟩
  · cases rx
    obtain ⟨tk, rfl⟩ := ry
    obtain ⟨its, r, ⟨⟨cls, dd, data, sl⟩, ho, hc, n, hd⟩, hs⟩ := I.tuple (hF.sq (K := X.K))
    simp only at hc hd
    subst hc hd
    obtain ⟨a, rfl, ra⟩ := vals1 r
    have big : (List.replicate k [a]).flatten.length ≤ sizeLine := by
      rw [rep_flat, List.length_replicate, sizeLine_eq]; omega
    have sz : (([a] : List Value).toArray.size : Int) * (k : Int) = (k : Int) := by
      show (1 : Int) * (k : Int) = _
      omega
    have big2 : (List.foldl (fun x1 x2 => x1 ++ x2) #[] (List.replicate ((k : Int)).toNat ([a] : List Value).toArray)).size ≤ sizeLine := by
      rw [size_rep, List.size_toArray, Int.toNat_natCast]; exact big
    refine wpAny_binaryOp_repeat_ref (T := "tuple") (U := "int") (by decide) ⟨_, ho, rfl⟩ (fun s' => typeIs_int s' (k : Int) tk) noFill_tuple_mul F.fills_int_mul F.slot_int_rmul repeat_tuple F.slot_int_index.lookup ?_
    refine call_meets F.slot_int_rmul (typeIs_int s (k : Int) tk) F.entry_int_rmul (F.args_int_rmul_2 _ _) (int_rmul_tuple (k : Int) tk l _ n dd sl) ⟨ho, rfl, ⟨_, ho, rfl⟩, ?_⟩
    refine call_meets F.slot_tuple_mul ⟨_, ho, rfl⟩ F.entry_tuple_mul (F.args_tuple_mul_2 _ _) (tuple_mulW l _ n dd sl (k : Int) tk ?_ ?_ ?_ ?_ ?_ big2) ⟨ho, ?_⟩
    · rw [decide_eq_false (by omega), decide_eq_false (by omega)]; rfl
    · show (false || ((k : Int) == 1)) = false
      rw [Bool.false_or]; exact beq_eq_false_iff_ne.mpr (by omega)
    · rw [decide_eq_false (by omega)]; rfl
    · rw [sz]; omega
    · unfold Builtin.Tuple.tupleTooMany
      rw [sz, sizeLine_eq]; exact decide_eq_false (by omega)
    · rw [size_rep, Int.toNat_natCast]
      have rr := r.rep k
      refine ⟨.ref s.heap.objs.size, _, I.laid (t' := s.toks) (o := .frz { cls := .type "tuple", data := .seq (List.replicate k [a]).flatten.toArray } (.tup (List.replicate k [v]).flatten)) (fun _ _ e => Heap.get?_push_of_some _ e) (Nat.le_refl _) ⟨Heap.get?_push_size _ rfl, ?_, _, rr, IsTup.new _ _⟩, rfl,
        q _ _ (same_new (I.hok.fresh (Nat.le_refl _))) ⟨_, by rw [upd_same, rep_flat (v := v)], rfl⟩⟩
      rw [rep_flat, List.length_replicate, sizeLine_eq]; omega
/-- t + u, one way on -/
def rCatS (K : PySem.W.Frag) : R2 := fun x y H Q => ∃ a b xs ys, x = .ref a ∧ y = .ref b ∧ SqT K H a xs ∧ SqT K H b ys ∧ xs.length + ys.length ≤ sizeLine ∧ ∀ p H', Same H H' → SqT K H' p (xs ++ ys) → Q (.ref p) H'
theorem op_catS : OpR X (binaryOp .Add) (rCatS X.K) := by
  intro pins s σ H x y u1 u2 Q I rx ry h
  obtain ⟨a, b, xs, ys, rfl, rfl, ha, hb, hz, q⟩ := h
  refine op_catA pins s σ H _ _ u1 u2 Q I rx ry ⟨a, b, xs, ys, rfl, rfl, ha, hb, hz, fun e => q b H (Same.refl _) ?_, fun _ e => q a H (Same.refl _) ?_, fun _ _ p np => q p _ (same_new np) (.inl (.inl upd_same))⟩
  · rw [e]; exact hb
  · rw [e, List.append_nil]; exact ha
/-- t[lo:hi], one way on -/
def rSlS (K : PySem.W.Frag) : V → Option Int → Option Int → Hp → VK → Prop := fun x lo hi H Q => ∃ a xs, x = .ref a ∧ SqT K H a xs ∧ ∀ p H', Same H H' → SqT K H' p (cutV xs lo hi) → Q (.ref p) H'
theorem sl_tupS : SlR X (rSlS X.K) := by
  intro pins s σ H x v vl vu lo hi sl Q I rx hs pl pu h
  obtain ⟨a, xs, rfl, ha, q⟩ := h
  refine sl_tupA pins s σ H _ v vl vu lo hi sl Q I rx hs pl pu ⟨a, xs, rfl, ha, fun e => q a H (Same.refl _) ?_, fun _ p np => q p _ (same_new np) (.inl (.inl upd_same))⟩
  have : cutV xs lo hi = xs := by
    unfold cutV
    rw [e.1, e.2, List.drop_zero, Nat.sub_zero, List.take_length]
  rw [this]; exact ha
end
end Pr
namespace K39
open PySem PySem.Spec PyProof.Rows L2 Pr
theorem scNo : FnScope ["panel"] ["panel"] (defScope sNo) := ⟨rfl, rfl, rfl, by decide +kernel, rfl, by decide +kernel, by decide +kernel⟩
theorem scPressE : FnScope ["panel", "button", "words", "other"] ["panel", "button"] (defScope sPressE) := ⟨rfl, rfl, rfl, by decide +kernel, rfl, by decide +kernel, by decide +kernel⟩
def nJoin : List Str := ["first", "second", "early", "late"]
theorem scJoin : FnScope nJoin ["first", "second"] (defScope sJoin) := ⟨rfl, rfl, rfl, by decide +kernel, rfl, by decide +kernel, by decide +kernel⟩
theorem scWith : FnScope ["panel", "effect", "button"] ["panel", "effect", "button"] (defScope sWith) := ⟨rfl, rfl, rfl, by decide +kernel, rfl, by decide +kernel, by decide +kernel⟩
theorem scEff : FnScope ["panel", "row", "effect", "button"] ["panel", "row"] (defScope sEff) := ⟨rfl, rfl, rfl, by decide +kernel, rfl, by decide +kernel, by decide +kernel⟩
section
variable {P : Program} {w : World} {K : PySem.W.Frag} {mg : Str → Option Value} {base : Heap}
def spNo (K : PySem.W.Frag) : Sp := fun vs H Q _ => ∃ (p : Addr) (pan : List (List Int)), vs = [.ref p] ∧ PanT K H p pan ∧ Good pan ∧
  ∀ H' t, Same H H' → FT H' t ((effM pan []).map V.str) → Q (.ref t) H'
theorem ok_no {f : Addr} {fd : FuncData} {k : Nat} (F : Fun K "no_effect" "no_effect" sNo f fd) (ml : mg "len" = none) : FnOk P w K mg base CX0 (k + 1) f fd ["panel"] (spNo K) := by
  refine F.ok scNo (fun vs H Q E h => ?_) (fun cdv A outer s H vs Q E hr h => ?_)
  · obtain ⟨p, pan, rfl, _⟩ := h
    rfl
  · obtain ⟨p, pan, rfl, hp, hg, q⟩ := h
    refine ⟨_, pss_one (ps_ret (pe_op op_repF (pe_tupF (pa_cons pe_str pa_nil)) (pe_callB call_len_seq (by rfl) ml PySem.boot_len (pa_cons (pv 0) pa_nil)))), ?_⟩
    obtain ⟨xs, hxs, hl⟩ := hp.len
    have few := hg.few
    have pos := hg.pos
    refine ⟨by show 1 ≤ sizeLine; decide, fun T o nT ho => ?_⟩
    have sT : Same H (upd H T (.frz o (.tup [.str wSame]))) := same_new nT
    refine ⟨.ref p, rfl, p, _, rfl, .inr (same_sqT sT hxs), T, .str wSame, pan.length, rfl, by rw [hl], ⟨o, upd_same, ho⟩, pos, by omega, fun t H' s' ht => q H' t (sT.trans s') ?_⟩
    rw [effM_nil, List.map_replicate]; exact ht
def spPressE (K : PySem.W.Frag) : Sp := fun vs H Q _ => ∃ (p : Addr) (pan : List (List Int)) (b : Int), vs = [.ref p, .int b] ∧ PanT K H p pan ∧ Good pan ∧ 0 ≤ b ∧ b < (pan.length : Int) ∧
  ∀ H' t, Same H H' → H' t = some (.tup ((pressW pan b).map V.str)) → Q (.ref t) H'
theorem ok_pressE {f fN : Addr} {fd fdN : FuncData} {k : Nat} (F : Fun K "press_effect" "press_effect" sPressE f fd) (FN : Fun K "no_effect" "no_effect" sNo fN fdN) (bN : Binds K fdN ["panel"] []) (gN : mg "no_effect" = some (.ref fN))
    (ml : mg "len" = none) (mli : mg "list" = none) (mt : mg "tuple" = none) : FnOk P w K mg base CX0 (k + 2) f fd ["panel", "button"] (spPressE K) := by
  have GN : FnOk P w K mg base CX0 (k + 1) fN fdN ["panel"] (spNo K) := ok_no FN ml
  refine F.ok scPressE (fun vs H Q E h => ?_) (fun cdv A outer s H vs Q E hr h => ?_)
  · obtain ⟨p, pan, b, rfl, _⟩ := h
    rfl
  · obtain ⟨p, pan, b, rfl, hp, hg, b0, b1, q⟩ := h
    refine ⟨_, pss_cons (ps_set (i := 2) scPressE.nd rfl (.inl rfl) (pe_callTy call_list_of (by rfl) mli (by decide +kernel) (pa_cons (pe_call GN hr (by rfl) gN FN.kp bN .nil pass0 (pa_cons (pv 0) pa_nil)) pa_nil)))
      (pss_cons (ps_asg pe_str (pg_sub (pv 2) (pv 1) set_list))
      (pss_cons (ps_for PassesOwn.never rfl (pi_tup (pe_ix ix_tup (pv 0) (pv 1) (fun _ _ => rfl))) (pg_name (i := 3) scPressE.nd rfl (.inl rfl))
        (pss_one (ps_asg pe_str (pg_sub (pv 2) (pv 3) set_list))))
      (pss_one (ps_ret (pe_callTy call_tuple_of (by rfl) mt (by decide +kernel) (pa_cons (pv 2) pa_nil)))))), ?_⟩
    refine ⟨.ref p, rfl, p, pan, rfl, hp, hg, fun H1 t s1 et => ?_⟩
    refine ⟨t, _, rfl, .inr et.sq, fun W nW => ?_⟩
    have s2 : Same H (upd H1 W (.lst ((effM pan []).map V.str))) := s1.trans (same_new nW)
    have nW' : H W = none := s1.free nW
    obtain ⟨bn, rfl⟩ : ∃ bn : Nat, b = (bn : Int) := ⟨b.toNat, (Int.toNat_of_nonneg b0).symm⟩
    have hbn : bn < pan.length := by omega
    refine ⟨.ref W, rfl, .int (bn : Int), rfl, W, _, _, bn, rfl, rfl, upd_same, ixN_nat (by rw [List.length_map, effM_len]; exact hbn), ?_⟩
    obtain ⟨qs, q', hq, ha, hr', _⟩ := panT_at hp (b := (bn : Int)) b0 b1
    have s3 : Same H (upd (upd H1 W (.lst ((effM pan []).map V.str))) W (.lst (((effM pan []).map V.str).set bn (.str wOn)))) := fun x o e => by
      rw [upd_ne (ne_of_none e nW')]; exact s2 _ _ e
    refine ⟨.ref p, rfl, .int (bn : Int), rfl, p, _, _, .ref q', rfl, rfl, same_sqT s3 hq, ha, q', rfl, ⟨_, same_sqT s3 hr'⟩, ?_⟩
    generalize hl0 : pan.getD ((bn : Int)).toNat [] = l at hr'
    have hin : ∀ x ∈ l, 0 ≤ x ∧ x < (pan.length : Int) := fun x hx => by
      rw [← hl0, Int.toNat_natCast, List.getD_eq_getElem?_getD, List.getElem?_eq_getElem hbn] at hx
      exact hg.rng _ (List.getElem_mem hbn) x hx
    refine for_tup (xs := l.map V.int) (fun i σ H4 => Same H H4 ∧ H4 W = some (.lst (((List.range pan.length).map (onM (l.take i) (bn : Int))).map V.str)) ∧ ∃ x3, σ = [some (.ref p), some (.int (bn : Int)), some (.ref W), x3])
      ⟨s3, ?_, none, rfl⟩ (fun i σ H4 _ hP => same_sqT hP.1 hr') (fun i x σ H4 hx hP => ?_) (fun σ H4 hP => ?_)
    · rw [upd_same, effM_nil, replicate_map_range, List.map_map, set_map_range, List.map_map]
      refine congrArg _ (congrArg _ (List.map_congr_left fun c _ => ?_))
      show (if c = bn then V.str wOn else V.str wSame) = V.str (onM [] (bn : Int) c)
      unfold onM
      have e0 : ¬ ((c : Int) ∈ ([] : List Int)) := by simp
      by_cases e : c = bn
      · have e1 : (c : Int) = (bn : Int) := by omega
        rw [if_pos e, if_neg e0, if_pos e1]
      · have e1 : ¬ (c : Int) = (bn : Int) := by omega
        rw [if_neg e, if_neg e0, if_neg e1]
    · obtain ⟨s4, eW, x3, rfl⟩ := hP
      obtain ⟨z, hz, rfl⟩ := int_get hx
      have hzr := hin z (List.mem_of_getElem? hz)
      obtain ⟨zn, rfl⟩ : ∃ zn : Nat, z = (zn : Int) := ⟨z.toNat, (Int.toNat_of_nonneg hzr.1).symm⟩
      refine ⟨.ref W, rfl, .int (zn : Int), rfl, W, _, _, zn, rfl, rfl, eW, ixN_nat (by rw [List.length_map, List.length_map, List.length_range]; omega), ?_, ?_, _, rfl⟩
      · intro b o e
        rw [upd_ne (ne_of_none e nW')]; exact s4 _ _ e
      · rw [upd_same, List.map_map, set_map_range, List.map_map]
        refine congrArg _ (congrArg _ (List.map_congr_left fun c _ => ?_))
        show (if c = zn then V.str wOff else V.str (onM (l.take i) (bn : Int) c)) = V.str (onM (l.take (i + 1)) (bn : Int) c)
        unfold onM
        rw [List.take_add_one, hz]
        by_cases e : c = zn
        · rw [if_pos e, if_pos (by rw [e]; simp)]
        · have hne : (c : Int) ≠ (zn : Int) := by omega
          rw [if_neg e]
          congr 1
          by_cases e2 : (c : Int) ∈ l.take i
          · rw [if_pos e2, if_pos (List.mem_append_left _ e2)]
          · rw [if_neg e2, if_neg fun h => (List.mem_append.mp h).elim e2 fun h => hne (by simpa using h)]
    · obtain ⟨s4, eW, x3, rfl⟩ := hP
      rw [List.length_map, List.take_length] at eW
      refine ⟨.ref W, rfl, W, _, rfl, .inl ⟨.inl (.inl eW), fun t nt => q _ t (s4.trans (same_new nt)) ?_⟩⟩
      rw [upd_same]
      unfold pressW
      rw [hl0]
def spJoin (K : PySem.W.Frag) : Sp := fun vs H Q _ => ∃ (a b : Addr) (xs ys : List Str), vs = [.ref a, .ref b] ∧ SqT K H a (xs.map V.str) ∧ SqT K H b (ys.map V.str) ∧ xs.length = ys.length ∧ ys.length ≤ 100 ∧
  ∀ H' t, Same H H' → FT H' t ((joinM xs ys).map V.str) → Q (.ref t) H'
theorem ok_join {f : Addr} {fd : FuncData} {k : Nat} (F : Fun K "joined_effect" "joined_effect" sJoin f fd) (mz : mg "zip" = none) (mt : mg "tuple" = none) : FnOk P w K mg base CX0 (k + 1) f fd ["first", "second"] (spJoin K) := by
  refine F.ok scJoin (fun vs H Q E h => ?_) (fun cdv A outer s H vs Q E hr h => ?_)
  · obtain ⟨a, b, xs, ys, rfl, _⟩ := h
    rfl
  · obtain ⟨a, b, xs, ys, rfl, ha, hb, hl, few, q⟩ := h
    refine ⟨_, pss_one (ps_ret (pe_callTy call_tupF (by rfl) mt (by decide +kernel) (pa_cons
      (pe_lc (own := [("early", 2), ("late", 3)]) (g := gTup K 2 (gCons (gName 2) (gCons (gName 3) gNil))) (tt := tYes) rfl scJoin.nd (RZ.pi_zipA (by rfl) mz (pa_cons (pv 0) (pa_cons (pv 1) pa_nil)))
        (blkOk_by (own := [("early", 2), ("late", 3)]) (N := nJoin) (sc := defScope sJoin) (by decide +kernel))
        (fun _ _ _ _ _ => pg_tup rfl (pgs_cons (pg_name (i := 2) scJoin.nd rfl (Or.inl rfl)) (pgs_cons (pg_name (i := 3) scJoin.nd rfl (Or.inl rfl)) pgs_nil)))
        (fun _ _ _ _ _ => pts_nil)
        (fun _ _ _ _ _ => pe_ifExp (pt_cmpR op_eq (pv 3) pe_str (nomark _)) (pv 2) (pv 3))) pa_nil))), ?_⟩
    refine ⟨.ref a, rfl, .ref b, rfl, a, b, _, _, rfl, .inr ⟨ha, hb, fun D nD => ?_⟩⟩
    have hjl := joinM_len hl
    refine lc_it (walk_zipT (n := ys.length) (xs := xs.map V.str) (ys := ys.map V.str) (by rw [List.length_map, List.length_map, hl, Nat.min_self])) (fun i H3 => Same H H3 ∧ H3 D = some (.lst (((joinM xs ys).take i).map V.str))) ⟨same_new nD, upd_same⟩
      (fun i H3 _ hP => ⟨same_sqT hP.1 ha, same_sqT hP.1 hb⟩) (fun i x H3 H4 hi hP hY => ?_) (fun H3 hP => ?_)
    · obtain ⟨s3, eD⟩ := hP
      obtain ⟨T, x1, x2, rfl, nT, rfl, e1, e2⟩ := hY
      obtain ⟨y1, f1, rfl⟩ := str_get e1
      obtain ⟨y2, f2, rfl⟩ := str_get e2
      have sT : Same H3 (upd H3 T (.tup [.str y1, .str y2])) := same_new nT
      have eD4 := sT _ _ eD
      have g := joinM_get f1 f2
      have fin : ∀ v : V, v = .str (if y2 = wSame then y1 else y2) → ∃ acc, (upd H3 T (.tup [.str y1, .str y2])) D = some (.lst acc) ∧ acc.length < sizeLine ∧ Same H (upd (upd H3 T (.tup [.str y1, .str y2])) D (.lst (acc ++ [v]))) ∧
          (upd (upd H3 T (.tup [.str y1, .str y2])) D (.lst (acc ++ [v]))) D = some (.lst (((joinM xs ys).take (i + 1)).map V.str)) := by
        intro v hv
        refine ⟨_, eD4, ?_, ?_, ?_⟩
        · rw [List.length_map, List.length_take]; exact small1000 (by omega)
        · intro b' o e
          rw [upd_ne (ne_of_none e nD)]
          exact sT _ _ (s3 _ _ e)
        · rw [upd_same, List.take_add_one, g, List.map_append, hv]; rfl
      refine ⟨T, _, rfl, .inl (.inl upd_same), rfl, _, _, rfl, _, _, rfl, rfl, rfl, tyes (iteT ⟨.str y2, rfl, rfl, _, rfl, ite2 (fun e => ?_) (fun e => ?_)⟩)⟩
      · have e' : y2 = wSame := V.str.inj (of_decide_eq_true e)
        exact ⟨.str y1, rfl, fin _ (by rw [if_pos e'])⟩
      · have e' : y2 ≠ wSame := fun z => e (by rw [z]; exact decide_eq_true rfl)
        exact ⟨.str y2, rfl, fin _ (by rw [if_neg e'])⟩
    · obtain ⟨s3, eD⟩ := hP
      rw [List.take_of_length_le (by rw [hjl]; exact Nat.le_refl _)] at eD
      refine ⟨D, _, rfl, .inl (.inl eD), fun t o nt ho => ?_⟩
      exact q _ t (s3.trans (same_new nt)) ⟨o, upd_same, ho⟩
def spWith (K : PySem.W.Frag) : Sp := fun vs H Q _ => ∃ (p t : Addr) (pan : List (List Int)) (xs : List Str) (b : Int), vs = [.ref p, .ref t, .int b] ∧ PanT K H p pan ∧ Good pan ∧ SqT K H t (xs.map V.str) ∧ xs.length = pan.length ∧ 0 ≤ b ∧ b < (pan.length : Int) ∧
  ∀ H' u, Same H H' → FT H' u ((joinM xs (pressW pan b)).map V.str) → Q (.ref u) H'
theorem ok_with {f fN fP fJ : Addr} {fd fdN fdP fdJ : FuncData} {k : Nat} (F : Fun K "effect_with_press" "effect_with_press" sWith f fd) (FN : Fun K "no_effect" "no_effect" sNo fN fdN) (bN : Binds K fdN ["panel"] []) (gN : mg "no_effect" = some (.ref fN))
    (FP : Fun K "press_effect" "press_effect" sPressE fP fdP) (bP : Binds K fdP ["panel", "button"] []) (gP : mg "press_effect" = some (.ref fP))
    (FJ : Fun K "joined_effect" "joined_effect" sJoin fJ fdJ) (bJ : Binds K fdJ ["first", "second"] []) (gJ : mg "joined_effect" = some (.ref fJ))
    (ml : mg "len" = none) (mli : mg "list" = none) (mt : mg "tuple" = none) (mz : mg "zip" = none) : FnOk P w K mg base CX0 (k + 3) f fd ["panel", "effect", "button"] (spWith K) := by
  have GP : FnOk P w K mg base CX0 (k + 2) fP fdP ["panel", "button"] (spPressE K) := ok_pressE FP FN bN gN ml mli mt
  have GJ : FnOk P w K mg base CX0 (k + 2) fJ fdJ ["first", "second"] (spJoin K) := ok_join FJ mz mt
  refine F.ok scWith (fun vs H Q E h => ?_) (fun cdv A outer s H vs Q E hr h => ?_)
  · obtain ⟨p, t, pan, xs, b, rfl, _⟩ := h
    rfl
  · obtain ⟨p, t, pan, xs, b, rfl, hp, hg, ht, hxl, b0, b1, q⟩ := h
    refine ⟨_, pss_one (ps_ret (pe_call GJ hr (by rfl) gJ FJ.kp bJ .nil pass0 (pa_cons (pv 1) (pa_cons (pe_call GP hr (by rfl) gP FP.kp bP .nil pass0 (pa_cons (pv 0) (pa_cons (pv 2) pa_nil))) pa_nil)))), ?_⟩
    have few := hg.few
    refine ⟨.ref t, rfl, .ref p, rfl, .int b, rfl, p, pan, b, rfl, hp, hg, b0, b1, fun H1 u s1 eu => ?_⟩
    exact ⟨t, u, xs, pressW pan b, rfl, same_sqT s1 ht, .inl (.inl eu), by rw [pressW_len, hxl], by rw [pressW_len]; omega, fun H2 v s2 ev => q _ v (s1.trans s2) ev⟩
def spEff (K : PySem.W.Frag) : Sp := fun vs H Q _ => ∃ (p r : Addr) (pan : List (List Int)) (row : List Int), vs = [.ref p, .ref r] ∧ PanT K H p pan ∧ Good pan ∧ SqT K H r (row.map V.int) ∧ (∀ x ∈ row, 0 ≤ x ∧ x < (pan.length : Int)) ∧
  ∀ H' u, Same H H' → FT H' u ((effM pan row).map V.str) → Q (.ref u) H'
theorem ok_eff {f fN fP fJ fW : Addr} {fd fdN fdP fdJ fdW : FuncData} {k : Nat} (F : Fun K "effect_of" "effect_of" sEff f fd) (FN : Fun K "no_effect" "no_effect" sNo fN fdN) (bN : Binds K fdN ["panel"] []) (gN : mg "no_effect" = some (.ref fN))
    (FP : Fun K "press_effect" "press_effect" sPressE fP fdP) (bP : Binds K fdP ["panel", "button"] []) (gP : mg "press_effect" = some (.ref fP))
    (FJ : Fun K "joined_effect" "joined_effect" sJoin fJ fdJ) (bJ : Binds K fdJ ["first", "second"] []) (gJ : mg "joined_effect" = some (.ref fJ))
    (FW : Fun K "effect_with_press" "effect_with_press" sWith fW fdW) (bW : Binds K fdW ["panel", "effect", "button"] []) (gW : mg "effect_with_press" = some (.ref fW))
    (ml : mg "len" = none) (mli : mg "list" = none) (mt : mg "tuple" = none) (mz : mg "zip" = none) : FnOk P w K mg base CX0 (k + 4) f fd ["panel", "row"] (spEff K) := by
  have GN : FnOk P w K mg base CX0 (k + 3) fN fdN ["panel"] (spNo K) := ok_no FN ml
  have GW : FnOk P w K mg base CX0 (k + 3) fW fdW ["panel", "effect", "button"] (spWith K) := ok_with FW FN bN gN FP bP gP FJ bJ gJ ml mli mt mz
  refine F.ok scEff (fun vs H Q E h => ?_) (fun cdv A outer s H vs Q E hr h => ?_)
  · obtain ⟨p, r, pan, row, rfl, _⟩ := h
    rfl
  · obtain ⟨p, r, pan, row, rfl, hp, hg, hrow, hin, q⟩ := h
    refine ⟨_, pss_cons (ps_set (i := 2) scEff.nd rfl (.inl rfl) (pe_call GN hr (by rfl) gN FN.kp bN .nil pass0 (pa_cons (pv 0) pa_nil)))
      (pss_cons (ps_for PassesOwn.never rfl (pi_tup (pv 1)) (pg_name (i := 3) scEff.nd rfl (.inl rfl))
        (pss_one (ps_set (i := 2) scEff.nd rfl (.inl rfl) (pe_call GW hr (by rfl) gW FW.kp bW .nil pass0 (pa_cons (pv 0) (pa_cons (pv 2) (pa_cons (pv 3) pa_nil)))))))
      (pss_one (ps_ret (pv 2)))), ?_⟩
    refine ⟨.ref p, rfl, p, pan, rfl, hp, hg, fun H1 t s1 et => ?_⟩
    refine ⟨.ref r, rfl, r, rfl, ⟨_, same_sqT s1 hrow⟩, ?_⟩
    refine for_tup (xs := row.map V.int) (fun i σ H2 => Same H H2 ∧ ∃ u x3, FT H2 u ((effM pan (row.take i)).map V.str) ∧ σ = [some (.ref p), some (.ref r), some (.ref u), x3])
      ⟨s1, t, _, et, rfl⟩ (fun i σ H2 _ hP => same_sqT hP.1 hrow) (fun i x σ H2 hx hP => ?_) (fun σ H2 hP => ?_)
    · obtain ⟨s2, u, x3, eu, rfl⟩ := hP
      obtain ⟨b, hb, rfl⟩ := int_get hx
      have hbr := hin b (List.mem_of_getElem? hb)
      refine ⟨.ref p, rfl, .ref u, rfl, .int b, rfl, p, u, pan, _, b, rfl, hp.same s2, hg, eu.sq, effM_len _ _, hbr.1, hbr.2, fun H3 v s3 ev => ⟨s2.trans s3, v, _, ?_, rfl⟩⟩
      rw [← eff_take hg hb hbr.1 hbr.2]; exact ev
    · obtain ⟨s2, u, x3, eu, rfl⟩ := hP
      rw [List.length_map, List.take_length] at eu
      exact ⟨.ref u, rfl, q _ u s2 eu⟩
end
end K39
namespace Pr
open PySem PySem.Spec PyProof.Rows L2
mutual
inductive Dq (K : PySem.W.Frag) (N : Addr → Prop) (H : Hp) : V → PyData → Prop
  | non : Dq K N H .non .none
  | bl (b : Bool) : Dq K N H (.bl b) (.bool b)
  | int (i : Int) : Dq K N H (.int i) (.int i)
  | str (x : Str) : Dq K N H (.str x) (.str x)
  | lst {l : Addr} {xs : List V} {ds : List PyData} : l ≠ sysModules → ¬ N l → H l = some (.lst xs) → DqAll K N H xs ds → Dq K N H (.ref l) (.list ds)
  | tup {l : Addr} {xs : List V} {ds : List PyData} : SqT K H l xs → DqAll K N H xs ds → Dq K N H (.ref l) (.tuple ds)
  | dct0 {l : Addr} : H l = some (.dK []) → Dq K N H (.ref l) (.dict [])
  | dct1 {l : Addr} {x : Str} {i : Int} : H l = some (.dK [(Sum.inr x, .int i)]) → Dq K N H (.ref l) (.dict [(.str x, .int i)])
inductive DqAll (K : PySem.W.Frag) (N : Addr → Prop) (H : Hp) : List V → List PyData → Prop
  | nil : DqAll K N H [] []
  | cons {v : V} {vs : List V} {d : PyData} {ds : List PyData} : Dq K N H v d → DqAll K N H vs ds → DqAll K N H (v :: vs) (d :: ds)
end
section
variable {K : PySem.W.Frag} {N : Addr → Prop} {a c : Addr} {H H' : Hp}
theorem DqAll.length : ∀ {vs : List V} {ds : List PyData}, DqAll K N H vs ds → vs.length = ds.length
  | _, _, .nil => rfl
  | _, _, .cons _ t => by rw [List.length_cons, List.length_cons, t.length]
theorem DqAll.append : ∀ {vs us : List V} {ds es : List PyData}, DqAll K N H vs ds → DqAll K N H us es → DqAll K N H (vs ++ us) (ds ++ es)
  | _, _, _, _, .nil, h => h
  | _, _, _, _, .cons r t, h => .cons r (t.append h)
theorem DqAll.get : ∀ {vs : List V} {ds : List PyData}, DqAll K N H vs ds → ∀ (i : Nat) (v : V), vs[i]? = some v → ∃ d, ds[i]? = some d ∧ Dq K N H v d
  | _, _, .nil, i, v, h => by simp at h
  | _, _, .cons r t, 0, v, h => by simp at h; subst h; exact ⟨_, rfl, r⟩
  | _, _, .cons r t, i + 1, v, h => by
    obtain ⟨d, h1, h2⟩ := t.get i v (by simpa using h)
    exact ⟨d, by simpa using h1, h2⟩
theorem DqAll.take : ∀ (n : Nat) {vs : List V} {ds : List PyData}, DqAll K N H vs ds → DqAll K N H (vs.take n) (ds.take n)
  | 0, _, _, _ => by simpa using DqAll.nil
  | n + 1, _, _, .nil => .nil
  | n + 1, _, _, .cons r t => .cons r (t.take n)
theorem DqAll.drop : ∀ (n : Nat) {vs : List V} {ds : List PyData}, DqAll K N H vs ds → DqAll K N H (vs.drop n) (ds.drop n)
  | 0, _, _, h => h
  | n + 1, _, _, .nil => .nil
  | n + 1, _, _, .cons r t => t.drop n
theorem DqAll.reverse : ∀ {vs : List V} {ds : List PyData}, DqAll K N H vs ds → DqAll K N H vs.reverse ds.reverse
  | _, _, .nil => .nil
  | _, _, .cons r t => by rw [List.reverse_cons, List.reverse_cons]; exact t.reverse.append (.cons r .nil)
theorem DqAll.rep (n : Nat) {vs : List V} {ds : List PyData} (h : DqAll K N H vs ds) : DqAll K N H (List.replicate n vs).flatten (List.replicate n ds).flatten := by
  induction n with
  | zero => exact .nil
  | succ n ih => rw [List.replicate_succ, List.replicate_succ, List.flatten_cons, List.flatten_cons]; exact h.append ih
mutual
theorem Dq.keep (hs : ∀ l o, ¬ N l → H l = some o → H' l = some o) (ht : ∀ l xs, SqT K H l xs → SqT K H' l xs) (hk : ∀ l kvs, H l = some (.dK kvs) → H' l = some (.dK kvs)) : ∀ (d : PyData) (v : V), Dq K N H v d → Dq K N H' v d
  | .none, _, h => by cases h; exact .non
  | .bool b, _, h => by cases h; exact .bl b
  | .int i, _, h => by cases h; exact .int i
  | .str x, _, h => by cases h; exact .str x
  | .list ds, _, h => by
    cases h with
    | lst h1 h2 e q => exact .lst h1 h2 (hs _ _ h2 e) (Dq.keepAll hs ht hk ds _ q)
  | .tuple ds, _, h => by
    cases h with
    | tup e q => exact .tup (ht _ _ e) (Dq.keepAll hs ht hk ds _ q)
  | .dict kvs, _, h => by
    cases h with
    | dct0 e => exact .dct0 (hk _ _ e)
    | dct1 e => exact .dct1 (hk _ _ e)
theorem Dq.keepAll (hs : ∀ l o, ¬ N l → H l = some o → H' l = some o) (ht : ∀ l xs, SqT K H l xs → SqT K H' l xs) (hk : ∀ l kvs, H l = some (.dK kvs) → H' l = some (.dK kvs)) : ∀ (ds : List PyData) (vs : List V), DqAll K N H vs ds → DqAll K N H' vs ds
  | [], _, h => by cases h; exact .nil
  | d :: ds, _, h => by
    cases h with
    | cons r t => exact .cons (Dq.keep hs ht hk d _ r) (Dq.keepAll hs ht hk ds _ t)
end
theorem Deck.sqT {m : Nat} (D : Deck H a c m) (b : But a c H H') {l : Addr} {xs : List V} (h : SqT K H l xs) : SqT K H' l xs := by
  rcases h with (h | ⟨o, h⟩) | h
  · exact .inl (.inl (b _ _ (D.apart h (fun _ => by intro z; cases z)).1 (D.apart h (fun _ => by intro z; cases z)).2 h))
  · exact .inl (.inr ⟨o, b _ _ (D.apart h (fun _ => by intro z; cases z)).1 (D.apart h (fun _ => by intro z; cases z)).2 h⟩)
  · exact .inr h
theorem Deck.dk {m : Nat} (D : Deck H a c m) (l : Addr) (kvs : List (Key × V)) (h : H l = some (.dK kvs)) : l ≠ a ∧ l ≠ c := D.apart h (fun _ => by intro z; cases z)
theorem apart_N (na : N a) (nc : N c) {l : Addr} (h : ¬ N l) : l ≠ a ∧ l ≠ c := ⟨fun e => h (by rw [e]; exact na), fun e => h (by rw [e]; exact nc)⟩
theorem Dq.but {m : Nat} (na : N a) (nc : N c) (D : Deck H a c m) (b : But a c H H') {v : V} {d : PyData} (h : Dq K N H v d) : Dq K N H' v d :=
  Dq.keep (fun l o h1 e => b l o (apart_N na nc h1).1 (apart_N na nc h1).2 e) (fun _ _ e => D.sqT b e) (fun l kvs e => b _ _ (D.dk l kvs e).1 (D.dk l kvs e).2 e) d v h
theorem DqAll.but {m : Nat} (na : N a) (nc : N c) (D : Deck H a c m) (b : But a c H H') {v : List V} {d : List PyData} (h : DqAll K N H v d) : DqAll K N H' v d :=
  Dq.keepAll (fun l o h1 e => b l o (apart_N na nc h1).1 (apart_N na nc h1).2 e) (fun _ _ e => D.sqT b e) (fun l kvs e => b _ _ (D.dk l kvs e).1 (D.dk l kvs e).2 e) d v h
mutual
theorem Dq.same (e : Same H H') : ∀ (d : PyData) (v : V), Dq K N H v d → Dq K N H' v d
  | .none, _, h => by cases h; exact .non
  | .bool b, _, h => by cases h; exact .bl b
  | .int i, _, h => by cases h; exact .int i
  | .str x, _, h => by cases h; exact .str x
  | .list ds, _, h => by
    cases h with
    | lst h1 h2 q r => exact .lst h1 h2 (e _ _ q) (Dq.sameAll e ds _ r)
  | .tuple ds, _, h => by
    cases h with
    | tup q r => exact .tup (same_sqT e q) (Dq.sameAll e ds _ r)
  | .dict kvs, _, h => by
    cases h with
    | dct0 q => exact .dct0 (e _ _ q)
    | dct1 q => exact .dct1 (e _ _ q)
theorem Dq.sameAll (e : Same H H') : ∀ (ds : List PyData) (vs : List V), DqAll K N H vs ds → DqAll K N H' vs ds
  | [], _, h => by cases h; exact .nil
  | d :: ds, _, h => by
    cases h with
    | cons r t => exact .cons (Dq.same e d _ r) (Dq.sameAll e ds _ t)
end
end
section
variable {X : Cx} {pins : List (Addr × Obj)} {σ : L2.St} {H : Hp} {s : Shared} {N : Addr → Prop}
mutual
theorem Dq.reads (I : Inv X pins σ H s) : ∀ (d : PyData) (v : V) (u : Value), Dq X.K N H v d → RelV v u → ∃ as, Reads s.heap u d as ∧ sysModules ∉ as
  | .none, _, _, h, r => by
    cases h; cases r; exact ⟨_, Reads.none, by simp⟩
  | .bool b, _, _, h, r => by
    cases h; cases r; exact ⟨_, Reads.bool b, by simp⟩
  | .int i, _, _, h, r => by
    cases h; obtain ⟨t, rfl⟩ := r; exact ⟨_, Reads.int i t, by simp⟩
  | .str x, _, _, h, r => by
    cases h; obtain ⟨t, rfl⟩ := r; exact ⟨_, Reads.str x t, by simp⟩
  | .list ds, _, _, h, r => by
    cases h with
    | lst h1 _ hs ha =>
      cases r
      obtain ⟨_, its, n, rv, ho⟩ := I.hok _ _ hs
      obtain ⟨as, hr, hn⟩ := Dq.readsAll I ds _ its ha rv
      exact ⟨_, Reads.list ho rfl rfl hr, by simp [hn, Ne.symm h1]⟩
  | .tuple ds, _, _, h, r => by
    cases h with
    | tup hs ha =>
      cases r
      obtain ⟨its, rv, ⟨o, ho, hc, n, hd⟩, _⟩ := I.tuple hs
      obtain ⟨as, hr, hn⟩ := Dq.readsAll I ds _ its ha rv
      exact ⟨_, Reads.tuple ho hc hd hr, hn⟩
  | .dict _, _, _, h, r => by
    cases h with
    | dct0 e =>
      cases r
      obtain ⟨_, ns, vs, kv, o, es, ep, ho, hc, hd, _, hp, _⟩ := I.hok _ _ e
      cases kv
      have he : es.toList = [] := by cases hes : es.toList with
        | nil => rfl
        | cons x y => rw [hes] at hp; cases hp
      have ns' := of_decide_eq_false (show decide (_ = sysModules) = false by simpa using ns)
      refine ⟨_, Reads.dict (kvs := []) ho hc.1 hd (by rw [he]; exact .nil) (by rw [he]; exact .nil), ?_⟩
      simp [Ne.symm ns']
    | @dct1 l x i e =>
      cases r
      obtain ⟨_, ns, vs, kv, o, es, ep, ho, hc, hd, _, hp, _⟩ := I.hok _ _ e
      cases kv with
      | @cons p q l1 l2 kq kr =>
        cases kr
        obtain ⟨h1, t, h2⟩ := kq
        obtain ⟨en, he, hk, hv⟩ : ∃ en, es.toList = [en] ∧ keyIs q.1 en.key = true ∧ en.val = q.2 := by
          cases hes : es.toList with
          | nil => rw [hes] at hp; cases hp
          | cons x y =>
            rw [hes] at hp
            cases hp with
            | cons p1 p2 p3 => cases p3; exact ⟨x, rfl, p1, p2⟩
        have h1' : (Sum.inr x : Key) = q.1 := h1
        rw [← h1'] at hk
        obtain ⟨t', hk'⟩ := Value.isStrOf_shape (show Value.isStrOf x en.key = true from hk)
        have ns' := of_decide_eq_false (show decide (_ = sysModules) = false by simpa using ns)
        refine ⟨_, Reads.dict (kvs := [(.str x, .int i)]) ho hc.1 hd (as := [] ++ []) (bs := [] ++ []) ?_ ?_, ?_⟩
        · rw [he]; show ReadsAll _ [en.key] _ _; rw [hk']; exact .cons (.str x t') .nil
        · rw [he]; show ReadsAll _ [en.val] _ _; rw [hv, h2]; exact .cons (.int i t) .nil
        · simp [Ne.symm ns']
theorem Dq.readsAll (I : Inv X pins σ H s) : ∀ (ds : List PyData) (vs : List V) (us : List Value), DqAll X.K N H vs ds → Vals vs us → ∃ as, ReadsAll s.heap us ds as ∧ sysModules ∉ as
  | [], _, _, h, r => by
    cases h; cases r; exact ⟨_, ReadsAll.nil, by simp⟩
  | d :: ds, _, _, h, r => by
    cases h with
    | cons h1 h2 =>
      cases r with
      | cons r1 r2 =>
        obtain ⟨as, q1, n1⟩ := Dq.reads I d _ _ h1 r1
        obtain ⟨bs, q2, n2⟩ := Dq.readsAll I ds _ _ h2 r2
        exact ⟨_, ReadsAll.cons q1 q2, by simp [n1, n2]⟩
end
end
structure Shq (dep n : Nat) (d : PyData) : Prop where
  sh : d.showable = true
  dp : d.depth ≤ dep
  ln : d.shown.length ≤ n
theorem Shq.mono {dep dep' n n' : Nat} {d : PyData} (h : Shq dep n d) (h1 : dep ≤ dep') (h2 : n ≤ n') : Shq dep' n' d := ⟨h.sh, Nat.le_trans h.dp h1, Nat.le_trans h.ln h2⟩
theorem Shw.q {dep n : Nat} {d : PyData} (h : Shw dep n d) : Shq dep n d := ⟨h.sh, h.dp, h.ln⟩
theorem shqAll {dep n : Nat} : ∀ {ds : List PyData}, (∀ d ∈ ds, Shq dep n d) → PyData.showableAll ds = true ∧ PyData.depthAll ds ≤ dep
  | [], _ => ⟨by simp only [PyData.showableAll], by simp [PyData.depthAll]⟩
  | d :: r, h => by
    obtain ⟨h1, h3⟩ := shqAll (ds := r) fun x hx => h x (List.mem_cons_of_mem _ hx)
    have g := h d List.mem_cons_self
    refine ⟨by simp only [PyData.showableAll, g.sh, h1, Bool.and_self], ?_⟩
    simp only [PyData.depthAll]
    exact Nat.max_le.mpr ⟨g.dp, h3⟩
theorem Shq.tuple {dep n m : Nat} {ds : List PyData} (h : ∀ d ∈ ds, Shq dep n d) (hm : ds.length ≤ m) : Shq (dep + 1) (m * (n + 2) + 3) (.tuple ds) := by
  obtain ⟨h1, h3⟩ := shqAll h
  refine ⟨by simp only [PyData.showable, h1], by simp only [PyData.depth]; omega, ?_⟩
  simp only [PyData.shown]
  rw [shownAll_map]
  have a1 := tupleText_len (ds.map PyData.shown)
  have a2 := piled_le fun d hd => (h d hd).ln
  have a3 : ds.length * (n + 2) ≤ m * (n + 2) := Nat.mul_le_mul_right _ hm
  omega
theorem Shq.list {dep n m : Nat} {ds : List PyData} (h : ∀ d ∈ ds, Shq dep n d) (hm : ds.length ≤ m) : Shq (dep + 1) (m * (n + 2) + 3) (.list ds) := by
  obtain ⟨h1, h3⟩ := shqAll h
  refine ⟨by simp only [PyData.showable, h1], by simp only [PyData.depth]; omega, ?_⟩
  simp only [PyData.shown]
  rw [shownAll_map]
  have a1 := listText_len (ds.map PyData.shown)
  have a2 := piled_le fun d hd => (h d hd).ln
  have a3 : ds.length * (n + 2) ≤ m * (n + 2) := Nat.mul_le_mul_right _ hm
  omega
end Pr
namespace Pr
open PySem PySem.Spec PyProof.Rows L2
section
variable {X : Cx} {es : List Expr} {t : TA} {pos : Pos}
def rListG (K : PySem.W.Frag) : List V → Hp → VK → Prop := fun xs H Q => ∃ p ys, xs = [.ref p] ∧ SqT K H p ys ∧ ∀ l, H l = none → l ≠ sysModules → Q (.ref l) (upd H l (.lst ys))
theorem call_listG : CallR X (.type "list") (rListG X.K) := by
  intro pins s σ H xs us Q I r h
  obtain ⟨p, ys, rfl, hq, q⟩ := h
  obtain ⟨u, rfl, rx⟩ := vals1 r
  cases rx
  obtain ⟨its, r', ⟨o, ho, hc, n, hd⟩, hz⟩ := I.tuple hq
  have hlen := r'.length
  refine call_list_seq p (.inr rfl) ho hc hd (fun h' c' kp e => ?_) (by simp only [List.size_toArray] <;> omega)
  exact ⟨.ref s.heap.objs.size, _, I.laid (t' := s.toks) kp (Nat.le_refl _) (show ObjOk X.prog X.w _ h' _ (.lst ys) from ⟨hz, its, c', r', e⟩), rfl, q _ (I.hok.fresh (Nat.le_refl _)) (Nat.ne_of_gt I.big)⟩
end
end Pr
namespace Pr
open PySem PySem.Spec PyProof.Rows L2
end Pr
namespace Pr
open PySem PySem.Spec PyProof.Rows L2
end Pr
namespace Pr
open PySem PySem.Spec PyProof.Rows L2
mutual
def lf : PyData → Bool
  | .list _ => false
  | .dict _ => false
  | .tuple ds => lfAll ds
  | .none => true
  | .bool _ => true
  | .int _ => true
  | .str _ => true
def lfAll : List PyData → Bool
  | [] => true
  | d :: r => lf d && lfAll r
end
theorem lfAll_of {ds : List PyData} (h : ∀ d ∈ ds, lf d = true) : lfAll ds = true := by
  induction ds with
  | nil => simp [lfAll]
  | cons d r ih => simp [lfAll, h d List.mem_cons_self, ih fun x hx => h x (List.mem_cons_of_mem _ hx)]
theorem lf_tup {ds : List PyData} (h : ∀ d ∈ ds, lf d = true) : lf (.tuple ds) = true := by simp only [lf]; exact lfAll_of h
theorem lf_ints (l : List Int) : lf (dInts l) = true := lf_tup fun d hd => by
  obtain ⟨x, _, rfl⟩ := List.mem_map.mp hd
  simp only [lf]
theorem lf_pan (p : List (List Int)) : lf (dPan p) = true := lf_tup fun d hd => by
  obtain ⟨x, _, rfl⟩ := List.mem_map.mp hd
  exact lf_ints x
theorem lf_strs (l : List Str) : lf (dStrs l) = true := lf_tup fun d hd => by
  obtain ⟨x, _, rfl⟩ := List.mem_map.mp hd
  simp only [lf]
def Kp (H H' : Hp) : Prop := (∀ b xs, H b = some (.tup xs) → H' b = some (.tup xs)) ∧ ∀ b o u, H b = some (.frz o u) → H' b = some (.frz o u)
theorem Kp.refl (H : Hp) : Kp H H := ⟨fun _ _ h => h, fun _ _ _ h => h⟩
theorem Kp.trans {H H1 H2 : Hp} (x : Kp H H1) (y : Kp H1 H2) : Kp H H2 := ⟨fun b xs h => y.1 b xs (x.1 b xs h), fun b o u h => y.2 b o u (x.2 b o u h)⟩
theorem Kp.of {H H' : Hp} (x : Same H H') : Kp H H' := ⟨fun b xs h => x b _ h, fun b o u h => x b _ h⟩
theorem Kp.upd {H : Hp} {D : Addr} {xs : List V} {o : HO} (h : H D = some (.lst xs)) : Kp H (upd H D o) :=
  ⟨fun b ys e => by rw [upd_ne (ne_of e h (by intro z; cases z))]; exact e, fun b q u e => by rw [upd_ne (ne_of e h (by intro z; cases z))]; exact e⟩
theorem Kp.but {H H' : Hp} {a c : Addr} {m : Nat} (d : Deck H a c m) (b : But a c H H') : Kp H H' :=
  ⟨fun p xs e => let q := d.apart e (fun _ => by intro z; cases z); b _ _ q.1 q.2 e, fun p o u e => let q := d.apart e (fun _ => by intro z; cases z); b _ _ q.1 q.2 e⟩
theorem FT.kp {H H' : Hp} {a : Addr} {xs : List V} (e : Kp H H') (h : FT H a xs) : FT H' a xs := let ⟨o, q, z⟩ := h; ⟨o, e.2 _ _ _ q, z⟩
theorem PanAt.kp {H H' : Hp} {p : Addr} {pan : List (List Int)} (e : Kp H H') (h : PanAt H p pan) : PanAt H' p pan :=
  let ⟨qs, h1, h2⟩ := h; ⟨qs, h1.kp e, h2.mono fun _ _ x => x.kp e⟩
section
variable {K : PySem.W.Frag} {H H' : Hp}
theorem sqT_kp {a : Addr} {xs : List V} (e : Kp H H') (h : SqT K H a xs) : SqT K H' a xs := by
  rcases h with (h | ⟨o, h⟩) | h
  · exact .inl (.inl (e.1 _ _ h))
  · exact .inl (.inr ⟨o, e.2 _ _ _ h⟩)
  · exact .inr h
mutual
theorem dp_same (e : Same H H') : ∀ (d : PyData) (v : V), Dp K H v d → Dp K H' v d
  | .none, _, h => by cases h; exact .non
  | .bool _, _, h => by cases h; exact .bl _
  | .int _, _, h => by cases h; exact .int _
  | .str _, _, h => by cases h; exact .str _
  | .list ds, _, h => by cases h with | lst q r => exact .lst (e.seq q) (dpAll_same e ds _ r)
  | .tuple ds, _, h => by cases h with | tup q r => exact .tup (same_sqT e q) (dpAll_same e ds _ r)
  | .dict _, _, h => by cases h
theorem dpAll_same (e : Same H H') : ∀ (ds : List PyData) (vs : List V), DpAll K H vs ds → DpAll K H' vs ds
  | [], _, h => by cases h; exact .nil
  | d :: r, _, h => by cases h with | cons x y => exact .cons (dp_same e d _ x) (dpAll_same e r _ y)
end
mutual
theorem dp_kp (e : Kp H H') : ∀ (d : PyData) (v : V), lf d = true → Dp K H v d → Dp K H' v d
  | .none, _, _, h => by cases h; exact .non
  | .bool _, _, _, h => by cases h; exact .bl _
  | .int _, _, _, h => by cases h; exact .int _
  | .str _, _, _, h => by cases h; exact .str _
  | .list ds, _, z, h => by simp [lf] at z
  | .tuple ds, _, z, h => by cases h with | tup q r => exact .tup (sqT_kp e q) (dpAll_kp e ds _ (by simpa [lf] using z) r)
  | .dict _, _, _, h => by cases h
theorem dpAll_kp (e : Kp H H') : ∀ (ds : List PyData) (vs : List V), lfAll ds = true → DpAll K H vs ds → DpAll K H' vs ds
  | [], _, _, h => by cases h; exact .nil
  | d :: r, _, z, h => by
    simp only [lfAll, Bool.and_eq_true] at z
    cases h with | cons x y => exact .cons (dp_kp e d _ z.1 x) (dpAll_kp e r _ z.2 y)
end
theorem _root_.L2.Dp.sm {d : PyData} {v : V} (h : Dp K H v d) (e : Same H H') : Dp K H' v d := dp_same e d v h
theorem _root_.L2.DpAll.sm {ds : List PyData} {vs : List V} (h : DpAll K H vs ds) (e : Same H H') : DpAll K H' vs ds := dpAll_same e ds vs h
theorem _root_.L2.Dp.kp {d : PyData} {v : V} (h : Dp K H v d) (e : Kp H H') (z : lf d = true := by first | exact lf_pan _ | exact lf_ints _ | exact lf_strs _ | rfl | assumption) : Dp K H' v d := dp_kp e d v z h
theorem _root_.L2.DpAll.length {ds : List PyData} : ∀ {vs : List V}, DpAll K H vs ds → vs.length = ds.length := by
  induction ds with
  | nil => intro vs h; cases h; rfl
  | cons d r ih => intro vs h; cases h with | cons x y => simp [ih y]
theorem _root_.L2.DpAll.get {ds : List PyData} : ∀ {vs : List V}, DpAll K H vs ds → ∀ (i : Nat) (d : PyData), ds[i]? = some d → ∃ v, vs[i]? = some v ∧ Dp K H v d := by
  induction ds with
  | nil => intro vs h i d e; simp at e
  | cons d' r ih =>
    intro vs h i d e
    cases h with
    | cons x y =>
      cases i with
      | zero => simp at e; subst e; exact ⟨_, rfl, x⟩
      | succ i => obtain ⟨v, h1, h2⟩ := ih y i d (by simpa using e); exact ⟨v, by simpa using h1, h2⟩
theorem _root_.L2.DpAll.append {d1 d2 : List PyData} : ∀ {v1 v2 : List V}, DpAll K H v1 d1 → DpAll K H v2 d2 → DpAll K H (v1 ++ v2) (d1 ++ d2) := by
  induction d1 with
  | nil => intro v1 v2 h g; cases h; exact g
  | cons d r ih => intro v1 v2 h g; cases h with | cons x y => exact .cons x (ih y g)
theorem _root_.L2.DpAll.take {ds : List PyData} : ∀ {vs : List V} (n : Nat), DpAll K H vs ds → DpAll K H (vs.take n) (ds.take n) := by
  induction ds with
  | nil => intro vs n h; cases h; simp; exact .nil
  | cons d r ih =>
    intro vs n h
    cases h with
    | cons x y =>
      cases n with
      | zero => simp; exact .nil
      | succ n => simpa using DpAll.cons x (ih n y)
theorem _root_.L2.DpAll.drop {ds : List PyData} : ∀ {vs : List V} (n : Nat), DpAll K H vs ds → DpAll K H (vs.drop n) (ds.drop n) := by
  induction ds with
  | nil => intro vs n h; cases h; simp; exact .nil
  | cons d r ih =>
    intro vs n h
    cases h with
    | cons x y =>
      cases n with
      | zero => simpa using DpAll.cons x y
      | succ n => simpa using ih n y
theorem _root_.L2.DpAll.reverse {ds : List PyData} : ∀ {vs : List V}, DpAll K H vs ds → DpAll K H vs.reverse ds.reverse := by
  induction ds with
  | nil => intro vs h; cases h; exact .nil
  | cons d r ih =>
    intro vs h
    cases h with
    | cons x y => rw [List.reverse_cons, List.reverse_cons]; exact DpAll.append (ih y) (.cons x .nil)
theorem dpAll_intsV : ∀ {l : List Int} {vs : List V}, DpAll K H vs (l.map PyData.int) → vs = l.map V.int
  | [], _, h => by cases h; rfl
  | x :: r, _, h => by
    rw [List.map_cons] at h
    cases h with | cons a b => cases a; rw [dpAll_intsV b]; rfl
theorem _root_.L2.Dp.tupI {v : V} {ds : List PyData} (h : Dp K H v (.tuple ds)) : ∃ a xs, v = .ref a ∧ SqT K H a xs ∧ DpAll K H xs ds := by cases h with | tup q r => exact ⟨_, _, rfl, q, r⟩
theorem _root_.L2.Dp.lstI {v : V} {ds : List PyData} (h : Dp K H v (.list ds)) : ∃ a xs, v = .ref a ∧ SqL K H a xs ∧ DpAll K H xs ds := by cases h with | lst q r => exact ⟨_, _, rfl, q, r⟩
theorem _root_.L2.Dp.intsI {v : V} {l : List Int} (h : Dp K H v (dInts l)) : ∃ a, v = .ref a ∧ SqT K H a (l.map V.int) := by
  obtain ⟨a, xs, rfl, q, r⟩ := Dp.tupI h
  rw [dpAll_intsV r] at q
  exact ⟨a, rfl, q⟩
end
section
variable (K : PySem.W.Frag)
def Gv (t : TE) (σ : L2.St) (H : Hp) (d : PyData) : Prop := ∀ H1, Same H H1 → ∀ Q : VK, (∀ v H', Same H1 H' → Dp K H' v d → Q v H') → t σ H1 Q
/-- a list that is tracked -/
def GvL (t : TE) (σ : L2.St) (H : Hp) (ds : List PyData) : Prop := ∀ H1, Same H H1 → ∀ Q : VK, (∀ a vs H', Same H1 H' → H' a = some (.lst vs) → DpAll K H' vs ds → Q (.ref a) H') → t σ H1 Q
/-- a new list -/
def GvN (t : TE) (σ : L2.St) (H : Hp) (ds : List PyData) : Prop := ∀ H1, Same H H1 → ∀ Q : VK, (∀ a vs H', Same H1 H' → H1 a = none → H' a = some (.lst vs) → DpAll K H' vs ds → Q (.ref a) H') → t σ H1 Q
def GvA (t : TA) (σ : L2.St) (H : Hp) (ds : List PyData) : Prop := ∀ H1, Same H H1 → ∀ Q : List V → Hp → Prop, (∀ vs H', Same H1 H' → DpAll K H' vs ds → Q vs H') → t σ H1 Q
def GvT (t : TT) (σ : L2.St) (H : Hp) (b : Bool) : Prop := ∀ H1, Same H H1 → ∀ Q : Bool → Hp → Prop, (∀ H', Same H1 H' → Q b H') → t σ H1 Q
/-- what a walk gives, while what it goes over stays as R says -/
def GvI (R : Hp → Hp → Prop) (wi : TI) (σ : L2.St) (H : Hp) (ds : List PyData) : Prop := ∀ H1, Same H H1 → ∀ Q : It → Hp → Prop,
  (∀ J H', Same H1 H' → Walk J ds.length (R H') (fun i h x h' => Same h h' ∧ ∃ d, ds[i]? = some d ∧ Dp K h' x d) → Q J H') → wi σ H1 Q
end
section
variable {K : PySem.W.Frag} {σ : L2.St} {H H' : Hp} {t ta tb : TE} {d e : PyData} {ds : List PyData} {ta' : TA} {tt uu : TT} {b c : Bool}
theorem GvN.gl (h : GvN K t σ H ds) : GvL K t σ H ds := fun H1 s Q q => h H1 s Q fun a vs H' s' _ e dv => q a vs H' s' e dv
theorem GvN.at (h : GvN K t σ H ds) {Q : VK} (q : ∀ a vs H', Same H H' → H a = none → H' a = some (.lst vs) → DpAll K H' vs ds → Q (.ref a) H') : t σ H Q := h H (Same.refl _) Q q
theorem GvN.to {es : List PyData} (h : GvN K t σ H ds) (q : ds = es) : GvN K t σ H es := q ▸ h
theorem GvN.gv (h : GvN K t σ H ds) : Gv K t σ H (.list ds) := fun H1 s Q q => h H1 s Q fun a vs H' s' _ e dv => q _ H' s' (.lst (.inl (.inl e)) dv)
theorem GvL.gv (h : GvL K t σ H ds) : Gv K t σ H (.list ds) := fun H1 s Q q => h H1 s Q fun a vs H' s' e dv => q _ H' s' (.lst (.inl (.inl e)) dv)
theorem GvL.at (h : GvL K t σ H ds) {Q : VK} (q : ∀ a vs H', Same H H' → H' a = some (.lst vs) → DpAll K H' vs ds → Q (.ref a) H') : t σ H Q := h H (Same.refl _) Q q
theorem GvL.to {es : List PyData} (h : GvL K t σ H ds) (q : ds = es) : GvL K t σ H es := q ▸ h
theorem gl_var {i : Nat} {a : Addr} {vs : List V} (h : σ[i]? = some (some (.ref a))) (e : H a = some (.lst vs)) (hd : DpAll K H vs ds) : GvL K (tVar i) σ H ds := fun H1 s Q q => ⟨_, h, q a vs H1 (Same.refl _) (s _ _ e) (hd.sm s)⟩
theorem Gv.at (h : Gv K t σ H d) {Q : VK} (q : ∀ v H', Same H H' → Dp K H' v d → Q v H') : t σ H Q := h H (Same.refl _) Q q
theorem Gv.sm (h : Gv K t σ H d) (s : Same H H') : Gv K t σ H' d := fun H1 s1 => h H1 (s.trans s1)
theorem Gv.to (h : Gv K t σ H d) (q : d = e) : Gv K t σ H e := q ▸ h
theorem GvT.at (h : GvT tt σ H b) {Q : Bool → Hp → Prop} (q : ∀ H', Same H H' → Q b H') : tt σ H Q := h H (Same.refl _) Q q
theorem GvT.to (h : GvT tt σ H b) (q : b = c) : GvT tt σ H c := q ▸ h
theorem gv_var {i : Nat} {v : V} (h : σ[i]? = some (some v)) (hd : Dp K H v d) : Gv K (tVar i) σ H d := fun H1 s Q q => ⟨v, h, q v H1 (Same.refl _) (hd.sm s)⟩
theorem gv_int {i : Int} : Gv K (tC (.int i)) σ H (.int i) := fun H1 _ Q q => q _ H1 (Same.refl _) (.int i)
theorem gv_bl {x : Bool} : Gv K (tC (.bl x)) σ H (.bool x) := fun H1 _ Q q => q _ H1 (Same.refl _) (.bl x)
theorem gva_nil : GvA K tNil σ H [] := fun H1 _ Q q => q [] H1 (Same.refl _) .nil
theorem gva_cons {tr : TA} (h : Gv K t σ H d) (g : GvA K tr σ H ds) : GvA K (tCons t tr) σ H (d :: ds) := fun H1 s Q q =>
  h H1 s _ fun v H2 s2 d2 => g H2 (s.trans s2) _ fun vs H3 s3 d3 => q _ H3 (s2.trans s3) (.cons (d2.sm s3) d3)
theorem gva_starT {es : List PyData} {tr : TA} (h : Gv K t σ H (.tuple es)) (g : GvA K tr σ H ds) : GvA K (StX.tStar K t tr) σ H (es ++ ds) := fun H1 s Q q =>
  h H1 s _ fun v H2 s2 d2 => by
    obtain ⟨a, xs, rfl, hq, hr⟩ := d2.tupI
    exact ⟨a, xs, rfl, .inl hq, g H2 (s.trans s2) _ fun vs H3 s3 d3 => q _ H3 (s2.trans s3) (DpAll.append (hr.sm s3) d3)⟩
theorem small5 {n : Nat} (h : n ≤ 100000) : n < sizeLine := Nat.lt_of_le_of_lt h (by decide)
theorem gv_tup (h : GvA K ta' σ H ds) (hl : ds.length ≤ sizeLine := by first | decide | exact Nat.le_of_lt (small5 (by simp only [List.length_cons, List.length_nil]; decide))) : Gv K (tTup ta') σ H (.tuple ds) := fun H1 s Q q => h H1 s _ fun vs H2 s2 d2 =>
  ⟨by rw [d2.length]; exact hl, fun p np => q _ _ (s2.trans (same_new np)) (.tup (.inl (.inl upd_same)) (d2.sm (same_new np)))⟩
theorem gn_lst (h : GvA K ta' σ H ds) (hl : ds.length ≤ sizeLine := by first | decide | exact Nat.le_of_lt (small5 (by simp only [List.length_cons, List.length_nil]; decide))) : GvN K (tLst ta') σ H ds := fun H1 s Q q => h H1 s _ fun vs H2 s2 d2 =>
  ⟨by rw [d2.length]; exact hl, fun p np => q _ _ _ (s2.trans (same_new np)) (s2.free np) upd_same (d2.sm (same_new np))⟩
theorem gl_lst (h : GvA K ta' σ H ds) (hl : ds.length ≤ sizeLine := by first | decide | exact Nat.le_of_lt (small5 (by simp only [List.length_cons, List.length_nil]; decide))) : GvL K (tLst ta') σ H ds := (gn_lst h hl).gl
theorem gv_lst (h : GvA K ta' σ H ds) (hl : ds.length ≤ sizeLine := by first | decide | exact Nat.le_of_lt (small5 (by simp only [List.length_cons, List.length_nil]; decide))) : Gv K (tLst ta') σ H (.list ds) := (gl_lst h hl).gv
theorem gv_op2 {r : R2} (ha : Gv K ta σ H d) (hb : Gv K tb σ H e) {f : PyData} (hr : ∀ x y H1 Q, Same H H1 → Dp K H1 x d → Dp K H1 y e → (∀ v H', Same H1 H' → Dp K H' v f → Q v H') → r x y H1 Q) : Gv K (tOp r ta tb) σ H f := fun H1 s Q q =>
  ha H1 s _ fun x H2 s2 d2 => hb H2 (s.trans s2) _ fun y H3 s3 d3 => hr x y H3 Q ((s.trans s2).trans s3) (d2.sm s3) d3 fun v H4 s4 d4 => q v H4 ((s2.trans s3).trans s4) d4
theorem gv_I0 {g : Int → Int → V} {i j : Int} (ha : Gv K ta σ H (.int i)) (hb : Gv K tb σ H (.int j)) {f : PyData} (hf : ∀ H, Dp K H (g i j) f) : Gv K (tOp (rI0 g) ta tb) σ H f :=
  gv_op2 ha hb fun x y H1 Q s hx hy q => by cases hx; cases hy; exact ⟨i, j, rfl, rfl, q _ _ (Same.refl _) (hf _)⟩
theorem gv_add {i j : Int} (ha : Gv K ta σ H (.int i)) (hb : Gv K tb σ H (.int j)) : Gv K (tOp (rI0 fun i j => V.int (i + j)) ta tb) σ H (.int (i + j)) := gv_I0 ha hb fun _ => .int _
theorem gv_sub {i j : Int} (ha : Gv K ta σ H (.int i)) (hb : Gv K tb σ H (.int j)) : Gv K (tOp (rI0 fun i j => V.int (i - j)) ta tb) σ H (.int (i - j)) := gv_I0 ha hb fun _ => .int _
theorem gv_eqI {i j : Int} (ha : Gv K ta σ H (.int i)) (hb : Gv K tb σ H (.int j)) : Gv K (tOp rEq ta tb) σ H (.bool (decide (i = j))) :=
  gv_op2 ha hb fun x y H1 Q s hx hy q => by
    cases hx; cases hy
    refine ⟨rfl, q _ _ (Same.refl _) ?_⟩
    rw [show decide (V.int i = V.int j) = decide (i = j) from decide_eq_decide.mpr ⟨fun h => V.int.inj h, fun h => by rw [h]⟩]
    exact .bl _
theorem gv_neI {i j : Int} (ha : Gv K ta σ H (.int i)) (hb : Gv K tb σ H (.int j)) : Gv K (tOp rNe ta tb) σ H (.bool (!decide (i = j))) :=
  gv_op2 ha hb fun x y H1 Q s hx hy q => by
    cases hx; cases hy
    refine ⟨rfl, q _ _ (Same.refl _) ?_⟩
    rw [show decide (V.int i = V.int j) = decide (i = j) from decide_eq_decide.mpr ⟨fun h => V.int.inj h, fun h => by rw [h]⟩]
    exact .bl _
theorem gv_eqD (ha : Gv K ta σ H d) (hb : Gv K tb σ H e) (h1 : SeqAt.shaped d = true) (h2 : SeqAt.shaped e = true) : Gv K (tOp (rEqD K) ta tb) σ H (.bool (PyData.eqv d e)) :=
  gv_op2 ha hb fun x y H1 Q s hx hy q => ⟨d, e, hx, hy, h1, h2, q _ _ (Same.refl _) (.bl _)⟩
theorem gv_neD (ha : Gv K ta σ H d) (hb : Gv K tb σ H e) (h1 : SeqAt.shaped d = true) (h2 : SeqAt.shaped e = true) : Gv K (tOp (rNeD K) ta tb) σ H (.bool (!PyData.eqv d e)) :=
  gv_op2 ha hb fun x y H1 Q s hx hy q => ⟨d, e, hx, hy, h1, h2, q _ _ (Same.refl _) (.bl _)⟩
theorem inV_intsG {b : Int} (l : List Int) : inV (.int b) (l.map V.int) = decide (b ∈ l) := by
  unfold inV
  rw [List.any_map, Bool.eq_iff_iff, List.any_eq_true, decide_eq_true_eq]
  constructor
  · rintro ⟨x, hx, e⟩
    have e' : x = b := by simpa [eqV] using e
    rw [← e']; exact hx
  · intro h
    exact ⟨b, h, by simp [eqV]⟩
theorem flat_intsG : ∀ l : List Int, (l.map V.int).all flatV = true
  | [] => rfl
  | x :: r => by rw [List.map_cons, List.all_cons, flat_intsG r]; rfl
theorem gv_inT {neg : Bool} {i : Int} {l : List Int} (ha : Gv K ta σ H (.int i)) (hb : Gv K tb σ H (dInts l)) : Gv K (tOp (rIn K neg) ta tb) σ H (.bool (if neg then !decide (i ∈ l) else decide (i ∈ l))) :=
  gv_op2 ha hb fun x y H1 Q s hx hy q => by
    cases hx
    obtain ⟨a, rfl, hq⟩ := hy.intsI
    refine ⟨a, _, rfl, .inr hq, rfl, flat_intsG l, ?_⟩
    rw [inV_intsG]
    exact q _ _ (Same.refl _) (.bl _)
theorem gv_inL {neg : Bool} {i : Int} {l : List Int} (ha : Gv K ta σ H (.int i)) (hb : Gv K tb σ H (.list (l.map PyData.int))) : Gv K (tOp (rIn K neg) ta tb) σ H (.bool (if neg then !decide (i ∈ l) else decide (i ∈ l))) :=
  gv_op2 ha hb fun x y H1 Q s hx hy q => by
    cases hx
    obtain ⟨a, xs, rfl, hq, hr⟩ := hy.lstI
    rw [dpAll_intsV hr] at hq
    refine ⟨a, _, rfl, .inl hq, rfl, flat_intsG l, ?_⟩
    rw [inV_intsG]
    exact q _ _ (Same.refl _) (.bl _)
theorem gv_ixT {i : Int} {j : Nat} (ha : Gv K ta σ H (.tuple ds)) (hb : Gv K tb σ H (.int i)) (hi : i = (j : Int)) (hj : ds[j]? = some d) : Gv K (tOp (rIxT K) ta tb) σ H d :=
  gv_op2 ha hb fun x y H1 Q s hx hy q => by
    cases hy
    obtain ⟨a, xs, rfl, hq, hr⟩ := hx.tupI
    obtain ⟨v, hv, dv⟩ := hr.get j d hj
    exact ⟨a, xs, i, v, rfl, rfl, hq, by rw [hi]; exact atI_nat hv, q _ _ (Same.refl _) dv⟩
theorem gv_ixL {i : Int} {j : Nat} (ha : Gv K ta σ H (.list ds)) (hb : Gv K tb σ H (.int i)) (hi : i = (j : Int)) (hj : ds[j]? = some d) : Gv K (tOp (rIxL K) ta tb) σ H d :=
  gv_op2 ha hb fun x y H1 Q s hx hy q => by
    cases hy
    obtain ⟨a, xs, rfl, hq, hr⟩ := hx.lstI
    obtain ⟨v, hv, dv⟩ := hr.get j d hj
    exact ⟨a, xs, i, v, rfl, rfl, hq, by rw [hi]; exact atI_nat hv, q _ _ (Same.refl _) dv⟩
theorem gv_pan {i : Int} {pan : List (List Int)} (ha : Gv K ta σ H (dPan pan)) (hb : Gv K tb σ H (.int i)) (h0 : 0 ≤ i) (h1 : i < (pan.length : Int)) : Gv K (tOp (rIxT K) ta tb) σ H (dInts (pan.getD i.toNat [])) := by
  refine gv_ixT (j := i.toNat) ha hb (by omega) ?_
  rw [List.getElem?_map, List.getD_eq_getElem?_getD, List.getElem?_eq_getElem (by omega)]; rfl
theorem gv_cb {r : List V → Hp → VK → Prop} (h : GvA K ta' σ H ds) {f : PyData} (hr : ∀ vs H1 Q, Same H H1 → DpAll K H1 vs ds → (∀ v H', Same H1 H' → Dp K H' v f → Q v H') → r vs H1 Q) : Gv K (tCB r ta') σ H f := fun H1 s Q q =>
  h H1 s _ fun vs H2 s2 d2 => hr vs H2 Q (s.trans s2) d2 fun v H3 s3 d3 => q v H3 (s2.trans s3) d3
theorem dpAll1 {vs : List V} (h : DpAll K H vs [d]) : ∃ v, vs = [v] ∧ Dp K H v d := by
  cases h with | cons x y => cases y; exact ⟨_, rfl, x⟩
theorem dpAll2 {vs : List V} (h : DpAll K H vs [d, e]) : ∃ v u, vs = [v, u] ∧ Dp K H v d ∧ Dp K H u e := by
  cases h with | cons x y => obtain ⟨u, rfl, z⟩ := dpAll1 y; exact ⟨_, _, rfl, x, z⟩
theorem dpAll3 {f : PyData} {vs : List V} (h : DpAll K H vs [d, e, f]) : ∃ v u w, vs = [v, u, w] ∧ Dp K H v d ∧ Dp K H u e ∧ Dp K H w f := by
  cases h with | cons x y => obtain ⟨u, w, rfl, z⟩ := dpAll2 y; exact ⟨_, _, _, rfl, x, z⟩
def rLenG (K : PySem.W.Frag) : List V → Hp → VK → Prop := fun xs H Q => ∃ p ys, xs = [V.ref p] ∧ (SqL K H p ys ∨ SqT K H p ys) ∧ Q (.int ys.length) H
theorem cr_lenG {X : Cx} : CallR X (.builtin "len") (rLenG X.K) := call_len_seq
def rTupG (K : PySem.W.Frag) : List V → Hp → VK → Prop := fun xs H Q => ∃ p ys, xs = [V.ref p] ∧ ((SqL K H p ys ∧ ∀ l, H l = none → Q (.ref l) (upd H l (.tup ys))) ∨ (SqT K H p ys ∧ Q (.ref p) H))
theorem cr_tupG {X : Cx} : CallR X (.type "tuple") (rTupG X.K) := call_tuple_of
theorem gv_lenT (h : Gv K t σ H (.tuple ds)) : Gv K (tCB (rLenG K) (tCons t tNil)) σ H (.int ds.length) :=
  gv_cb (gva_cons h gva_nil) fun vs H1 Q s hd q => by
    obtain ⟨v, rfl, hv⟩ := dpAll1 hd
    obtain ⟨a, xs, rfl, hq, hr⟩ := hv.tupI
    exact ⟨a, xs, rfl, .inr hq, by rw [hr.length]; exact q _ _ (Same.refl _) (.int _)⟩
theorem gv_lenL (h : Gv K t σ H (.list ds)) : Gv K (tCB (rLenG K) (tCons t tNil)) σ H (.int ds.length) :=
  gv_cb (gva_cons h gva_nil) fun vs H1 Q s hd q => by
    obtain ⟨v, rfl, hv⟩ := dpAll1 hd
    obtain ⟨a, xs, rfl, hq, hr⟩ := hv.lstI
    exact ⟨a, xs, rfl, .inl hq, by rw [hr.length]; exact q _ _ (Same.refl _) (.int _)⟩
theorem gv_tupL (h : Gv K t σ H (.list ds)) : Gv K (tCB (rTupG K) (tCons t tNil)) σ H (.tuple ds) :=
  gv_cb (gva_cons h gva_nil) fun vs H1 Q s hd q => by
    obtain ⟨v, rfl, hv⟩ := dpAll1 hd
    obtain ⟨a, xs, rfl, hq, hr⟩ := hv.lstI
    exact ⟨a, xs, rfl, .inl ⟨hq, fun l nl => q _ _ (same_new nl) (.tup (.inl (.inl upd_same)) (hr.sm (same_new nl)))⟩⟩
theorem gn_lstT (h : Gv K t σ H (.tuple ds)) : GvN K (tCB (rListG K) (tCons t tNil)) σ H ds := fun H1 s Q q => h H1 s _ fun v H2 s2 d2 => by
    obtain ⟨a, xs, rfl, hq, hr⟩ := d2.tupI
    exact ⟨a, xs, rfl, hq, fun l nl _ => q _ _ _ (s2.trans (same_new nl)) (s2.free nl) upd_same (hr.sm (same_new nl))⟩
/-- the ascending one of the same numbers -/
def srt (l : List Int) : List Int := l.mergeSort (fun a b => decide (a ≤ b))
theorem srt_perm (l : List Int) : (srt l).Perm l := List.mergeSort_perm _ _
theorem srt_up (l : List Int) : (srt l).Pairwise (· ≤ ·) := by
  have := List.pairwise_mergeSort (le := fun a b : Int => decide (a ≤ b)) (fun a b c h1 h2 => by simp at *; omega) (fun a b => by simp; omega) l
  exact this.imp fun h => by simpa using h
theorem perm_up_eq : ∀ {l1 l2 : List Int}, l1.Perm l2 → l1.Pairwise (· ≤ ·) → l2.Pairwise (· ≤ ·) → l1 = l2 := by
  intro l1
  induction l1 with
  | nil => intro l2 h _ _; exact (List.nil_perm.mp h).symm
  | cons x r ih =>
    intro l2 h h1 h2
    cases l2 with
    | nil => exact absurd h.symm (by simp)
    | cons y s =>
      rw [List.pairwise_cons] at h1 h2
      have hxy : x = y := by
        have hx : x ∈ y :: s := h.subset List.mem_cons_self
        have hy : y ∈ x :: r := h.symm.subset List.mem_cons_self
        rcases List.mem_cons.mp hx with e | e
        · exact e
        · rcases List.mem_cons.mp hy with e' | e'
          · exact e'.symm
          · have := h1.1 y e'
            have := h2.1 x e
            omega
      subst hxy
      rw [ih (List.Perm.cons_inv h) h1.2 h2.2]
theorem srt_eq {l m : List Int} (h : m.Perm l) (u : m.Pairwise (· ≤ ·)) : srt l = m := perm_up_eq ((srt_perm l).trans h.symm) (srt_up l) u
theorem gv_sortL {l : List Int} (h : Gv K t σ H (.list (l.map PyData.int))) (hl : l.length < 64) : Gv K (tCB (rSorted K) (tCons t tNil)) σ H (.list ((srt l).map PyData.int)) :=
  gv_cb (gva_cons h gva_nil) fun vs H1 Q s hd q => by
    obtain ⟨v, rfl, hv⟩ := dpAll1 hd
    obtain ⟨a, xs, rfl, hq, hr⟩ := hv.lstI
    rw [dpAll_intsV hr] at hq
    refine ⟨a, l, rfl, hq, hl, fun ns' p hp hu np => ?_⟩
    rw [← srt_eq hp hu]
    exact q _ _ (same_new np) (.lst (.inl (.inl upd_same)) (dpAll_ints _))
theorem gvt_test (h : Gv K t σ H (.bool b)) : GvT (tTest t) σ H b := fun H1 s Q q => h H1 s _ fun v H2 s2 d2 => by cases d2; exact ⟨b, rfl, q _ s2⟩
theorem gvt_b (h : Gv K t σ H (.bool b)) : GvT (tB t) σ H b := fun H1 s Q q => h H1 s _ fun v H2 s2 d2 => by cases d2; exact ⟨b, rfl, q _ s2⟩
theorem gvt_not (h : GvT tt σ H b) : GvT (tNot tt) σ H (!b) := fun H1 s Q q => h H1 s _ fun H2 s2 => q _ s2
theorem gvt_yes : GvT tYes σ H true := fun H1 s Q q => q H1 (Same.refl _)
theorem gvt_or (h : GvT tt σ H b) (g : ∀ H', Same H H' → b = false → GvT uu σ H' c) : GvT (tOr tt uu) σ H (b || c) := fun H1 s Q q => h H1 s _ fun H2 s2 => by
  cases b with
  | true => rw [if_pos rfl]; exact q _ s2
  | false => rw [if_neg Bool.false_ne_true]; exact g H2 (s.trans s2) rfl H2 (Same.refl _) _ fun H3 s3 => q _ (s2.trans s3)
theorem gv_if (h : GvT tt σ H b) (h1 : b = true → Gv K ta σ H d) (h2 : b = false → Gv K tb σ H e) : Gv K (tIf tt ta tb) σ H (if b then d else e) := fun H1 s Q q => h H1 s _ fun H2 s2 => by
  cases b with
  | true => rw [if_pos rfl]; exact h1 rfl H2 (s.trans s2) _ fun v H3 s3 d3 => q v H3 (s2.trans s3) d3
  | false => rw [if_neg Bool.false_ne_true]; exact h2 rfl H2 (s.trans s2) _ fun v H3 s3 d3 => q v H3 (s2.trans s3) d3
/-- a def that only computes -/
def spP (K : PySem.W.Frag) {α : Type} (δ : α → List PyData) (C : α → Prop) (f : α → PyData) : Sp := fun vs H Q _ => ∃ a, DpAll K H vs (δ a) ∧ C a ∧ ∀ v H', Same H H' → Dp K H' v (f a) → Q v H'
theorem gv_call {α : Type} {δ : α → List PyData} {C : α → Prop} {f : α → PyData} {E : XK} (a : α) (h : GvA K ta' σ H (δ a)) (hc : C a) : Gv K (tCall (spP K δ C f) [] E ta') σ H (f a) := fun H1 s Q q =>
  h H1 s _ fun vs H2 s2 d2 => ⟨a, by rw [List.append_nil]; exact d2, hc, fun v H3 s3 d3 => q v H3 (s2.trans s3) d3⟩
end
section
variable {K : PySem.W.Frag} {R : Hp → Hp → Prop} {σ : L2.St} {H : Hp} {t : TE} {ta : TA} {ds : List PyData}
theorem gvi_list (h : Gv K t σ H (.list ds)) : GvI K Same (iList K t) σ H ds := fun H1 s Q q => h H1 s _ fun v H2 s2 d2 => by
  obtain ⟨a, xs, rfl, hq, hr⟩ := d2.lstI
  refine ⟨a, rfl, ⟨xs, hq⟩, q _ H2 s2 ?_⟩
  rw [← hr.length]
  refine walk_list.mono (fun h e => e.seq hq) fun i h x h' hi e y => ?_
  obtain ⟨rfl, y⟩ := y
  have hi' : i < ds.length := by rw [← hr.length]; exact hi
  obtain ⟨v, hv, dv⟩ := hr.get i ds[i] (List.getElem?_eq_getElem hi')
  rw [hv] at y; cases y
  exact ⟨Same.refl _, ds[i], List.getElem?_eq_getElem hi', dv.sm e⟩
theorem gvi_tup (h : Gv K t σ H (.tuple ds)) : GvI K Same (iTup K t) σ H ds := fun H1 s Q q => h H1 s _ fun v H2 s2 d2 => by
  obtain ⟨a, xs, rfl, hq, hr⟩ := d2.tupI
  refine ⟨a, rfl, ⟨xs, hq⟩, q _ H2 s2 ?_⟩
  rw [← hr.length]
  refine walk_tup.mono (fun h e => same_sqT e hq) fun i h x h' hi e y => ?_
  obtain ⟨rfl, y⟩ := y
  have hi' : i < ds.length := by rw [← hr.length]; exact hi
  obtain ⟨v, hv, dv⟩ := hr.get i ds[i] (List.getElem?_eq_getElem hi')
  rw [hv] at y; cases y
  exact ⟨Same.refl _, ds[i], List.getElem?_eq_getElem hi', dv.sm e⟩
theorem gvi_tupK (h : Gv K t σ H (.tuple ds)) (z : lfAll ds = true) : GvI K Kp (iTup K t) σ H ds := fun H1 s Q q => h H1 s _ fun v H2 s2 d2 => by
  obtain ⟨a, xs, rfl, hq, hr⟩ := d2.tupI
  refine ⟨a, rfl, ⟨xs, hq⟩, q _ H2 s2 ?_⟩
  rw [← hr.length]
  refine walk_tup.mono (fun h e => sqT_kp e hq) fun i h x h' hi e y => ?_
  obtain ⟨rfl, y⟩ := y
  have hi' : i < ds.length := by rw [← hr.length]; exact hi
  obtain ⟨v, hv, dv⟩ := (dpAll_kp e _ _ z hr).get i ds[i] (List.getElem?_eq_getElem hi')
  rw [hv] at y; cases y
  exact ⟨Same.refl _, ds[i], List.getElem?_eq_getElem hi', dv⟩
theorem gvi_range {n : Nat} (h : Gv K t σ H (.int n)) (hn : n < 2 ^ 62) : GvI K R (iRng1 (tCons t tNil)) σ H ((List.range n).map fun i : Nat => PyData.int (i : Int)) := fun H1 s Q q => h H1 s _ fun v H2 s2 d2 => by
  cases d2
  refine ⟨(n : Int), rfl, by omega, by omega, q _ H2 s2 ?_⟩
  rw [List.length_map, List.length_range, Int.toNat_natCast]
  refine walk_range.mono (fun _ _ => trivial) fun i h x h' hi e y => ?_
  obtain ⟨rfl, rfl⟩ := y
  refine ⟨Same.refl _, .int (i : Int), ?_, ?_⟩
  · rw [List.getElem?_map, List.getElem?_range hi]; rfl
  · dsimp only; rw [Int.zero_add]; exact .int _
theorem gvi_enumT {α : Type} {δ : α → PyData} {as : List α} (h : Gv K t σ H (.tuple (as.map δ))) : GvI K Same (iEnumT K (tCons t tNil)) σ H (as.zipIdx.map fun x => .tuple [.int (x.2 : Nat), δ x.1]) := fun H1 s Q q => h H1 s _ fun v H2 s2 d2 => by
  obtain ⟨a, xs, rfl, hq, hr⟩ := d2.tupI
  refine ⟨a, xs, rfl, hq, q _ H2 s2 ?_⟩
  have hl : xs.length = as.length := by rw [hr.length, List.length_map]
  rw [List.length_map, List.length_zipIdx, ← hl]
  refine walk_enumT.mono (fun h e => same_sqT e hq) fun i h x h' hi e y => ?_
  obtain ⟨T, x1, x2, rfl, nT, rfl, e1, e2⟩ := y
  cases e1
  have hi' : i < as.length := by omega
  obtain ⟨v, hv, dv⟩ := hr.get i (δ as[i]) (by rw [List.getElem?_map, List.getElem?_eq_getElem hi']; rfl)
  replace e2 : xs[i]? = some x2 := e2
  rw [hv] at e2; cases e2
  have sT : Same h (upd h T (.tup [.int (i : Nat), x2])) := same_new nT
  refine ⟨sT, .tuple [.int (i : Nat), δ as[i]], ?_, .tup (.inl (.inl upd_same)) (.cons (.int _) (.cons ((dv.sm e).sm sT) .nil))⟩
  rw [List.getElem?_map, List.getElem?_zipIdx, List.getElem?_eq_getElem hi']
  simp
theorem gvi_enumTK {α : Type} {δ : α → PyData} {as : List α} (h : Gv K t σ H (.tuple (as.map δ))) (z : ∀ a ∈ as, lf (δ a) = true) : GvI K Kp (iEnumT K (tCons t tNil)) σ H (as.zipIdx.map fun x => .tuple [.int (x.2 : Nat), δ x.1]) := fun H1 s Q q => h H1 s _ fun v H2 s2 d2 => by
  obtain ⟨a, xs, rfl, hq, hr⟩ := d2.tupI
  refine ⟨a, xs, rfl, hq, q _ H2 s2 ?_⟩
  have hl : xs.length = as.length := by rw [hr.length, List.length_map]
  rw [List.length_map, List.length_zipIdx, ← hl]
  refine walk_enumT.mono (fun h e => sqT_kp e hq) fun i h x h' hi e y => ?_
  obtain ⟨T, x1, x2, rfl, nT, rfl, e1, e2⟩ := y
  cases e1
  have hi' : i < as.length := by omega
  obtain ⟨v, hv, dv⟩ := hr.get i (δ as[i]) (by rw [List.getElem?_map, List.getElem?_eq_getElem hi']; rfl)
  replace e2 : xs[i]? = some x2 := e2
  rw [hv] at e2; cases e2
  have sT : Same h (upd h T (.tup [.int (i : Nat), x2])) := same_new nT
  refine ⟨sT, .tuple [.int (i : Nat), δ as[i]], ?_, .tup (.inl (.inl upd_same)) (.cons (.int _) (.cons ((dv.kp e (z _ (List.getElem_mem _))).sm sT) .nil))⟩
  rw [List.getElem?_map, List.getElem?_zipIdx, List.getElem?_eq_getElem hi']
  simp
/-- what a comprehension has gathered when D is the new list -/
def LcP (K : PySem.W.Frag) (H1 : Hp) (D : Addr) (ds : Nat → List PyData) (k : Nat) (H2 : Hp) : Prop := (∀ b o, b ≠ D → H1 b = some o → H2 b = some o) ∧ ∃ acc, H2 D = some (.lst acc) ∧ DpAll K H2 acc (ds k) ∧ acc.length ≤ k
theorem lcP_yes {H1 H5 H2 : Hp} {D : Addr} {ds : Nat → List PyData} {k : Nat} {acc : List V} {y : V} {d : PyData} (h : ∀ b o, b ≠ D → H1 b = some o → H2 b = some o) (s25 : Same H2 H5) (eD : H2 D = some (.lst acc)) (ha : DpAll K H2 acc (ds k)) (la : acc.length ≤ k) (dy : Dp K H5 y d)
    (e : ds (k + 1) = ds k ++ [d]) (z : lfAll (ds (k + 1)) = true) : LcP K H1 D ds (k + 1) (upd H5 D (.lst (acc ++ [y]))) := by
  refine ⟨fun b o hb q => by rw [upd_ne hb]; exact s25 _ _ (h b o hb q), acc ++ [y], upd_same, ?_, by rw [List.length_append]; show acc.length + 1 ≤ k + 1; omega⟩
  refine dpAll_kp (Kp.upd (s25 _ _ eD)) _ _ z ?_
  rw [e]
  exact DpAll.append (ha.sm s25) (.cons dy .nil)
theorem lcP_no {H1 H3 H2 : Hp} {D : Addr} {ds : Nat → List PyData} {k : Nat} {acc : List V} (h : ∀ b o, b ≠ D → H1 b = some o → H2 b = some o) (s23 : Same H2 H3) (eD : H2 D = some (.lst acc)) (ha : DpAll K H2 acc (ds k)) (la : acc.length ≤ k)
    (e : ds (k + 1) = ds k) : LcP K H1 D ds (k + 1) H3 :=
  ⟨fun b o hb q => s23 _ _ (h b o hb q), acc, s23 _ _ eD, by rw [e]; exact ha.sm s23, by omega⟩
theorem fil_take {α : Type} {as : List α} {p : α → Bool} {f : α → PyData} {k : Nat} (hk : k < as.length) : (((as.take (k + 1)).filter p).map f) = ((as.take k).filter p).map f ++ if p as[k] then [f as[k]] else [] := by
  rw [List.take_add_one, List.getElem?_eq_getElem hk, Option.toList_some, List.filter_append, List.map_append]
  cases h : p as[k] with
  | true => rw [List.filter_cons_of_pos h]; rfl
  | false => rw [List.filter_cons_of_neg (by rw [h]; exact Bool.false_ne_true)]; rfl
theorem lf_fil {α : Type} {as : List α} {p : α → Bool} {f : α → PyData} (h : ∀ a ∈ as, lf (f a) = true) (k : Nat) : lfAll (((as.take k).filter p).map f) = true := lfAll_of fun d hd => by
  obtain ⟨a, ha, rfl⟩ := List.mem_map.mp hd
  exact h a (List.mem_of_mem_take (List.mem_filter.mp ha).1)
/-- a comprehension, its target one name -/
theorem gn_lc {wi : TI} {tt : TT} {te : TE} {i : Nat} {α : Type} {δ : α → PyData} {as : List α} {p : α → Bool} {f : α → PyData} (hI : GvI K Same wi σ H (as.map δ))
    (hb : ∀ a v H1, a ∈ as → Same H H1 → Dp K H1 v (δ a) → GvT tt ((σ.set i none).set i (some v)) H1 (p a) ∧ (p a = true → Gv K te ((σ.set i none).set i (some v)) H1 (f a)))
    (hf : ∀ a ∈ as, lf (f a) = true) (hn : as.length ≤ 100000) : GvN K (tLc wi (gName i) tt te [i]) σ H ((as.filter p).map f) := by
  intro H0 s0 Q q
  refine hI H0 s0 _ fun J H1 s1 w D nD => ?_
  rw [List.length_map] at w
  refine lc_it w (LcP K H1 D fun k => ((as.take k).filter p).map f) ⟨fun b o hb e => by rw [upd_ne hb]; exact e, [], upd_same, .nil, Nat.zero_le _⟩ (fun k H2 _ hP b o e => hP.1 b o (ne_of_none e nD) e) (fun k x H2 H3 hk hP hY => ?_) (fun H2 hP => ?_)
  · obtain ⟨s2, acc, eD, hacc, la⟩ := hP
    obtain ⟨s3, d, hd, dx⟩ := hY
    rw [List.getElem?_map, List.getElem?_eq_getElem hk] at hd
    cases hd
    have sH : Same H H3 := (s0.trans s1).trans fun b o e => s3 _ _ (s2 b o (ne_of_none e nD) e)
    obtain ⟨g1, g2⟩ := hb as[k] x H3 (List.getElem_mem _) sH dx
    refine ⟨by show ((σ.set i none).set i (some x)).set i none = σ.set i none; rw [List.set_set, List.set_set], g1.at fun H4 s4 => ?_⟩
    cases hp : p as[k] with
    | true =>
      rw [if_pos rfl]
      refine (g2 hp).sm s4 |>.at fun y H5 s5 dy => ⟨acc, s5 _ _ (s4 _ _ (s3 _ _ eD)), small5 (by omega), ?_⟩
      exact lcP_yes s2 ((s3.trans s4).trans s5) eD hacc la dy (by rw [fil_take hk, hp]; rfl) (lf_fil hf _)
    | false =>
      rw [if_neg Bool.false_ne_true]
      exact lcP_no s2 (s3.trans s4) eD hacc la (by rw [fil_take hk, hp]; exact List.append_nil _)
  · obtain ⟨s2, acc, eD, hacc, la⟩ := hP
    replace hacc : DpAll K H2 acc (((as.take as.length).filter p).map f) := hacc
    rw [List.take_length] at hacc
    exact q _ _ H2 (s1.trans fun b o e => s2 b o (ne_of_none e nD) e) (s1.free nD) eD hacc
theorem gl_lc {wi : TI} {tt : TT} {te : TE} {i : Nat} {α : Type} {δ : α → PyData} {as : List α} {p : α → Bool} {f : α → PyData} (hI : GvI K Same wi σ H (as.map δ))
    (hb : ∀ a v H1, a ∈ as → Same H H1 → Dp K H1 v (δ a) → GvT tt ((σ.set i none).set i (some v)) H1 (p a) ∧ (p a = true → Gv K te ((σ.set i none).set i (some v)) H1 (f a)))
    (hf : ∀ a ∈ as, lf (f a) = true) (hn : as.length ≤ 100000) : GvL K (tLc wi (gName i) tt te [i]) σ H ((as.filter p).map f) := (gn_lc hI hb hf hn).gl
theorem gv_lc {wi : TI} {tt : TT} {te : TE} {i : Nat} {α : Type} {δ : α → PyData} {as : List α} {p : α → Bool} {f : α → PyData} (hI : GvI K Same wi σ H (as.map δ))
    (hb : ∀ a v H1, a ∈ as → Same H H1 → Dp K H1 v (δ a) → GvT tt ((σ.set i none).set i (some v)) H1 (p a) ∧ (p a = true → Gv K te ((σ.set i none).set i (some v)) H1 (f a)))
    (hf : ∀ a ∈ as, lf (f a) = true) (hn : as.length ≤ 100000) : Gv K (tLc wi (gName i) tt te [i]) σ H (.list ((as.filter p).map f)) := (gl_lc hI hb hf hn).gv
theorem set_two {i j : Nat} (σ : L2.St) (v u : V) : (((((σ.set j none).set i none).set i (some v)).set j (some u)).set j none).set i none = (σ.set j none).set i none := by
  refine List.ext_getElem? fun k => ?_
  simp only [List.getElem?_set, List.length_set]
  split <;> split <;> (try split) <;> simp_all
/-- the same, its target two names -/
theorem gn_lc2 {wi : TI} {tt : TT} {te : TE} {i j : Nat} {α : Type} {δ1 δ2 : α → PyData} {as : List α} {p : α → Bool} {f : α → PyData} (hI : GvI K Same wi σ H (as.map fun a => .tuple [δ1 a, δ2 a]))
    (hb : ∀ a v u H1, a ∈ as → Same H H1 → Dp K H1 v (δ1 a) → Dp K H1 u (δ2 a) → GvT tt ((((σ.set j none).set i none).set i (some v)).set j (some u)) H1 (p a) ∧ (p a = true → Gv K te ((((σ.set j none).set i none).set i (some v)).set j (some u)) H1 (f a)))
    (hf : ∀ a ∈ as, lf (f a) = true) (hn : as.length ≤ 100000) (hij : i ≠ j) : GvN K (tLc wi (gTup K 2 (gCons (gName i) (gCons (gName j) gNil))) tt te [i, j]) σ H ((as.filter p).map f) := by
  intro H0 s0 Q q
  refine hI H0 s0 _ fun J H1 s1 w D nD => ?_
  rw [List.length_map] at w
  refine lc_it w (LcP K H1 D fun k => ((as.take k).filter p).map f) ⟨fun b o hb e => by rw [upd_ne hb]; exact e, [], upd_same, .nil, Nat.zero_le _⟩ (fun k H2 _ hP b o e => hP.1 b o (ne_of_none e nD) e) (fun k x H2 H3 hk hP hY => ?_) (fun H2 hP => ?_)
  · obtain ⟨s2, acc, eD, hacc, la⟩ := hP
    obtain ⟨s3, d, hd, dx⟩ := hY
    rw [List.getElem?_map, List.getElem?_eq_getElem hk] at hd
    cases hd
    have sH : Same H H3 := (s0.trans s1).trans fun b o e => s3 _ _ (s2 b o (ne_of_none e nD) e)
    obtain ⟨T, xs, rfl, hT, hr⟩ := dx.tupI
    obtain ⟨v, u, rfl, dv, du⟩ := dpAll2 hr
    obtain ⟨g1, g2⟩ := hb as[k] v u H3 (List.getElem_mem _) sH dv du
    refine ⟨T, [v, u], rfl, hT, rfl, v, [u], rfl, u, [], rfl, rfl, ?_, g1.at fun H4 s4 => ?_⟩
    · show (((((σ.set j none).set i none).set i (some v)).set j (some u)).set j none).set i none = (σ.set j none).set i none
      exact set_two _ _ _
    cases hp : p as[k] with
    | true =>
      rw [if_pos rfl]
      refine (g2 hp).sm s4 |>.at fun y H5 s5 dy => ⟨acc, s5 _ _ (s4 _ _ (s3 _ _ eD)), small5 (by omega), ?_⟩
      exact lcP_yes s2 ((s3.trans s4).trans s5) eD hacc la dy (by rw [fil_take hk, hp]; rfl) (lf_fil hf _)
    | false =>
      rw [if_neg Bool.false_ne_true]
      exact lcP_no s2 (s3.trans s4) eD hacc la (by rw [fil_take hk, hp]; exact List.append_nil _)
  · obtain ⟨s2, acc, eD, hacc, la⟩ := hP
    replace hacc : DpAll K H2 acc (((as.take as.length).filter p).map f) := hacc
    rw [List.take_length] at hacc
    exact q _ _ H2 (s1.trans fun b o e => s2 b o (ne_of_none e nD) e) (s1.free nD) eD hacc
theorem gl_lc2 {wi : TI} {tt : TT} {te : TE} {i j : Nat} {α : Type} {δ1 δ2 : α → PyData} {as : List α} {p : α → Bool} {f : α → PyData} (hI : GvI K Same wi σ H (as.map fun a => .tuple [δ1 a, δ2 a]))
    (hb : ∀ a v u H1, a ∈ as → Same H H1 → Dp K H1 v (δ1 a) → Dp K H1 u (δ2 a) → GvT tt ((((σ.set j none).set i none).set i (some v)).set j (some u)) H1 (p a) ∧ (p a = true → Gv K te ((((σ.set j none).set i none).set i (some v)).set j (some u)) H1 (f a)))
    (hf : ∀ a ∈ as, lf (f a) = true) (hn : as.length ≤ 100000) (hij : i ≠ j) : GvL K (tLc wi (gTup K 2 (gCons (gName i) (gCons (gName j) gNil))) tt te [i, j]) σ H ((as.filter p).map f) := (gn_lc2 hI hb hf hn hij).gl
theorem gv_lc2 {wi : TI} {tt : TT} {te : TE} {i j : Nat} {α : Type} {δ1 δ2 : α → PyData} {as : List α} {p : α → Bool} {f : α → PyData} (hI : GvI K Same wi σ H (as.map fun a => .tuple [δ1 a, δ2 a]))
    (hb : ∀ a v u H1, a ∈ as → Same H H1 → Dp K H1 v (δ1 a) → Dp K H1 u (δ2 a) → GvT tt ((((σ.set j none).set i none).set i (some v)).set j (some u)) H1 (p a) ∧ (p a = true → Gv K te ((((σ.set j none).set i none).set i (some v)).set j (some u)) H1 (f a)))
    (hf : ∀ a ∈ as, lf (f a) = true) (hn : as.length ≤ 100000) (hij : i ≠ j) : Gv K (tLc wi (gTup K 2 (gCons (gName i) (gCons (gName j) gNil))) tt te [i, j]) σ H (.list ((as.filter p).map f)) := (gl_lc2 hI hb hf hn hij).gv
theorem gs_ret {t : TE} {d : PyData} {D : Ends} (h : Gv K t σ H d) (q : ∀ v H', Same H H' → Dp K H' v d → D.rt v H') : tRet t D σ H := h.at q
theorem gs_if {c : TT} {b : Bool} {t u : TS} {D : Ends} (h : GvT c σ H b) (h1 : b = true → ∀ H', Same H H' → t D σ H') (h2 : b = false → ∀ H', Same H H' → u D σ H') : tIfS c t u D σ H := h.at fun H' s => by
  cases b with
  | true => rw [if_pos rfl]; exact h1 rfl H' s
  | false => rw [if_neg Bool.false_ne_true]; exact h2 rfl H' s
/-- a loop: Pv by the heap at its start, the turn, the slots and the heap -/
theorem gs_for {wi : TI} {g : TG} {tb : TS} {D : Ends} {ds : List PyData} (hI : GvI K R wi σ H ds) (Pv : Hp → Nat → L2.St → Hp → Prop) (h0 : ∀ H1, Same H H1 → Pv H1 0 σ H1) (hS : ∀ H1 k σ' H', Same H H1 → Pv H1 k σ' H' → R H1 H')
    (hs : ∀ H1 k x d σ' H' H'', Same H H1 → ds[k]? = some d → Pv H1 k σ' H' → Same H' H'' → Dp K H'' x d → g x σ' H'' fun σ2 H2 => tb { D with nx := Pv H1 (k + 1), ct := Pv H1 (k + 1), bk := D.nx } σ2 H2)
    (hd : ∀ H1 σ' H', Same H H1 → Pv H1 ds.length σ' H' → D.nx σ' H') : tFor wi g tb D σ H := by
  refine hI H (Same.refl _) _ fun J H1 s1 w => ?_
  refine for_it w (Pv H1) (h0 H1 s1) (fun k σ' H' _ hP => hS H1 k σ' H' s1 hP) (fun k x σ' H' H'' hk hP hY => ?_) (fun σ' H' hP => hd H1 σ' H' s1 hP)
  obtain ⟨s3, d, hd', dx⟩ := hY
  exact hs H1 k x d σ' H' H'' s1 hd' hP s3 dx
end
end Pr
namespace Pr
open PySem PySem.Spec PyProof.Rows L2
section
variable {K : PySem.W.Frag} {σ : L2.St} {H : Hp} {t ta tb : TE} {d e : PyData} {ds es : List PyData}
theorem dpAll_set {K : PySem.W.Frag} {H : Hp} {v : V} {d : PyData} (hd : Dp K H v d) : ∀ {vs : List V} {ds : List PyData} (i : Nat), DpAll K H vs ds → DpAll K H (vs.set i v) (ds.set i d)
  | [], [], _, .nil => .nil
  | _ :: _, _ :: _, 0, .cons _ t => .cons hd t
  | _ :: _, _ :: _, i + 1, .cons q t => .cons q (dpAll_set hd i t)
theorem gs_if1 {c : TT} {b : Bool} {t u : TS} {D : Ends} (h : GvT c σ H b) (h1 : b = true → ∀ H', Same H H' → t { D with nx := u D } σ H') (h2 : b = false → ∀ H', Same H H' → u D σ H') : tSeq (tIfS c t tNext) u D σ H := gs_if h h1 h2
theorem gs_set1 {i : Nat} {u : TS} {D : Ends} (h : Gv K t σ H d) (q : ∀ v H', Same H H' → Dp K H' v d → u D (σ.set i (some v)) H') : tSeq (tAsg t (gName i)) u D σ H := h.at fun v H' s dv => q v H' s dv
/-- a test that comes out false, what stands under it not reached -/
theorem gs_no {c : TT} {t u : TS} {D : Ends} {b : Bool} (h : GvT c σ H b) (hb : b = false) (h2 : ∀ H', Same H H' → u D σ H') : tSeq (tIfS c t tNext) u D σ H := gs_if h (fun e => by rw [hb] at e; cases e) fun _ => h2
theorem gs_noN {c : TT} {t : TS} {D : Ends} {b : Bool} (h : GvT c σ H b) (hb : b = false) (h2 : ∀ H', Same H H' → D.nx σ H') : tIfS c t tNext D σ H := gs_if h (fun e => by rw [hb] at e; cases e) fun _ => h2
/-- for i in range(n) -/
theorem gs_range {n i : Nat} {tb : TS} {D : Ends} (h : Gv K t σ H (.int n)) (hn : n < 2 ^ 62) (Pv : Hp → Nat → L2.St → Hp → Prop) (h0 : ∀ H1, Same H H1 → Pv H1 0 σ H1)
    (hs : ∀ H1 k σ' H', Same H H1 → k < n → Pv H1 k σ' H' → tb { D with nx := Pv H1 (k + 1), ct := Pv H1 (k + 1), bk := D.nx } (σ'.set i (some (.int (k : Int)))) H')
    (hd : ∀ H1 σ' H', Same H H1 → Pv H1 n σ' H' → D.nx σ' H') : tFor (iRng1 (tCons t tNil)) (gName i) tb D σ H := by
  refine h.at fun v H1 s1 d1 => ?_
  cases d1
  refine ⟨(n : Int), rfl, by omega, by omega, ?_⟩
  rw [Int.toNat_natCast]
  refine for_range (Pv H1) (h0 H1 s1) (fun k σ' H' hk hP => ?_) (fun σ' H' hP => hd H1 σ' H' s1 hP)
  rw [Int.zero_add]
  exact hs H1 k σ' H' s1 hk hP
/-- for x in a list or a tuple -/
theorem gs_each {i : Nat} {tb : TS} {D : Ends} {R : Hp → Hp → Prop} {wi : TI} {α : Type} {δ : α → PyData} {as : List α} (hI : GvI K R wi σ H (as.map δ)) (Pv : Hp → Nat → L2.St → Hp → Prop) (h0 : ∀ H1, Same H H1 → Pv H1 0 σ H1) (hS : ∀ H1 k σ' H', Same H H1 → Pv H1 k σ' H' → R H1 H')
    (hs : ∀ H1 k a v σ' H' H'', Same H H1 → as[k]? = some a → Pv H1 k σ' H' → Same H' H'' → Dp K H'' v (δ a) → tb { D with nx := Pv H1 (k + 1), ct := Pv H1 (k + 1), bk := D.nx } (σ'.set i (some v)) H'')
    (hd : ∀ H1 σ' H', Same H H1 → Pv H1 as.length σ' H' → D.nx σ' H') : tFor wi (gName i) tb D σ H := by
  refine gs_for hI Pv h0 hS (fun H1 k x d σ' H' H'' s1 hd' hP s2 dx => ?_) (fun H1 σ' H' s1 hP => hd H1 σ' H' s1 (by rwa [List.length_map] at hP))
  rw [List.getElem?_map] at hd'
  cases e : as[k]? with
  | none => rw [e] at hd'; cases hd'
  | some a => rw [e] at hd'; cases hd'; exact hs H1 k a x σ' H' H'' s1 e hP s2 dx
/-- for a, b in pairs -/
theorem gs_each2 {i j : Nat} {tb : TS} {D : Ends} {R : Hp → Hp → Prop} {wi : TI} {α : Type} {δ1 δ2 : α → PyData} {as : List α} (hI : GvI K R wi σ H (as.map fun a => .tuple [δ1 a, δ2 a])) (Pv : Hp → Nat → L2.St → Hp → Prop) (h0 : ∀ H1, Same H H1 → Pv H1 0 σ H1) (hS : ∀ H1 k σ' H', Same H H1 → Pv H1 k σ' H' → R H1 H')
    (hs : ∀ H1 k a v u σ' H' H'', Same H H1 → as[k]? = some a → Pv H1 k σ' H' → Same H' H'' → Dp K H'' v (δ1 a) → Dp K H'' u (δ2 a) → tb { D with nx := Pv H1 (k + 1), ct := Pv H1 (k + 1), bk := D.nx } ((σ'.set i (some v)).set j (some u)) H'')
    (hd : ∀ H1 σ' H', Same H H1 → Pv H1 as.length σ' H' → D.nx σ' H') : tFor wi (gTup K 2 (gCons (gName i) (gCons (gName j) gNil))) tb D σ H := by
  refine gs_for hI Pv h0 hS (fun H1 k x d σ' H' H'' s1 hd' hP s2 dx => ?_) (fun H1 σ' H' s1 hP => hd H1 σ' H' s1 (by rwa [List.length_map] at hP))
  rw [List.getElem?_map] at hd'
  cases e : as[k]? with
  | none => rw [e] at hd'; cases hd'
  | some a =>
    rw [e] at hd'; cases hd'
    obtain ⟨T, xs, rfl, hT, hr⟩ := dx.tupI
    obtain ⟨v, u, rfl, dv, du⟩ := dpAll2 hr
    exact ⟨T, [v, u], rfl, hT, rfl, v, [u], rfl, u, [], rfl, rfl, hs H1 k a v u σ' H' H'' s1 e hP s2 dv du⟩
theorem gn_cat (ha : GvL K ta σ H ds) (hb : GvL K tb σ H es) (hn : ds.length + es.length ≤ 100000) : GvN K (tOp rCat ta tb) σ H (ds ++ es) := fun H1 s Q q =>
  ha H1 s _ fun a xs H2 s2 ea da => hb H2 (s.trans s2) _ fun b ys H3 s3 eb db =>
    ⟨a, b, xs, ys, rfl, rfl, s3 _ _ ea, eb, by rw [da.length, db.length]; exact Nat.le_of_lt (small5 hn), fun p np => q _ _ _ ((s2.trans s3).trans (same_new np)) ((s2.trans s3).free np) upd_same (DpAll.append (da.sm (s3.trans (same_new np))) (db.sm (same_new np)))⟩
theorem gl_cat (ha : GvL K ta σ H ds) (hb : GvL K tb σ H es) (hn : ds.length + es.length ≤ 100000) : GvL K (tOp rCat ta tb) σ H (ds ++ es) := (gn_cat ha hb hn).gl
theorem gs_setN {i : Nat} {u : TS} {D : Ends} (h : GvN K t σ H ds) (q : ∀ a vs H', Same H H' → H a = none → H' a = some (.lst vs) → DpAll K H' vs ds → u D (σ.set i (some (.ref a))) H') : tSeq (tAsg t (gName i)) u D σ H := h.at fun a vs H' s n e dv => q a vs H' s n e dv
/-- tuple(range(n)) -/
theorem gv_tupRg {n : Nat} (h : Gv K t σ H (.int n)) (hn : n ≤ 100000) : Gv K (tTupRg (tRg1 t)) σ H (dInts ((List.range n).map fun i : Nat => (i : Int))) := fun H1 s Q q => h H1 s _ fun v H2 s2 d2 => by
  cases d2
  refine ⟨_, rfl, ⟨by omega, by omega, by omega, by omega, ?_⟩, fun p np => q _ _ (s2.trans (same_new np)) ?_⟩
  · have := small5 hn; omega
  · refine dp_ints (.inl (.inl ?_))
    rw [upd_same]
    unfold rgV
    rw [List.map_map, Int.sub_zero, Int.toNat_natCast]
    congr 2
    refine List.map_congr_left fun i _ => ?_
    show V.int (0 + (i : Int)) = V.int (i : Int)
    rw [Int.zero_add]
theorem gv_catT (ha : Gv K ta σ H (.tuple ds)) (hb : Gv K tb σ H (.tuple es)) (hn : ds.length + es.length ≤ 100000) : Gv K (tOp (rCatS K) ta tb) σ H (.tuple (ds ++ es)) :=
  gv_op2 ha hb fun x y H1 Q s hx hy q => by
    obtain ⟨a, xs, rfl, hq, hr⟩ := hx.tupI
    obtain ⟨b, ys, rfl, hq2, hr2⟩ := hy.tupI
    exact ⟨a, b, xs, ys, rfl, rfl, hq, hq2, by rw [hr.length, hr2.length]; exact Nat.le_of_lt (small5 hn), fun p H' s' hp => q _ _ s' (.tup hp (DpAll.append (hr.sm s') (hr2.sm s')))⟩
end
end Pr
namespace Pr
open PySem PySem.Spec PyProof.Rows L2
theorem rgV_intL (n : Nat) : rgV 0 (n : Int) = (intL n).map V.int := by
  unfold rgV intL
  rw [List.map_map, Int.sub_zero, Int.toNat_natCast]
  refine List.map_congr_left fun i _ => ?_
  show V.int (0 + (i : Int)) = V.int (i : Int)
  rw [Int.zero_add]
theorem idx_at {l : List Int} {k : Int} (h : k ∈ l) : l[l.idxOf k]? = some k ∧ ∀ m, m < l.idxOf k → l[m]? ≠ some k := by
  induction l with
  | nil => cases h
  | cons x r ih =>
    by_cases e : x = k
    · subst e
      rw [List.idxOf_cons_self]
      exact ⟨rfl, fun m h => by omega⟩
    · obtain ⟨h1, h2⟩ := ih ((List.mem_cons.mp h).resolve_left (Ne.symm e))
      rw [List.idxOf_cons, show (x == k) = false from beq_eq_false_iff_ne.mpr e, cond_false]
      refine ⟨by simpa using h1, fun m hm => ?_⟩
      cases m with
      | zero => simp; exact e
      | succ m => simpa using h2 m (by omega)
theorem gv_andV {K : PySem.W.Frag} {σ : L2.St} {H : Hp} {ta tb : TE} {b c : Bool} (ha : Gv K ta σ H (.bool b)) (hb : b = true → Gv K tb σ H (.bool c)) : Gv K (tAndV ta tb) σ H (.bool (b && c)) := fun H1 s Q q => ha H1 s _ fun v H2 s2 d2 => by
  cases d2
  refine ⟨b, rfl, ?_⟩
  cases b with
  | true => rw [if_pos rfl]; exact hb rfl H2 (s.trans s2) _ fun v H3 s3 d3 => q v H3 (s2.trans s3) d3
  | false => rw [if_neg Bool.false_ne_true]; exact q _ _ s2 (.bl false)
/-- each of 0 .. n - 1 once -/
structure IsP (n : Nat) (nm : List Int) : Prop where
  len : nm.length = n
  nd : nm.Nodup
  rng : ∀ x ∈ nm, 0 ≤ x ∧ x < (n : Int)
theorem IsP.mem {n : Nat} {nm : List Int} (h : IsP n nm) {x : Int} (h0 : 0 ≤ x) (h1 : x < (n : Int)) : x ∈ nm := Classical.byContradiction fun hx => by
  have := nodup_few n (x :: nm) (List.nodup_cons.mpr ⟨hx, h.nd⟩) fun y hy => by
    rcases List.mem_cons.mp hy with rfl | hy
    · exact ⟨h0, h1⟩
    · exact h.rng y hy
  rw [List.length_cons, h.len] at this
  omega
theorem isP_intL (n : Nat) : IsP n (intL n) := ⟨intL_len n, (intL_up n).imp fun {x y} h => by omega, fun x hx => mem_intL.mp hx⟩
/-- what button b is called -/
def nmOf (nm : List Int) (x : Int) : Int := nm.getD x.toNat 0
theorem IsP.at {n : Nat} {nm : List Int} (h : IsP n nm) {x : Int} (h0 : 0 ≤ x) (h1 : x < (n : Int)) : nm[x.toNat]? = some (nmOf nm x) := by
  unfold nmOf
  rw [List.getD_eq_getElem?_getD, List.getElem?_eq_getElem (by rw [h.len]; omega)]; rfl
theorem IsP.rngOf {n : Nat} {nm : List Int} (h : IsP n nm) {x : Int} (h0 : 0 ≤ x) (h1 : x < (n : Int)) : 0 ≤ nmOf nm x ∧ nmOf nm x < (n : Int) := h.rng _ (List.mem_of_getElem? (h.at h0 h1))
theorem nd_get {l : List Int} (h : l.Nodup) {i j : Nat} {x : Int} (hi : l[i]? = some x) (hj : l[j]? = some x) : i = j := by
  obtain ⟨w1, z1⟩ := List.getElem?_eq_some_iff.mp hi
  obtain ⟨w2, z2⟩ := List.getElem?_eq_some_iff.mp hj
  have hp := List.pairwise_iff_getElem.mp h
  rcases Nat.lt_trichotomy i j with lt | e | lt
  · exact absurd (z1.trans z2.symm) (hp _ _ w1 w2 lt)
  · exact e
  · exact absurd (z2.trans z1.symm) (hp _ _ w2 w1 lt)
theorem IsP.inj {n : Nat} {nm : List Int} (h : IsP n nm) {x y : Int} (h0 : 0 ≤ x) (h1 : x < (n : Int)) (h2 : 0 ≤ y) (h3 : y < (n : Int)) (e : nmOf nm x = nmOf nm y) : x = y := by
  have a := h.at h0 h1
  have b := h.at h2 h3
  rw [← e] at b
  have := nd_get h.nd a b
  omega
/-- the button that is called x -/
theorem IsP.idx {n : Nat} {nm : List Int} (h : IsP n nm) {x : Int} (h0 : 0 ≤ x) (h1 : x < (n : Int)) : nm.idxOf x < n ∧ nmOf nm (nm.idxOf x : Nat) = x := by
  obtain ⟨g1, _⟩ := idx_at (h.mem h0 h1)
  have hl := (List.getElem?_eq_some_iff.mp g1).1
  rw [h.len] at hl
  refine ⟨hl, ?_⟩
  have := h.at (x := (nm.idxOf x : Nat)) (by omega) (by omega)
  rw [Int.toNat_natCast, g1] at this
  exact (Option.some.inj this).symm
theorem IsP.idx_of {n : Nat} {nm : List Int} (h : IsP n nm) {x : Int} (h0 : 0 ≤ x) (h1 : x < (n : Int)) : (nm.idxOf (nmOf nm x) : Int) = x := by
  have r := h.rngOf h0 h1
  obtain ⟨g1, g2⟩ := h.idx r.1 r.2
  exact h.inj (by omega) (by omega) h0 h1 g2
/-- the panel with other names -/
def renM (pan : List (List Int)) (nm : List Int) : List (List Int) := (List.range pan.length).map fun x : Nat => srt ((pan.getD (nm.idxOf (x : Int)) []).map (nmOf nm))
theorem renM_len (pan : List (List Int)) (nm : List Int) : (renM pan nm).length = pan.length := by unfold renM; rw [List.length_map, List.length_range]
end Pr
namespace Pr
open PySem PySem.Spec PyProof.Rows L2
section
variable {κ : Type} [DecidableEq κ]
abbrev BL (κ : Type) := List (κ × List Int)
variable {step : κ → Nat → κ} {n : Nat} {s : κ}
end
/-- the number whose digits to the base b these are -/
def enc (b : Nat) : Nat → (Nat → Nat) → Nat
  | 0, _ => 0
  | n + 1, d => d 0 + b * enc b n fun i => d (i + 1)
end Pr
namespace Pr
open PySem PySem.Spec PyProof.Rows L2 PySem.W
/-- v is a tuple that holds these numbers -/
def IsTI (h : Heap) (v : Value) (ns : List Int) : Prop :=
  ∃ (a : Addr) (dd : Option Addr) (items : Array Value) (n : Nat) (sl : Array (Option Value)), v = .ref a ∧ h.get? a = some { cls := .type "tuple", dict := dd, data := .seq items n, slots := sl } ∧ IntsAre items.toList ns
theorem IsTI.keeps {h h' : Heap} {v : Value} {ns : List Int} (x : IsTI h v ns) (k : ∀ b o, v = .ref b → h.get? b = some o → h'.get? b = some o) : IsTI h' v ns := by
  obtain ⟨a, dd, items, n, sl, e, g, i⟩ := x
  exact ⟨a, dd, items, n, sl, e, k _ _ e g, i⟩
theorem IsTI.type {M : Model} {h : Heap} {v : Value} {ns : List Int} (x : IsTI h v ns) : Looks M h (typeOf v) (.type "tuple") := by
  obtain ⟨a, dd, items, n, sl, rfl, g, i⟩ := x
  exact (Looks.ld g).andThen .now
section
variable {prog : Program} {w : World} {A : Around} {E : Value → Shared → Prop} {s : Shared}
theorem call_ltT {a b : Addr} {dd dd2 : Option Addr} {items items2 : Array Value} {n n2 : Nat} {sl sl2 : Array (Option Value)} {ns ms : List Int} {Q : Value → Shared → Prop} (ga : s.heap.get? a = some { cls := .type "tuple", dict := dd, data := .seq items n, slots := sl })
    (gb : s.heap.get? b = some { cls := .type "tuple", dict := dd2, data := .seq items2 n2, slots := sl2 }) (ia : IntsAre items.toList ns) (ib : IntsAre items2.toList ms) (iv : Looks (model prog w) s.heap (isInstance (.ref a) (.type "tuple")) true)
    (iu : ∀ M : Model, Looks M s.heap (isInstance (.ref b) (.type "tuple")) true) (h : Q (.bool (HT.lexLt ns ms)) s) : wpAny (model prog w) A (call (.builtin "tuple.__lt__") [.ref a, .ref b]) Q E s := by
  refine wpAny_call (codeAny_call_builtin PySem.F.slot_tuple_lt.plain PySem.F.entry_tuple_lt (@check_slot (model prog w) _ _ _ "tuple.__lt__" "tuple" "__lt__" (.ref a) [.ref b] [] _ (by decide +kernel) (by decide +kernel) iv (PySem.F.args_tuple_lt_2 _ _) ?_))
  refine wpAny_mono (NtL.nt_lt_ints a b (.type "tuple") (.type "tuple") items items2 n n2 dd dd2 sl sl2 ns ms ia ib prog w _ (wants Q E) s ⟨ga, gb, iu, h⟩) (fun fin s' q => ?_) fun _ _ z => z
  cases fin with
  | done f => exact q
  | again c => exact q
theorem lt_ti {v u : Value} {ns ms : List Int} {Q : Bool → Shared → Prop} (hu : A.units < cLine) (hv : IsTI s.heap v ns) (hw : IsTI s.heap u ms) (h : Q (HT.lexLt ns ms) s) : wpAny (model prog w) A (keyLt' oneType' v u) Q E s := by
  have iu : ∀ M : Model, Looks M s.heap (isInstance u (.type "tuple")) true := fun M => (hw.type (M := M)).andThen (Looks.of_pure (by rfl))
  obtain ⟨a, dd, items, n, sl, rfl, ga, ia⟩ := hv
  obtain ⟨b, dd2, items2, n2, sl2, rfl, gb, ib⟩ := hw
  have iv : Looks (model prog w) s.heap (isInstance (.ref a) (.type "tuple")) true := (Looks.ld ga).andThen (Looks.of_pure (by rfl))
  rw [keyLt'_oneType, oneLt'_eq]
  simp only [if_true]
  refine wpAny_bind (wpAny_cRoomFor hu ?_)
  refine wpAny_bind (wpAny_callSpecialIfBound?_slot (T := "tuple") ⟨_, ga, rfl⟩ PySem.F.slot_tuple_lt (call_ltT ga gb ia ib iv iu ?_))
  exact wpAny_truthy_bool h
/-- the kind of keys: the first one is the empty tuple -/
theorem mapM_by {α β : Type} {M : Model} {f : α → Sem β} (g : α → β) : ∀ (l : List α) {Q : List β → Shared → Prop}, (∀ v ∈ l, ∀ (Q' : β → Shared → Prop), Q' (g v) s → wpAny M A (f v) Q' E s) → Q (l.map g) s → wpAny M A (l.mapM f) Q E s
  | [], _, _, h => by rw [List.mapM_nil]; exact wpAny_pure h
  | x :: l, Q, hf, h => by
    rw [List.mapM_cons]
    exact wpAny_bind (hf x (.head _) _ (wpAny_bind (mapM_by g l (Q := fun bs s' => wpAny M A (pure (g x :: bs)) Q E s') (fun v hv => hf v (.tail _ hv)) (wpAny_pure h))))
def firstIn (h : Heap) (v : Value) : Option Value := match v with
  | .ref a => match h.get? a with
    | some ⟨_, _, .seq its _, _⟩ => its[0]?
    | _ => none
  | _ => none
theorem kind_ti {v₁ v₂ : Value} {rest : List Value} {k : Value → List Int} {Q : SortKind → Shared → Prop} (hv : ∀ v ∈ v₁ :: v₂ :: rest, IsTI s.heap v (k v)) (h1 : k v₁ = []) (h : Q oneType' s) :
    wpAny (model prog w) A (keyKind' (v₁ :: v₂ :: rest).toArray) Q E s := by
  rw [kat_kind_eq, List.mapM_toArray, map_eq_pure_bind]
  have e0 : firstIn s.heap v₁ = none := by
    obtain ⟨a, dd, items, n, sl, e, g, i⟩ := hv v₁ List.mem_cons_self
    rw [h1] at i
    have hi := i.length
    subst e
    unfold firstIn
    simp only [g]
    rw [Array.getElem?_eq_none]
    simpa using hi
  refine wpAny_bind (wpAny_bind (mapM_by (firstIn s.heap) _ (fun v hm Q' hq => ?_) (wpAny_pure ?_)))
  · obtain ⟨a, dd, items, n, sl, e, g, i⟩ := hv v hm
    rw [kas_first_eq]
    refine wpAny_bind ((hv v hm).type.here ?_)
    rw [if_neg (by decide)]
    subst e
    unfold firstIn at hq
    simp only [g] at hq
    exact wpAny_bind (listItems_at g rfl (wpAny_pure hq))
  · rw [if_neg (by simp [e0]), if_neg (by simp [e0])]
    rw [oneTypeOnly'_eq, List.mapM_toArray, map_eq_pure_bind]
    refine wpAny_bind (wpAny_bind (wpAny_bind (kas_mapM (r := Value.type "tuple") _ (fun v hm Q' hq => (hv v hm).type.here hq) (wpAny_pure ?_))))
    have hall : ((List.map (fun _ => Value.type "tuple") (v₁ :: v₂ :: rest)).toArray.all fun x => x == Value.type "tuple") = true := by
      simp only [List.all_toArray, List.all_map, List.all_eq_true]
      intro _ _
      rfl
    have h0 : (List.map (fun _ => Value.type "tuple") (v₁ :: v₂ :: rest)).toArray[0]? = some (Value.type "tuple") := by simp
    rw [h0]
    simp only [hall, if_true]
    exact wpAny_pure (wpAny_pure h)
theorem ti_cmp {vs : List Value} {k : Value → List Int} (hu : A.units < cLine) (hv : ∀ v ∈ vs, IsTI s.heap v (k v)) : SrtO.Cmp prog w A s oneType' (fun p => p.1 ∈ vs) (SrtO.lt2 fun v u => HT.lexLt (k v) (k u)) := by
  intro p q hp hq
  exact lt_ti (Q := fun r s' => s' = s ∧ r = HT.lexLt (k p.1) (k q.1)) (E := fun _ _ => False) hu (hv p.1 hp) (hv q.1 hq) ⟨rfl, rfl⟩
theorem ti_sortable {a : Addr} {vs : List Value} {k : Value → List Int} (h2 : 2 ≤ vs.length) (hu : A.units < cLine) (hv : ∀ v ∈ vs, IsTI s.heap v (k v)) (h1 : (vs.head?.map k) = some []) (ha : ∀ v ∈ vs, v ≠ .ref a) :
    SrtO.SortableO prog w A s a vs fun v u => HT.lexLt (k v) (k u) := by
  intro h' keep
  have hv' : ∀ v ∈ vs, IsTI h' v (k v) := fun v hm => (hv v hm).keeps fun b o e g => keep b o (fun z => ha v hm (by rw [e, z])) g
  refine ⟨oneType', fun Q E hq => ?_, ti_cmp (s := { s with heap := h' }) hu hv'⟩
  match vs, h2, hv', h1 with
  | v₁ :: v₂ :: rest, _, hv', h1 => exact kind_ti (s := { s with heap := h' }) (k := k) hv' (by simpa using h1) hq
end
section
variable {X : Cx}
/-- sorted(xs), xs a list of tuples of ints, the first one () -/
def rSortedTI (K : PySem.W.Frag) : List V → Hp → VK → Prop := fun vs H Q => ∃ (a : Addr) (ts : List Addr) (k : Addr → List Int), vs = [V.ref a] ∧ SqL K H a (ts.map V.ref) ∧ (∀ t ∈ ts, SqT K H t ((k t).map V.int)) ∧ (ts.head?.map k) = some [] ∧
  ∀ (ts' : List Addr) (p : Addr), ts'.Perm ts → ts'.Pairwise (fun p q => HT.lexLt (k q) (k p) = false) → H p = none → Q (.ref p) (upd H p (.lst (ts'.map V.ref)))
theorem cr_sortedTI (hu : X.A.units + 64 < cLine) : CallR X (.builtin "sorted") (rSortedTI X.K) := by
  intro pins s σ H vs us Q I r h
  obtain ⟨a, ts, k, rfl, hs, hx, h0, q⟩ := h
  obtain ⟨its, rv, hl, hz⟩ := I.list hs
  obtain ⟨u, rfl, ru⟩ := vals1 r
  obtain rfl : u = Value.ref a := ru
  have ei := nts_of rv
  have hv : ∀ u ∈ its, IsTI s.heap u (k (adO u)) := fun u hm => by
    rw [ei] at hm
    obtain ⟨t, ht, rfl⟩ := List.mem_map.mp hm
    obtain ⟨its2, r2, ⟨⟨cls, dd, data, sl⟩, ho, hc, n, hd⟩, hz2⟩ := I.tuple (hx t ht)
    simp only at hc hd
    subst hc hd
    exact ⟨t, dd, its2.toArray, n, sl, rfl, ho, (by simpa using ints_of_vals r2 : IntsAre its2.toArray.toList (k t))⟩
  have hh : its.head?.map (fun u => k (adO u)) = some [] := by
    rw [ei]
    cases ts with
    | nil => simp at h0
    | cons t ts => simpa [adO] using h0
  refine SrtO.sorted_ord (NtL.swo_lexL fun u => k (adO u)) hl.isList (by rw [← rv.length]; exact hz) (fun h2 h₁ b hb kk => ti_sortable (s := { s with heap := h₁ }) h2 (by simp only [Around.in1_units]; omega) (fun v hm => (hv v hm).keeps fun c o _ e => (kk c o e).2) hh fun v hm z => ?_) fun out h1 h2 => ?_
  · obtain ⟨c, dd, items, n, sl, e, g, i⟩ := hv v hm
    rw [e] at z
    exact (kk c _ g).1 (Value.ref.inj z)
  · have eo : out = (out.map adO).map Value.ref := ref_map fun u hm => by
      have hm' : u ∈ its := h2.perm.mem_iff.mp hm
      rw [ei] at hm'
      obtain ⟨t, _, e⟩ := List.mem_map.mp hm'
      exact ⟨t, e.symm⟩
    have hp : (out.map adO).Perm ts := by
      have p1 := h2.perm.map adO
      rw [ei, ad_map] at p1
      exact p1
    have hs' : (out.map adO).Pairwise (fun p q => HT.lexLt (k q) (k p) = false) := List.pairwise_map.mpr (h1.imp fun {x y} z => z)
    have hlen : ((out.map adO).map V.ref).length ≤ sizeLine := by
      rw [List.length_map, hp.length_eq]
      rw [List.length_map] at hz
      exact hz
    have rvo : Vals ((out.map adO).map V.ref) out := by
      have z := of_nts (out.map adO)
      rw [← eo] at z
      exact z
    obtain ⟨n, hn⟩ := sortedAll_at s.heap its out.toArray
    exact ⟨.ref (s.heap.objs.size + 1), upd H _ (.lst ((out.map adO).map V.ref)), I.laid (t' := s.toks) (fun b o e => sortedAll_old e) (Nat.le_succ _) ⟨hlen, out, n, rvo, hn⟩, rfl, q _ _ hp hs' (I.hok.fresh (Nat.le_succ _))⟩
end
end Pr
namespace Pr
open PySem PySem.Spec PyProof.Rows L2 PySem.W
theorem lexLt_lt : ∀ xs ys : List Int, HT.lexLt xs ys = decide (xs < ys)
  | [], [] => by simp [HT.lexLt]
  | [], y :: ys => by simp [HT.lexLt]
  | x :: xs, [] => by simp [HT.lexLt]
  | x :: xs, y :: ys => by
    rw [HT.lexLt_cons, lexLt_lt xs ys]
    by_cases e : x = y
    · subst e
      rw [if_pos rfl]
      exact decide_eq_decide.mpr (by simp [List.cons_lt_cons_iff])
    · rw [if_neg e]
      exact decide_eq_decide.mpr (by simp [List.cons_lt_cons_iff, e])
theorem lex_total (a b : List Int) : HT.lexLt a b = false ∨ HT.lexLt b a = false := by
  rw [lexLt_lt, lexLt_lt, decide_eq_false_iff_not, decide_eq_false_iff_not]
  by_cases h : a < b
  · exact .inr (List.lt_asymm h)
  · exact .inl h
theorem lex_trans {a b c : List Int} (h1 : HT.lexLt b a = false) (h2 : HT.lexLt c b = false) : HT.lexLt c a = false := by
  rw [lexLt_lt, decide_eq_false_iff_not] at *
  have h1 : a ≤ b := h1
  have h2 : b ≤ c := h2
  exact (List.le_trans h1 h2 : a ≤ c)
theorem lex_anti {a b : List Int} (h1 : HT.lexLt b a = false) (h2 : HT.lexLt a b = false) : a = b := by
  rw [lexLt_lt, decide_eq_false_iff_not] at *
  exact List.le_antisymm (show a ≤ b from h1) (show b ≤ a from h2)
/-- the ascending one of the same rows -/
def srtT (ks : List (List Int)) : List (List Int) := ks.mergeSort fun a b => !HT.lexLt b a
theorem srtT_perm (ks : List (List Int)) : (srtT ks).Perm ks := List.mergeSort_perm _ _
theorem srtT_up (ks : List (List Int)) : (srtT ks).Pairwise fun a b => HT.lexLt b a = false := by
  have := List.pairwise_mergeSort (le := fun a b : List Int => !HT.lexLt b a) (fun a b c h1 h2 => by simp at *; exact lex_trans h1 h2) (fun a b => by
    rcases lex_total a b with h | h <;> simp [h]) ks
  exact this.imp fun h => by simpa using h
theorem permT_eq : ∀ {l1 l2 : List (List Int)}, l1.Perm l2 → l1.Pairwise (fun a b => HT.lexLt b a = false) → l2.Pairwise (fun a b => HT.lexLt b a = false) → l1 = l2 := by
  intro l1
  induction l1 with
  | nil => intro l2 h _ _; exact (List.nil_perm.mp h).symm
  | cons x r ih =>
    intro l2 h h1 h2
    cases l2 with
    | nil => exact absurd h.symm (by simp)
    | cons y s =>
      rw [List.pairwise_cons] at h1 h2
      have hxy : x = y := by
        have hx : x ∈ y :: s := h.subset List.mem_cons_self
        have hy : y ∈ x :: r := h.symm.subset List.mem_cons_self
        rcases List.mem_cons.mp hx with e | e
        · exact e
        · rcases List.mem_cons.mp hy with e' | e'
          · exact e'.symm
          · exact lex_anti (h1.1 y e') (h2.1 x e)
      subst hxy
      rw [ih (List.Perm.cons_inv h) h1.2 h2.2]
theorem srtT_eq {l m : List (List Int)} (h : m.Perm l) (u : m.Pairwise fun a b => HT.lexLt b a = false) : srtT l = m := permT_eq ((srtT_perm l).trans h.symm) (srtT_up l) u
section
variable {X : Cx}
def rSortTup (K : PySem.W.Frag) : List V → Hp → VK → Prop := fun vs H Q => ∃ (a : Addr) (ts : List Addr) (k : Addr → List Int), vs = [V.ref a] ∧ SqL K H a (ts.map V.ref) ∧ (∀ t ∈ ts, SqT K H t ((k t).map V.int)) ∧ ((∀ t ∈ ts, k t ≠ []) ∨ (ts.head?.map k) = some []) ∧
  ∀ (ts' : List Addr) (p : Addr), ts'.Perm ts → ts'.Pairwise (fun p q => HT.lexLt (k q) (k p) = false) → H p = none → Q (.ref p) (upd H p (.lst (ts'.map V.ref)))
theorem each_map_ref {R : Value → Addr → Prop} : ∀ {out : List Value} {ts : List Addr}, EachIs (fun v t => v = Value.ref t) out ts → out = ts.map Value.ref
  | _, _, .nil => rfl
  | _, _, .cons e t => by rw [e, each_map_ref (R := R) t]; rfl
theorem cr_sortTup (hu : X.A.units + 64 < cLine) : CallR X (.builtin "sorted") (rSortTup X.K) := by
  intro pins s σ H vs us Q I r h
  obtain ⟨a, ts, k, rfl, hs, hx, h0, q⟩ := h
  rcases h0 with h0 | h0
  · obtain ⟨its, rv, hl, hz⟩ := I.list hs
    obtain ⟨u, rfl, ru⟩ := vals1 r
    obtain rfl : u = Value.ref a := ru
    have ei := nts_of rv
    have hlen : its.length = ts.length := by rw [← rv.length, List.length_map]
    have er : EachIs (fun v t => ∃ as, Reads s.heap v (.tuple ((k t).map PyData.int)) as) its ts := by
      rw [ei]
      have : ∀ (l : List Addr), (∀ t ∈ l, t ∈ ts) → EachIs (fun v t => ∃ as, Reads s.heap v (.tuple ((k t).map PyData.int)) as) (l.map Value.ref) l := fun l => by
        induction l with
        | nil => intro _; exact .nil
        | cons t l ih => intro hm; exact .cons (Dp.reads I _ _ _ (dp_ints (hx t (hm t List.mem_cons_self))) rfl) (ih fun x hx => hm x (List.mem_cons_of_mem _ hx))
      exact this ts fun _ h => h
    have e0 : EachIs (fun v t => v = Value.ref t) its ts := by
      rw [ei]
      have : ∀ (l : List Addr), EachIs (fun v t => v = Value.ref t) (l.map Value.ref) l := fun l => by
        induction l with
        | nil => exact .nil
        | cons t l ih => exact .cons rfl ih
      exact this ts
    refine sorted_data (enc := fun t => .tuple ((k t).map PyData.int)) hl.isList e0 er (fun d hd d' hd' => ?_) (.inl fun d hd => ?_) (by rw [List.length_map] at hz; exact hz) (fun b hb => ?_) fun out ol oe => ?_
    · obtain ⟨t, _, rfl⟩ := List.mem_map.mp hd
      obtain ⟨t', _, rfl⟩ := List.mem_map.mp hd'
      show alike (.tuple _) (.tuple _) = true
      simp only [alike]
      exact alike_ints _ _
    · obtain ⟨t, ht, rfl⟩ := List.mem_map.mp hd
      cases e : k t with
      | nil => exact absurd e (h0 t ht)
      | cons x r => exact ⟨.int x, r.map PyData.int, rfl⟩
    · show X.A.units + 2 + (PyData.tuple ((k b).map PyData.int)).depth < cLine
      simp only [PyData.depth, depth_ints]; omega
    · have eo := each_map_ref (R := fun _ _ => True) oe
      have le : dataLe false (fun t => PyData.tuple ((k t).map PyData.int)) = fun p q => !HT.lexLt (k q) (k p) := by
        funext p q
        show (!dataLt (.tuple ((k q).map .int)) (.tuple ((k p).map .int))) = _
        rw [dataLt_tuple]
        show (!rowLt ((k q).map .int) ((k p).map .int)) = _
        rw [dataLt_ints, lexLt_lt]
      have hp : (ts.mergeSort (dataLe false fun t => PyData.tuple ((k t).map PyData.int))).Perm ts := List.mergeSort_perm _ _
      have hs' : (ts.mergeSort (dataLe false fun t => PyData.tuple ((k t).map PyData.int))).Pairwise (fun p q => HT.lexLt (k q) (k p) = false) := by
        rw [le]
        have := List.pairwise_mergeSort (le := fun p q : Addr => !HT.lexLt (k q) (k p)) (fun a b c h1 h2 => by simp at *; exact lex_trans h1 h2) (fun a b => by rcases lex_total (k a) (k b) with h | h <;> simp [h]) ts
        exact this.imp fun h => by simpa using h
      have hl2 : ((ts.mergeSort (dataLe false fun t => PyData.tuple ((k t).map PyData.int))).map V.ref).length ≤ sizeLine := by
        rw [List.length_map, hp.length_eq]; rw [List.length_map] at hz; exact hz
      have rvo : Vals ((ts.mergeSort (dataLe false fun t => PyData.tuple ((k t).map PyData.int))).map V.ref) out := by
        rw [eo]; exact of_nts _
      obtain ⟨n, hn⟩ := sortedAll_at s.heap its out.toArray
      exact ⟨.ref (s.heap.objs.size + 1), upd H _ (.lst ((ts.mergeSort (dataLe false fun t => PyData.tuple ((k t).map PyData.int))).map V.ref)), I.laid (t' := s.toks) (fun b o e => sortedAll_old e) (Nat.le_succ _) ⟨hl2, out, n, rvo, hn⟩, rfl, q _ _ hp hs' (I.hok.fresh (Nat.le_succ _))⟩
  · exact cr_sortedTI hu pins s σ H [V.ref a] us Q I r ⟨a, ts, k, rfl, hs, hx, h0, q⟩
end
end Pr
namespace Pr
open PySem PySem.Spec PyProof.Rows L2
theorem val_zip {κ : Type} [DecidableEq κ] : ∀ {ks : List κ} {vs : List V} {i : Nat} {k : κ} {v : V}, ks.Nodup → ks[i]? = some k → vs[i]? = some v → valV (ks.zip vs) k = some v
  | [], _, _, _, _, _, h, _ => by simp at h
  | _ :: _, [], _, _, _, _, _, h => by simp at h
  | a :: ks, b :: vs, 0, k, v, nd, h1, h2 => by
    simp at h1 h2; subst h1 h2
    rw [List.zip_cons_cons]; exact valV_pos rfl
  | a :: ks, b :: vs, i + 1, k, v, nd, h1, h2 => by
    rw [List.nodup_cons] at nd
    have h1' : ks[i]? = some k := by simpa using h1
    rw [List.zip_cons_cons, valV_neg (fun e => nd.1 (by rw [show a = k from e]; exact List.mem_of_getElem? h1'))]
    exact val_zip nd.2 h1' (by simpa using h2)
theorem val_zip_none {κ : Type} [DecidableEq κ] : ∀ {ks : List κ} {vs : List V} {k : κ}, k ∉ ks → valV (ks.zip vs) k = none
  | [], _, _, _ => rfl
  | _ :: _, [], _, _ => by rw [List.zip_nil_right]; rfl
  | a :: ks, b :: vs, k, h => by
    rw [List.zip_cons_cons, valV_neg (fun e => h (by rw [show a = k from e]; exact List.mem_cons_self))]
    exact val_zip_none fun z => h (List.mem_cons_of_mem _ z)
/-- the dict of the things found, each with its row -/
def DictB (K : PySem.W.Frag) (H : Hp) (d : Addr) (L : BL (List Key)) : Prop := ∃ vs, H d = some (.dT ((L.map (·.1)).zip vs)) ∧ DpAll K H vs (L.map fun x => dInts x.2)
theorem DictB.same {K : PySem.W.Frag} {H H' : Hp} {d : Addr} {L : BL (List Key)} (h : DictB K H d L) (s : Same H H') : DictB K H' d L := let ⟨vs, e, dv⟩ := h; ⟨vs, s _ _ e, dv.sm s⟩
theorem DictB.get {K : PySem.W.Frag} {H : Hp} {d a : Addr} {L : BL (List Key)} {i : Nat} {x : List Key × List Int} (h : DictB K H d L) (nd : (L.map (·.1)).Nodup) (hx : L[i]? = some x) (ea : H a = some (.tup (x.1.map kV))) : ∃ v, DGet H d (.ref a) (some v) ∧ Dp K H v (dInts x.2) := by
  obtain ⟨vs, e, dv⟩ := h
  obtain ⟨v, hv, dx⟩ := dv.get i (dInts x.2) (by rw [List.getElem?_map, hx]; rfl)
  refine ⟨v, ?_, dx⟩
  have := DGet.t (k := x.1) e ea
  rwa [val_zip nd (by rw [List.getElem?_map, hx]; rfl) hv] at this
theorem DictB.none {K : PySem.W.Frag} {H : Hp} {d a : Addr} {L : BL (List Key)} {k : List Key} (h : DictB K H d L) (hk : k ∉ L.map (·.1)) (ea : H a = some (.tup (k.map kV))) : DGet H d (.ref a) none := by
  obtain ⟨vs, e, dv⟩ := h
  have := DGet.t (k := k) e ea
  rwa [val_zip_none hk] at this
theorem DictB.some {K : PySem.W.Frag} {H : Hp} {d a : Addr} {L : BL (List Key)} {k : List Key} (h : DictB K H d L) (nd : (L.map (·.1)).Nodup) (hk : k ∈ L.map (·.1)) (ea : H a = some (.tup (k.map kV))) : ∃ v, DGet H d (.ref a) (some v) := by
  obtain ⟨x, hx, rfl⟩ := List.mem_map.mp hk
  obtain ⟨i, hi⟩ := List.getElem?_of_mem hx
  obtain ⟨v, g, _⟩ := h.get nd hi ea
  exact ⟨v, g⟩
end Pr
namespace Pr
open PySem PySem.Spec PyProof.Rows L2
theorem ok_app {a b : Str} (ha : PyData.strOk a = true) (hb : PyData.strOk b = true) : PyData.strOk (a ++ b) = true := by
  unfold PyData.strOk at ha hb ⊢
  show (a.cps ++ b.cps).all _ = true
  rw [Array.all_append, ha, hb]; rfl
theorem ok_join {sep : Str} (hs : PyData.strOk sep = true) : ∀ {ts : List Str}, (∀ t ∈ ts, PyData.strOk t = true) → PyData.strOk (Str.join sep ts) = true
  | [], _ => by show PyData.strOk Str.empty = true; decide +kernel
  | [x], h => h x List.mem_cons_self
  | x :: y :: r, h => by
    show PyData.strOk (x ++ sep ++ Str.join sep (y :: r)) = true
    exact ok_app (ok_app (h x List.mem_cons_self) hs) (ok_join hs fun t ht => h t (List.mem_cons_of_mem _ ht))
theorem shp_of {d : PyData} (h : d.canLay0 = true) (hd : d.depth ≤ 64) : SeqAt.shaped d = true := by
  unfold SeqAt.shaped
  rw [h, decide_eq_true hd]; rfl
end Pr
namespace Pr
open PySem PySem.Spec PyProof.Rows L2
/-- a new tuple -/
def GvU (K : PySem.W.Frag) (t : TE) (σ : L2.St) (H : Hp) (ds : List PyData) : Prop := ∀ H1, Same H H1 → ∀ Q : VK, (∀ a vs H', Same H1 H' → H1 a = none → H' a = some (.tup vs) → DpAll K H' vs ds → Q (.ref a) H') → t σ H1 Q
section
variable {K : PySem.W.Frag} {σ : L2.St} {H : Hp} {t ta tb : TE} {d e : PyData} {ds es : List PyData}
theorem GvU.at (h : GvU K t σ H ds) {Q : VK} (q : ∀ a vs H', Same H H' → H a = none → H' a = some (.tup vs) → DpAll K H' vs ds → Q (.ref a) H') : t σ H Q := h H (Same.refl _) Q q
theorem GvU.gv (h : GvU K t σ H ds) : Gv K t σ H (.tuple ds) := fun H1 s Q q => h H1 s Q fun a vs H' s' _ e dv => q _ H' s' (.tup (.inl (.inl e)) dv)
end
section
variable {X : Cx}
def rSortTP (K : PySem.W.Frag) : List V → Hp → VK → Prop := fun vs H Q => ∃ (a : Addr) (ts : List (Addr × List Int)), vs = [V.ref a] ∧ SqL K H a (ts.map fun p => V.ref p.1) ∧ (∀ p ∈ ts, SqT K H p.1 (p.2.map V.int)) ∧ ((∀ p ∈ ts, p.2 ≠ []) ∨ (ts.head?.map (·.2)) = some []) ∧
  ∀ (ts' : List (Addr × List Int)) (p : Addr), ts'.Perm ts → ts'.Pairwise (fun p q => HT.lexLt q.2 p.2 = false) → H p = none → Q (.ref p) (upd H p (.lst (ts'.map fun p => V.ref p.1)))
theorem cr_sortTP (hu : X.A.units + 64 < cLine) : CallR X (.builtin "sorted") (rSortTP X.K) := by
  intro pins s σ H vs us Q I r h
  obtain ⟨a, ts, rfl, hs, hx, h0, q⟩ := h
  have uq : ∀ p ∈ ts, ∀ p' ∈ ts, p.1 = p'.1 → p.2 = p'.2 := fun p hp p' hp' e => by
    have h1 := hx p hp
    have h2 := hx p' hp'
    rw [← e] at h2
    have := I.tuple_inj h1 h2
    exact List.map_inj_right (fun x y h => V.int.inj h) |>.mp this
  have hk : ∀ p ∈ ts, ((ts.find? fun z => decide (z.1 = p.1)).map (·.2)).getD [] = p.2 := fun p hp => by
    cases e : ts.find? fun z => decide (z.1 = p.1) with
    | none => have := List.find?_eq_none.mp e p hp; simp at this
    | some z =>
      have h1 := List.mem_of_find?_eq_some e
      have h2 : z.1 = p.1 := by simpa using List.find?_some e
      exact uq z h1 p hp h2
  have et : (ts.map (·.1)).map (fun t => (t, ((ts.find? fun z => decide (z.1 = t)).map (·.2)).getD [])) = ts := by
    rw [List.map_map]
    conv => rhs; rw [← List.map_id ts]
    exact List.map_congr_left fun p hp => by simp only [Function.comp]; rw [hk p hp]; rfl
  refine cr_sortTup hu pins s σ H _ us Q I r ⟨a, ts.map (·.1), fun t => ((ts.find? fun z => decide (z.1 = t)).map (·.2)).getD [], rfl, by rw [List.map_map]; exact hs, fun t ht => ?_, ?_, fun ts' p hp hu' np => ?_⟩
  · obtain ⟨p, hp, rfl⟩ := List.mem_map.mp ht
    have := hk p hp
    dsimp only
    rw [this]; exact hx p hp
  · rcases h0 with h0 | h0
    · refine .inl fun t ht => ?_
      obtain ⟨p, hp, rfl⟩ := List.mem_map.mp ht
      have := hk p hp
      dsimp only
      rw [this]; exact h0 p hp
    · refine .inr ?_
      cases ts with
      | nil => simp at h0
      | cons p ts =>
        have := hk p List.mem_cons_self
        rw [List.map_cons, List.head?_cons, Option.map_some, this]
        simpa using h0
  · have := q (ts'.map fun t => (t, ((ts.find? fun z => decide (z.1 = t)).map (·.2)).getD [])) p (by have := hp.map (fun t => (t, ((ts.find? fun z => decide (z.1 = t)).map (·.2)).getD [])); rwa [et] at this) (by rw [List.pairwise_map]; exact hu') np
    rw [List.map_map] at this
    exact this
end
theorem pairs_of {K : PySem.W.Frag} {H : Hp} : ∀ {ks : List (List Int)} {vs : List V}, DpAll K H vs (ks.map dInts) → ∃ ts : List (Addr × List Int), vs = ts.map (fun p => V.ref p.1) ∧ ks = ts.map (·.2) ∧ ∀ p ∈ ts, SqT K H p.1 (p.2.map V.int)
  | [], _, h => by cases h; exact ⟨[], rfl, rfl, fun _ h => by cases h⟩
  | k :: ks, _, h => by
    rw [List.map_cons] at h
    cases h with
    | cons x y =>
      obtain ⟨a, rfl, hq⟩ := x.intsI
      obtain ⟨ts, rfl, rfl, hh⟩ := pairs_of y
      refine ⟨(a, k) :: ts, rfl, rfl, fun p hp => ?_⟩
      rcases List.mem_cons.mp hp with rfl | hp
      · exact hq
      · exact hh p hp
theorem gn_sortT {K : PySem.W.Frag} {σ : L2.St} {H : Hp} {t : TE} {ks : List (List Int)} (h : Gv K t σ H (.list (ks.map dInts))) (h0 : (∀ k ∈ ks, k ≠ []) ∨ ks.head? = some []) : GvN K (tCB (rSortTP K) (tCons t tNil)) σ H ((srtT ks).map dInts) := fun H1 s Q q => h H1 s _ fun v H2 s2 d2 => by
  obtain ⟨a, xs, rfl, hq, hr⟩ := d2.lstI
  obtain ⟨ts, rfl, rfl, hh⟩ := pairs_of hr
  refine ⟨a, ts, rfl, hq, hh, ?_, fun ts' p hp hu np => ?_⟩
  · rcases h0 with h0 | h0
    · exact .inl fun p hp => h0 _ (List.mem_map.mpr ⟨p, hp, rfl⟩)
    · exact .inr (by rw [← List.head?_map]; exact h0)
  · have e : srtT (ts.map (·.2)) = ts'.map (·.2) := srtT_eq (hp.map _) (by rw [List.pairwise_map]; exact hu)
    refine q _ _ _ (s2.trans (same_new np)) (s2.free np) upd_same ?_
    rw [e]
    have : ∀ (l : List (Addr × List Int)), (∀ p ∈ l, p ∈ ts) → DpAll K H2 (l.map fun p => V.ref p.1) ((l.map (·.2)).map dInts) := fun l => by
      induction l with
      | nil => intro _; exact .nil
      | cons z l ih => intro hm; exact .cons (dp_ints (hh z (hm z List.mem_cons_self))) (ih fun x hx => hm x (List.mem_cons_of_mem _ hx))
    exact (this ts' fun p hp' => hp.subset hp').sm (same_new np)
end Pr
namespace Pr
open PySem PySem.Spec PyProof.Rows L2
end Pr
namespace L2
end L2
namespace Pr
open PySem PySem.Spec PyProof.Rows L2
end Pr
namespace Pr
open PySem PySem.Spec PyProof.Rows L2
def Rel (pan : List (List Int)) (st : List Int) (x y : Int) : Prop := x ∈ st ∧ y ∈ st ∧ y ∈ pan.getD x.toNat []
def Pth (pan : List (List Int)) (st : List Int) : Nat → Int → Int → Prop
  | 0, x, y => x = y
  | m + 1, x, y => ∃ z, Rel pan st x z ∧ Pth pan st m z y
section
variable {pan : List (List Int)} {st : List Int}
theorem Pth.join : ∀ {a b : Nat} {x y z : Int}, Pth pan st a x y → Pth pan st b y z → Pth pan st (a + b) x z
  | 0, b, x, y, z, h1, h2 => by rw [Nat.zero_add]; rw [show x = y from h1]; exact h2
  | a + 1, b, x, y, z, ⟨u, r, h1⟩, h2 => by
    rw [show a + 1 + b = (a + b) + 1 by omega]
    exact ⟨u, r, Pth.join h1 h2⟩
theorem Pth.split : ∀ {a b : Nat} {x z : Int}, Pth pan st (a + b) x z → ∃ y, Pth pan st a x y ∧ Pth pan st b y z
  | 0, b, x, z, h => ⟨x, rfl, by rw [Nat.zero_add] at h; exact h⟩
  | a + 1, b, x, z, h => by
    rw [show a + 1 + b = (a + b) + 1 by omega] at h
    obtain ⟨u, r, h⟩ := h
    obtain ⟨y, h1, h2⟩ := Pth.split h
    exact ⟨y, ⟨u, r, h1⟩, h2⟩
theorem Pth.ends : ∀ {m : Nat} {x y : Int}, Pth pan st (m + 1) x y → x ∈ st ∧ y ∈ st
  | 0, x, y, ⟨z, r, h⟩ => ⟨r.1, by rw [← show z = y from h]; exact r.2.1⟩
  | m + 1, x, y, ⟨z, r, h⟩ => ⟨r.1, (Pth.ends h).2⟩
end
def Closed (pan : List (List Int)) (C : List Int) : Prop := ∀ b ∈ C, ∃ c ∈ pan.getD b.toNat [], c ∈ C
structure IsHeld (pan : List (List Int)) (st hs : List Int) : Prop where
  up : hs.Pairwise (· < ·)
  sub : ∀ x ∈ hs, x ∈ st
  closed : Closed pan hs
  most : ∀ C : List Int, Closed pan C → (∀ x ∈ C, x ∈ st) → ∀ x ∈ C, x ∈ hs
def relB (pan : List (List Int)) (os : List Int) (b : Int) : Bool := (pan.getD b.toNat []).any fun c => decide (c ∈ os)
theorem relB_iff {pan : List (List Int)} {os : List Int} {b : Int} : relB pan os b = true ↔ ∃ c ∈ pan.getD b.toNat [], c ∈ os := by
  unfold relB
  rw [List.any_eq_true]
  exact ⟨fun ⟨c, h1, h2⟩ => ⟨c, h1, of_decide_eq_true h2⟩, fun ⟨c, h1, h2⟩ => ⟨c, h1, decide_eq_true h2⟩⟩
/-- on the way to the held buttons -/
structure Hold (pan : List (List Int)) (st hs : List Int) : Prop where
  up : hs.Pairwise (· < ·)
  sub : ∀ x ∈ hs, x ∈ st
  most : ∀ C : List Int, Closed pan C → (∀ x ∈ C, x ∈ st) → ∀ x ∈ C, x ∈ hs
theorem Hold.done {pan : List (List Int)} {st hs : List Int} (h : Hold pan st hs) (hl : ¬ (hs.filter (relB pan hs)).length < hs.length) : IsHeld pan st hs := by
  have e : (hs.filter (relB pan hs)).length = hs.length := Nat.le_antisymm (List.length_filter_le _ _) (by omega)
  exact ⟨h.up, h.sub, fun b hb => relB_iff.mp (List.length_filter_eq_length_iff.mp e b hb), h.most⟩
/-- rows[x] holds the ends of ways of at most 2 ^ k links, and ends of ways only -/
structure Rch (pan : List (List Int)) (st : List Int) (k : Nat) (rows : List (List Int)) : Prop where
  len : rows.length = pan.length
  sound : ∀ (x : Nat) (l : List Int) (y : Int), rows[x]? = some l → y ∈ l → ∃ m, 1 ≤ m ∧ Pth pan st m (x : Int) y
  full : ∀ (x : Nat) (l : List Int) (y : Int) (m : Nat), rows[x]? = some l → 1 ≤ m → m ≤ 2 ^ k → Pth pan st m (x : Int) y → y ∈ l
theorem Rch.rng {pan : List (List Int)} {st : List Int} {k : Nat} {rows : List (List Int)} (h : Rch pan st k rows) (hs : ∀ x ∈ st, 0 ≤ x ∧ x < (pan.length : Int)) {x : Nat} {l : List Int} (hl : rows[x]? = some l) {y : Int} (hy : y ∈ l) : 0 ≤ y ∧ y < (pan.length : Int) := by
  obtain ⟨m, hm, p⟩ := h.sound x l y hl hy
  obtain ⟨m, rfl⟩ : ∃ k, m = k + 1 := ⟨m - 1, by omega⟩
  exact hs y (Pth.ends p).2
theorem Rch.next {pan : List (List Int)} {st : List Int} {k : Nat} {rows rows' : List (List Int)} (h : Rch pan st k rows) (hs : ∀ x ∈ st, 0 ≤ x ∧ x < (pan.length : Int)) (hl : rows'.length = rows.length)
    (hm : ∀ (x : Nat) (l l' : List Int), rows[x]? = some l → rows'[x]? = some l' → ∀ y, y ∈ l' ↔ (y ∈ l ∨ ∃ z ∈ l, y ∈ rows.getD z.toNat [])) : Rch pan st (k + 1) rows' := by
  have get : ∀ (x : Nat) (l' : List Int), rows'[x]? = some l' → ∃ l, rows[x]? = some l := fun x l' hx => by
    have := (List.getElem?_eq_some_iff.mp hx).1
    exact ⟨rows[x], List.getElem?_eq_getElem (by omega)⟩
  have nth : ∀ (z : Int), 0 ≤ z → z < (pan.length : Int) → rows[z.toNat]? = some (rows.getD z.toNat []) := fun z h0 h1 => by
    have : z.toNat < rows.length := by have := h.len; omega
    rw [List.getD_eq_getElem?_getD, List.getElem?_eq_getElem this]; rfl
  refine ⟨hl.trans h.len, fun x l' y hx hy => ?_, fun x l' y m hx h1 h2 hp => ?_⟩
  · obtain ⟨l, hl'⟩ := get x l' hx
    rcases (hm x l l' hl' hx y).mp hy with q | ⟨z, hz, q⟩
    · exact h.sound x l y hl' q
    · obtain ⟨a, ha, pa⟩ := h.sound x l z hl' hz
      have zr := h.rng hs hl' hz
      obtain ⟨b, hb, pb⟩ := h.sound z.toNat _ y (nth z zr.1 zr.2) q
      rw [Int.toNat_of_nonneg zr.1] at pb
      exact ⟨a + b, by omega, pa.join pb⟩
  · obtain ⟨l, hl'⟩ := get x l' hx
    refine (hm x l l' hl' hx y).mpr ?_
    by_cases hk : m ≤ 2 ^ k
    · exact .inl (h.full x l y m hl' h1 hk hp)
    · have e2 : 2 ^ (k + 1) = 2 ^ k + 2 ^ k := by rw [Nat.pow_succ]; omega
      have p2 : 1 ≤ 2 ^ k := Nat.one_le_two_pow
      rw [show m = 2 ^ k + (m - 2 ^ k) by omega] at hp
      obtain ⟨z, pa, pb⟩ := Pth.split hp
      have hz := h.full x l z (2 ^ k) hl' p2 (Nat.le_refl _) pa
      have zr := h.rng hs hl' hz
      refine .inr ⟨z, hz, h.full z.toNat _ y (m - 2 ^ k) (nth z zr.1 zr.2) (by omega) (by omega) ?_⟩
      rw [Int.toNat_of_nonneg zr.1]; exact pb
end Pr
namespace Pr
open PySem PySem.Spec PyProof.Rows L2
/-- what b releases -/
abbrev relM (pan : List (List Int)) (b : Int) : List Int := pan.getD b.toNat []
/-- which buttons may be pressed on the way to the goal -/
def PrOk (pan : List (List Int)) (goal hs G : List Int) (b : Int) : Prop := (b ∈ goal ∧ b ∉ hs) ∨ (b ∈ G ∧ ∀ x ∈ relM pan b, x ∉ hs)
section
variable {pan : List (List Int)} {goal hs G : List Int}
/-- a button of the goal that is not held releases no held one -/
theorem free_of (hh : IsHeld pan goal hs) {b : Int} (hb : b ∈ goal) (hn : b ∉ hs) : ∀ x ∈ relM pan b, x ∉ hs := fun x hx hxs => by
  refine hn (hh.most (b :: hs) ?_ ?_ b List.mem_cons_self)
  · intro y hy
    rcases List.mem_cons.mp hy with rfl | hy
    · exact ⟨x, hx, List.mem_cons_of_mem _ hxs⟩
    · obtain ⟨z, h1, h2⟩ := hh.closed y hy
      exact ⟨z, h1, List.mem_cons_of_mem _ h2⟩
  · intro y hy
    rcases List.mem_cons.mp hy with rfl | hy
    · exact hb
    · exact hh.sub y hy
theorem PrOk.free (hh : IsHeld pan goal hs) {b : Int} (h : PrOk pan goal hs G b) : ∀ x ∈ relM pan b, x ∉ hs := by
  rcases h with ⟨h1, h2⟩ | ⟨_, h2⟩
  · exact free_of hh h1 h2
  · exact h2
end
end Pr
namespace Pr
open PySem PySem.Spec PyProof.Rows L2
end Pr
namespace Pr
open PySem PySem.Spec PyProof.Rows L2
/-- the states found after the buttons of `most`, in the order in which they are found -/
def betM (least : List Int) : List Int → List (List Int)
  | [] => [least]
  | b :: r => let s := betM least r; if b ∈ least then s else s ++ s.map fun l => srt (l ++ [b])
theorem srt_mem {l : List Int} {x : Int} : x ∈ srt l ↔ x ∈ l := (srt_perm l).mem_iff
/-- what is found lies between the two -/
theorem betM_sub {least : List Int} : ∀ {most l : List Int}, l ∈ betM least most → (∀ x ∈ least, x ∈ l) ∧ ∀ x ∈ l, x ∈ least ∨ x ∈ most
  | [], l, h => by
    rw [List.mem_singleton.mp h]
    exact ⟨fun _ h => h, fun _ h => .inl h⟩
  | b :: r, l, h => by
    unfold betM at h
    dsimp only at h
    split at h
    · have := betM_sub h
      exact ⟨this.1, fun x hx => (this.2 x hx).imp_right (List.mem_cons_of_mem _)⟩
    · rcases List.mem_append.mp h with h | h
      · have := betM_sub h
        exact ⟨this.1, fun x hx => (this.2 x hx).imp_right (List.mem_cons_of_mem _)⟩
      · obtain ⟨k, hk, rfl⟩ := List.mem_map.mp h
        have := betM_sub hk
        refine ⟨fun x hx => srt_mem.mpr (List.mem_append_left _ (this.1 x hx)), fun x hx => ?_⟩
        rcases List.mem_append.mp (srt_mem.mp hx) with h1 | h1
        · exact (this.2 x h1).imp_right (List.mem_cons_of_mem _)
        · rw [List.mem_singleton.mp h1]; exact .inr List.mem_cons_self
theorem srt_asc {l : List Int} (nd : l.Nodup) : (srt l).Pairwise (· < ·) := by
  have nd' : (srt l).Nodup := (srt_perm l).nodup_iff.mpr nd
  exact (List.Pairwise.and (srt_up l) nd').imp fun {a b} h => by have := h.1; have := h.2; omega
/-- all that lie between the two are found -/
theorem betM_all {least : List Int} (hl : least.Pairwise (· < ·)) : ∀ {most l : List Int}, l.Pairwise (· < ·) → (∀ x ∈ least, x ∈ l) → (∀ x ∈ l, x ∈ least ∨ x ∈ most) → l ∈ betM least most
  | [], l, up, h1, h2 => by
    refine List.mem_singleton.mpr (asc_ext up hl fun x => ⟨fun hx => ?_, h1 x⟩)
    rcases h2 x hx with h | h
    · exact h
    · cases h
  | b :: r, l, up, h1, h2 => by
    have nd : l.Nodup := up.imp fun {a c} (h : a < c) => Int.ne_of_lt h
    unfold betM
    dsimp only
    by_cases hb : b ∈ least
    · rw [if_pos hb]
      refine betM_all hl up h1 fun x hx => ?_
      rcases h2 x hx with h | h
      · exact .inl h
      · rcases List.mem_cons.mp h with rfl | h
        · exact .inl hb
        · exact .inr h
    · rw [if_neg hb]
      by_cases hbl : b ∈ l
      · have e : srt (l.erase b ++ [b]) = l := by
          have nd2 : (l.erase b ++ [b]).Nodup := by
            rw [List.nodup_append]
            refine ⟨nd.erase b, by simp, fun x hx y hy e => ?_⟩
            rw [List.mem_singleton.mp hy] at e
            rw [e] at hx
            exact (nd.not_mem_erase) hx
          refine asc_ext (srt_asc nd2) up fun x => ?_
          rw [srt_mem, List.mem_append, List.mem_singleton]
          by_cases ex : x = b
          · subst ex; exact ⟨fun _ => hbl, fun _ => .inr rfl⟩
          · rw [List.mem_erase_of_ne ex]
            exact ⟨fun h => h.resolve_right ex, .inl⟩
        refine List.mem_append_right _ (List.mem_map.mpr ⟨l.erase b, ?_, e⟩)
        refine betM_all hl (up.sublist List.erase_sublist) (fun x hx => (List.mem_erase_of_ne (fun z : x = b => hb (by rw [← z]; exact hx))).mpr (h1 x hx)) fun x hx => ?_
        rcases h2 x (List.mem_of_mem_erase hx) with h | h
        · exact .inl h
        · rcases List.mem_cons.mp h with rfl | h
          · exact absurd hx nd.not_mem_erase
          · exact .inr h
      · refine List.mem_append_left _ (betM_all hl up h1 fun x hx => ?_)
        rcases h2 x hx with h | h
        · exact .inl h
        · rcases List.mem_cons.mp h with rfl | h
          · exact absurd hx hbl
          · exact .inr h
end Pr
namespace Pr
open PySem PySem.Spec PyProof.Rows L2 PpSet
end Pr
namespace Pr
open PySem PySem.Spec PyProof.Rows L2 PySem.W
end Pr
namespace Pr
open PySem PySem.Spec PyProof.Rows L2 PpSet
/-- a term gives a plain tuple of ints -/
def GvP (t : TE) (σ : L2.St) (H : Hp) (l : List Int) : Prop := ∀ H1, Same H H1 → ∀ Q : VK, (∀ a H', Same H1 H' → H' a = some (.tup (l.map V.int)) → Q (.ref a) H') → t σ H1 Q
theorem GvP.at {t : TE} {σ : L2.St} {H : Hp} {l : List Int} {Q : VK} (h : GvP t σ H l) (q : ∀ a H', Same H H' → H' a = some (.tup (l.map V.int)) → Q (.ref a) H') : t σ H Q := h H (Same.refl _) Q q
end Pr
namespace Pr
open PySem PySem.Spec PyProof.Rows L2
/-- x is not True, of bools -/
def rNotT : V → V → Hp → VK → Prop := fun x y H Q => ∃ b : Bool, x = .bl b ∧ y = .bl true ∧ Q (.bl (!b)) H
theorem op_notT {X : Cx} : OpR X (compareOp .IsNot) rNotT := by
  intro pins s σ H x y v u Q I rx ry h
  obtain ⟨b, rfl, rfl, q⟩ := h
  cases rx; cases ry
  cases b
  · exact wpAny_isNot_other rfl (by intro z; cases z) (fin_bl I q rfl)
  · exact wpAny_isNot_self rfl (fin_bl I q rfl)
end Pr
namespace Pr
open PySem PySem.Spec PyProof.Rows L2
/-- n items of which P holds -/
def AllP (P : PyData → Prop) (n : Nat) (ds : List PyData) : Prop := ds.length = n ∧ ∀ d ∈ ds, P d
/-- a tuple of at most n items of which P holds -/
def TupP (P : PyData → Prop) (n : Nat) (d : PyData) : Prop := ∃ ds, d = .tuple ds ∧ ds.length ≤ n ∧ ∀ x ∈ ds, P x
theorem AllP.nil {P : PyData → Prop} : AllP P 0 [] := ⟨rfl, fun _ h => by cases h⟩
theorem AllP.cons {P : PyData → Prop} {n : Nat} {d : PyData} {ds : List PyData} (h : P d) (r : AllP P n ds) : AllP P (n + 1) (d :: ds) :=
  ⟨by rw [List.length_cons, r.1], fun x hx => by
    rcases List.mem_cons.mp hx with rfl | hx
    · exact h
    · exact r.2 x hx⟩
theorem AllP.append {P : PyData → Prop} {n m : Nat} {ds es : List PyData} (h : AllP P n ds) (r : AllP P m es) : AllP P (n + m) (ds ++ es) :=
  ⟨by rw [List.length_append, h.1, r.1], fun x hx => (List.mem_append.mp hx).elim (h.2 x) (r.2 x)⟩
theorem AllP.mono {P P' : PyData → Prop} {n : Nat} {ds : List PyData} (h : AllP P n ds) (f : ∀ d, P d → P' d) : AllP P' n ds := ⟨h.1, fun d hd => f d (h.2 d hd)⟩
theorem TupP.mono {P P' : PyData → Prop} {n m : Nat} {d : PyData} (h : TupP P n d) (f : ∀ d, P d → P' d) (hm : n ≤ m) : TupP P' m d :=
  let ⟨ds, e, l, q⟩ := h; ⟨ds, e, Nat.le_trans l hm, fun x hx => f x (q x hx)⟩
end Pr
namespace Pr
open PySem PySem.Spec PyProof.Rows L2
theorem eqv_intsL : ∀ (ns ms : List Int), PyData.eqvAll (ns.map PyData.int) (ms.map PyData.int) = decide (ns = ms)
  | [], [] => by simp [PyData.eqvAll]
  | [], _ :: _ => by simp [PyData.eqvAll]
  | _ :: _, [] => by simp [PyData.eqvAll]
  | x :: r, y :: t => by
    simp only [List.map_cons, PyData.eqvAll, PyData.eqv, eqv_intsL r t]
    by_cases h : x = y <;> by_cases h2 : r = t <;> simp [h, h2]
theorem canLay_ints : ∀ ns : List Int, PyData.canLayAll0 (ns.map PyData.int) = true ∧ PyData.depthAll (ns.map PyData.int) = 0
  | [] => ⟨by simp [PyData.canLayAll0], by simp [PyData.depthAll]⟩
  | x :: r => by
    obtain ⟨h1, h2⟩ := canLay_ints r
    exact ⟨by simp [PyData.canLayAll0, PyData.canLay0, h1], by simp [PyData.depthAll, PyData.depth, h2]⟩
end Pr
namespace Pr
open PySem PySem.Spec PyProof.Rows L2
section
variable {K : PySem.W.Frag} {σ : L2.St} {H : Hp} {t tk ta tb : TE}
theorem cutTo (l : List Int) (m : Nat) : cutV (l.map V.int) none (some (m : Int)) = (l.take m).map V.int := by
  unfold cutV
  rw [List.length_map, HT.sIx_none, HT.sIx_nat, List.drop_zero, Nat.sub_zero, ← List.map_take]
  congr 1
  by_cases h : m ≤ l.length
  · rw [Nat.min_eq_left h]
  · rw [Nat.min_eq_right (by omega), List.take_of_length_le (Nat.le_refl _), List.take_of_length_le (by omega)]
theorem cutFrom (l : List Int) (m : Nat) : cutV (l.map V.int) (some (m : Int)) none = (l.drop m).map V.int := by
  unfold cutV
  rw [List.length_map, HT.sIx_nat, HT.sIx_none, ← List.map_drop]
  by_cases h : m ≤ l.length
  · rw [Nat.min_eq_left h]
    exact List.take_of_length_le (by rw [List.length_map, List.length_drop]; omega)
  · rw [Nat.min_eq_right (by omega), List.drop_eq_nil_of_le (Nat.le_refl _), List.drop_eq_nil_of_le (show l.length ≤ m by omega)]
    simp
theorem gv_cutTo {l : List Int} {k : Nat} (h : Gv K t σ H (dInts l)) (hk : Gv K tk σ H (.int (k : Int))) : Gv K (tSl (rSlS K) t tNoPart (tPart tk)) σ H (dInts (l.take k)) := fun H1 s Q q => h H1 s _ fun v H2 s2 dv => hk H2 (s.trans s2) _ fun vk H3 s3 dk => by
  cases dk
  obtain ⟨a, rfl, ha⟩ := dv.intsI
  refine ⟨(k : Int), rfl, a, _, rfl, same_sqT s3 ha, fun p H4 s4 hp => q _ H4 ((s2.trans s3).trans s4) ?_⟩
  rw [cutTo] at hp
  exact dp_ints hp
theorem gv_cutFrom {l : List Int} {k : Nat} (h : Gv K t σ H (dInts l)) (hk : Gv K tk σ H (.int (k : Int))) : Gv K (tSl (rSlS K) t (tPart tk) tNoPart) σ H (dInts (l.drop k)) := fun H1 s Q q => h H1 s _ fun v H2 s2 dv => hk H2 (s.trans s2) _ fun vk H3 s3 dk => by
  cases dk
  obtain ⟨a, rfl, ha⟩ := dv.intsI
  refine ⟨(k : Int), rfl, a, _, rfl, same_sqT s3 ha, fun p H4 s4 hp => q _ H4 ((s2.trans s3).trans s4) ?_⟩
  rw [cutFrom] at hp
  exact dp_ints hp
theorem gv_cat1 {l m : List Int} (ha : Gv K ta σ H (dInts l)) (hb : Gv K tb σ H (dInts m)) (hn : l.length + m.length ≤ 100000) : Gv K (tOp (rCatS K) ta tb) σ H (dInts (l ++ m)) := (gv_catT ha hb (by rw [List.length_map, List.length_map]; exact hn)).to (by unfold dInts; rw [List.map_append])
theorem gv_notT {b : Bool} (h : Gv K t σ H (.bool b)) : Gv K (tOp rNotT t (tC (.bl true))) σ H (.bool (!b)) := gv_op2 h gv_bl fun x y H1 Q s hx hy q => by
  cases hx; cases hy
  exact ⟨b, rfl, rfl, q _ _ (Same.refl _) (.bl _)⟩
end
end Pr
namespace Pr
open PySem PySem.Spec PyProof.Rows L2 PpSet PySem.W
end Pr
namespace Pr
open PySem PySem.W PySem.Calls PyProof.Rows PyProof.V PySem.Spec RZ
section
variable {prog : Program} {w : World} {A : Around} {E : Value → Shared → Prop} {s : Shared}
/-- how the zip stands after i turns, S a list besides -/
def ZSt (h : Heap) (z TI TO i1 i2 l1 l2 S : Addr) (i : Nat) : Prop :=
  IsPair h TI (.ref i1) (.ref i2) ∧ h.IsTupleIter i1 l1 i ∧ h.IsTupleIter i2 l2 i ∧
  ((i = 0 ∧ IsZip h z TI TO .none ∧ ∃ a b, IsPair h TO a b) ∨ ∃ T f oT, IsZipHeld h z TI TO T f ∧ h.get? T = some oT ∧ T ≠ S ∧ T ≠ z ∧ T ≠ i1 ∧ T ≠ i2)
structure OffS (S z TI TO i1 i2 l1 l2 : Addr) : Prop where
  z : z ≠ S
  TI : TI ≠ S
  TO : TO ≠ S
  i1 : i1 ≠ S
  i2 : i2 ≠ S
  l1 : l1 ≠ S
  l2 : l2 ≠ S
theorem ZSt.keep {h h' : Heap} {z TI TO i1 i2 l1 l2 S : Addr} {i : Nat} (x : ZSt h z TI TO i1 i2 l1 l2 S i) (F : OffS S z TI TO i1 i2 l1 l2) (hk : ∀ b o, b ≠ S → h.get? b = some o → h'.get? b = some o) : ZSt h' z TI TO i1 i2 l1 l2 S i := by
  obtain ⟨a1, a2, a3, a4⟩ := x
  refine ⟨hk _ _ F.TI a1, a2.at fun o e => hk _ o F.i1 e, a3.at fun o e => hk _ o F.i2 e, ?_⟩
  rcases a4 with ⟨e, b1, a, b, b2⟩ | ⟨T, f, oT, b1, b2, b3⟩
  · exact .inl ⟨e, hk _ _ F.z b1, a, b, hk _ _ F.TO b2⟩
  · exact .inr ⟨T, f, oT, hk _ _ F.z b1, hk _ _ b3.1 b2, b3⟩
end
end Pr
namespace Pr
open PySem PySem.Spec PyProof.Rows L2
def tlen : PyData → Bool
  | .tuple es => decide (es.length ≤ 60)
  | _ => true
def smlB : PyData → Bool
  | .tuple ds => ds.all tlen
  | _ => true
def lowB (d : PyData) : Bool := d.showable && decide (d.depth ≤ 3) && decide (d.shown.length ≤ 60) && tlen d && smlB d
/-- a small thing: at most three deep, at most sixty signs -/
def Low (d : PyData) : Prop := lowB d = true
theorem Low.len {d : PyData} (h : Low d) : tlen d = true := by
  simp only [Low, lowB, Bool.and_eq_true, decide_eq_true_eq] at h
  exact h.1.2
end Pr
namespace Pr
open PySem PySem.Spec PyProof.Rows L2
end Pr
namespace Pr
open PySem PySem.Spec PyProof.Rows L2
section
variable {X : Cx}
theorem pmk_own0 {C : Addr} {bmB : List Value} {B newId initId : String} {x : Str} {p pos : Pos} (F : ExcBaseFacts B newId initId bmB) (q : PySem.W.excIn X.K C bmB newId = true) (gC : X.mg x = some (.ref C)) (kC : PySem.W.keepIn X.K (.ref C) = true) (r : Raises X (.ref C)) (hg : Gl X x)
    (hdb : (x == ("__debug__" : Str)) = false := by decide) : PMk X (.Call (.Name x p) [] [] pos) (fun _ H Q => Q (.ref C) none H) := by
  intro pins s σ H Q I h
  refine wpAny_Call_Name_kw (ld_glob I hg gC ?_ hdb)
  refine PySem.W.callWith_K0 I.kIn kC ?_
  show wpAny _ _ (call (.ref C) []) _ _ _
  obtain ⟨bm, N, nm, qn, bs, hdct, sn, sub, ab, col, dd, k0, k1, k2, k3, k5, mN, hC, hN, hni, T⟩ := exc_obj I.kIn q
  refine wpAny_call_exc_subT F T hC hN hni (fun h' e hm => ?_) (by show 0 ≤ sizeLine; omega)
  exact mk_of I hm r h (I.hok.gone hm.new)
/-- what the top says of such a class -/
structure Ex0 (K : PySem.W.Frag) (mg : Str → Option Value) (nm : Str) (C : Addr) : Prop where
  q : PySem.W.excIn K C [.type "ValueError", .type "Exception", .type "BaseException", .type "object"] "ValueError.__new__" = true
  g : mg nm = some (.ref C)
  k : PySem.W.keepIn K (.ref C) = true
  s : PySem.W.subIn K (.ref C) (.type "BaseException") = some true
  t : PySem.W.typeIn K (.ref C) = some (.type "type")
theorem Ex0.made {nm : Str} {C : Addr} {p pos : Pos} (T : Ex0 X.K X.mg nm C) (hg : Gl X nm) (hdb : (nm == ("__debug__" : Str)) = false := by decide) : PMk X (.Call (.Name nm p) [] [] pos) (fun _ H Q => Q (.ref C) none H) :=
  pmk_own0 PySem.F.excBase_ValueError T.q T.g T.k (raises_own T.s T.t) hg hdb
end
end Pr
namespace Pr
open PySem PySem.Spec PyProof.Rows L2
section
variable {X : Cx} {CX : CXT} {k : Nat} {f : Addr} {sp : Sp} {E : XK} {x : Str} {p pos : Pos} {e : Expr} {es : List Expr} {t : TA}
theorem pe_callR (F : FnR X.prog X.w X.K X.mg X.base CX k f sp) (hr : Room k X.A) (hk : PySem.W.keepIn X.K (.ref f) = true) (hg : Gl X x) (hm : X.mg x = some (.ref f)) (hx : Passes CX X E) (ha : PA X (e :: es) t) (hd : (x == ("__debug__" : Str)) = false := by decide)
    (he : starEach (e :: es) X.env = (false, eval e X.env) :: starEach es X.env := by rfl) (hpl : (backTo pos (starEach es X.env)).any (·.1) = false := by rfl) :
    PE X (.Call (.Name x p) (e :: es) [] pos) (fun σ H Q => t σ H fun vs H1 => sp vs H1 Q E) := by
  refine ⟨fun pins s σ H Q I h => ?_⟩
  refine wpAny_Call_Name_kw (ld_glob I hg hm ?_ hd)
  refine PySem.W.callWith_K (h₀ := X.base) I.ok.mod.kin hk (thn (ha.run pos pins s σ H _ I h) fun us s1 ⟨vs, H1, I1, r, q⟩ => ⟨I1.kIn, ?_⟩) he hpl
  exact wpAny_call (run_fnR F hr hx I1 r q)
end
end Pr
namespace Pr
open PySem PySem.Spec PyProof.Rows L2
section
variable {K : PySem.W.Frag} {H H' : Hp} {pan : List (List Int)}
theorem panT_dp {v : V} (h : Dp K H v (dPan pan)) : ∃ p, v = .ref p ∧ PanT K H p pan := by
  obtain ⟨p, xs, rfl, hq, hr⟩ := h.tupI
  have : ∀ (xs : List V) (pan : List (List Int)), DpAll K H xs (pan.map dInts) → ∃ qs : List Addr, xs = qs.map V.ref ∧ Paired (fun q l => SqT K H q (l.map V.int)) qs pan := by
    intro xs pan
    induction pan generalizing xs with
    | nil => intro h; cases h; exact ⟨[], rfl, .nil⟩
    | cons l pan ih =>
      intro h
      cases h with
      | cons h1 h2 =>
        obtain ⟨q, rfl, hq⟩ := h1.intsI
        obtain ⟨qs, rfl, hqs⟩ := ih _ h2
        exact ⟨q :: qs, rfl, .cons hq hqs⟩
  obtain ⟨qs, rfl, hqs⟩ := this xs pan hr
  exact ⟨p, rfl, qs, hq, hqs⟩
end
/-- all but the object at g stands as before -/
def ButO (g : Addr) (H H' : Hp) : Prop := ∀ b o, b ≠ g → H b = some o → H' b = some o
theorem ButO.refl (g : Addr) (H : Hp) : ButO g H H := fun _ _ _ e => e
theorem ButO.of {g : Addr} {H H' : Hp} (s : Same H H') : ButO g H H' := fun b o _ e => s b o e
theorem ButO.trans {g : Addr} {H H1 H2 : Hp} (x : ButO g H H1) (y : ButO g H1 H2) : ButO g H H2 := fun b o n e => y b o n (x b o n e)
theorem ButO.kp {g C dx : Addr} {fs : List (Str × V)} {H H' : Hp} (h : H g = some (.ins C dx fs)) (b : ButO g H H') : Kp H H' :=
  ⟨fun p xs e => b _ _ (ne_of e h (by intro z; cases z)) e, fun p o u e => b _ _ (ne_of e h (by intro z; cases z)) e⟩
theorem PanT.kp {K : PySem.W.Frag} {H H' : Hp} {p : Addr} {pan : List (List Int)} (k : Kp H H') (h : PanT K H p pan) : PanT K H' p pan := by
  obtain ⟨p', e, h'⟩ := panT_dp (h.dp.kp k (lf_pan _))
  cases e; exact h'
end Pr
namespace Pr
open PySem PySem.Spec PyProof.Rows L2
end Pr
namespace Pr
open PySem PySem.Spec PyProof.Rows L2
def Dk3 (H : Hp) (a c r : Addr) (m : Nat) : Prop :=
  ∃ (cells rests : List Int) (n : Nat), H a = some (.lst [.ref c, .int (n : Int), .ref r]) ∧ H c = some (.lst (cells.map V.int)) ∧ H r = some (.lst (rests.map V.int)) ∧ a ≠ c ∧ a ≠ r ∧ c ≠ r ∧
    1 ≤ cells.length ∧ cells.length ≤ 63 ∧ rests.length = cells.length ∧ n + m ≤ 1000000
theorem Dk3.same {H H' : Hp} {a c r : Addr} {m : Nat} (e : Same H H') (h : Dk3 H a c r m) : Dk3 H' a c r m :=
  let ⟨cs, rs, n, h1, h2, h3, h4⟩ := h; ⟨cs, rs, n, e _ _ h1, e _ _ h2, e _ _ h3, h4⟩
theorem Dk3.less {H : Hp} {a c r : Addr} {m m' : Nat} (h : Dk3 H a c r m) (z : m' ≤ m) : Dk3 H a c r m' :=
  let ⟨cs, rs, n, h1, h2, h3, h4, h5, h6, h7, h8, h9, h10⟩ := h; ⟨cs, rs, n, h1, h2, h3, h4, h5, h6, h7, h8, h9, by omega⟩
theorem Dk3.apart {H : Hp} {a c r : Addr} {m : Nat} (h : Dk3 H a c r m) {b : Addr} {o : HO} (e : H b = some o) (ho : ∀ xs, o ≠ .lst xs) : b ≠ a ∧ b ≠ r := by
  obtain ⟨cs, rs, n, h1, h2, h3, _⟩ := h
  exact ⟨ne_of e h1 (ho _), ne_of e h3 (ho _)⟩
theorem Dk3.fresh {H : Hp} {a c r : Addr} {m : Nat} (h : Dk3 H a c r m) {b : Addr} (e : H b = none) : b ≠ a ∧ b ≠ r ∧ b ≠ c := by
  obtain ⟨cs, rs, n, h1, h2, h3, _⟩ := h
  exact ⟨Ne.symm (ne_of_none h1 e), Ne.symm (ne_of_none h3 e), Ne.symm (ne_of_none h2 e)⟩
theorem But.free {a c : Addr} {H H' : Hp} {b : Addr} (x : But a c H H') (h1 : b ≠ a) (h2 : b ≠ c) (e : H' b = none) : H b = none := by
  cases q : H b with
  | none => rfl
  | some o => have := x b o h1 h2 q; rw [e] at this; cases this
theorem cut_ints (ns : List Int) (lo hi : Option Int) : ∃ ms : List Int, cutV (ns.map V.int) lo hi = ms.map V.int ∧ ms.length ≤ ns.length := by
  refine ⟨(ns.drop (HT.sIx ns.length 0 lo)).take (HT.sIx ns.length ns.length hi - HT.sIx ns.length 0 lo), ?_, ?_⟩
  · unfold cutV
    rw [List.length_map, List.map_take, List.map_drop]
  · rw [List.length_take, List.length_drop]; omega
end Pr
namespace Pr
open PySem PySem.Spec PyProof.Rows L2
/-- kvs holds the last place of each of the first i -/
def LastAt (row : List Int) (i : Nat) (kvs : List (Key × V)) : Prop :=
  ∀ x : Int, x ∈ row.take i → ∃ j : Nat, row[j]? = some x ∧ j < i ∧ (∀ m, j < m → m < i → row[m]? ≠ some x) ∧ valV kvs (Sum.inl x) = some (.int (j : Int))
theorem LastAt.nil (row : List Int) (kvs : List (Key × V)) : LastAt row 0 kvs := fun x h => by simp at h
end Pr
namespace Pr
open PySem PySem.Spec PyProof.Rows L2
theorem words_iff {pan : List (List Int)} {row : List Int} {c : Int} : wordsM pan row c = wSame ↔ ¬ metB pan row c := by
  unfold wordsM
  rw [words_same]
  exact ⟨fun h => h.2, fun h => ⟨rfl, h⟩⟩
theorem eff_get {pan : List (List Int)} {row : List Int} {c : Nat} (hc : c < pan.length) : (effM pan row)[c]? = some (wordsM pan row (c : Int)) := by
  unfold effM
  rw [List.getElem?_map, List.getElem?_range hc]; rfl
end Pr
namespace Pr
open PySem PySem.Spec PyProof.Rows L2
end Pr
namespace Pr
open PySem PySem.Spec PyProof.Rows L2
end Pr
namespace Pr
open PySem PySem.Spec PyProof.Rows L2
end Pr
namespace Pr
open PySem PySem.Spec PyProof.Rows L2
end Pr
namespace Pr
open PySem PySem.Spec PyProof.Rows L2
theorem betM_len {least : List Int} : ∀ {most l : List Int}, l ∈ betM least most → l.length ≤ least.length + most.length
  | [], l, h => by rw [List.mem_singleton.mp h]; exact Nat.le_refl _
  | b :: r, l, h => by
    unfold betM at h
    dsimp only at h
    rw [List.length_cons]
    split at h
    · have := betM_len h; omega
    · rcases List.mem_append.mp h with h | h
      · have := betM_len h; omega
      · obtain ⟨k, hk, rfl⟩ := List.mem_map.mp h
        have := betM_len hk
        rw [(srt_perm _).length_eq, List.length_append, List.length_singleton]; omega
theorem betM_count {least : List Int} : ∀ most : List Int, (betM least most).length ≤ 2 ^ most.length
  | [] => Nat.le_refl _
  | b :: r => by
    have := betM_count (least := least) r
    unfold betM
    dsimp only
    rw [List.length_cons, Nat.pow_succ]
    split
    · omega
    · rw [List.length_append, List.length_map]; omega
theorem betM_head {least : List Int} : ∀ most : List Int, (betM least most).head? = some least
  | [] => rfl
  | b :: r => by
    have := betM_head (least := least) r
    unfold betM
    dsimp only
    split
    · exact this
    · rw [List.head?_append, this]; rfl
theorem betM_step {least r : List Int} {b : Int} (hb : b ∉ least) : betM least (b :: r) = betM least r ++ (betM least r).map fun l => srt (l ++ [b]) := by
  show (let s := betM least r; if b ∈ least then s else s ++ s.map fun l => srt (l ++ [b])) = _
  dsimp only
  rw [if_neg hb]
theorem betM_skip {least r : List Int} {b : Int} (hb : b ∈ least) : betM least (b :: r) = betM least r := by
  show (let s := betM least r; if b ∈ least then s else s ++ s.map fun l => srt (l ++ [b])) = _
  dsimp only
  rw [if_pos hb]
theorem betM_sortable (least most : List Int) : (∀ k ∈ betM least most, k ≠ []) ∨ (betM least most).head? = some [] := by
  cases least with
  | nil => exact .inr (betM_head _)
  | cons x r =>
    refine .inl fun k hk e => ?_
    have := (betM_sub hk).1 x List.mem_cons_self
    rw [e] at this; cases this
end Pr
namespace Pr
open PySem PySem.Spec PyProof.Rows L2
def rIsT : V → V → Hp → VK → Prop := fun x y H Q => ∃ b : Bool, x = .bl b ∧ y = .bl true ∧ Q (.bl b) H
theorem op_isT {X : Cx} : OpR X (compareOp .Is) rIsT := by
  intro pins s σ H x y v u Q I rx ry h
  obtain ⟨b, rfl, rfl, q⟩ := h
  cases rx; cases ry
  cases b
  · exact wpAny_is_other rfl (by intro z; cases z) (fin_bl I q rfl)
  · exact wpAny_is_self rfl (fin_bl I q rfl)
theorem gv_isT {K : PySem.W.Frag} {σ : L2.St} {H : Hp} {t : TE} {b : Bool} (h : Gv K t σ H (.bool b)) : Gv K (tOp rIsT t (tC (.bl true))) σ H (.bool b) := gv_op2 h gv_bl fun x y H1 Q s hx hy q => by
  cases hx; cases hy
  exact ⟨b, rfl, rfl, q _ _ (Same.refl _) (.bl _)⟩
end Pr
namespace K39
open PySem PySem.Spec PyProof.Rows L2 Pr
theorem gs_seqS {t u : TS} {D : Ends} {σ : L2.St} {H : Hp} (J : L2.St → Hp → Prop) (hk : ∀ σ' H', J σ' H' → u D σ' H') (h : (∀ σ' H', J σ' H' → u D σ' H') → t { D with nx := u D } σ H) : tSeq t u D σ H := h hk
def nBetw : List Str := ["least", "most", "states", "button", "state"]
theorem scBetw : FnScope nBetw ["least", "most"] (defScope sBetw) := ⟨rfl, rfl, rfl, by decide +kernel, rfl, by decide +kernel, by decide +kernel⟩
section
variable {P : Program} {w : World} {K : PySem.W.Frag} {mg : Str → Option Value} {base : Heap}
def spBetw (K : PySem.W.Frag) : Sp := spP K (fun x : List Int × List Int => [dInts x.1, dInts x.2]) (fun x => x.1.length ≤ 10 ∧ x.2.length ≤ 10) (fun x => .tuple ((srtT (betM x.1 x.2.reverse)).map dInts))
theorem gv_Betw {σ : L2.St} {H : Hp} {t : TA} {E : XK} {least : List Int} {most : List Int} (h : GvA K t σ H [dInts least, dInts most]) (hc : least.length ≤ 10 ∧ most.length ≤ 10) : Gv K (tCall (spBetw K) [] E t) σ H (.tuple ((srtT (betM least most.reverse)).map dInts)) := gv_call (K := K) (δ := fun x : List Int × List Int => [dInts x.1, dInts x.2]) (C := fun x => x.1.length ≤ 10 ∧ x.2.length ≤ 10) (f := fun x => .tuple ((srtT (betM x.1 x.2.reverse)).map dInts)) (least, most) h hc
theorem ok_Betw  {f : Addr} {fd : FuncData} {k : Nat} (F : Fun K "states_between" "states_between" sBetw f fd)
    (m_sorted : mg "sorted" = none) (m_tuple : mg "tuple" = none) : FnOk P w K mg base CX0 (k + 1) f fd ["least", "most"] (spBetw K) := by
  refine F.ok scBetw (fun vs H Q E h => ?_) (fun cdv A outer s H vs Q E hr h => ?_)
  · obtain ⟨_, hd, _⟩ := h
    exact hd.length
  · obtain ⟨⟨least, most⟩, hd, hc, q⟩ := h
    obtain ⟨v1, v2, rfl, d1, d2⟩ := dpAll2 hd
    try dsimp only at hc
    try dsimp only at q
    try dsimp only at d1 d2
    refine ⟨_, pss_cons (ps_set (i := 2) scBetw.nd rfl (.inl rfl) (pe_lst (pa_cons (pv 0) pa_nil)))
      (pss_cons (ps_for PassesOwn.never rfl (show PI _ _ _ (iTup K _) from pi_tup (pv 1)) (pg_name (i := 3) scBetw.nd rfl (Or.inr rfl)) (pss_one (ps_if (pt_cmpR (show OpR _ _ (rIn K true) from op_notIn_seq) (pv 3) (pv 0) (by rfl)) (pss_one (ps_set (i := 2) scBetw.nd rfl (.inl rfl) (pe_op op_cat (pv 2) (pe_lc (own := [("state", 4)]) (g := gName 4) (tt := tYes) rfl scBetw.nd (show PI _ _ _ (iList K _) from pi_list (pv 2)) (blkOk_by (own := [("state", 4)]) (N := nBetw) (sc := defScope sBetw) (by decide +kernel)) (fun _ _ _ _ _ => pg_name (i := 4) scBetw.nd rfl (Or.inl rfl)) (fun _ _ _ _ _ => pts_nil) (fun _ _ _ _ _ => pe_callTy (show CallR _ _ (rTupG K) from cr_tupG) (by rfl) m_tuple (by decide +kernel) (pa_cons (pe_callB (show CallR _ _ (rSorted K) from cr_sorted) (by rfl) m_sorted (by decide +kernel) (pa_cons (pe_lst (show PA _ _ (StX.tStar K _ _) from StX.pa_star (pv 4) (pa_cons (pv 3) pa_nil))) pa_nil)) pa_nil)))))) pss_nil)))
      (pss_one (ps_ret (pe_callTy (show CallR _ _ (rTupG K) from cr_tupG) (by rfl) m_tuple (by decide +kernel) (pa_cons (pe_callB (show CallR _ _ (rSortTP K) from cr_sortTP hr.units) (by rfl) m_sorted (by decide +kernel) (pa_cons (pv 2) pa_nil)) pa_nil))))), ?_⟩
    obtain ⟨ll, ml⟩ := hc
    refine gs_setN (K := K) (gn_lst (gva_cons (gv_var (i := 0) rfl d1) gva_nil)) fun S0 vS H1 s1 nS eS dS => ?_
    refine gs_seqS (fun σ Hb => Same H1 Hb ∧ ∃ (S : Addr) (vs : List V) (x3 : Option V), Hb S = some (.lst vs) ∧ DpAll K Hb vs ((betM least most.reverse).map dInts) ∧ σ = [some v1, some v2, some (.ref S), x3, none]) ?rest ?loop
    case loop =>
      intro hk
      refine gs_each (K := K) (δ := PyData.int) (as := most) (gvi_tup (gv_var (i := 1) rfl (d2.sm s1))) (fun Ha k σ Hb => Same Ha Hb ∧ ∃ (S : Addr) (vs : List V) (x3 : Option V), Hb S = some (.lst vs) ∧ DpAll K Hb vs ((betM least (most.take k).reverse).map dInts) ∧ σ = [some v1, some v2, some (.ref S), x3, none])
        (fun Ha sa => ⟨Same.refl _, S0, vS, none, sa _ _ eS, dS.sm sa, rfl⟩) (fun Ha k σ Hb sa hP => hP.1) (fun Ha k x v σ Hb Hc sa hx hP sc' dv => ?_) (fun Ha σ Hb sa hP => ?_)
      · obtain ⟨sb, S, vs, x3, eS, dvs, rfl⟩ := hP
        cases dv
        have sac := (s1.trans sa).trans (sb.trans sc')
        have kl : (most.take k).reverse.length ≤ 10 := by rw [List.length_reverse, List.length_take]; omega
        have tk : (most.take (k + 1)).reverse = x :: (most.take k).reverse := by rw [List.take_add_one, hx]; simp
        rw [tk]
        have cnt := betM_count (least := least) (most.take k).reverse
        have c10 : 2 ^ (most.take k).reverse.length ≤ 2 ^ 10 := Nat.pow_le_pow_right (by decide) kl
        generalize (most.take k).reverse = r at kl dvs cnt c10 ⊢
        have eSc := sc' _ _ eS
        have dvc := dvs.sm sc'
        refine gs_if (gvt_test (K := K) (gv_inT (neg := true) (gv_var (i := 3) rfl (.int x)) (gv_var (i := 0) rfl (d1.sm sac)))) (fun hb H5 s5 => ?_) (fun hb H5 s5 => ?_)
        · have hxl : x ∉ least := by simpa using hb
          have eS5 := s5 _ _ eSc
          have dv5 := dvc.sm s5
          refine (gl_cat (K := K) (gl_var (i := 2) rfl eS5 dv5) (gl_lc (δ := dInts) (as := betM least r) (p := fun _ => true) (f := fun l => dInts (srt (l ++ [x]))) (gvi_list (gv_var (i := 2) rfl (.lst (.inl (.inl eS5)) dv5))) (fun z vz Hz hz sz dz => ⟨gvt_yes, fun _ => (gv_tupL (gv_sortL (l := z ++ [x]) ((gv_lst (gva_starT (gv_var rfl dz) (gva_cons (gv_var (i := 3) rfl (.int x)) gva_nil)) ?_).to (by rw [List.map_append]; rfl)) ?_)).to rfl⟩) (fun _ _ => lf_ints _) (by omega)) ?_).at fun S' vs' H6 s6 eS' dS' => ?_
          · have := betM_len hz
            rw [List.length_append, List.length_map]
            refine Nat.le_of_lt (small1000 ?_)
            show _ + 1 ≤ 1000; omega
          · have := betM_len hz
            rw [List.length_append, List.length_singleton]; omega
          · rw [List.length_map, List.length_map]
            have := List.length_filter_le (fun _ => true) (betM least r)
            omega
          · refine ⟨sb.trans (sc'.trans (s5.trans s6)), S', vs', _, eS', ?_, rfl⟩
            rw [betM_step hxl, List.map_append, List.map_map]
            rw [List.filter_eq_self.mpr (fun _ _ => rfl)] at dS'
            exact dS'
        · have hxl : x ∈ least := by simpa using hb
          refine ⟨sb.trans (sc'.trans s5), S, vs, _, s5 _ _ eSc, ?_, rfl⟩
          rw [betM_skip hxl]
          exact dvc.sm s5
      · obtain ⟨sb, S, vs, x3, eS, dvs, rfl⟩ := hP
        rw [List.take_length] at dvs
        exact hk _ _ ⟨sa.trans sb, S, vs, x3, eS, dvs, rfl⟩
    case rest =>
      rintro σ Hb ⟨sb, S, vs, x3, eS, dvs, rfl⟩
      exact gs_ret (K := K) (gv_tupL (gn_sortT (gv_var (i := 2) rfl (.lst (.inl (.inl eS)) dvs)) (betM_sortable _ _)).gv) fun v H3 s3 dv => q v H3 (s1.trans (sb.trans s3)) dv
end
def nReset : List Str := ["panel", "row"]
theorem scReset : FnScope nReset ["panel", "row"] (defScope sReset) := ⟨rfl, rfl, rfl, by decide +kernel, rfl, by decide +kernel, by decide +kernel⟩
section
variable {P : Program} {w : World} {K : PySem.W.Frag} {mg : Str → Option Value} {base : Heap}
def spReset (K : PySem.W.Frag) : Sp := fun vs H Q _ => ∃ (p r : Addr) (pan : List (List Int)) (row : List Int), vs = [.ref p, .ref r] ∧ PanT K H p pan ∧ Good pan ∧ SqT K H r (row.map V.int) ∧ (∀ x ∈ row, 0 ≤ x ∧ x < (pan.length : Int)) ∧
  ∀ H', Same H H' → Q (.bl (!decide (wSame ∈ effM pan row))) H'
theorem ok_Reset {fNo : Addr} {fdNo : FuncData} {fPressE : Addr} {fdPressE : FuncData} {fJoin : Addr} {fdJoin : FuncData} {fWith : Addr} {fdWith : FuncData} {fEff : Addr} {fdEff : FuncData} {f : Addr} {fd : FuncData} {k : Nat} (F : Fun K "is_reset" "is_reset" sReset f fd)
    (FNo : Fun K "no_effect" "no_effect" sNo fNo fdNo) (bNo : Binds K fdNo ["panel"] []) (gNo : mg "no_effect" = some (.ref fNo))
    (FPressE : Fun K "press_effect" "press_effect" sPressE fPressE fdPressE) (bPressE : Binds K fdPressE ["panel", "button"] []) (gPressE : mg "press_effect" = some (.ref fPressE))
    (FJoin : Fun K "joined_effect" "joined_effect" sJoin fJoin fdJoin) (bJoin : Binds K fdJoin ["first", "second"] []) (gJoin : mg "joined_effect" = some (.ref fJoin))
    (FWith : Fun K "effect_with_press" "effect_with_press" sWith fWith fdWith) (bWith : Binds K fdWith ["panel", "effect", "button"] []) (gWith : mg "effect_with_press" = some (.ref fWith))
    (FEff : Fun K "effect_of" "effect_of" sEff fEff fdEff) (bEff : Binds K fdEff ["panel", "row"] []) (gEff : mg "effect_of" = some (.ref fEff))
    (m_len : mg "len" = none) (m_list : mg "list" = none) (m_tuple : mg "tuple" = none) (m_zip : mg "zip" = none) : FnOk P w K mg base CX0 (k + 5) f fd ["panel", "row"] (spReset K) := by
  have GEff : FnOk P w K mg base CX0 (k + 4) fEff fdEff ["panel", "row"] (spEff K) := ok_eff FEff FNo bNo gNo FPressE bPressE gPressE FJoin bJoin gJoin FWith bWith gWith m_len m_list m_tuple m_zip
  refine F.ok scReset (fun vs H Q E h => ?_) (fun cdv A outer s H vs Q E hr h => ?_)
  · obtain ⟨p, r, pan, row, rfl, _⟩ := h
    rfl
  · obtain ⟨p, r, pan, row, rfl, hp, hg, hrow, hin, q⟩ := h
    refine ⟨_, pss_one (ps_ret (pe_cmpR (show OpR _ _ (rIn K true) from op_notIn_seq) pe_str (pe_call GEff (hr.mono (by omega)) (by rfl) gEff FEff.kp bEff .nil pass0 (pa_cons (pv 0) (pa_cons (pv 1) pa_nil))) (by rfl))), ?_⟩
    refine ⟨.ref p, rfl, .ref r, rfl, p, r, pan, row, rfl, hp, hg, hrow, hin, fun H1 u s1 eu => ⟨u, _, rfl, .inr eu.sq, rfl, flat_strs _, ?_⟩⟩
    rw [if_pos rfl, inV_strs]
    exact q _ s1
end
end K39
namespace Pr
open PySem PySem.Spec PyProof.Rows L2
end Pr
namespace Pr
open PySem PySem.Spec PyProof.Rows L2 LamX
section
variable {P : Program} {w : World} {K : PySem.W.Frag} {mg : Str → Option Value} {base : Heap} {q : Str} {scope : Scope} {f : Addr} {cd : Value} {A : Around} {outer : List Env} {s s1 : Shared} {H : Hp} {E0' : XK} {E : Value → Shared → Prop}
abbrev keyCx (P : Program) (w : World) (K : PySem.W.Frag) (mg : Str → Option Value) (base : Heap) (q : Str) (scope : Scope) (f : Addr) (cd : Value) (A : Around) (outer : List Env) (s : Shared) (H : Hp) (E0' : XK) : Cx := cxOf C8.CX0 P w K mg base ["row"] q scope f cd A outer s H E0'
theorem row_load {r : Addr} {p : Pos} {Q : Value → Shared → Prop} (J : Inv (keyCx P w K mg base q scope f cd A outer s H E0') [] (L2.start ["row"] [.ref r]) H s1) (hv : Vis scope "row") (h : Q (.ref r) s1) :
    wpAny (model P w) (keyCx P w K mg base q scope f cd A outer s H E0').A (eval (.Name "row" p) (keyCx P w K mg base q scope f cd A outer s H E0').env) Q E s1 := by
  obtain ⟨m, hn, hl⟩ := J.loc
  obtain ⟨u, rr, l⟩ := hl 0 "row" (.ref r) rfl rfl hv
  obtain rfl : u = Value.ref r := rr
  rcases l with ⟨hk, hm⟩ | ⟨hk, c, hc, hcell⟩
  · exact wpAny_Name (wpAny_loadName_local J.ok.kind hk hn hm h) (by decide)
  · rcases hk with hk | hk
    · exact wpAny_Name (wpAny_loadName_cell J.ok.kind hk hc hcell h) (by decide)
    · exact wpAny_Name (wpAny_loadName_free J.ok.kind hk hc hcell h (by decide)) (by decide)
/-- the tuple (len(row), row) -/
theorem key_eval {r : Addr} {ns : List Int} {p1 p2 p3 p4 p5 : Pos} {j : Nat} {Q : Value → Shared → Prop} (J : Inv (keyCx P w K mg base q scope f cd A outer s H E0') [] (L2.start ["row"] [.ref r]) H s1) (hv : Vis scope "row") (hg : Gl (keyCx P w K mg base q scope f cd A outer s H E0') "len") (hm : mg "len" = none)
    (hr : SqT K H r (ns.map V.int)) (h : ∀ t tk, Q (.ref s1.heap.objs.size) { s1 with heap := s1.heap.push { cls := .type "tuple", data := .seq #[.int ns.length t, .ref r] }, toks := tk }) :
    wpAny (model P w) (keyCx P w K mg base q scope f cd A outer s H E0').A (eval (.Tuple [.Call (.Name "len" p1) [.Name "row" p2] [] p3, .Name "row" p4] j p5) (keyCx P w K mg base q scope f cd A outer s H E0').env) Q E s1 := by
  refine wpAny_Tuple_spliced (Calls.spliced_cons ?_)
  refine wpAny_Call_Name_kw (ld_blt J hg hm PySem.boot_len ?_ (by decide) (by decide))
  refine PyProof.Rows.callWith_builtin1 (Calls.spliced_cons (row_load J hv (Calls.spliced_nil ?_))) rfl rfl
  obtain ⟨its, r', pl, hz⟩ := J.tuple hr
  have hlen := r'.length
  rw [List.length_map] at hlen hz
  have hn := line63
  have es : its.toArray.size = ns.length := by rw [List.size_toArray, hlen]
  refine len_tuple pl (by simp only [List.size_toArray] <;> omega) ?_
  refine Calls.spliced_cons (row_load (J.tok _) hv (Calls.spliced_nil ⟨by show 2 ≤ sizeLine; decide, ?_⟩))
  have hf := h (s1.toks + 1) (s1.toks + 1 + 1)
  rw [← es] at hf
  exact hf
end
/-- the lambda's body and its names -/
structure KeyLam (params : Arguments) (body : Expr) (scope : Scope) : Prop where
  bd : ∃ p1 p2 p3 p4 j p5, body = .Tuple [.Call (.Name "len" p1) [.Name "row" p2] [] p3, .Name "row" p4] j p5
  S : FnScope ["row"] ["row"] scope
  len : scope.names.lookup ("len" : Str) = some NameKind.globalImplicit
  bind : ∀ (q : Str) (cl : List (Str × Addr)) (pm cv ctv u : Value), bindArgs (PySem.W.kla_fn "<lambda>" q params body scope cl pm cv ctv) ⟨[u], []⟩ = pure [(("row" : Str), u)]
theorem cloFrom_nil {cells : List (Str × Addr)} : ∀ {names : List (Str × NameKind)} {acc : List (Str × Addr)}, (∀ y ∈ names, y.2 ≠ .free) → cloFrom cells names acc = acc
  | [], _, _ => rfl
  | (n, k) :: r, acc, h => by
    have hk : (k == NameKind.free) = false := beq_false_of_ne (h (n, k) List.mem_cons_self)
    unfold cloFrom
    rw [hk]
    exact cloFrom_nil fun y hy => h y (List.mem_cons_of_mem _ hy)
section
variable {X : Cx} {pins : List (Addr × Obj)} {σ : L2.St} {H : Hp} {s : Shared} {A : Around} {params : Arguments} {body : Expr} {scope : Scope} {q : Str} {f c' r : Addr} {pm ctv : Value} {ns : List Int} {k : Nat} {R : Result → Shared → Prop}
theorem key_call (I : Inv X pins σ H s) (hA : A.frames = some X.stack) (hr : Room (k + 1) A) (L : KeyLam params body scope) (hl : X.mg "len" = none)
    (hf : s.heap.get? f = some (PySem.W.kla_obj "<lambda>" q params body scope [] pm c' ctv)) (hco : ∃ (oc : Obj) (vs : Array Value) (t : Tok), s.heap.get? c' = some oc ∧ oc.data = .fields vs ∧ vs[1]? = some (.str q t)) (hrow : SqT X.K H r (ns.map V.int))
    (h : ∀ s' p t, (∀ b o, s.heap.get? b = some o → s'.heap.get? b = some o ∧ b ≠ p) → s'.gens = s.gens → s'.drawn = s.drawn → s'.os = s.os → s'.heap.get? p = some { cls := .type "tuple", data := .seq #[.int ns.length t, .ref r] } → R (.ok (.ret (.ref p))) s') :
    codeAny (model X.prog X.w) A (.call (.ref f) ⟨[.ref r], []⟩) R s := by
  obtain ⟨oc, vs, t, hoc, hdc, hvc⟩ := hco
  obtain ⟨⟨p1, p2, p3, p4, j, p5, rfl⟩, S, hlen, hb⟩ := L
  have e0 : Env0 X.prog X.w X.K X.mg X.base A X.stack s H := { I.env0 with frames := hA }
  have lim : s.heap.NoLimit := e0.mod.nolimit.keeps fun b o e => (e0.bs b o e).1
  refine PySem.W.kla_callFunE hr.depth hf rfl S.co S.gen rfl ⟨c', oc, vs, t, rfl, hoc, hdc, hvc⟩ ?_
  rw [hb]
  have hkind : ∀ y ∈ [(("row" : Str), Value.ref r)], scope.names.lookup y.1 = some .local ∨ (scope.names.lookup y.1 = some .cell ∧ ((cellsFrom (s.heap.objs.size + 1) scope.names []).lookup y.1).isSome = true) := fun y hy => by
    rw [List.mem_singleton.mp hy]
    rcases S.par "row" (by simp) with z | z
    · exact .inl z
    · exact .inr ⟨z, PySem.W.cellsFrom_some _ _ _ (.inl z)⟩
  refine wpAny_pure (wpAny_newFunctionEnv_cells S.kind hkind fun env he s1 x => ?_)
  subst he
  refine ⟨lim.keeps x.toInCall.keep, ?_⟩
  have J : Inv (keyCx X.prog X.w X.K X.mg X.base q scope f (.ref c') A X.stack s H C8.E0) [] (L2.start ["row"] [.ref r]) H s1 := inv_start (us := [.ref r]) S hr.hd e0 rfl (.cons rfl .nil) x
  obtain ⟨h1, tk, e1, hk⟩ := x.done
  refine PySem.W.kla_codeExpr (key_eval J (by rcases S.par "row" (by simp) with z | z; exact .inl z; exact .inr (.inl z)) hlen hl hrow fun t' tk' => ?_)
  subst e1
  refine h _ h1.objs.size t' (fun b o e => ⟨Heap.get?_push_of_some _ (hk b o e), Nat.ne_of_lt (Heap.lt_size (hk b o e))⟩) rfl rfl rfl (Heap.get?_push_size _ rfl)
end
def keyD (ns : List Int) : PyData := .tuple [.int ns.length, dInts ns]
def LtK (a b : List Int) : Prop := a.length < b.length ∨ (a.length = b.length ∧ a < b)
instance (a b : List Int) : Decidable (LtK a b) := inferInstanceAs (Decidable (_ ∨ _))
theorem LtK.irrefl (a : List Int) : ¬ LtK a a := fun h => by
  rcases h with h | ⟨_, h⟩
  · exact Nat.lt_irrefl _ h
  · exact List.lt_irrefl a h
theorem LtK.trans {a b c : List Int} (h : LtK a b) (g : LtK b c) : LtK a c := by
  rcases h with h | ⟨e, h⟩ <;> rcases g with g | ⟨e', g⟩
  · exact .inl (Nat.lt_trans h g)
  · exact .inl (e' ▸ h)
  · exact .inl (e ▸ g)
  · exact .inr ⟨e.trans e', List.lt_trans h g⟩
theorem alike_key (a b : List Int) : PySem.W.alike (keyD a) (keyD b) = true := by
  show PySem.W.alike (.tuple [.int a.length, .tuple (a.map PyData.int)]) (.tuple [.int b.length, .tuple (b.map PyData.int)]) = true
  simp only [PySem.W.alike, PySem.W.alikeAll, PySem.W.alike_ints, Bool.and_self, Bool.or_true]
theorem lt_key (a b : List Int) : PySem.W.dataLt (keyD a) (keyD b) = decide (LtK a b) := by
  have e1 : PyData.eqv (.int (a.length : Int)) (.int (b.length : Int)) = decide ((a.length : Int) = (b.length : Int)) := by simp only [PyData.eqv]; rfl
  have e2 : PyData.eqv (dInts a) (dInts b) = decide (a = b) := by
    unfold dInts
    simp only [PyData.eqv]
    exact eqv_intsL _ _
  have e3 : PySem.W.dataLt (dInts a) (dInts b) = decide (a < b) := by
    unfold dInts
    rw [PySem.W.dataLt_tuple]
    exact PySem.W.dataLt_ints a b
  have al : PySem.W.alike (dInts a) (dInts b) = true := by
    unfold dInts
    simp only [PySem.W.alike]
    exact PySem.W.alike_ints _ _
  have al0 : PySem.W.alike (.int (a.length : Int)) (.int (b.length : Int)) = true := by simp only [PySem.W.alike]
  unfold keyD
  rw [PySem.W.dataLt_pair al0 al, e1, e2, e3, PySem.W.dataLt_int]
  by_cases h : a.length = b.length
  · rw [decide_eq_true (by rw [h]), if_pos rfl]
    by_cases hab : a = b
    · subst hab
      rw [decide_eq_true rfl, if_pos rfl, decide_eq_false (LtK.irrefl a)]
    · rw [decide_eq_false hab, if_neg (by decide)]
      exact decide_eq_decide.mpr ⟨fun z => .inr ⟨h, z⟩, fun z => z.elim (fun y => absurd y (by omega)) fun y => y.2⟩
  · rw [decide_eq_false (fun z => h (by exact_mod_cast z)), if_neg (by decide)]
    exact decide_eq_decide.mpr ⟨fun z => .inl (by omega), fun z => z.elim (fun y => by omega) fun y => absurd y.1 h⟩
theorem argBest_min {bt : Nat → Nat → Bool} (ir : ∀ i, bt i i = false) (tr : ∀ i j k, bt i j = true → bt j k = true → bt i k = true) : ∀ k, argBest bt k ≤ k ∧ ∀ j, j ≤ k → bt j (argBest bt k) = false
  | 0 => ⟨Nat.le_refl _, fun j hj => by rw [Nat.le_zero.mp hj]; exact ir 0⟩
  | k + 1 => by
    obtain ⟨h1, h2⟩ := argBest_min ir tr k
    unfold argBest
    cases hb : bt (k + 1) (argBest bt k) with
    | true =>
      rw [if_pos rfl]
      refine ⟨Nat.le_refl _, fun j hj => ?_⟩
      by_cases e : j = k + 1
      · rw [e]; exact ir _
      · cases z : bt j (k + 1) with
        | false => rfl
        | true => exact absurd (tr _ _ _ z hb) (by rw [h2 j (by omega)]; decide)
    | false =>
      rw [if_neg (by decide)]
      refine ⟨by omega, fun j hj => ?_⟩
      by_cases e : j = k + 1
      · rw [e]; exact hb
      · exact h2 j (by omega)
section
variable {X : Cx} {pins : List (Addr × Obj)} {σ : L2.St} {H : Hp} {s : Shared} {params : Arguments} {body : Expr} {scope : Scope} {q : Str} {f c' l : Addr} {pm ctv : Value} {k : Nat} {ks : List (Addr × List Int)} {E : Value → Shared → Prop} {Q : Value → Shared → Prop}
theorem min_key (I : Inv X pins σ H s) (hA : X.A.frames = some X.stack) (hr : Room (k + 2) X.A) (L : KeyLam params body scope) (hl : X.mg "len" = none)
    (hf : s.heap.get? f = some (PySem.W.kla_obj "<lambda>" q params body scope [] pm c' ctv)) (hco : ∃ (oc : Obj) (vs : Array Value) (t : Tok), s.heap.get? c' = some oc ∧ oc.data = .fields vs ∧ vs[1]? = some (.str q t))
    (hls : SqL X.K H l (ks.map fun p => V.ref p.1)) (hks : ∀ p ∈ ks, SqT X.K H p.1 (p.2.map V.int)) (hne : ks ≠ [])
    (h : ∀ s' p, Inv X pins σ H s' → p ∈ ks → (∀ r ∈ ks, ¬ LtK r.2 p.2) → Q (.ref p.1) s') :
    wpAny (model X.prog X.w) X.A (call (.builtin "min") [.ref l] [(Str.ofString "key", .ref f)]) Q E s := by
  obtain ⟨its, rv, pl, hz⟩ := I.list hls
  have eits : its = ks.map fun p => Value.ref p.1 := by
    clear hks hne h hls pl hz
    induction ks generalizing its with
    | nil => cases rv; rfl
    | cons p r ih =>
      cases rv with
      | cons a b =>
        obtain rfl := (show _ = Value.ref p.1 from a)
        rw [ih _ b]; rfl
  subst eits
  have hlen : (ks.map fun p => Value.ref p.1).toArray.size = ks.length := by rw [List.size_toArray, List.length_map]
  have hIl : s.heap.IsList l (ks.map fun p => Value.ref p.1).toArray := pl.isList
  refine PySem.call_min_walkK (wpAny_pyIter_list hIl ?_)
  have hlI : l ≠ s.heap.objs.size := by
    obtain ⟨o, ho, _⟩ := hIl
    exact Nat.ne_of_lt (Heap.lt_size ho)
  have hh : X.A.in1.handled = none := hr.hd
  have pos : 0 < ks.length := List.length_pos_iff.mpr hne
  have kp2 : ∀ b o, s.heap.get? b = some o → (s.heap.push { cls := .type "list_iterator", data := .fields #[.ref l, .int 0 0] }).get? b = some o := fun b o e => Heap.get?_push_of_some _ e
  have back : ∀ s' : Shared, (∀ b o, s.heap.get? b = some o → s'.heap.get? b = some o) → s'.gens = s.gens → s'.drawn = s.drawn → s'.os = s.os → Inv X pins σ H s' := fun s' kb g d o => by
    obtain ⟨h', g', d', t', o'⟩ := s'
    obtain rfl : g' = s.gens := g
    obtain rfl : d' = s.drawn := d
    obtain rfl : o' = s.os := o
    exact I.kept kb
  have rowAt : ∀ (i : Nat) (v : Value), (ks.map fun p => Value.ref p.1).toArray[i]? = some v → ∃ p : Addr × List Int, ks[i]? = some p ∧ v = Value.ref p.1 := fun i v e => by
    rw [List.getElem?_toArray, List.getElem?_map] at e
    cases hk : ks[i]? with
    | none => rw [hk] at e; cases e
    | some p => rw [hk] at e; cases e; exact ⟨p, rfl, rfl⟩
  have sz2 : (s.heap.push { cls := .type "list_iterator", data := .fields #[.ref l, .int 0 0] }).objs.size = s.heap.objs.size + 1 := Heap.size_push ..
  have W := (Walks.list (prog := X.prog) (w := X.w) (A := X.A.in1) hh s.heap.objs.size l hlI (List.map (fun p : Addr × List Int => Value.ref p.1) ks).toArray).toS
  rw [hlen] at W
  refine ⟨s.heap.objs.size, [s.heap.objs.size, l], [s.heap.objs.size], fun a b => b = a, ks.length, fun i v => (List.map (fun p : Addr × List Int => Value.ref p.1) ks).toArray[i]? = some v, fun i s' => s'.heap.IsListIter s.heap.objs.size l i ∧ s'.heap.IsList l (List.map (fun p : Addr × List Int => Value.ref p.1) ks).toArray,
    fun s' => (∀ b o, s.heap.get? b = some o → s'.heap.get? b = some o) ∧ s'.gens = s.gens ∧ s'.drawn = s.drawn ∧ s'.os = s.os,
    fun i k s' => ∃ (p : Addr) (r : Addr × List Int) (t : Tok), ks[i]? = some r ∧ k = .ref p ∧ p ≠ s.heap.objs.size + 1 ∧ p ≠ s.heap.objs.size ∧ s'.heap.get? p = some { cls := .type "tuple", data := .seq #[.int r.2.length t, .ref r.1] },
    fun i j => decide (LtK (ks.getD i (0, [])).2 (ks.getD j (0, [])).2), rfl, W, ⟨⟨_, Heap.get?_push_size _ rfl, rfl, rfl⟩, hIl.at fun o e => kp2 _ _ e⟩, ?_, pos, ⟨?_, ?_, ?_, ?_⟩, ⟨kp2, rfl, rfl, rfl⟩, ?_⟩
  · intro b hb
    show b < (s.heap.push _).objs.size
    rw [sz2]
    rcases List.mem_cons.mp hb with rfl | hb
    · exact Nat.lt_succ_self _
    · rw [List.mem_singleton.mp hb]
      obtain ⟨o, ho, _⟩ := hIl
      exact Nat.lt_succ_of_lt (Heap.lt_size ho)
  · rintro s1 s2 ⟨j1, j2, j3, j4⟩ m
    refine ⟨fun b o e => m.heap b o (fun z => ?_) (j1 b o e), (show s2.gens = s1.gens from m.gens).trans j2, m.drawn.trans j3, m.os.trans j4⟩
    have lt := Heap.lt_size e
    rcases List.mem_cons.mp z with z | z
    · rw [z] at lt
      have : (s.heap.push _).objs.size < s.heap.objs.size := lt
      rw [sz2] at this; omega
    · rw [List.mem_singleton.mp z] at lt; exact Nat.lt_irrefl _ lt
  · rintro i k s1 s2 ⟨p, r, t, e1, e2, n1, n2, e3⟩ m
    refine ⟨p, r, t, e1, e2, n1, n2, m.heap p _ (fun z => ?_) e3⟩
    rcases List.mem_cons.mp z with z | z
    · exact n1 (z.trans sz2)
    · exact n2 (List.mem_singleton.mp z)
  · rintro i v s1 o Q' E' hi hv ⟨j1, j2, j3, j4⟩ hst hS hQ
    obtain ⟨r, hr1, rfl⟩ := rowAt i v hv
    have I1 := back s1 j1 j2 j3 j4
    obtain ⟨oc, vs, t, co1, co2, co3⟩ := hco
    refine wpAny_call (key_call (k := k) I1 hA hr.in1 L hl (j1 _ _ hf) ⟨oc, vs, t, j1 _ _ co1, co2, co3⟩ (hks r (List.mem_of_getElem? hr1)) fun s2 p t2 kp g d os hp => ?_)
    have kept : ∀ b o, s1.heap.get? b = some o → s2.heap.get? b = some o := fun b o e => (kp b o e).1
    obtain ⟨⟨oi, hoi, hio⟩, hls1⟩ := id hst
    refine hQ (.ref p) s2 ⟨fun b o e => kept _ _ (j1 b o e), g.trans j2, d.trans j3, os.trans j4⟩ ⟨⟨oi, kept _ _ hoi, hio⟩, hls1.at fun o e => kept _ _ e⟩ (kept _ _ hS) ⟨p, r, t2, hr1, rfl, fun z => (kp _ _ hS).2 (by rw [z]; exact sz2), fun z => (kp _ _ hoi).2 z.symm, hp⟩ ?_
    rintro j k' ⟨p', r', t', e1, e2, n1, n2, e3⟩
    exact ⟨p', r', t', e1, e2, n1, n2, kept _ _ e3⟩
  · rintro i j ki kj s1 Q' E' ⟨j1, j2, j3, j4⟩ ⟨p, r, t, e1, rfl, _, _, e3⟩ ⟨p', r', t', f1, rfl, _, _, f3⟩ hq
    have I1 := back s1 j1 j2 j3 j4
    obtain ⟨as, ra⟩ := Dp.reads I1 (dInts r.2) (.ref r.1) (.ref r.1) (dp_ints (hks r (List.mem_of_getElem? e1))) rfl
    obtain ⟨bs, rb⟩ := Dp.reads I1 (dInts r'.2) (.ref r'.1) (.ref r'.1) (dp_ints (hks r' (List.mem_of_getElem? f1))) rfl
    have ka : Reads s1.heap (.ref p) (keyD r.2) _ := .tuple e3 rfl rfl (.cons (.int _ t) (.cons ra .nil))
    have kb : Reads s1.heap (.ref p') (keyD r'.2) _ := .tuple f3 rfl rfl (.cons (.int _ t') (.cons rb .nil))
    show wpAny _ _ (compareOp .Lt _ _) _ _ _
    refine PySem.W.lt_data ka kb (alike_key _ _) (by unfold keyD; intro z; cases z) ?_ ?_
    · have h1 := hr.un
      have : (keyD r.2).depth ≤ 2 := by
        unfold keyD dInts
        simp only [PyData.depth, PyData.depthAll, PySem.W.depth_ints]
        omega
      show X.A.units + 1 + min (keyD r.2).depth (keyD r'.2).depth < cLine
      have := Nat.min_le_left (keyD r.2).depth (keyD r'.2).depth
      omega
    · rw [lt_key]
      rw [List.getD_eq_getElem?_getD, List.getD_eq_getElem?_getD, e1, f1] at hq
      exact hq
  · rintro v s1 hv ⟨j1, j2, j3, j4⟩
    obtain ⟨p, hp, rfl⟩ := rowAt _ v hv
    obtain ⟨b1, b2⟩ := argBest_min (bt := fun i j => decide (LtK (ks.getD i (0, [])).2 (ks.getD j (0, [])).2)) (fun i => decide_eq_false (LtK.irrefl _)) (fun i j k h g => decide_eq_true (LtK.trans (of_decide_eq_true h) (of_decide_eq_true g))) (ks.length - 1)
    refine h s1 p (back s1 j1 j2 j3 j4) (List.mem_of_getElem? hp) fun r hr' => ?_
    obtain ⟨j, hj⟩ := List.getElem?_of_mem hr'
    have hjl := (List.getElem?_eq_some_iff.mp hj).1
    have := of_decide_eq_false (b2 j (by omega))
    rwa [List.getD_eq_getElem?_getD, List.getD_eq_getElem?_getD, hj, hp] at this
end
def tMinK (K : PySem.W.Frag) (T : List (Addr × Str)) (to : TE) : TE := fun σ H Q => to σ H fun x H1 => ∃ (l : Addr) (ks : List (Addr × List Int)), x = V.ref l ∧ SqL K H1 l (ks.map fun p => V.ref p.1) ∧ (∀ p ∈ ks, SqT K H1 p.1 (p.2.map V.int)) ∧ ks ≠ [] ∧ Tabs T H1 ∧
  ∀ H2 p, ExtN H1 H2 → Tabs T H2 → p ∈ ks → (∀ r ∈ ks, ¬ LtK r.2 p.2) → Q (.ref p.1) H2
section
variable {X : Cx} {T : List (Addr × Str)} {c P : Addr} {o : Expr} {to : TE} {params : Arguments} {body : Expr} {scope : Scope} {p pos lpos kpos : Pos} {k : Nat}
theorem sqL_extN {K : PySem.W.Frag} {H H' : Hp} {a : Addr} {xs : List V} (e : ExtN H H') (h : SqL K H a xs) : SqL K H' a xs := by
  rcases h with (h | ⟨o, h⟩) | h
  · exact .inl (.inl (e _ _ h (fun _ z => by cases z)))
  · exact .inl (.inr ⟨o, e _ _ h (fun _ z => by cases z)⟩)
  · exact .inr h
theorem sqT_extN {K : PySem.W.Frag} {H H' : Hp} {a : Addr} {xs : List V} (e : ExtN H H') (h : SqT K H a xs) : SqT K H' a xs := by
  rcases h with (h | ⟨o, h⟩) | h
  · exact .inl (.inl (e _ _ h (fun _ z => by cases z)))
  · exact .inl (.inr ⟨o, e _ _ h (fun _ z => by cases z)⟩)
  · exact .inr h
theorem pe_minK (ho : PE X o to) (hg : Gl X "min") (hm : X.mg "min" = none) (hl : X.mg "len" = none) (hr : Room (k + 2) X.A) (TB : TabB X.base X.mg c P) (hcode : X.env.code = .ref c)
    (hmT : (P, X.env.qual ++ "<lambda>") ∈ T) (hu : ∀ p ∈ T, p.1 = P → p.2 = X.env.qual ++ "<lambda>") (L : KeyLam params body scope) (hdef : defaultsOf params X.env = ([], []))
    (he : backTo pos (starEach [o] X.env) = [(false, eval o X.env)] := by rfl) :
    PE X (.Call (.Name "min" p) [o] [⟨some "key", .Lambda params body scope lpos, kpos⟩] pos) (tMinK X.K T to) := by
  refine ⟨fun pins s σ H Q I h => ?_⟩
  refine wpAny_Call_Name_kw (ld_blt I hg hm (by decide +kernel : bootBuiltins "min" = some (.builtin "min")) ?_ (by decide) (by decide))
  refine PyProof.Rows.callWith_kw ?_ he (by rw [he]; rfl) rfl rfl
  rw [he]
  refine Calls.spliced_cons (thn (ho.run pins s σ H _ I h) fun u s1 ⟨x, H1, I1, r1, l, ks, ex, hls, hks, hne, hT, q⟩ => Calls.spliced_nil ?_)
  subst ex
  obtain rfl : u = Value.ref l := r1
  show wpAny _ _ (evalAll [(do let v ← eval (.Lambda params body scope lpos) X.env; standAt pos; pure v)]) _ _ s1
  refine wpAny_evalAll_cons (wpAny_bind (lam_make2 I1 TB hcode hmT hu hT hdef (fun y hy z => absurd z (L.S.nofree y hy)) fun f c' pm ctv H2 s2 I2 eN T2 hf hfn hfr hco => wpAny_bind (wpAny_standAt (wpAny_pure (wpAny_evalAll_nil ?_)))))
  rw [cloFrom_nil L.S.nofree] at hf
  obtain ⟨oc, vs, t, hoc, hdc, hvc⟩ := (I2.hok _ _ hco).1
  exact min_key I2 I2.ok.frames hr L hl hf ⟨oc, vs, t, hoc, hdc, hvc⟩ (sqL_extN eN hls) (fun p hp => sqT_extN eN (hks p hp)) hne fun s3 p I3 hp hmin => ⟨.ref p.1, H2, I3, rfl, q H2 p eN T2 hp hmin⟩
end
theorem Fun.okC {P : Program} {w : World} {K : PySem.W.Frag} {mg : Str → Option Value} {base : Heap} {x qual : Str} {st : Stmt} {f c : Addr} {fd : FuncData} {N ps : List Str} {k : Nat} {sp : Sp} (F : Fun K x qual st f fd) (S : FnScope N ps (defScope st)) (ecd : fd.code = .ref c) (len : ∀ vs H Q E, sp vs H Q E → vs.length = ps.length)
    (hbody : ∀ (A : Around) (outer : List Env) (s : Shared) (H : Hp) (vs : List V) (Q : VK) (E : XK), Room k (A.deeper (envOfC qual (defScope st) s.heap.objs.size f (.ref c))) → sp vs H Q E →
      ∃ t, PSs (cxOf CX0 P w K mg base N qual (defScope st) f (.ref c) A outer s H E).nox (defBody st) t ∧ t { nx := fun _ H' => Q .non H', rt := Q } (start N vs) H) : FnOk P w K mg base CX0 (k + 1) f fd ps sp := by
  obtain ⟨oc, od, kV, doc, pm, an, cdv, ct, osl, rfl, lk, hcd⟩ := F.ex
  obtain rfl : cdv = Value.ref c := ecd
  refine fn_of lk hcd S len fun A outer s H vs Q E hr hsp => ?_
  obtain ⟨t, h, q⟩ := hbody A outer s H vs Q E hr hsp
  exact ⟨t, h.nox, q⟩
/-- rows of a known list of tuples -/
theorem dpAll_rows {K : PySem.W.Frag} {H : Hp} : ∀ {vs : List V} {ls : List (List Int)}, DpAll K H vs (ls.map dInts) → ∃ ks : List (Addr × List Int), vs = ks.map (fun p => V.ref p.1) ∧ ks.map (·.2) = ls ∧ ∀ p ∈ ks, SqT K H p.1 (p.2.map V.int)
  | [], [], _ => ⟨[], rfl, rfl, fun p h => by cases h⟩
  | v :: vs, l :: ls, h => by
    cases h with
    | cons x y =>
      obtain ⟨ks, h1, h2, h3⟩ := dpAll_rows y
      obtain ⟨a, rfl, ha⟩ := Dp.intsI x
      refine ⟨(a, l) :: ks, by rw [List.map_cons, h1], by rw [List.map_cons, h2], fun p hp => ?_⟩
      rcases List.mem_cons.mp hp with rfl | hp
      · exact ha
      · exact h3 p hp
  | [], _ :: _, h => by cases h
  | _ :: _, [], h => by cases h
theorem extN_same {H H' : Hp} (s : Same H H') : ExtN H H' := .of fun b o e => s b o e
theorem deck_extN {H H' : Hp} {a c : Addr} {m : Nat} (e : ExtN H H') (h : Deck H a c m) : Deck H' a c m := by
  obtain ⟨cs, k, e1, e2, e3⟩ := h
  exact ⟨cs, k, e _ _ e1 (fun _ z => by cases z), e _ _ e2 (fun _ z => by cases z), e3⟩
end Pr
namespace K39
open PySem PySem.Spec PyProof.Rows L2 Pr
/-- a shortest reset, the smallest one -/
structure BestR (pan : List (List Int)) (row : List Int) : Prop where
  asc : Asc pan.length row
  res : wSame ∉ effM pan row
  best : ∀ r, Asc pan.length r → wSame ∉ effM pan r → ¬ LtK r row
theorem betM_up {least : List Int} (hl : least.Pairwise (· < ·)) : ∀ {most l : List Int}, most.Nodup → l ∈ betM least most → l.Pairwise (· < ·)
  | [], l, _, h => by rw [List.mem_singleton.mp h]; exact hl
  | b :: r, l, nd, h => by
    obtain ⟨hb, nr⟩ := List.nodup_cons.mp nd
    unfold betM at h
    dsimp only at h
    split at h
    · exact betM_up hl nr h
    · rename_i nb
      rcases List.mem_append.mp h with h | h
      · exact betM_up hl nr h
      · obtain ⟨k, hk, rfl⟩ := List.mem_map.mp h
        have up := betM_up hl nr hk
        refine srt_asc (List.nodup_append.mpr ⟨up.imp fun {a c} (h : a < c) => Int.ne_of_lt h, by simp, fun x hx y hy e => ?_⟩)
        rw [List.mem_singleton.mp hy] at e
        subst e
        rcases (betM_sub hk).2 x hx with z | z
        · exact nb z
        · exact hb z
theorem asc_intL (n : Nat) : Asc n (intL n) := ⟨by
  unfold intL
  rw [List.pairwise_map]
  exact List.pairwise_lt_range.imp fun h => by omega, fun x hx => mem_intL.mp hx⟩
theorem intL_nodup (n : Nat) : (intL n).Nodup := (asc_intL n).up.imp fun {a c} (h : a < c) => Int.ne_of_lt h
theorem mem_betw {n : Nat} (hn : n ≤ 10) {l : List Int} : l ∈ srtT (betM [] (intL n).reverse) ↔ Asc n l := by
  rw [(srtT_perm _).mem_iff]
  constructor
  · intro h
    refine ⟨betM_up (by simp) ((List.reverse_perm _).nodup_iff.mpr (intL_nodup n)) h, fun x hx => ?_⟩
    rcases (betM_sub h).2 x hx with z | z
    · cases z
    · exact mem_intL.mp (List.mem_reverse.mp z)
  · intro h
    exact betM_all (by simp) h.up (fun x hx => by cases hx) fun x hx => .inr (List.mem_reverse.mpr (mem_intL.mpr (h.rng x hx)))
end K39
namespace K39
open PySem PySem.Spec PyProof.Rows L2 Pr
open LamX
section
variable {K : PySem.W.Frag} {σ : L2.St} {H : Hp} {ta' : TA} {E : XK} {pan : List (List Int)} {row : List Int}
theorem gv_Reset (h : GvA K ta' σ H [dPan pan, dInts row]) (hg : Good pan) (hin : ∀ x ∈ row, 0 ≤ x ∧ x < (pan.length : Int)) : Gv K (tCall (spReset K) [] E ta') σ H (.bool (!decide (wSame ∈ effM pan row))) := fun H1 s Q q => h H1 s _ fun vs H2 s2 dv => by
  obtain ⟨v, u, rfl, d1, d2⟩ := dpAll2 dv
  obtain ⟨p, rfl, hp⟩ := panT_dp d1
  obtain ⟨r, rfl, hr⟩ := d2.intsI
  exact ⟨p, r, pan, row, rfl, hp, hg, hr, hin, fun H' s3 => q _ H' (s2.trans s3) (.bl _)⟩
end
theorem all_reset (pan : List (List Int)) : wSame ∉ effM pan (intL pan.length) := fun h => by
  unfold effM at h
  obtain ⟨c, hc, e⟩ := List.mem_map.mp h
  have := List.mem_range.mp hc
  exact (words_iff.mp e) (.inl (mem_intL.mpr ⟨by omega, by omega⟩))
abbrev TSR (p : Addr) : List (Addr × Str) := [(p, ("shortest_reset" : Str) ++ ".<locals>." ++ "<lambda>")]
def nSReset : List Str := ["panel", "rows", "resets", "row"]
theorem scSReset : FnScope nSReset ["panel"] (defScope sSReset) := ⟨rfl, rfl, rfl, by decide +kernel, rfl, by decide +kernel, by decide +kernel⟩
section
variable {P : Program} {w : World} {K : PySem.W.Frag} {mg : Str → Option Value} {base : Heap}
def spSReset (K : PySem.W.Frag) (pS : Addr) : Sp := fun vs H Q _ => ∃ (p : Addr) (pan : List (List Int)), vs = [.ref p] ∧ PanT K H p pan ∧ Good pan ∧ Tabs (TSR pS) H ∧
  ∀ (H' : Hp) (a : Addr) (row : List Int), ExtN H H' → Tabs (TSR pS) H' → SqT K H' a (row.map V.int) → BestR pan row → Q (.ref a) H'
theorem ok_SReset {fNo : Addr} {fdNo : FuncData} {fPressE : Addr} {fdPressE : FuncData} {fJoin : Addr} {fdJoin : FuncData} {fWith : Addr} {fdWith : FuncData} {fEff : Addr} {fdEff : FuncData} {fBetw : Addr} {fdBetw : FuncData} {fReset : Addr} {fdReset : FuncData} {f : Addr} {fd : FuncData} {k : Nat} (F : Fun K "shortest_reset" "shortest_reset" sSReset f fd)
    (FNo : Fun K "no_effect" "no_effect" sNo fNo fdNo) (bNo : Binds K fdNo ["panel"] []) (gNo : mg "no_effect" = some (.ref fNo))
    (FPressE : Fun K "press_effect" "press_effect" sPressE fPressE fdPressE) (bPressE : Binds K fdPressE ["panel", "button"] []) (gPressE : mg "press_effect" = some (.ref fPressE))
    (FJoin : Fun K "joined_effect" "joined_effect" sJoin fJoin fdJoin) (bJoin : Binds K fdJoin ["first", "second"] []) (gJoin : mg "joined_effect" = some (.ref fJoin))
    (FWith : Fun K "effect_with_press" "effect_with_press" sWith fWith fdWith) (bWith : Binds K fdWith ["panel", "effect", "button"] []) (gWith : mg "effect_with_press" = some (.ref fWith))
    (FEff : Fun K "effect_of" "effect_of" sEff fEff fdEff) (bEff : Binds K fdEff ["panel", "row"] []) (gEff : mg "effect_of" = some (.ref fEff))
    (FBetw : Fun K "states_between" "states_between" sBetw fBetw fdBetw) (bBetw : Binds K fdBetw ["least", "most"] []) (gBetw : mg "states_between" = some (.ref fBetw))
    (FReset : Fun K "is_reset" "is_reset" sReset fReset fdReset) (bReset : Binds K fdReset ["panel", "row"] []) (gReset : mg "is_reset" = some (.ref fReset))
    (m_len : mg "len" = none) (m_list : mg "list" = none) (m_range : mg "range" = none) (m_sorted : mg "sorted" = none) (m_tuple : mg "tuple" = none) (m_zip : mg "zip" = none) (m_min : mg "min" = none) {cS pS : Addr} (ecd : fd.code = .ref cS) (TBS : TabB base mg cS pS) : FnOk P w K mg base CX0 (k + 6) f fd ["panel"] (spSReset K pS) := by
  have GBetw : FnOk P w K mg base CX0 (k + 1) fBetw fdBetw ["least", "most"] (spBetw K) := ok_Betw FBetw m_sorted m_tuple
  have GReset : FnOk P w K mg base CX0 (k + 5) fReset fdReset ["panel", "row"] (spReset K) := ok_Reset FReset FNo bNo gNo FPressE bPressE gPressE FJoin bJoin gJoin FWith bWith gWith FEff bEff gEff m_len m_list m_tuple m_zip
  refine Fun.okC F scSReset ecd (fun vs H Q E h => ?_) (fun A outer s H vs Q E hr h => ?_)
  · obtain ⟨p, pan, rfl, _⟩ := h
    rfl
  · obtain ⟨p, pan, rfl, hp, hg, hT, q⟩ := h
    refine ⟨_, pss_cons (ps_set (i := 1) scSReset.nd rfl (.inl rfl) (pe_call GBetw (hr.mono (by omega)) (by rfl) gBetw FBetw.kp bBetw .nil pass0 (pa_cons (pe_tup pa_nil) (pa_cons (pe_tupRg rfl (by rfl) m_tuple (prg_1 (by rfl) m_range (pe_callB (show CallR _ _ (rLenG K) from cr_lenG) (by rfl) m_len PySem.boot_len (pa_cons (pv 0) pa_nil)))) pa_nil))))
      (pss_cons (ps_setLc (i := 2) (own := [("row", 3)]) (g := gName 3) rfl scSReset.nd rfl rfl (sw_true rfl rfl rfl (by decide +kernel)) (show PI _ _ _ (iTup K _) from pi_tup (pv 1)) (blkOk_by (own := [("row", 3)]) (N := nSReset) (sc := defScope sSReset) (by decide +kernel)) (fun _ _ _ _ _ => pg_name (i := 3) scSReset.nd rfl (Or.inl rfl)) (fun _ _ _ _ _ => pts_one (pt_val (pe_call GReset (hr.mono (by omega)) (by rfl) gReset FReset.kp bReset .nil pass0 (pa_cons (pv 0) (pa_cons (pv 3) pa_nil))))) (fun _ _ _ _ _ => pv 3))
      (pss_one (ps_ret (pe_minK (k := k) (pv 2) (by rfl) m_min m_len (hr.mono (by omega)) TBS rfl (List.mem_singleton.mpr rfl) (fun p hp _ => by rw [List.mem_singleton.mp hp]) ⟨⟨_, _, _, _, _, _, rfl⟩, ⟨rfl, rfl, rfl, by decide +kernel, rfl, by decide +kernel, by decide +kernel⟩, rfl, fun _ _ _ _ _ _ => rfl⟩ rfl)))), ?_⟩
    have few := hg.few
    have hlp : (pan.map dInts).length = pan.length := List.length_map _
    have dp : Dp K H (.ref p) (dPan pan) := hp.dp
    have cnt := betM_count (least := []) (intL pan.length).reverse
    have c10 : 2 ^ (intL pan.length).reverse.length ≤ 2 ^ 10 := Nat.pow_le_pow_right (by decide) (by rw [List.length_reverse, intL_len]; exact few)
    have ml : (srtT (betM [] (intL pan.length).reverse)).length ≤ 1024 := by rw [(srtT_perm _).length_eq]; omega
    refine gs_set1 (K := K) (gv_Betw (least := []) (most := intL pan.length) (gva_cons (gv_tup gva_nil) (gva_cons ((gv_tupRg ((gv_lenT (gv_var (i := 0) rfl dp)).to (by rw [hlp])) (by omega)).to (by unfold intL; rfl)) gva_nil)) ⟨by decide, by rw [intL_len]; exact few⟩) fun vr H1 s1 dr => ?_
    refine gs_setN (K := K) (gn_lc (δ := dInts) (as := srtT (betM [] (intL pan.length).reverse)) (p := fun r => !decide (wSame ∈ effM pan r)) (f := dInts) (gvi_tup (gv_var (i := 1) rfl dr)) (fun r v Hz hr sz dz => ⟨gvt_b (gv_Reset (gva_cons (gv_var (i := 0) rfl (dp.sm (s1.trans sz))) (gva_cons (gv_var rfl dz) gva_nil)) hg (fun x hx => ((mem_betw few).mp hr).rng x hx)), fun _ => gv_var rfl dz⟩) (fun _ _ => lf_ints _) (by omega)) fun R vs H2 s2 nR eR dR => ?_
    obtain ⟨ks, rfl, hks, hk⟩ := dpAll_rows dR
    have mem : ∀ r, r ∈ ks.map (·.2) ↔ Asc pan.length r ∧ wSame ∉ effM pan r := fun r => by
      rw [hks, List.mem_filter, mem_betw few]
      simp
    refine ⟨.ref R, rfl, R, ks, rfl, .inl (.inl eR), hk, fun z => ?_, hT.ext (fun b o e => s2 _ _ (s1 _ _ e)), fun H3 x eN hT3 hx hmin => ?_⟩
    · subst z
      have := (mem (intL pan.length)).mpr ⟨asc_intL _, all_reset pan⟩
      cases this
    · obtain ⟨h1, h2⟩ := (mem x.2).mp (List.mem_map.mpr ⟨x, hx, rfl⟩)
      refine q H3 x.1 x.2 ((extN_same (s1.trans s2)).trans eN) hT3 (sqT_extN eN (hk x hx)) ⟨h1, h2, fun r a1 a2 => ?_⟩
      obtain ⟨y, hy, rfl⟩ := List.mem_map.mp ((mem r).mpr ⟨a1, a2⟩)
      exact hmin y hy
end
end K39
namespace Pr
open PySem PySem.Spec PyProof.Rows L2
def InR (n : Nat) (r : List Int) : Prop := ∀ x ∈ r, 0 ≤ x ∧ x < (n : Int)
def Cov (pan : List (List Int)) (r : List Int) : Prop := ∀ c : Nat, c < pan.length → metB pan r (c : Int)
theorem cov_iff {pan : List (List Int)} {r : List Int} : wSame ∉ effM pan r ↔ Cov pan r := by
  constructor
  · intro h c hc
    refine Classical.byContradiction fun z => h ?_
    exact List.mem_of_getElem? ((eff_get hc).trans (congrArg some (words_iff.mpr z)))
  · intro h z
    unfold effM at z
    obtain ⟨c, hc, e⟩ := List.mem_map.mp z
    exact words_iff.mp e (h c (List.mem_range.mp hc))
theorem met_sub {pan : List (List Int)} {r r' : List Int} {c : Int} (h : ∀ x ∈ r, x ∈ r') (m : metB pan r c) : metB pan r' c := by
  rcases m with m | ⟨b, m1, m2⟩
  · exact .inl (h c m)
  · exact .inr ⟨b, h b m1, m2⟩
theorem Cov.sub {pan : List (List Int)} {r r' : List Int} (h : ∀ x ∈ r, x ∈ r') (m : Cov pan r) : Cov pan r' := fun c hc => met_sub h (m c hc)
/-- m buttons are the fewest that meet all -/
structure Mn (pan : List (List Int)) (m : Nat) : Prop where
  ex : ∃ r, InR pan.length r ∧ Cov pan r ∧ r.length = m
  le : ∀ r, InR pan.length r → Cov pan r → m ≤ r.length
theorem Mn.pos {pan : List (List Int)} {m : Nat} (h : Mn pan m) (hp : 1 ≤ pan.length) : 1 ≤ m := by
  obtain ⟨r, a, b, c⟩ := h.ex
  cases r with
  | nil =>
    rcases b 0 hp with z | ⟨_, z, _⟩
    · cases z
    · cases z
  | cons x l => rw [← c, List.length_cons]; omega
theorem nodup_len : ∀ {l r : List Int}, l.Nodup → (∀ x ∈ l, x ∈ r) → l.length ≤ r.length
  | [], _, _, _ => Nat.zero_le _
  | x :: l, r, nd, h => by
    obtain ⟨h1, h2⟩ := List.nodup_cons.mp nd
    have hx := h x List.mem_cons_self
    have := nodup_len (l := l) (r := r.erase x) h2 fun y hy => (List.mem_erase_of_ne (fun e : y = x => h1 (by rw [← e]; exact hy))).mpr (h y (List.mem_cons_of_mem _ hy))
    rw [List.length_erase_of_mem hx] at this
    have := List.length_pos_of_mem hx
    rw [List.length_cons]; omega
theorem dedup_ex (n : Nat) (r : List Int) (h : InR n r) : ∃ q, Asc n q ∧ (∀ x, x ∈ q ↔ x ∈ r) ∧ q.length ≤ r.length := by
  refine ⟨(intL n).filter fun x => decide (x ∈ r), ⟨(intL_up n).filter _, fun x hx => mem_intL.mp (List.mem_filter.mp hx).1⟩, fun x => ?_, ?_⟩
  · rw [List.mem_filter, mem_intL, decide_eq_true_eq]
    exact ⟨fun z => z.2, fun z => ⟨h x z, z⟩⟩
  · exact nodup_len ((List.Pairwise.filter _ (intL_up n)).imp (fun {a b} (h : a < b) => Int.ne_of_lt h)) fun x hx => by simpa using (List.mem_filter.mp hx).2
structure NearP (pan pan' : List (List Int)) (o : Int) : Prop where
  len : pan'.length = pan.length
  sub : ∀ (b : Nat) x, x ∈ pan.getD b [] → x ∈ pan'.getD b []
  sup : ∀ (b : Nat) x, x ∈ pan'.getD b [] → x ∈ pan.getD b [] ∨ x = o
theorem NearP.refl (pan : List (List Int)) (o : Int) : NearP pan pan o := ⟨rfl, fun _ _ h => h, fun _ _ h => .inl h⟩
theorem NearP.mn {pan pan' : List (List Int)} {o : Int} {m m' : Nat} (h : NearP pan pan' o) (ho : 0 ≤ o ∧ o < (pan.length : Int)) (a : Mn pan m) (b : Mn pan' m') : m' ≤ m ∧ m ≤ m' + 1 := by
  obtain ⟨r, r1, r2, r3⟩ := a.ex
  obtain ⟨q, q1, q2, q3⟩ := b.ex
  have l1 := b.le r (by rw [h.len]; exact r1) fun c hc => by
    rw [h.len] at hc
    rcases r2 c hc with z | ⟨x, z1, z2⟩
    · exact .inl z
    · exact .inr ⟨x, z1, h.sub _ _ z2⟩
  have l2 := a.le (q ++ [o]) (fun x hx => by
      rcases List.mem_append.mp hx with z | z
      · have := q1 x z; rw [h.len] at this; exact this
      · rw [List.mem_singleton.mp z]; exact ho) fun c hc => by
    rcases q2 c (by rw [h.len]; exact hc) with z | ⟨x, z1, z2⟩
    · exact .inl (List.mem_append_left _ z)
    · rcases h.sup _ _ z2 with z | z
      · exact .inr ⟨x, List.mem_append_left _ z1, z⟩
      · exact .inl (List.mem_append_right _ (by rw [z]; exact List.mem_singleton.mpr rfl))
  rw [List.length_append, List.length_singleton] at l2
  omega
theorem ren_get {pan : List (List Int)} {nm : List Int} {b : Nat} (hb : b < pan.length) : (renM pan nm).getD b [] = srt ((pan.getD (nm.idxOf (b : Int)) []).map (nmOf nm)) := by
  unfold renM
  rw [List.getD_eq_getElem?_getD, List.getElem?_map, List.getElem?_range hb]; rfl
theorem ren_cov {pan : List (List Int)} {nm : List Int} {r : List Int} (hn : IsP pan.length nm) (hp : ∀ l ∈ pan, ∀ x ∈ l, 0 ≤ x ∧ x < (pan.length : Int)) (hr : InR pan.length r) (h : Cov pan r) : InR pan.length (r.map (nmOf nm)) ∧ Cov (renM pan nm) (r.map (nmOf nm)) := by
  refine ⟨fun x hx => ?_, fun c hc => ?_⟩
  · obtain ⟨y, hy, rfl⟩ := List.mem_map.mp hx
    exact hn.rngOf (hr y hy).1 (hr y hy).2
  · rw [renM_len] at hc
    obtain ⟨i1, i2⟩ := hn.idx (x := (c : Int)) (by omega) (by omega)
    rcases h _ i1 with z | ⟨b, z1, z2⟩
    · exact .inl (List.mem_map.mpr ⟨_, z, i2⟩)
    · obtain ⟨b0, b1⟩ := hr b z1
      obtain ⟨n0, n1⟩ := hn.rngOf b0 b1
      refine .inr ⟨nmOf nm b, List.mem_map.mpr ⟨b, z1, rfl⟩, ?_⟩
      rw [ren_get (by omega), srt_mem, show (((nmOf nm b).toNat : Nat) : Int) = nmOf nm b by omega, List.mem_map]
      refine ⟨_, ?_, i2⟩
      have := hn.idx_of b0 b1
      rw [show nm.idxOf (nmOf nm b) = b.toNat by omega]
      exact z2
theorem ren_back {pan : List (List Int)} {nm : List Int} {r : List Int} (hn : IsP pan.length nm) (hp : ∀ l ∈ pan, ∀ x ∈ l, 0 ≤ x ∧ x < (pan.length : Int)) (hr : InR pan.length r) (h : Cov (renM pan nm) r) : InR pan.length (r.map fun x => ((nm.idxOf x : Nat) : Int)) ∧ Cov pan (r.map fun x => ((nm.idxOf x : Nat) : Int)) := by
  refine ⟨fun x hx => ?_, fun c hc => ?_⟩
  · obtain ⟨y, hy, rfl⟩ := List.mem_map.mp hx
    have := (hn.idx (hr y hy).1 (hr y hy).2).1
    omega
  · obtain ⟨n0, n1⟩ := hn.rngOf (x := (c : Int)) (by omega) (by omega)
    have ic := hn.idx_of (x := (c : Int)) (by omega) (by omega)
    rcases h (nmOf nm (c : Int)).toNat (by rw [renM_len]; omega) with z | ⟨b, z1, z2⟩
    · rw [show (((nmOf nm (c : Int)).toNat : Nat) : Int) = nmOf nm (c : Int) by omega] at z
      exact .inl (List.mem_map.mpr ⟨_, z, ic⟩)
    · obtain ⟨b0, b1⟩ := hr b z1
      rw [show (((nmOf nm (c : Int)).toNat : Nat) : Int) = nmOf nm (c : Int) by omega, ren_get (by omega), srt_mem, show ((b.toNat : Nat) : Int) = b by omega] at z2
      obtain ⟨y, y1, y2⟩ := List.mem_map.mp z2
      refine .inr ⟨_, List.mem_map.mpr ⟨b, z1, rfl⟩, ?_⟩
      have hi := (hn.idx b0 b1).1
      have hm : pan.getD (nm.idxOf b) [] ∈ pan := by rw [List.getD_eq_getElem?_getD, List.getElem?_eq_getElem hi]; exact List.getElem_mem _
      have ry := hp _ hm y y1
      have := hn.inj ry.1 ry.2 (by omega) (by omega) y2
      subst this
      rw [Int.toNat_natCast]
      exact y1
theorem ren_mn {pan : List (List Int)} {nm : List Int} {m m' : Nat} (hn : IsP pan.length nm) (hp : ∀ l ∈ pan, ∀ x ∈ l, 0 ≤ x ∧ x < (pan.length : Int)) (a : Mn pan m) (b : Mn (renM pan nm) m') : m = m' := by
  obtain ⟨r, r1, r2, r3⟩ := a.ex
  obtain ⟨q, q1, q2, q3⟩ := b.ex
  rw [renM_len] at q1
  have l1 := a.le _ (ren_back hn hp q1 q2).1 (ren_back hn hp q1 q2).2
  have l2 := b.le _ (by rw [renM_len]; exact (ren_cov hn hp r1 r2).1) (ren_cov hn hp r1 r2).2
  rw [List.length_map] at l1 l2
  omega
theorem ren_good {pan : List (List Int)} {nm : List Int} (g : Good pan) (hn : IsP pan.length nm) : Good (renM pan nm) := by
  have hl := renM_len pan nm
  have gt : ∀ l ∈ renM pan nm, ∃ b : Nat, b < pan.length ∧ l = srt ((pan.getD (nm.idxOf (b : Int)) []).map (nmOf nm)) := fun l h => by
    unfold renM at h
    obtain ⟨b, hb, rfl⟩ := List.mem_map.mp h
    exact ⟨b, List.mem_range.mp hb, rfl⟩
  have inP : ∀ b : Nat, b < pan.length → pan.getD (nm.idxOf (b : Int)) [] ∈ pan := fun b hb => by
    have hi := (hn.idx (x := (b : Int)) (by omega) (by omega)).1
    rw [List.getD_eq_getElem?_getD, List.getElem?_eq_getElem hi]; exact List.getElem_mem _
  refine ⟨by rw [hl]; exact g.pos, by rw [hl]; exact g.few, fun l h => ?_, fun l h x hx => ?_, fun i l h hx => ?_⟩
  · obtain ⟨b, hb, rfl⟩ := gt l h
    refine srt_asc ?_
    rw [List.Nodup, List.pairwise_map]
    refine (g.up _ (inP b hb)).imp_of_mem fun {x y} hx hy hlt e => ?_
    have rx := g.rng _ (inP b hb) x hx
    have ry := g.rng _ (inP b hb) y hy
    have := hn.inj rx.1 rx.2 ry.1 ry.2 e
    omega
  · obtain ⟨b, hb, rfl⟩ := gt l h
    rw [srt_mem] at hx
    obtain ⟨y, hy, rfl⟩ := List.mem_map.mp hx
    have ry := g.rng _ (inP b hb) y hy
    rw [hl]
    exact hn.rngOf ry.1 ry.2
  · have hi : i < pan.length := by rw [← hl]; exact (List.getElem?_eq_some_iff.mp h).1
    have e : l = srt ((pan.getD (nm.idxOf (i : Int)) []).map (nmOf nm)) := by
      have := ren_get (pan := pan) (nm := nm) hi
      rw [List.getD_eq_getElem?_getD, h] at this
      exact this
    rw [e, srt_mem] at hx
    obtain ⟨y, hy, e2⟩ := List.mem_map.mp hx
    obtain ⟨i1, i2⟩ := hn.idx (x := (i : Int)) (by omega) (by omega)
    have ry := g.rng _ (inP i hi) y hy
    have := hn.inj ry.1 ry.2 (by omega) (by omega) (e2.trans i2.symm)
    subst this
    refine g.own _ _ ?_ hy
    rw [List.getD_eq_getElem?_getD, List.getElem?_eq_getElem i1]; rfl
def besP (a b : List (List Int)) : List (List Int) := a ++ b.map fun l => l.map fun x => (a.length : Int) + x
theorem besP_len (a b : List (List Int)) : (besP a b).length = a.length + b.length := by unfold besP; rw [List.length_append, List.length_map]
theorem besP_left {a b : List (List Int)} {i : Nat} (h : i < a.length) : (besP a b).getD i [] = a.getD i [] := by
  unfold besP
  rw [List.getD_eq_getElem?_getD, List.getElem?_append_left h, List.getD_eq_getElem?_getD]
theorem besP_right {a b : List (List Int)} {i : Nat} (h : i < b.length) : (besP a b).getD (a.length + i) [] = (b.getD i []).map fun x => (a.length : Int) + x := by
  unfold besP
  rw [List.getD_eq_getElem?_getD, List.getElem?_append_right (by omega), List.getElem?_map, show a.length + i - a.length = i by omega, List.getD_eq_getElem?_getD, List.getElem?_eq_getElem h]; rfl
theorem bes_mn {a b : List (List Int)} {m m1 m2 : Nat} (ha : ∀ l ∈ a, ∀ x ∈ l, 0 ≤ x ∧ x < (a.length : Int)) (hb : ∀ l ∈ b, ∀ x ∈ l, 0 ≤ x ∧ x < (b.length : Int)) (h : Mn (besP a b) m) (h1 : Mn a m1) (h2 : Mn b m2) : m = m1 + m2 := by
  obtain ⟨r, r1, r2, r3⟩ := h.ex
  obtain ⟨q, q1, q2, q3⟩ := h1.ex
  obtain ⟨p, p1, p2, p3⟩ := h2.ex
  have inA : ∀ i : Nat, i < a.length → a.getD i [] ∈ a := fun i hi => by rw [List.getD_eq_getElem?_getD, List.getElem?_eq_getElem hi]; exact List.getElem_mem _
  have inB : ∀ i : Nat, i < b.length → b.getD i [] ∈ b := fun i hi => by rw [List.getD_eq_getElem?_getD, List.getElem?_eq_getElem hi]; exact List.getElem_mem _
  -- together
  have l1 := h.le (q ++ p.map fun x => (a.length : Int) + x) (fun x hx => by
      rw [besP_len]
      rcases List.mem_append.mp hx with z | z
      · have := q1 x z; omega
      · obtain ⟨y, hy, rfl⟩ := List.mem_map.mp z
        have := p1 y hy; omega) fun c hc => by
    rw [besP_len] at hc
    by_cases e : c < a.length
    · rcases q2 c e with z | ⟨x, z1, z2⟩
      · exact .inl (List.mem_append_left _ z)
      · have rx := q1 x z1
        exact .inr ⟨x, List.mem_append_left _ z1, by rw [besP_left (by omega)]; exact z2⟩
    · obtain ⟨d, rfl⟩ : ∃ d, c = a.length + d := ⟨c - a.length, by omega⟩
      rcases p2 d (by omega) with z | ⟨x, z1, z2⟩
      · exact .inl (List.mem_append_right _ (List.mem_map.mpr ⟨_, z, by omega⟩))
      · have rx := p1 x z1
        refine .inr ⟨(a.length : Int) + x, List.mem_append_right _ (List.mem_map.mpr ⟨x, z1, rfl⟩), ?_⟩
        rw [show ((a.length : Int) + x).toNat = a.length + x.toNat by omega, besP_right (by omega)]
        exact List.mem_map.mpr ⟨_, z2, by omega⟩
  -- apart
  have l2 := h1.le (r.filter fun x => decide (x < (a.length : Int))) (fun x hx => by
      obtain ⟨z1, z2⟩ := List.mem_filter.mp hx
      exact ⟨(r1 x z1).1, by simpa using z2⟩) fun c hc => by
    rcases r2 c (by rw [besP_len]; omega) with z | ⟨x, z1, z2⟩
    · exact .inl (List.mem_filter.mpr ⟨z, by simpa using hc⟩)
    · have rx := r1 x z1
      rw [besP_len] at rx
      by_cases e : x < (a.length : Int)
      · exact .inr ⟨x, List.mem_filter.mpr ⟨z1, by simpa using e⟩, by rwa [besP_left (by omega)] at z2⟩
      · rw [show x.toNat = a.length + (x.toNat - a.length) by omega, besP_right (by omega)] at z2
        obtain ⟨y, y1, y2⟩ := List.mem_map.mp z2
        have := (hb _ (inB _ (by omega)) y y1).1
        omega
  have l3 := h2.le ((r.filter fun x => !decide (x < (a.length : Int))).map fun x => x - (a.length : Int)) (fun x hx => by
      obtain ⟨y, hy, rfl⟩ := List.mem_map.mp hx
      obtain ⟨z1, z2⟩ := List.mem_filter.mp hy
      have := r1 y z1
      rw [besP_len] at this
      have : ¬ y < (a.length : Int) := by simpa using z2
      omega) fun c hc => by
    rcases r2 (a.length + c) (by rw [besP_len]; omega) with z | ⟨x, z1, z2⟩
    · have nq : ¬ ((a.length + c : Nat) : Int) < (a.length : Int) := by omega
      exact .inl (List.mem_map.mpr ⟨_, List.mem_filter.mpr ⟨z, by rw [decide_eq_false nq]; rfl⟩, by omega⟩)
    · have rx := r1 x z1
      rw [besP_len] at rx
      by_cases e : x < (a.length : Int)
      · rw [besP_left (by omega)] at z2
        have := ha _ (inA _ (by omega)) _ z2
        omega
      · refine .inr ⟨x - (a.length : Int), List.mem_map.mpr ⟨x, List.mem_filter.mpr ⟨z1, by simpa using e⟩, rfl⟩, ?_⟩
        rw [show x.toNat = a.length + (x - (a.length : Int)).toNat by omega, besP_right (by omega)] at z2
        obtain ⟨y, y1, y2⟩ := List.mem_map.mp z2
        have : y = (c : Int) := by omega
        rw [← this]; exact y1
  rw [List.length_append, List.length_map] at l1
  rw [List.length_map] at l3
  have l4 : ∀ l : List Int, (l.filter fun x => decide (x < (a.length : Int))).length + (l.filter fun x => !decide (x < (a.length : Int))).length = l.length := fun l => by
    induction l with
    | nil => rfl
    | cons x l ih =>
      by_cases e : x < (a.length : Int)
      · rw [List.filter_cons_of_pos (by simpa using e), List.filter_cons_of_neg (by simpa using e), List.length_cons, List.length_cons]; omega
      · rw [List.filter_cons_of_neg (by simpa using e), List.filter_cons_of_pos (by simpa using e), List.length_cons, List.length_cons]; omega
  have := l4 r
  omega
theorem bes_good {a b : List (List Int)} (ga : Good a) (gb : Good b) (h10 : a.length + b.length ≤ 10) : Good (besP a b) := by
  have hl := besP_len a b
  have pos := ga.pos
  refine ⟨by omega, by omega, fun l h => ?_, fun l h x hx => ?_, fun i l h hx => ?_⟩
  · rcases List.mem_append.mp h with h | h
    · exact ga.up l h
    · obtain ⟨y, hy, rfl⟩ := List.mem_map.mp h
      rw [List.pairwise_map]
      exact (gb.up y hy).imp fun {u v} q => by omega
  · rcases List.mem_append.mp h with h | h
    · have := ga.rng l h x hx; omega
    · obtain ⟨y, hy, rfl⟩ := List.mem_map.mp h
      obtain ⟨z, hz, rfl⟩ := List.mem_map.mp hx
      have := gb.rng y hy z hz
      omega
  · unfold besP at h
    rcases Nat.lt_or_ge i a.length with e | e
    · rw [List.getElem?_append_left e] at h
      exact ga.own i l h hx
    · rw [List.getElem?_append_right e, List.getElem?_map] at h
      cases q : b[i - a.length]? with
      | none => rw [q] at h; cases h
      | some y =>
        rw [q] at h; cases h
        obtain ⟨z, hz, e2⟩ := List.mem_map.mp hx
        have : z = ((i - a.length : Nat) : Int) := by omega
        rw [this] at hz
        exact gb.own _ y q hz
theorem apart_le {pan : List (List Int)} {r used own : List Int} {b : Nat} {k : Nat} (hb : b < pan.length) (h : Cov pan r) (hin : InR pan.length r) (ho : ∀ x : Int, x ∈ own ↔ x = (b : Int) ∨ ∃ i : Nat, i < pan.length ∧ x = (i : Int) ∧ (b : Int) ∈ pan.getD i [])
    (hd : ∀ x ∈ own, x ∉ used) (hk : k ≤ (r.filter fun x => decide (x ∈ used)).length) : k + 1 ≤ (r.filter fun x => decide (x ∈ used ++ own)).length := by
  obtain ⟨x, hx, hxo⟩ : ∃ x, x ∈ r ∧ x ∈ own := by
    rcases h b hb with z | ⟨x, z1, z2⟩
    · exact ⟨_, z, (ho _).mpr (.inl rfl)⟩
    · have rx := hin x z1
      exact ⟨x, z1, (ho x).mpr (.inr ⟨x.toNat, by omega, by omega, z2⟩)⟩
  have key : ∀ l : List Int, x ∈ l → (l.filter fun y => decide (y ∈ used)).length + 1 ≤ (l.filter fun y => decide (y ∈ used ++ own)).length := by
    have mono : ∀ l : List Int, (l.filter fun y => decide (y ∈ used)).length ≤ (l.filter fun y => decide (y ∈ used ++ own)).length := fun l => by
      induction l with
      | nil => exact Nat.le_refl _
      | cons y l ih =>
        by_cases e : y ∈ used
        · rw [List.filter_cons_of_pos (by simpa using e), List.filter_cons_of_pos (by simp [e]), List.length_cons, List.length_cons]; omega
        · rw [List.filter_cons_of_neg (by simpa using e)]
          by_cases e2 : y ∈ used ++ own
          · rw [List.filter_cons_of_pos (by simpa using e2), List.length_cons]; omega
          · rw [List.filter_cons_of_neg (by simpa using e2)]; exact ih
    intro l
    induction l with
    | nil => intro z; cases z
    | cons y l ih =>
      intro z
      by_cases e3 : x = y
      · subst e3
        have := mono l
        rw [List.filter_cons_of_neg (by simpa using hd x hxo), List.filter_cons_of_pos (by simp [hxo]), List.length_cons]; omega
      · have hz := ih ((List.mem_cons.mp z).resolve_left e3)
        by_cases e : y ∈ used
        · rw [List.filter_cons_of_pos (by simpa using e), List.filter_cons_of_pos (by simp [e]), List.length_cons, List.length_cons]; omega
        · rw [List.filter_cons_of_neg (by simpa using e)]
          by_cases e2 : y ∈ used ++ own
          · rw [List.filter_cons_of_pos (by simpa using e2), List.length_cons]; omega
          · rw [List.filter_cons_of_neg (by simpa using e2)]; exact hz
  have := key r hx
  omega
end Pr
namespace K39
open PySem PySem.Spec PyProof.Rows L2 Pr
def wlM (pan : List (List Int)) (b : Int) (l : List Int) : List (List Int) := pan.zipIdx.map fun x => if (x.2 : Int) = b then l else x.1
theorem wl_set (pan : List (List Int)) {b : Int} (l : List Int) (h0 : 0 ≤ b) : wlM pan b l = pan.set b.toNat l := by
  refine List.ext_getElem? fun i => ?_
  unfold wlM
  rw [List.getElem?_map, List.getElem?_zipIdx, List.getElem?_set]
  by_cases hi : i < pan.length
  · rw [List.getElem?_eq_getElem hi]
    by_cases hb : b.toNat = i
    · rw [if_pos hb, if_pos (by omega)]
      simp only [Option.map_some, Nat.zero_add]
      rw [if_pos (by omega)]
    · rw [if_neg hb]
      simp only [Option.map_some, Nat.zero_add]
      rw [if_neg (by omega)]
  · rw [List.getElem?_eq_none (by omega)]
    by_cases hb : b.toNat = i
    · rw [if_pos hb, if_neg (by omega)]; rfl
    · rw [if_neg hb]; rfl
def liM (pan : List (List Int)) (one other : Int) : List (List Int) := if other ∈ pan.getD one.toNat [] then pan else pan.set one.toNat (srt (pan.getD one.toNat [] ++ [other]))
def unM (pan : List (List Int)) (one other : Int) : List (List Int) := if other ∈ pan.getD one.toNat [] then pan.set one.toNat ((pan.getD one.toNat []).filter fun x => !decide (x = other)) else pan
theorem list_few {pan : List (List Int)} (h : ∀ l ∈ pan, l.length ≤ 60) (i : Nat) : (pan.getD i []).length ≤ 60 := by
  rw [List.getD_eq_getElem?_getD]
  cases e : pan[i]? with
  | none => simp
  | some l => exact h l (List.mem_of_getElem? e)
def nWl : List Str := ["panel", "button", "released", "index", "row"]
theorem scWl : FnScope nWl ["panel", "button", "released"] (defScope sWl) := ⟨rfl, rfl, rfl, by decide +kernel, rfl, by decide +kernel, by decide +kernel⟩
section
variable {P : Program} {w : World} {K : PySem.W.Frag} {mg : Str → Option Value} {base : Heap}
def spWl (K : PySem.W.Frag) : Sp := spP K (fun x : List (List Int) × Int × List Int => [dPan x.1, .int x.2.1, dInts x.2.2]) (fun x => x.1.length ≤ 100 ∧ 0 ≤ x.2.1) (fun x => dPan (x.1.set x.2.1.toNat x.2.2))
theorem gv_Wl {σ : L2.St} {H : Hp} {t : TA} {E : XK} {pan : List (List Int)} {b : Int} {l : List Int} (h : GvA K t σ H [dPan pan, .int b, dInts l]) (hc : pan.length ≤ 100 ∧ 0 ≤ b) : Gv K (tCall (spWl K) [] E t) σ H (dPan (pan.set b.toNat l)) := gv_call (K := K) (δ := fun x : List (List Int) × Int × List Int => [dPan x.1, .int x.2.1, dInts x.2.2]) (C := fun x => x.1.length ≤ 100 ∧ 0 ≤ x.2.1) (f := fun x => dPan (x.1.set x.2.1.toNat x.2.2)) (pan, b, l) h hc
theorem ok_Wl  {f : Addr} {fd : FuncData} {k : Nat} (F : Fun K "with_list" "with_list" sWl f fd)
    (m_enumerate : mg "enumerate" = none) (m_tuple : mg "tuple" = none) : FnOk P w K mg base CX0 (k + 1) f fd ["panel", "button", "released"] (spWl K) := by
  refine F.ok scWl (fun vs H Q E h => ?_) (fun cdv A outer s H vs Q E hr h => ?_)
  · obtain ⟨_, hd, _⟩ := h
    exact hd.length
  · obtain ⟨⟨pan, b, l⟩, hd, hc, q⟩ := h
    obtain ⟨v1, v2, v3, rfl, d1, d2, d3⟩ := dpAll3 hd
    try dsimp only at hc
    try dsimp only at q
    try dsimp only at d1 d2 d3
    refine ⟨_, pss_one (ps_ret (pe_callTy (show CallR _ _ (rTupG K) from cr_tupG) (by rfl) m_tuple (by decide +kernel) (pa_cons (pe_lc (own := [("index", 3), ("row", 4)]) (g := gTup K 2 (gCons (gName 3) (gCons (gName 4) gNil))) (tt := tYes) rfl scWl.nd (pi_enumT (by rfl) m_enumerate (pa_cons (pv 0) pa_nil)) (blkOk_by (own := [("index", 3), ("row", 4)]) (N := nWl) (sc := defScope sWl) (by decide +kernel)) (fun _ _ _ _ _ => pg_tup rfl (pgs_cons (pg_name (i := 3) scWl.nd rfl (Or.inl rfl)) (pgs_cons (pg_name (i := 4) scWl.nd rfl (Or.inl rfl)) pgs_nil))) (fun _ _ _ _ _ => pts_nil) (fun _ _ _ _ _ => pe_ifExp (pt_cmpR op_eq (pv 3) (pv 1) (nomark _)) (pv 2) (pv 4))) pa_nil))), ?_⟩
    refine gs_ret ((gv_tupL (gv_lc2 (gvi_enumT (gv_var rfl d1)) (fun a v u H1 ha s dv du => ⟨gvt_yes, fun _ => gv_if (gvt_test (gv_eqI (gv_var rfl dv) (gv_var rfl (d2.sm s)))) (fun _ => gv_var rfl (d3.sm s)) (fun _ => gv_var rfl du)⟩) (fun a _ => ?_) ?_ (by decide))).to ?_) q
    · split
      · exact lf_ints _
      · exact lf_ints _
    · rw [List.length_zipIdx]; omega
    · rw [← wl_set _ _ hc.2]
      unfold dPan wlM
      rw [List.filter_eq_self.mpr (fun _ _ => rfl), List.map_map]
      congr 1
      refine List.map_congr_left fun a _ => ?_
      simp only [Function.comp, decide_eq_true_eq]
      split <;> rfl
end
def nLi : List Str := ["panel", "one", "other"]
theorem scLi : FnScope nLi ["panel", "one", "other"] (defScope sLi) := ⟨rfl, rfl, rfl, by decide +kernel, rfl, by decide +kernel, by decide +kernel⟩
section
variable {P : Program} {w : World} {K : PySem.W.Frag} {mg : Str → Option Value} {base : Heap}
def spLi (K : PySem.W.Frag) : Sp := spP K (fun x : List (List Int) × Int × Int => [dPan x.1, .int x.2.1, .int x.2.2]) (fun x => x.1.length ≤ 100 ∧ (∀ l ∈ x.1, l.length ≤ 60) ∧ 0 ≤ x.2.1 ∧ x.2.1 < (x.1.length : Int)) (fun x => dPan (liM x.1 x.2.1 x.2.2))
theorem gv_Li {σ : L2.St} {H : Hp} {t : TA} {E : XK} {pan : List (List Int)} {one : Int} {other : Int} (h : GvA K t σ H [dPan pan, .int one, .int other]) (hc : pan.length ≤ 100 ∧ (∀ l ∈ pan, l.length ≤ 60) ∧ 0 ≤ one ∧ one < (pan.length : Int)) : Gv K (tCall (spLi K) [] E t) σ H (dPan (liM pan one other)) := gv_call (K := K) (δ := fun x : List (List Int) × Int × Int => [dPan x.1, .int x.2.1, .int x.2.2]) (C := fun x => x.1.length ≤ 100 ∧ (∀ l ∈ x.1, l.length ≤ 60) ∧ 0 ≤ x.2.1 ∧ x.2.1 < (x.1.length : Int)) (f := fun x => dPan (liM x.1 x.2.1 x.2.2)) (pan, one, other) h hc
theorem ok_Li {fWl : Addr} {fdWl : FuncData} {f : Addr} {fd : FuncData} {k : Nat} (F : Fun K "linked" "linked" sLi f fd)
    (FWl : Fun K "with_list" "with_list" sWl fWl fdWl) (bWl : Binds K fdWl ["panel", "button", "released"] []) (gWl : mg "with_list" = some (.ref fWl))
    (m_enumerate : mg "enumerate" = none) (m_sorted : mg "sorted" = none) (m_tuple : mg "tuple" = none) : FnOk P w K mg base CX0 (k + 2) f fd ["panel", "one", "other"] (spLi K) := by
  have GWl : FnOk P w K mg base CX0 (k + 1) fWl fdWl ["panel", "button", "released"] (spWl K) := ok_Wl FWl m_enumerate m_tuple
  refine F.ok scLi (fun vs H Q E h => ?_) (fun cdv A outer s H vs Q E hr h => ?_)
  · obtain ⟨_, hd, _⟩ := h
    exact hd.length
  · obtain ⟨⟨pan, one, other⟩, hd, hc, q⟩ := h
    obtain ⟨v1, v2, v3, rfl, d1, d2, d3⟩ := dpAll3 hd
    try dsimp only at hc
    try dsimp only at q
    try dsimp only at d1 d2 d3
    refine ⟨_, pss_cons (ps_if (pt_cmpR (show OpR _ _ (rIn K false) from op_in_seq) (pv 2) (pe_ix (show IxR _ (rIxT K) from ix_tup) (pv 0) (pv 1) (fun _ _ => rfl)) (by rfl)) (pss_one (ps_ret (pv 0))) pss_nil)
      (pss_one (ps_ret (pe_call GWl (hr.mono (by omega)) (by rfl) gWl FWl.kp bWl .nil pass0 (pa_cons (pv 0) (pa_cons (pv 1) (pa_cons (pe_callTy (show CallR _ _ (rTupG K) from cr_tupG) (by rfl) m_tuple (by decide +kernel) (pa_cons (pe_callB (show CallR _ _ (rSorted K) from cr_sorted) (by rfl) m_sorted (by decide +kernel) (pa_cons (pe_lst (StX.pa_star (pe_ix (show IxR _ (rIxT K) from ix_tup) (pv 0) (pv 1) (fun _ _ => rfl)) (pa_cons (pv 2) pa_nil))) pa_nil)) pa_nil)) pa_nil)))))), ?_⟩
    obtain ⟨c1, c2, c3, c4⟩ := hc
    have hl := list_few c2 one.toNat
    refine gs_if1 (gvt_test (gv_inT (gv_var rfl d3) (gv_pan (gv_var rfl d1) (gv_var rfl d2) c3 c4))) (fun e H' s => ?_) (fun e H' s => ?_)
    · have e' : other ∈ pan.getD one.toNat [] := by simpa using e
      refine gs_ret (gv_var rfl (d1.sm s)) fun v H2 s2 dv => q v H2 (s.trans s2) ?_
      unfold liM; rw [if_pos e']; exact dv
    · have e' : other ∉ pan.getD one.toNat [] := by simpa using e
      refine gs_ret (gv_Wl (l := srt (pan.getD one.toNat [] ++ [other])) (gva_cons (gv_var rfl (d1.sm s)) (gva_cons (gv_var rfl (d2.sm s)) (gva_cons (gv_tupL (gv_sortL (l := pan.getD one.toNat [] ++ [other]) ((gv_lst (gva_starT (gv_pan (gv_var rfl (d1.sm s)) (gv_var rfl (d2.sm s)) c3 c4) (gva_cons (gv_var rfl (d3.sm s)) gva_nil)) ?_).to ?_) ?_)) gva_nil))) ⟨c1, c3⟩) fun v H2 s2 dv => q v H2 (s.trans s2) ?_
      · rw [List.length_append, List.length_map]; exact Nat.le_of_lt (small5 (by show _ + 1 ≤ _; omega))
      · rw [List.map_append]; rfl
      · rw [List.length_append]; show _ + 1 < 64; omega
      · unfold liM; rw [if_neg e']; exact dv
end
def nUn : List Str := ["panel", "one", "other", "button"]
theorem scUn : FnScope nUn ["panel", "one", "other"] (defScope sUn) := ⟨rfl, rfl, rfl, by decide +kernel, rfl, by decide +kernel, by decide +kernel⟩
section
variable {P : Program} {w : World} {K : PySem.W.Frag} {mg : Str → Option Value} {base : Heap}
def spUn (K : PySem.W.Frag) : Sp := spP K (fun x : List (List Int) × Int × Int => [dPan x.1, .int x.2.1, .int x.2.2]) (fun x => x.1.length ≤ 100 ∧ (∀ l ∈ x.1, l.length ≤ 60) ∧ 0 ≤ x.2.1 ∧ x.2.1 < (x.1.length : Int)) (fun x => dPan (unM x.1 x.2.1 x.2.2))
theorem gv_Un {σ : L2.St} {H : Hp} {t : TA} {E : XK} {pan : List (List Int)} {one : Int} {other : Int} (h : GvA K t σ H [dPan pan, .int one, .int other]) (hc : pan.length ≤ 100 ∧ (∀ l ∈ pan, l.length ≤ 60) ∧ 0 ≤ one ∧ one < (pan.length : Int)) : Gv K (tCall (spUn K) [] E t) σ H (dPan (unM pan one other)) := gv_call (K := K) (δ := fun x : List (List Int) × Int × Int => [dPan x.1, .int x.2.1, .int x.2.2]) (C := fun x => x.1.length ≤ 100 ∧ (∀ l ∈ x.1, l.length ≤ 60) ∧ 0 ≤ x.2.1 ∧ x.2.1 < (x.1.length : Int)) (f := fun x => dPan (unM x.1 x.2.1 x.2.2)) (pan, one, other) h hc
theorem ok_Un {fWl : Addr} {fdWl : FuncData} {f : Addr} {fd : FuncData} {k : Nat} (F : Fun K "unlinked" "unlinked" sUn f fd)
    (FWl : Fun K "with_list" "with_list" sWl fWl fdWl) (bWl : Binds K fdWl ["panel", "button", "released"] []) (gWl : mg "with_list" = some (.ref fWl))
    (m_enumerate : mg "enumerate" = none) (m_tuple : mg "tuple" = none) : FnOk P w K mg base CX0 (k + 2) f fd ["panel", "one", "other"] (spUn K) := by
  have GWl : FnOk P w K mg base CX0 (k + 1) fWl fdWl ["panel", "button", "released"] (spWl K) := ok_Wl FWl m_enumerate m_tuple
  refine F.ok scUn (fun vs H Q E h => ?_) (fun cdv A outer s H vs Q E hr h => ?_)
  · obtain ⟨_, hd, _⟩ := h
    exact hd.length
  · obtain ⟨⟨pan, one, other⟩, hd, hc, q⟩ := h
    obtain ⟨v1, v2, v3, rfl, d1, d2, d3⟩ := dpAll3 hd
    try dsimp only at hc
    try dsimp only at q
    try dsimp only at d1 d2 d3
    refine ⟨_, pss_cons (ps_if (pt_cmpR (show OpR _ _ (rIn K true) from op_notIn_seq) (pv 2) (pe_ix (show IxR _ (rIxT K) from ix_tup) (pv 0) (pv 1) (fun _ _ => rfl)) (by rfl)) (pss_one (ps_ret (pv 0))) pss_nil)
      (pss_one (ps_ret (pe_call GWl (hr.mono (by omega)) (by rfl) gWl FWl.kp bWl .nil pass0 (pa_cons (pv 0) (pa_cons (pv 1) (pa_cons (pe_callTy (show CallR _ _ (rTupG K) from cr_tupG) (by rfl) m_tuple (by decide +kernel) (pa_cons (pe_lc (own := [("button", 3)]) (g := gName 3) rfl scUn.nd (show PI _ _ _ (iTup K _) from pi_tup (pe_ix (show IxR _ (rIxT K) from ix_tup) (pv 0) (pv 1) (fun _ _ => rfl))) (blkOk_by (own := [("button", 3)]) (N := nUn) (sc := defScope sUn) (by decide +kernel)) (fun _ _ _ _ _ => pg_name (i := 3) scUn.nd rfl (Or.inl rfl)) (fun _ _ _ _ _ => pts_one (pt_cmpR op_ne (pv 3) (pv 2) (nomark _))) (fun _ _ _ _ _ => pv 3)) pa_nil)) pa_nil)))))), ?_⟩
    obtain ⟨c1, c2, c3, c4⟩ := hc
    have hl := list_few c2 one.toNat
    refine gs_if1 (gvt_test (gv_inT (gv_var rfl d3) (gv_pan (gv_var rfl d1) (gv_var rfl d2) c3 c4))) (fun e H' s => ?_) (fun e H' s => ?_)
    · have e' : other ∉ pan.getD one.toNat [] := by simpa using e
      refine gs_ret (gv_var rfl (d1.sm s)) fun v H2 s2 dv => q v H2 (s.trans s2) ?_
      unfold unM; rw [if_neg e']; exact dv
    · have e' : other ∈ pan.getD one.toNat [] := by simpa using e
      refine gs_ret (gv_Wl (gva_cons (gv_var rfl (d1.sm s)) (gva_cons (gv_var rfl (d2.sm s)) (gva_cons (gv_tupL (gv_lc (gvi_tup (gv_pan (gv_var rfl (d1.sm s)) (gv_var rfl (d2.sm s)) c3 c4))
        (fun a v H1 ha s1 dv => ⟨gvt_test (gv_neI (gv_var rfl dv) (gv_var rfl ((d3.sm s).sm s1))), fun _ => gv_var rfl dv⟩) (fun _ _ => rfl) (by omega))) gva_nil))) ⟨c1, c3⟩) fun v H2 s2 dv => q v H2 (s.trans s2) ?_
      unfold unM; rw [if_pos e']; exact dv
end
def nRel : List Str := ["panel", "button", "other", "released"]
theorem scRel : FnScope nRel ["panel", "button"] (defScope sRel) := ⟨rfl, rfl, rfl, by decide +kernel, rfl, by decide +kernel, by decide +kernel⟩
def relsTo (pan : List (List Int)) (b : Int) (n : Nat) : List Int := ((List.range n).filter fun i => decide (b ∈ pan.getD i [])).map fun i : Nat => (i : Int)
theorem relsTo_succ (pan : List (List Int)) (b : Int) (n : Nat) : relsTo pan b (n + 1) = relsTo pan b n ++ (if b ∈ pan.getD n [] then [(n : Int)] else []) := by
  unfold relsTo
  rw [List.range_succ, List.filter_append, List.map_append]
  by_cases h : b ∈ pan.getD n []
  · rw [if_pos h, List.filter_cons_of_pos (by simpa using h)]; rfl
  · rw [if_neg h, List.filter_cons_of_neg (by simpa using h)]; rfl
theorem relsTo_len (pan : List (List Int)) (b : Int) : ∀ n, (relsTo pan b n).length ≤ n
  | 0 => by simp [relsTo]
  | n + 1 => by
    rw [relsTo_succ, List.length_append]
    have := relsTo_len pan b n
    have h : (if b ∈ pan.getD n [] then [(n : Int)] else []).length ≤ 1 := by split <;> simp
    omega
section
variable {P : Program} {w : World} {K : PySem.W.Frag} {mg : Str → Option Value} {base : Heap}
theorem inV_ints {b : Int} (l : List Int) : inV (.int b) (l.map V.int) = decide (b ∈ l) := by
  unfold inV
  rw [List.any_map, Bool.eq_iff_iff, List.any_eq_true, decide_eq_true_eq]
  constructor
  · rintro ⟨x, hx, e⟩
    have e' : x = b := by simpa [eqV] using e
    rw [← e']; exact hx
  · intro h
    exact ⟨b, h, by simp [eqV]⟩
theorem flat_ints : ∀ l : List Int, (l.map V.int).all flatV = true
  | [] => rfl
  | x :: r => by rw [List.map_cons, List.all_cons, flat_ints r]; rfl
def spRel : Sp := fun vs H Q _ => ∃ (p : Addr) (pan : List (List Int)) (b : Int), vs = [.ref p, .int b] ∧ PanAt H p pan ∧ pan.length ≤ 100 ∧
  ∀ H' t, Same H H' → H' t = some (.tup ((relsTo pan b pan.length).map V.int)) → Q (.ref t) H'
theorem ok_rel {f : Addr} {fd : FuncData} {k : Nat} (F : Fun K "releasers_of" "releasers_of" sRel f fd) (me : mg "enumerate" = none) (mt : mg "tuple" = none) : FnOk P w K mg base CX0 (k + 1) f fd ["panel", "button"] spRel := by
  refine F.ok scRel (fun vs H Q E h => ?_) (fun cdv A outer s H vs Q E hr h => ?_)
  · obtain ⟨p, pan, b, rfl, _⟩ := h
    rfl
  · obtain ⟨p, pan, b, rfl, hp, few, q⟩ := h
    refine ⟨_, pss_one (ps_ret (pe_callTy call_tuple_of (by rfl) mt (by decide +kernel) (pa_cons
      (pe_lc (own := [("other", 2), ("released", 3)]) (g := gTup K 2 (gCons (gName 2) (gCons (gName 3) gNil))) rfl scRel.nd (pi_enumT (by rfl) me (pa_cons (pv 0) pa_nil))
        (blkOk_by (own := [("other", 2), ("released", 3)]) (N := nRel) (sc := defScope sRel) (by decide +kernel))
        (fun _ _ _ _ _ => pg_tup rfl (pgs_cons (pg_name (i := 2) scRel.nd rfl (Or.inl rfl)) (pgs_cons (pg_name (i := 3) scRel.nd rfl (Or.inl rfl)) pgs_nil)))
        (fun _ _ _ _ _ => pts_one (pt_cmpR (show OpR _ _ (rIn K false) from op_in_seq) (pv 1) (pv 3) (by rfl)))
        (fun _ _ _ _ _ => pv 2)) pa_nil))), ?_⟩
    obtain ⟨qs, hq, hqs⟩ := id hp
    refine ⟨.ref p, rfl, p, _, rfl, hq.sq, fun D nD => ?_⟩
    have hl : (qs.map V.ref).length = pan.length := by rw [List.length_map, hqs.length]
    refine lc_it (walk_enumT (xs := qs.map V.ref)) (fun i H3 => Same H H3 ∧ H3 D = some (.lst ((relsTo pan b i).map V.int))) ⟨same_new nD, upd_same⟩ (fun i H3 _ hP => same_sqT hP.1 hq.sq) (fun i x H3 H4 hi hP hY => ?_) (fun H3 hP => ?_)
    · obtain ⟨s3, eD⟩ := hP
      obtain ⟨T, x1, x2, rfl, nT, rfl, e1, e2⟩ := hY
      cases e1
      have sT : Same H3 (upd H3 T (.tup [.int (i : Nat), x2])) := same_new nT
      replace e2 : (qs.map V.ref)[i]? = some x2 := e2
      rw [List.getElem?_map] at e2
      rw [hl] at hi
      obtain ⟨l, hlp⟩ : ∃ l, pan[i]? = some l := ⟨pan[i], List.getElem?_eq_getElem hi⟩
      obtain ⟨q', g1, g2⟩ := paired_get hqs i l hlp
      rw [g1] at e2
      obtain rfl : V.ref q' = x2 := Option.some.inj e2
      have gD : pan.getD i [] = l := by rw [List.getD_eq_getElem?_getD, hlp]; rfl
      refine ⟨T, _, rfl, .inl (.inl upd_same), rfl, _, _, rfl, _, _, rfl, rfl, rfl, ?_⟩
      have ft := (g2.same s3).same sT
      refine ⟨_, rfl, _, rfl, q', _, rfl, .inr ft.sq, rfl, flat_ints l, _, rfl, ?_⟩
      have eD4 := sT _ _ eD
      rw [if_neg Bool.false_ne_true, inV_ints]
      refine ite2 (fun e => ?_) (fun e => ?_)
      · have hb : b ∈ pan.getD i [] := by rw [gD]; exact of_decide_eq_true e
        refine ⟨_, rfl, _, eD4, ?_, ?_, ?_⟩
        · rw [List.length_map]
          have := relsTo_len pan b i
          exact small1000 (by omega)
        · intro b' o e
          rw [upd_ne (ne_of_none e nD)]
          exact sT _ _ (s3 _ _ e)
        · rw [upd_same, relsTo_succ, if_pos hb, List.map_append]; rfl
      · have hb : b ∉ pan.getD i [] := by rw [gD]; exact fun h => e (decide_eq_true h)
        refine ⟨s3.trans sT, ?_⟩
        rw [relsTo_succ, if_neg hb, List.append_nil]; exact eD4
    · obtain ⟨s3, eD⟩ := hP
      rw [hl] at eD
      refine ⟨D, _, rfl, .inl ⟨.inl (.inl eD), fun t nt => ?_⟩⟩
      exact q _ t (s3.trans (same_new nt)) upd_same
end
end K39
namespace K39
open PySem PySem.Spec PyProof.Rows L2 Pr
def nRen : List Str := ["panel", "names", "lists", "button", "released", "other"]
theorem scRen : FnScope nRen ["panel", "names"] (defScope sRen) := ⟨rfl, rfl, rfl, by decide +kernel, rfl, by decide +kernel, by decide +kernel⟩
section
variable {P : Program} {w : World} {K : PySem.W.Frag} {mg : Str → Option Value} {base : Heap}
def spRen (K : PySem.W.Frag) : Sp := spP K (fun x : List (List Int) × List Int => [dPan x.1, dInts x.2]) (fun x => Good x.1 ∧ IsP x.1.length x.2) (fun x => dPan (renM x.1 x.2))
theorem gv_Ren {σ : L2.St} {H : Hp} {t : TA} {E : XK} {pan : List (List Int)} {nm : List Int} (h : GvA K t σ H [dPan pan, dInts nm]) (hc : Good pan ∧ IsP pan.length nm) : Gv K (tCall (spRen K) [] E t) σ H (dPan (renM pan nm)) := gv_call (K := K) (δ := fun x : List (List Int) × List Int => [dPan x.1, dInts x.2]) (C := fun x => Good x.1 ∧ IsP x.1.length x.2) (f := fun x => dPan (renM x.1 x.2)) (pan, nm) h hc
theorem ok_Ren  {f : Addr} {fd : FuncData} {k : Nat} (F : Fun K "renamed" "renamed" sRen f fd)
    (m_enumerate : mg "enumerate" = none) (m_list : mg "list" = none) (m_sorted : mg "sorted" = none) (m_tuple : mg "tuple" = none) : FnOk P w K mg base CX0 (k + 1) f fd ["panel", "names"] (spRen K) := by
  refine F.ok scRen (fun vs H Q E h => ?_) (fun cdv A outer s H vs Q E hr h => ?_)
  · obtain ⟨_, hd, _⟩ := h
    exact hd.length
  · obtain ⟨⟨pan, nm⟩, hd, hc, q⟩ := h
    obtain ⟨v1, v2, rfl, d1, d2⟩ := dpAll2 hd
    try dsimp only at hc
    try dsimp only at q
    try dsimp only at d1 d2
    refine ⟨_, pss_cons (ps_set (i := 2) scRen.nd rfl (.inl rfl) (pe_callTy (show CallR _ _ (rListG K) from call_listG) (by rfl) m_list (by decide +kernel) (pa_cons (pv 0) pa_nil)))
      (pss_cons (ps_for PassesOwn.never rfl (pi_enumT (by rfl) m_enumerate (pa_cons (pv 0) pa_nil)) (pg_tup rfl (pgs_cons (pg_name (i := 3) scRen.nd rfl (Or.inl rfl)) (pgs_cons (pg_name (i := 4) scRen.nd rfl (Or.inl rfl)) pgs_nil))) (pss_one (ps_asg (pe_callTy (show CallR _ _ (rTupG K) from cr_tupG) (by rfl) m_tuple (by decide +kernel) (pa_cons (pe_callB (show CallR _ _ (rSorted K) from cr_sorted) (by rfl) m_sorted (by decide +kernel) (pa_cons (pe_lc (own := [("other", 5)]) (g := gName 5) (tt := tYes) rfl scRen.nd (show PI _ _ _ (iTup K _) from pi_tup (pv 4)) (blkOk_by (own := [("other", 5)]) (N := nRen) (sc := defScope sRen) (by decide +kernel)) (fun _ _ _ _ _ => pg_name (i := 5) scRen.nd rfl (Or.inl rfl)) (fun _ _ _ _ _ => pts_nil) (fun _ _ _ _ _ => pe_ix (show IxR _ (rIxT K) from ix_tup) (pv 1) (pv 5) (fun _ _ => rfl))) pa_nil)) pa_nil)) (pg_sub (pv 2) (pe_ix (show IxR _ (rIxT K) from ix_tup) (pv 1) (pv 3) (fun _ _ => rfl)) set_list))))
      (pss_one (ps_ret (pe_callTy (show CallR _ _ (rTupG K) from cr_tupG) (by rfl) m_tuple (by decide +kernel) (pa_cons (pv 2) pa_nil))))), ?_⟩
    obtain ⟨g, hn⟩ := hc
    have few := g.few
    refine gs_setN (gn_lstT (gv_var rfl d1)) fun D vs0 H1 s1 nD eD dv0 => ?_
    refine gs_each2 (α := List Int × Nat) (δ1 := fun x => PyData.int (x.2 : Nat)) (δ2 := fun x => dInts x.1) (as := pan.zipIdx) (gvi_enumTK (gv_var rfl (d1.sm s1)) (fun a _ => lf_ints a))
      (fun Ha k σ H' => Kp Ha H' ∧ (∀ b o, b ≠ D → Ha b = some o → H' b = some o) ∧ (∃ acc : List (List Int), acc.length = pan.length ∧ (∃ vs, H' D = some (.lst vs) ∧ DpAll K H' vs (acc.map dInts)) ∧ ∀ b : Nat, b < k → b < pan.length → acc[(nmOf nm (b : Int)).toNat]? = some (srt ((pan.getD b []).map (nmOf nm)))) ∧
        ∃ x3 x4 x5, σ = [some v1, some v2, some (.ref D), x3, x4, x5])
      (fun H2 s2 => ⟨Kp.refl _, fun _ _ _ e => e, ⟨pan, rfl, ⟨vs0, s2 _ _ eD, dv0.sm s2⟩, fun b h => by omega⟩, _, _, _, rfl⟩) (fun H2 k σ H' s2 hP => hP.1) (fun H2 k a vb vr σ H3 H4 s2 ha hP s4 db dr => ?_) (fun H2 σ H3 s2 hP => ?_)
    · obtain ⟨kp, but, ⟨acc, la, ⟨vs, eD3, dvs⟩, hacc⟩, x3, x4, x5, rfl⟩ := hP
      obtain ⟨hk, hka⟩ : k < pan.length ∧ a = (pan.getD k [], k) := by
        have h1 := (List.getElem?_eq_some_iff.mp ha).1
        rw [List.length_zipIdx] at h1
        refine ⟨h1, ?_⟩
        rw [List.getElem?_zipIdx, List.getElem?_eq_getElem h1] at ha
        rw [List.getD_eq_getElem?_getD, List.getElem?_eq_getElem h1]
        simpa using (Option.some.inj ha).symm
      subst hka
      cases db
      have d24 : Dp K H4 v2 (dInts nm) := ((((d2.sm s1).sm s2).kp kp).sm s4)
      have hl : pan.getD k [] ∈ pan := by rw [List.getD_eq_getElem?_getD, List.getElem?_eq_getElem hk]; exact List.getElem_mem _
      have rg := g.rng _ hl
      have ll : (pan.getD k []).length ≤ 10 := pw_length (n := 10) (lo := 0) (g.up _ hl) fun x hx => by have := rg x hx; omega
      have rk := hn.rngOf (x := (k : Int)) (by omega) (by omega)
      refine (gv_tupL (gv_sortL (l := (pan.getD k []).map (nmOf nm)) ((gv_lc (δ := PyData.int) (f := fun x => PyData.int (nmOf nm x)) (gvi_tup (gv_var rfl dr))
          (fun x v H1 hx sx dx => ⟨gvt_yes, fun _ => gv_ixT (j := x.toNat) (gv_var rfl (d24.sm sx)) (gv_var rfl dx) (by have := rg x hx; omega) (by rw [List.getElem?_map, hn.at (rg x hx).1 (rg x hx).2]; rfl)⟩) (fun _ _ => rfl) (Nat.le_trans ll (by decide))).to ?_) ?_)).at fun v H5 s5 dv => ?_
      · rw [List.filter_eq_self.mpr (fun _ _ => rfl), List.map_map]; rfl
      · rw [List.length_map]; omega
      · have eD5 := s5 _ _ (s4 _ _ eD3)
        refine ⟨.ref D, rfl, gv_ixT (j := k) (gv_var rfl (d24.sm s5)) (gv_var rfl (.int (k : Int))) rfl (d := .int (nmOf nm (k : Int))) (by rw [List.getElem?_map]; have := hn.at (x := (k : Int)) (by omega) (by omega); rw [Int.toNat_natCast] at this; rw [this]; rfl) |>.at fun z H6 s6 dz => ?_⟩
        cases dz
        have eD6 := s6 _ _ eD5
        have lv : vs.length = pan.length := by rw [dvs.length, List.length_map, la]
        refine ⟨D, _, nmOf nm (k : Int), (nmOf nm (k : Int)).toNat, rfl, rfl, eD6, ?_, ?_⟩
        · rw [lv]; unfold ixN; rw [if_pos rk.1, if_pos (by omega)]
        · have kD := Kp.upd (o := .lst (vs.set (nmOf nm (k : Int)).toNat v)) eD6
          refine ⟨kp.trans ((Kp.of (s4.trans (s5.trans s6))).trans kD), fun b o hb e => by rw [upd_ne hb]; exact s6 _ _ (s5 _ _ (s4 _ _ (but b o hb e))), ⟨acc.set (nmOf nm (k : Int)).toNat (srt ((pan.getD k []).map (nmOf nm))), by rw [List.length_set]; exact la, ⟨_, upd_same, ?_⟩, fun b hb hb2 => ?_⟩, _, _, _, rfl⟩
          · refine dpAll_kp kD _ _ (lfAll_of fun d hd => ?_) ?_
            · obtain ⟨l, _, rfl⟩ := List.mem_map.mp hd; exact lf_ints l
            · rw [List.map_set]
              exact dpAll_set (dv.sm s6) _ (dvs.sm (s4.trans (s5.trans s6)))
          · have rb := hn.rngOf (x := (b : Int)) (by omega) (by omega)
            rw [List.getElem?_set]
            by_cases e : b = k
            · subst e; rw [if_pos rfl, if_pos (by omega)]
            · rw [if_neg, hacc b (by omega) hb2]
              intro z
              have := hn.inj (x := (k : Int)) (y := (b : Int)) (by omega) (by omega) (by omega) (by omega) (by omega)
              omega
    · obtain ⟨kp, but, ⟨acc, la, ⟨vs, eD3, dvs⟩, hacc⟩, x3, x4, x5, rfl⟩ := hP
      rw [List.length_zipIdx] at hacc
      have e : acc = renM pan nm := by
        refine List.ext_getElem? fun i => ?_
        by_cases hi : i < pan.length
        · obtain ⟨i1, i2⟩ := hn.idx (x := (i : Int)) (by omega) (by omega)
          have := hacc _ i1 i1
          rw [i2] at this
          unfold renM
          rw [List.getElem?_map, List.getElem?_range hi]
          simpa using this
        · rw [List.getElem?_eq_none (by omega), List.getElem?_eq_none (by rw [renM_len]; omega)]
      subst e
      refine gs_ret (gv_tupL (gl_var rfl eD3 dvs).gv) fun v H4 s4 dv => q v H4 (fun b o eb => ?_) dv
      have nb : b ≠ D := ne_of_none eb nD
      exact s4 _ _ (but b o nb (s2 _ _ (s1 _ _ eb)))
end
end K39
namespace K39
open PySem PySem.Spec PyProof.Rows L2 Pr
def shM (f : Nat) (pan : List (List Int)) : List (List Int) := pan.map fun l => l.map fun x => (f : Int) + x
def besM (ps : List (List (List Int))) : List (List Int) := ps.foldl (fun acc p => acc ++ shM acc.length p) []
def totM (ps : List (List (List Int))) : Nat := (ps.map List.length).sum
theorem bes_len_aux (ps : List (List (List Int))) : ∀ acc : List (List Int), (ps.foldl (fun acc p => acc ++ shM acc.length p) acc).length = acc.length + totM ps := by
  induction ps with
  | nil => intro acc; rfl
  | cons p ps ih =>
    intro acc
    rw [List.foldl_cons, ih, List.length_append]
    unfold shM totM
    rw [List.length_map, List.map_cons, List.sum_cons]; omega
theorem bes_len (ps : List (List (List Int))) : (besM ps).length = totM ps := by
  have := bes_len_aux ps []
  unfold besM; rw [this]; simp
theorem bes_take {ps : List (List (List Int))} {k : Nat} {p : List (List Int)} (h : ps[k]? = some p) : besM (ps.take (k + 1)) = besM (ps.take k) ++ shM (besM (ps.take k)).length p := by
  unfold besM
  rw [List.take_add_one, h]
  simp only [Option.toList_some, List.foldl_append, List.foldl_cons, List.foldl_nil]
theorem tot_take (ps : List (List (List Int))) (k : Nat) : totM (ps.take k) ≤ totM ps := by
  have e : totM ps = totM (ps.take k) + totM (ps.drop k) := by
    unfold totM
    rw [← List.sum_append, ← List.map_append, List.take_append_drop]
  omega
/-- panels that are not large -/
structure OkPs (ps : List (List (List Int))) : Prop where
  few : ps.length ≤ 11
  sh : ∀ p ∈ ps, p.length ≤ 10 ∧ ∀ l ∈ p, l.length ≤ 10
theorem tot_le : ∀ {ps : List (List (List Int))}, (∀ p ∈ ps, p.length ≤ 10 ∧ ∀ l ∈ p, l.length ≤ 10) → totM ps ≤ 10 * ps.length
  | [], _ => Nat.le_refl _
  | p :: ps, h => by
    have h1 := (h p List.mem_cons_self).1
    have h2 := tot_le (ps := ps) fun q hq => h q (List.mem_cons_of_mem _ hq)
    unfold totM at h2 ⊢
    rw [List.map_cons, List.sum_cons, List.length_cons]; omega
theorem lf_pans (ps : List (List (List Int))) : lfAll (ps.map dPan) = true := lfAll_of fun d hd => by
  obtain ⟨p, _, rfl⟩ := List.mem_map.mp hd
  exact lf_pan p
theorem lf_rowsP (p : List (List Int)) : lfAll (p.map dInts) = true := lfAll_of fun d hd => by
  obtain ⟨l, _, rfl⟩ := List.mem_map.mp hd
  exact lf_ints l
theorem sum_cast (ps : List (List (List Int))) : (ps.map fun p => ((p.map dInts).length : Int)).sum = (totM ps : Int) := by
  induction ps with
  | nil => rfl
  | cons p ps ih =>
    unfold totM at ih ⊢
    rw [List.map_cons, List.sum_cons, ih, List.map_cons, List.sum_cons, List.length_map]; omega
theorem gv_sum {K : PySem.W.Frag} {σ : L2.St} {H : Hp} {t : TE} {ns : List Int} (h : Gv K t σ H (.list (ns.map PyData.int))) : Gv K (tCB (rSum K) (tCons t tNil)) σ H (.int ns.sum) :=
  gv_cb (gva_cons h gva_nil) fun vs H1 Q s hd q => by
    obtain ⟨v, rfl, hv⟩ := dpAll1 hd
    obtain ⟨a, xs, rfl, hq, hr⟩ := hv.lstI
    rw [dpAll_intsV hr] at hq
    exact ⟨a, ns, rfl, hq, q _ _ (Same.refl _) (.int _)⟩
theorem gv_gt {K : PySem.W.Frag} {σ : L2.St} {H : Hp} {ta tb : TE} {i j : Int} (ha : Gv K ta σ H (.int i)) (hb : Gv K tb σ H (.int j)) : Gv K (tOp (rI0 fun i j => .bl (decide (j < i))) ta tb) σ H (.bool (decide (j < i))) := gv_I0 ha hb fun _ => .bl _
def nBes : List Str := ["panels", "lists", "first", "panel", "other", "released"]
theorem scBes : FnScope nBes (([] : List Str) ++ [("panels" : Str)]) (defScope sBes) := ⟨rfl, rfl, rfl, by decide +kernel, rfl, by decide +kernel, by decide +kernel⟩
section
variable {P : Program} {w : World} {K : PySem.W.Frag} {mg : Str → Option Value} {base : Heap}
def spB (K : PySem.W.Frag) : Sp := fun vs H Q _ => ∃ (p : Addr) (ps : List (List (List Int))), vs = [.ref p] ∧ Dp K H (.ref p) (.tuple (ps.map dPan)) ∧ OkPs ps ∧ totM ps ≤ 10 ∧ ∀ v H', Same H H' → Dp K H' v (dPan (besM ps)) → Q v H'
def spBes (K : PySem.W.Frag) : Sp := fun vs H Q E => ∃ ws rest, vs = ws ++ rest ∧ ws.length = ([] : List Str).length ∧ rest.length ≤ sizeLine ∧ ∀ p, H p = Option.none → spB K (ws ++ [V.ref p]) (upd H p (.tup rest)) Q E
theorem ok_Bes {f : Addr} {fd : FuncData} {k : Nat} {tk : Tok} (F : Fun K "beside" "beside" sBes f fd) (y_MAX_BUTTONS : mg "MAX_BUTTONS" = some (.int 10 tk))
    (m_len : mg "len" = none) (m_sum : mg "sum" = none) (m_tuple : mg "tuple" = none) : FnR P w K mg base CX0 (k + 1) f (spBes K) := by
  obtain ⟨oc, od, kV, doc, pm, an, cdv, ct, osl, rfl, lk, hcd⟩ := F.ex
  refine StX.fn_star (ps := []) (sp := spB K) lk hcd scBes StX.cxUp_none (fun us rest hl => ?_) (fun A outer s H vs Q E hr h => ?_)
  · match us, hl with
    | [], _ => match rest with
      | [] => rfl
      | x :: r => rfl
  · obtain ⟨p, ps, rfl, dp, ok, htot, q⟩ := h
    have few := ok.few
    have tl := tot_le ok.sh
    refine ⟨_, pss_cons (ps_if (pt_cmpR op_gt (pe_callB (show CallR _ _ (rSum K) from cr_sum (by rfl)) (by rfl) m_sum (by decide +kernel) (pa_cons (pe_lc (own := [("panel", 3)]) (g := gName 3) (tt := tYes) rfl scBes.nd (show PI _ _ _ (iTup K _) from pi_tup (pv 0)) (blkOk_by (own := [("panel", 3)]) (N := nBes) (sc := defScope sBes) (by decide +kernel)) (fun _ _ _ _ _ => pg_name (i := 3) scBes.nd rfl (Or.inl rfl)) (fun _ _ _ _ _ => pts_nil) (fun _ _ _ _ _ => pe_callB (show CallR _ _ (rLenG K) from cr_lenG) (by rfl) m_len PySem.boot_len (pa_cons (pv 3) pa_nil))) pa_nil)) (pe_glob (v := .int 10) (by rfl) y_MAX_BUTTONS ⟨_, rfl⟩) (nomark _)) (pss_one ps_never) pss_nil)
      (pss_cons (ps_set (i := 1) scBes.nd rfl (.inl rfl) (pe_lst pa_nil))
      (pss_cons (ps_for (passes_of rfl) rfl (show PI _ _ _ (iTup K _) from pi_tup (pv 0)) (pg_name (i := 3) scBes.nd rfl (Or.inl rfl)) (pss_cons (ps_set (i := 2) scBes.nd rfl (.inr rfl) (pe_callB (show CallR _ _ (rLenG K) from cr_lenG) (by rfl) m_len PySem.boot_len (pa_cons (pv 1) pa_nil)))
      (pss_one (ps_expr (show PE _ _ (tBM K "list" rExtend _ _) from pe_bm PySem.F.plainAttrs_list PySem.F.slot_list_extend PySem.F.type_list_extend mt_extend (pv 1) (pa_cons (pe_lc (own := [("released", 5)]) (g := gName 5) (tt := tYes) rfl scBes.nd (show PI _ _ _ (iTup K _) from pi_tup (pv 3)) (blkOk_by (own := [("released", 5)]) (N := nBes) (sc := defScope sBes) (by decide +kernel)) (fun _ _ _ _ _ => pg_name (i := 5) scBes.nd rfl (Or.inl rfl)) (fun _ _ _ _ _ => pts_nil) (fun _ _ _ _ _ => pe_callTy (show CallR _ _ (rTupG K) from cr_tupG) (by rfl) m_tuple (by decide +kernel) (pa_cons (pe_lc (own := [("other", 4)]) (g := gName 4) (tt := tYes) rfl scBes.nd (show PI _ _ _ (iTup K _) from pi_tup (pv 5)) (blkOk_by (own := [("other", 4)]) (N := nBes) (sc := { kind := .function, names := [(".0", .local), ("released", .local), ("tuple", .globalImplicit), ("first", .cell)], isGenerator := false, isCoroutine := false }) (by decide +kernel)) (fun _ _ _ _ _ => pg_name (i := 4) scBes.nd rfl (Or.inl rfl)) (fun _ _ _ _ _ => pts_nil) (fun _ _ _ _ _ => pe_op op_add (pv 2) (pv 4))) pa_nil))) pa_nil))))))
      (pss_one (ps_ret (pe_callTy (show CallR _ _ (rTupG K) from cr_tupG) (by rfl) m_tuple (by decide +kernel) (pa_cons (pv 1) pa_nil)))))), ?_⟩
    refine gs_no (b := decide ((10 : Int) < (totM ps : Int))) (gvt_test (K := K) ((gv_gt (gv_sum (ns := ps.map fun p => ((p.map dInts).length : Int)) ((gv_lc (δ := dPan) (as := ps) (p := fun _ => true) (f := fun p => PyData.int ((p.map dInts).length : Nat)) (gvi_tup (gv_var rfl dp)) (fun z vz Hz hz sz dz => ⟨gvt_yes, fun _ => gv_lenT (gv_var rfl dz)⟩) (fun _ _ => rfl) (by omega)).to (by rw [List.filter_eq_self.mpr (fun _ _ => rfl), List.map_map]; rfl))) gv_int).to (by rw [sum_cast]))) (decide_eq_false (by omega)) fun H1 s1 => ?_
    refine gs_setN (K := K) (gn_lst gva_nil) fun D vs0 H2 s2 nD eD dv0 => ?_
    have dp2 := (dp.sm s1).sm s2
    refine gs_each (K := K) (R := Kp) (δ := dPan) (as := ps) (gvi_tupK (gv_var rfl dp2) (lf_pans ps)) (fun Ha k σ H' => Kp Ha H' ∧ (∀ b o, b ≠ D → Ha b = some o → H' b = some o) ∧ (∃ vs, H' D = some (.lst vs) ∧ DpAll K H' vs ((besM (ps.take k)).map dInts)) ∧ ∃ x2 x3 x4 x5, σ = [some (.ref p), some (.ref D), x2, x3, x4, x5])
      (fun H3 s3 => ⟨Kp.refl _, fun _ _ _ e => e, ⟨vs0, s3 _ _ eD, dv0.sm s3⟩, _, _, _, _, rfl⟩) (fun H3 k σ H' s3 hP => hP.1) (fun H3 k pan vp σ H4 H5 s3 hk hP s5 dpan => ?_) (fun H3 σ H4 s3 hP => ?_)
    · obtain ⟨kp, but, ⟨vs, eD4, dvs⟩, x2, x3, x4, x5, rfl⟩ := hP
      have hmem := List.mem_of_getElem? hk
      have hsh := ok.sh pan hmem
      have eD5 := s5 _ _ eD4
      have dvs5 := dvs.sm s5
      have bl : (besM (ps.take k)).length ≤ 10 := by rw [bes_len]; exact Nat.le_trans (tot_take ps k) htot
      refine gs_set1 (K := K) (gv_lenL (gv_var rfl (.lst (.inl (.inl eD5)) dvs5))) fun vn H6 s6 dn => ?_
      cases dn
      rw [List.length_map]
      refine ⟨.ref D, rfl, .inl ⟨rfl, _, .inl (.inl (s6 _ _ eD5))⟩, (gn_lc (K := K) (δ := dInts) (as := pan) (p := fun _ => true) (f := fun l => dInts (l.map fun x => (((besM (ps.take k)).length : Nat) : Int) + x)) (gvi_tup (gv_var rfl (dpan.sm s6)))
        (fun l vl H7 hl s7 dl => ⟨gvt_yes, fun _ => (gv_tupL (gv_lc (δ := PyData.int) (as := l) (p := fun _ => true) (f := fun x => PyData.int ((((besM (ps.take k)).length : Nat) : Int) + x)) (gvi_tup (gv_var rfl dl)) (fun x vx H8 hx s8 dx => ⟨gvt_yes, fun _ => gv_add (gv_var rfl (.int _)) (gv_var rfl dx)⟩) (fun _ _ => rfl) (by have := hsh.2 l hl; omega))).to (by rw [List.filter_eq_self.mpr (fun _ _ => rfl)]; unfold dInts; rw [List.map_map]; rfl)⟩) (fun _ _ => lf_ints _) (by have := hsh.1; omega)).at fun B vs' H7 s7 nB eB dvs' => ?_⟩
      have eD7 := s7 _ _ (s6 _ _ eD5)
      have lv : vs.length ≤ 10 := by rw [dvs.length, List.length_map]; exact bl
      have lv' : vs'.length ≤ 10 := by
        rw [dvs'.length, List.length_map]
        exact Nat.le_trans (List.length_filter_le _ _) hsh.1
      refine ⟨D, B, _, _, rfl, rfl, eD7, eB, Nat.le_of_lt (small1000 (by omega)), ?_⟩
      have kD := Kp.upd (o := .lst (vs ++ vs')) eD7
      have s47 := s5.trans (s6.trans s7)
      refine ⟨kp.trans ((Kp.of s47).trans kD), fun b o hb e => by rw [upd_ne hb]; exact s47 _ _ (but b o hb e), ⟨vs ++ vs', upd_same, ?_⟩, _, _, _, _, rfl⟩
      rw [bes_take hk, List.map_append]
      refine dpAll_kp kD _ _ ?_ ?_
      · rw [← List.map_append]; exact lf_rowsP _
      · refine DpAll.append (dvs.sm s47) ?_
        rw [List.filter_eq_self.mpr (fun _ _ => rfl)] at dvs'
        unfold shM; rw [List.map_map]; exact dvs'
    · obtain ⟨kp, but, ⟨vs, eD4, dvs⟩, x2, x3, x4, x5, rfl⟩ := hP
      rw [List.take_length] at dvs
      refine gs_ret (K := K) (gv_tupL (gv_var rfl (.lst (.inl (.inl eD4)) dvs))) fun v H5 s5 dv => q v H5 ?_ dv
      refine Same.trans (fun b o e => ?_) s5
      have e2 := s2 _ _ (s1 _ _ e)
      exact but b o (ne_of_none (s1 _ _ e) nD) (s3 _ _ e2)
end
end K39
namespace K39
open PySem PySem.Spec PyProof.Rows L2 Pr
open LamX
theorem relsTo_iff {pan : List (List Int)} {b : Int} {n : Nat} {x : Int} : x ∈ relsTo pan b n ↔ ∃ i : Nat, i < n ∧ x = (i : Int) ∧ b ∈ pan.getD i [] := by
  unfold relsTo
  rw [List.mem_map]
  constructor
  · rintro ⟨i, hi, rfl⟩
    obtain ⟨h1, h2⟩ := List.mem_filter.mp hi
    exact ⟨i, List.mem_range.mp h1, rfl, by simpa using h2⟩
  · rintro ⟨i, h1, rfl, h2⟩
    exact ⟨i, List.mem_filter.mpr ⟨List.mem_range.mpr h1, by simpa using h2⟩, rfl⟩
def ksM (pan : List (List Int)) : List (List Int) := (List.range pan.length).map fun i : Nat => [((relsTo pan (i : Int) pan.length).length : Int), (i : Int)]
theorem shp_ones : ∀ l : List Int, SeqAt.shaped (.list (l.map fun _ => PyData.int 1)) = true := fun l => shp_of (by simp only [PyData.canLay0]; induction l with
    | nil => rfl
    | cons x r ih => simp only [List.map_cons, PyData.canLayAll0, PyData.canLay0, Bool.true_and]; exact ih) (by
  have : PyData.depthAll (l.map fun _ => PyData.int 1) ≤ 1 := by
    induction l with
    | nil => simp [PyData.depthAll]
    | cons x r ih => simp only [List.map_cons, PyData.depthAll, PyData.depth]; omega
  simp only [PyData.depth]; omega)
theorem eqv_ones (l : List Int) : PyData.eqv (.list (l.map fun _ => PyData.int 1)) (.list []) = decide (l = []) := by
  cases l with
  | nil => rfl
  | cons x r => simp [PyData.eqv, PyData.eqvAll]
section
variable {K : PySem.W.Frag} {σ : L2.St} {H : Hp} {ta tb : TE} {E : XK}
theorem gv_Rel {i : Nat} {p : Addr} {pan : List (List Int)} {b : Int} (hv : σ[i]? = some (some (.ref p))) (hp : PanAt H p pan) (h : Gv K tb σ H (.int b)) (few : pan.length ≤ 100) : Gv K (tCall spRel [] E (tCons (tVar i) (tCons tb tNil))) σ H (dInts (relsTo pan b pan.length)) := fun H1 s Q q =>
  ⟨.ref p, hv, h H1 s _ fun v H2 s2 dv => by
    cases dv
    exact ⟨p, pan, b, rfl, (hp.same s).same s2, few, fun H' t s3 et => q _ H' (s2.trans s3) (dp_ints (.inl (.inl et)))⟩⟩
theorem gs_twoL {i j : Nat} {ds : List PyData} {e : PyData} {D : Ends} (ha : GvN K ta σ H ds) (hb : ∀ H1, Same H H1 → Gv K tb σ H1 e) (q : ∀ a us z H', Same H H' → H a = none → H' a = some (.lst us) → DpAll K H' us ds → Dp K H' z e → D.nx ((σ.set i (some (.ref a))).set j (some z)) H') :
    tAsg (tTup (tCons ta (tCons tb tNil))) (gTup K 2 (gCons (gName i) (gCons (gName j) gNil))) D σ H := ha H (Same.refl _) _ fun a us H1 s1 n1 e1 d1 => hb H1 s1 H1 (Same.refl _) _ fun z H2 s2 dz =>
  ⟨(show 2 ≤ sizeLine by decide), fun p np => have sp := same_new (o := HO.tup [V.ref a, z]) np
    ⟨p, [V.ref a, z], rfl, .inl (.inl upd_same), rfl, .ref a, [z], rfl, z, [], rfl, rfl, q a us z _ ((s1.trans s2).trans sp) n1 (sp _ _ (s2 _ _ e1)) ((d1.sm s2).sm sp) (dz.sm sp)⟩⟩
end
def nApart : List Str := ["_law_panel_here", "_law_used", "_law_found", "_law_many", "_law_button", "_law_own", "_law_one"]
theorem scApart : FnScope nApart ["_law_panel_here"] (defScope sApart) := ⟨rfl, rfl, rfl, by decide +kernel, rfl, by decide +kernel, by decide +kernel⟩
section
variable {P : Program} {w : World} {K : PySem.W.Frag} {mg : Str → Option Value} {base : Heap}
def spApart (K : PySem.W.Frag) : Sp := fun vs H Q _ => ∃ (p : Addr) (pan : List (List Int)), vs = [.ref p] ∧ PanAt H p pan ∧ Good pan ∧
  ∀ (H' : Hp) (k : Nat), Same H H' → (∀ r, InR pan.length r → Cov pan r → k ≤ r.length) → Q (.int (k : Int)) H'
theorem ok_Apart {fRel : Addr} {fdRel : FuncData} {f : Addr} {fd : FuncData} {k : Nat} (F : Fun K "_law_apart" "_law_apart" sApart f fd)
    (FRel : Fun K "releasers_of" "releasers_of" sRel fRel fdRel) (bRel : Binds K fdRel ["panel", "button"] []) (gRel : mg "releasers_of" = some (.ref fRel))
    (m_enumerate : mg "enumerate" = none) (m_len : mg "len" = none) (m_list : mg "list" = none) (m_range : mg "range" = none) (m_sorted : mg "sorted" = none) (m_tuple : mg "tuple" = none) : FnOk P w K mg base CX0 (k + 2) f fd ["_law_panel_here"] (spApart K) := by
  have GRel : FnOk P w K mg base CX0 (k + 1) fRel fdRel ["panel", "button"] spRel := ok_rel FRel m_enumerate m_tuple
  refine F.ok scApart (fun vs H Q E h => ?_) (fun cdv A outer s H vs Q E hr h => ?_)
  · obtain ⟨p, pan, rfl, _⟩ := h
    rfl
  · obtain ⟨p, pan, rfl, hp, hg, q⟩ := h
    refine ⟨_, pss_cons (ps_asg (pe_tup (pa_cons (pe_lst pa_nil) (pa_cons pe_int pa_nil))) (pg_tup rfl (pgs_cons (pg_name (i := 1) scApart.nd rfl (Or.inr rfl)) (pgs_cons (pg_name (i := 2) scApart.nd rfl (Or.inl rfl)) pgs_nil))))
      (pss_cons (ps_for PassesOwn.never rfl (show PI _ _ _ (iList K _) from pi_list (pe_callB (show CallR _ _ (rSortTP K) from cr_sortTP hr.units) (by rfl) m_sorted (by decide +kernel) (pa_cons (pe_lc (own := [("_law_one", 6)]) (g := gName 6) (tt := tYes) rfl scApart.nd (pi_range1 (by rfl) m_range (pa_cons (pe_callB (show CallR _ _ (rLenG K) from cr_lenG) (by rfl) m_len PySem.boot_len (pa_cons (pv 0) pa_nil)) pa_nil)) (blkOk_by (own := [("_law_one", 6)]) (N := nApart) (sc := defScope sApart) (by decide +kernel)) (fun _ _ _ _ _ => pg_name (i := 6) scApart.nd rfl (Or.inl rfl)) (fun _ _ _ _ _ => pts_nil) (fun _ _ _ _ _ => pe_tup (pa_cons (pe_callB (show CallR _ _ (rLenG K) from cr_lenG) (by rfl) m_len PySem.boot_len (pa_cons (pe_call GRel (hr.mono (by omega)) (by rfl) gRel FRel.kp bRel .nil pass0 (pa_cons (pv 0) (pa_cons (pv 6) pa_nil))) pa_nil)) (pa_cons (pv 6) pa_nil)))) pa_nil))) (pg_tup rfl (pgs_cons (pg_name (i := 3) scApart.nd rfl (Or.inl rfl)) (pgs_cons (pg_name (i := 4) scApart.nd rfl (Or.inl rfl)) pgs_nil))) (pss_cons (ps_set (i := 5) scApart.nd rfl (.inl rfl) (pe_op op_cat (pe_callTy (show CallR _ _ (rListG K) from call_listG) (by rfl) m_list (by decide +kernel) (pa_cons (pe_call GRel (hr.mono (by omega)) (by rfl) gRel FRel.kp bRel .nil pass0 (pa_cons (pv 0) (pa_cons (pv 4) pa_nil))) pa_nil)) (pe_lst (pa_cons (pv 4) pa_nil))))
      (pss_one (ps_if (pt_cmpR (show OpR _ _ (rEqD K) from op_eqD hr.units) (pe_lc (own := [("_law_one", 6)]) (g := gName 6) rfl scApart.nd (show PI _ _ _ (iList K _) from pi_list (pv 5)) (blkOk_by (own := [("_law_one", 6)]) (N := nApart) (sc := defScope sApart) (by decide +kernel)) (fun _ _ _ _ _ => pg_name (i := 6) scApart.nd rfl (Or.inl rfl)) (fun _ _ _ _ _ => pts_one (pt_cmpR (show OpR _ _ (rIn K false) from op_in_seq) (pv 6) (pv 1) (by rfl))) (fun _ _ _ _ _ => pe_int)) (pe_lst pa_nil) (nomark _)) (pss_one (ps_asg (pe_tup (pa_cons (pe_op op_cat (pv 1) (pv 5)) (pa_cons (pe_op op_add (pv 2) pe_int) pa_nil))) (pg_tup rfl (pgs_cons (pg_name (i := 1) scApart.nd rfl (Or.inr rfl)) (pgs_cons (pg_name (i := 2) scApart.nd rfl (Or.inl rfl)) pgs_nil))))) pss_nil))))
      (pss_one (ps_ret (pv 2)))), ?_⟩
    have few := hg.few
    have hlp : (pan.map dInts).length = pan.length := List.length_map _
    have dp : Dp K H (.ref p) (dPan pan) := hp.dp
    refine gs_twoL (K := K) (gn_lst gva_nil) (fun H1 s1 => gv_int (i := 0)) fun U us0 z0 H1 s1 nU eU dU dz0 => ?_
    cases dz0
    have hks : ∀ k ∈ srtT (ksM pan), ∃ i : Nat, i < pan.length ∧ k = [((relsTo pan (i : Int) pan.length).length : Int), (i : Int)] := fun k hk => by
      obtain ⟨i, hi, e⟩ := List.mem_map.mp ((srtT_perm _).mem_iff.mp hk)
      exact ⟨i, List.mem_range.mp hi, e.symm⟩
    have kl : (srtT (ksM pan)).length = pan.length := by rw [(srtT_perm _).length_eq]; unfold ksM; rw [List.length_map, List.length_range]
    refine gs_each2 (K := K) (R := Same) (δ1 := fun k : List Int => PyData.int (k.getD 0 0)) (δ2 := fun k : List Int => PyData.int (k.getD 1 0)) (as := srtT (ksM pan)) (gvi_list ((gn_sortT (ks := ksM pan) ((gn_lc (δ := fun i : Nat => PyData.int (i : Int)) (as := List.range pan.length) (p := fun _ => true) (f := fun i : Nat => dInts [((relsTo pan (i : Int) pan.length).length : Int), (i : Int)]) (gvi_range ((gv_lenT (gv_var (i := 0) rfl (dp.sm s1))).to (by rw [hlp])) (by omega)) (fun i v Hz hi sz dz => ⟨gvt_yes, fun _ => gv_tup (gva_cons ((gv_lenT (gv_Rel (i := 0) rfl (hp.same (s1.trans sz)) (gv_var rfl dz) (by omega))).to (by rw [List.length_map])) (gva_cons (gv_var rfl dz) gva_nil)) (show 2 ≤ sizeLine by decide)⟩) (fun _ _ => lf_ints _) (by rw [List.length_range]; omega)).gv.to ?_) (.inl fun k hk => ?_)).gv.to ?_))
      (fun Ha k σ Hb => Same Ha Hb ∧ ∃ (W : Addr) (vs : List V) (used : List Int) (m : Nat) (x3 x4 x5 x6 : Option V), σ = [some (.ref p), some (.ref W), some (.int (m : Int)), x3, x4, x5, x6] ∧ Hb W = some (.lst vs) ∧ DpAll K Hb vs (used.map PyData.int) ∧ used.length ≤ 11 * k ∧ ∀ r, InR pan.length r → Cov pan r → m ≤ (r.filter fun x => decide (x ∈ used)).length)
      (fun Ha sa => ⟨Same.refl _, U, us0, [], 0, _, _, _, _, rfl, sa _ _ eU, dU.sm sa, Nat.zero_le _, fun r _ _ => Nat.zero_le _⟩)
      (fun Ha k σ Hb sa hP => hP.1) (fun Ha k key v1 v2 σ Hb Hc sa hk hP sc d1 d2 => ?_) (fun Ha σ Hb sa hP => ?_)
    · rw [List.filter_eq_self.mpr (fun _ _ => rfl)]
      unfold ksM
      rw [List.map_map]; rfl
    · obtain ⟨i, hi, e⟩ := List.mem_map.mp hk
      rw [← e]; simp
    · congr 1
      refine List.map_congr_left fun k hk => ?_
      obtain ⟨i, hi, rfl⟩ := hks k hk
      rfl
    · obtain ⟨sb, W, vs, used, m, x3, x4, x5, x6, rfl, eW, dW, lu, inv⟩ := hP
      have kn : k < pan.length := by rw [← kl]; exact (List.getElem?_eq_some_iff.mp hk).1
      obtain ⟨i, hi, rfl⟩ := hks key (List.mem_of_getElem? hk)
      cases d1
      cases d2
      have s0 := s1.trans (sa.trans (sb.trans sc))
      have rl := relsTo_len pan (i : Int) pan.length
      refine gs_setN (K := K) (gn_cat (gn_lstT (gv_Rel (i := 0) rfl (hp.same s0) (gv_var (i := 4) rfl (.int (i : Int))) (by omega))).gl (gl_lst (gva_cons (gv_var (i := 4) rfl (.int (i : Int))) gva_nil)) (by rw [List.length_map]; show _ + 1 ≤ _; omega)) fun Y ys H4 s4 nY eY dY => ?_
      have dY' : DpAll K H4 ys ((relsTo pan (i : Int) pan.length ++ [(i : Int)]).map PyData.int) := by rw [List.map_append]; exact dY
      have ol : (relsTo pan (i : Int) pan.length ++ [(i : Int)]).length ≤ 11 := by rw [List.length_append]; show _ + 1 ≤ _; omega
      have eW4 := s4 _ _ (sc _ _ eW)
      have dW4 := (dW.sm sc).sm s4
      refine gs_if (gvt_test (K := K) (b := decide ((relsTo pan (i : Int) pan.length ++ [(i : Int)]).filter (fun x => decide (x ∈ used)) = [])) ((gv_eqD (gv_lc (δ := PyData.int) (as := relsTo pan (i : Int) pan.length ++ [(i : Int)]) (p := fun x => decide (x ∈ used)) (f := fun _ => .int 1) (gvi_list (gl_var (i := 5) rfl eY dY').gv) (fun x v Hz hx sz dz => ⟨gvt_test ((gv_inL (neg := false) (gv_var rfl dz) (gl_var (i := 1) rfl (sz _ _ eW4) (dW4.sm sz)).gv).to rfl), fun _ => gv_int⟩) (fun _ _ => rfl) (by omega)) (gv_lst gva_nil) (shp_ones _) rfl).to (by rw [eqv_ones]))) (fun e H5 s5 => ?_) (fun e H5 s5 => ?_)
      · have e' := of_decide_eq_true e
        have eW5 := s5 _ _ eW4
        refine gs_twoL (K := K) (gn_cat (gl_var (i := 1) rfl eW5 (dW4.sm s5)) (gl_var (i := 5) rfl (s5 _ _ eY) (dY'.sm s5)) (by rw [List.length_map, List.length_map]; omega)) (fun H6 s6 => (gv_add (gv_var (i := 2) rfl (.int (m : Int))) (gv_int (i := 1))).to (e := .int ((m + 1 : Nat) : Int)) rfl) fun W2 ws2 z H6 s6 nW2 eW2 dW2 dz => ?_
        cases dz
        refine ⟨sb.trans (sc.trans (s4.trans (s5.trans s6))), W2, ws2, used ++ (relsTo pan (i : Int) pan.length ++ [(i : Int)]), m + 1, _, _, _, _, rfl, eW2, by rw [List.map_append]; exact dW2, by rw [List.length_append]; omega, fun r hr hc => apart_le hi hc hr (fun x => ?_) (fun x hx hu => ?_) (inv r hr hc)⟩
        · rw [List.mem_append, relsTo_iff, List.mem_singleton]
          exact ⟨fun z => z.elim .inr .inl, fun z => z.elim .inr .inl⟩
        · have : x ∈ (relsTo pan (i : Int) pan.length ++ [(i : Int)]).filter (fun x => decide (x ∈ used)) := List.mem_filter.mpr ⟨hx, decide_eq_true hu⟩
          rw [e'] at this
          cases this
      · exact ⟨sb.trans (sc.trans (s4.trans s5)), W, vs, used, m, _, _, _, _, rfl, s5 _ _ eW4, dW4.sm s5, by omega, inv⟩
    · obtain ⟨sb, W, vs, used, m, x3, x4, x5, x6, rfl, eW, dW, lu, inv⟩ := hP
      refine gs_ret (gv_var (K := K) (i := 2) rfl (.int (m : Int))) fun v H5 s5 dv => ?_
      cases dv
      exact q H5 m (s1.trans (sa.trans (sb.trans s5))) fun r hr hc => Nat.le_trans (inv r hr hc) (List.length_filter_le _ _)
end
end K39
namespace Pr
open PySem PySem.Spec PyProof.Rows L2
section
variable {X : Cx} {a b c d e : Expr} {ta tb tc td te : TE} {pos : Pos}
def tChain4 (r1 r2 r3 r4 : R2) (ta tb tc td te : TE) : TE := fun σ H Q => ta σ H fun x H1 => tb σ H1 fun y H2 => r1 x y H2 fun z H3 => ∃ k, z = .bl k ∧
  (if k = true then tc σ H3 fun w H4 => r2 y w H4 fun z2 H5 => ∃ k2, z2 = .bl k2 ∧
    (if k2 = true then td σ H5 fun u H6 => r3 w u H6 fun z3 H7 => ∃ k3, z3 = .bl k3 ∧
      (if k3 = true then te σ H7 fun v H8 => r4 u v H8 Q else Q (.bl false) H7) else Q (.bl false) H5) else Q (.bl false) H3)
theorem pe_chain4 {o1 o2 o3 o4 : CmpOp} {r1 r2 r3 r4 : R2} (h1 : OpR X (compareOp o1) r1) (h2 : OpR X (compareOp o2) r2) (h3 : OpR X (compareOp o3) r3) (h4 : OpR X (compareOp o4) r4)
    (ha : PE X a ta) (hb : PE X b tb) (hc : PE X c tc) (hd : PE X d td) (he : PE X e te)
    (hm : lastMarks [o1, o2, o3, o4] [b, c, d, e] = false := by with_unfolding_all rfl) : PE X (.Compare a [o1, o2, o3, o4] [b, c, d, e] pos) (tChain4 r1 r2 r3 r4 ta tb tc td te) := by
  refine ⟨fun pins s σ H Q I h => ?_⟩
  refine Compare_chain (thn (ha.run pins s σ H _ I h) fun v s1 ⟨x, H1, I1, q1', q1⟩ => chain_link (thn (hb.run pins s1 σ H1 _ I1 q1) fun u s2 ⟨y, H2, I2, q2', q2⟩ =>
    thn (h1 pins s2 σ H2 x y v u _ I2 q1' q2' q2) fun d1 s3 ⟨z, H3, I3, q3', k, ek, q3⟩ => ?_)) hm
  subst ek
  cases q3'
  refine wpAny_truthy_bool ?_
  cases k with
  | false => exact ite_ff ⟨.bl false, H3, I3, rfl, q3⟩
  | true =>
    refine ite_tt (chain_link (thn (hc.run pins s3 σ H3 _ I3 q3) fun w' s4 ⟨z', H4, I4, q4', q4⟩ => thn (h2 pins s4 σ H4 y z' u w' _ I4 q2' q4' q4) fun d2 s5 ⟨z2, H5, I5, q5', k2, ek2, q5⟩ => ?_))
    subst ek2
    cases q5'
    refine wpAny_truthy_bool ?_
    cases k2 with
    | false => exact ite_ff ⟨.bl false, H5, I5, rfl, q5⟩
    | true =>
      refine ite_tt (chain_link (thn (hd.run pins s5 σ H5 _ I5 q5) fun w2 s6 ⟨y2, H6, I6, q6', q6⟩ => thn (h3 pins s6 σ H6 z' y2 w' w2 _ I6 q4' q6' q6) fun d3 s7 ⟨z3, H7, I7, q7', k3, ek3, q7⟩ => ?_))
      subst ek3
      cases q7'
      refine wpAny_truthy_bool ?_
      cases k3 with
      | false => exact ite_ff ⟨.bl false, H7, I7, rfl, q7⟩
      | true => exact ite_tt (chain_last (thn (he.run pins s7 σ H7 _ I7 q7) fun w3 s8 ⟨y3, H8, I8, q8', q8⟩ => h4 pins s8 σ H8 y2 y3 w2 w3 Q I8 q6' q8' q8))
end
end Pr
namespace K39
open PySem PySem.Spec PyProof.Rows L2 Pr
open LamX
def InP2 (pan : List (List Int)) (one other : Int) : Prop := 0 ≤ one ∧ one < (pan.length : Int) ∧ 0 ≤ other ∧ other < (pan.length : Int) ∧ one ≠ other
theorem set_mem {pan : List (List Int)} {i : Nat} {x l : List Int} (h : l ∈ pan.set i x) : l = x ∨ l ∈ pan := by
  rcases List.mem_or_eq_of_mem_set h with h | h
  · exact .inr h
  · exact .inl h
theorem good_set {pan : List (List Int)} (g : Good pan) {i : Nat} {x : List Int} (hi : i < pan.length) (up : x.Pairwise (· < ·)) (rng : ∀ y ∈ x, 0 ≤ y ∧ y < (pan.length : Int)) (own : (i : Int) ∉ x) : Good (pan.set i x) := by
  have hl : (pan.set i x).length = pan.length := List.length_set
  refine ⟨by rw [hl]; exact g.pos, by rw [hl]; exact g.few, fun l h => ?_, fun l h => ?_, fun j l h => ?_⟩
  · rcases set_mem h with rfl | h
    · exact up
    · exact g.up l h
  · rw [hl]
    rcases set_mem h with rfl | h
    · exact rng
    · exact g.rng l h
  · rw [List.getElem?_set] at h
    by_cases e : i = j
    · rw [if_pos e, if_pos hi] at h
      cases h
      rw [← e]; exact own
    · rw [if_neg e] at h
      exact g.own j l h
theorem rel_mem {pan : List (List Int)} {i : Nat} (hi : i < pan.length) : pan.getD i [] ∈ pan := by
  rw [List.getD_eq_getElem?_getD, List.getElem?_eq_getElem hi]; exact List.getElem_mem hi
theorem good_li {pan : List (List Int)} (g : Good pan) {one other : Int} (h : InP2 pan one other) (hn : other ∉ pan.getD one.toNat []) : Good (liM pan one other) ∧ (liM pan one other).length = pan.length ∧ liM pan one other ≠ pan := by
  obtain ⟨o0, o1, u0, u1, ne⟩ := h
  have hi : one.toNat < pan.length := by omega
  have e : liM pan one other = pan.set one.toNat (srt (pan.getD one.toNat [] ++ [other])) := by unfold liM; rw [if_neg hn]
  have hm := rel_mem hi
  have up := g.up _ hm
  rw [e]
  have nd : (pan.getD one.toNat [] ++ [other]).Nodup := by
    rw [List.nodup_append]
    refine ⟨up.imp fun {a b} h => by omega, by simp, fun x hx y hy z => ?_⟩
    rw [List.mem_singleton.mp hy] at z
    exact hn (z ▸ hx)
  have mem : ∀ x, x ∈ srt (pan.getD one.toNat [] ++ [other]) ↔ x ∈ pan.getD one.toNat [] ∨ x = other := fun x => by rw [srt_mem, List.mem_append, List.mem_singleton]
  refine ⟨good_set g hi (srt_asc nd) (fun y hy => ?_) (fun h => ?_), List.length_set, fun z => ?_⟩
  · rcases (mem y).mp hy with h | rfl
    · exact g.rng _ hm y h
    · exact ⟨u0, u1⟩
  · rcases (mem _).mp h with h | h
    · exact g.own' (b := one) o0 o1 (by rwa [show ((one.toNat : Nat) : Int) = one by omega] at h)
    · omega
  · have : (pan.set one.toNat (srt (pan.getD one.toNat [] ++ [other]))).getD one.toNat [] = pan.getD one.toNat [] := by rw [z]
    rw [List.getD_eq_getElem?_getD, List.getElem?_set, if_pos rfl, if_pos hi] at this
    replace this : srt (pan.getD one.toNat [] ++ [other]) = pan.getD one.toNat [] := this
    exact hn (by rw [← this]; exact (mem other).mpr (.inr rfl))
theorem good_un {pan : List (List Int)} (g : Good pan) {one other : Int} (h : InP2 pan one other) (hn : other ∈ pan.getD one.toNat []) : Good (unM pan one other) ∧ (unM pan one other).length = pan.length ∧ unM pan one other ≠ pan := by
  obtain ⟨o0, o1, u0, u1, ne⟩ := h
  have hi : one.toNat < pan.length := by omega
  have e : unM pan one other = pan.set one.toNat ((pan.getD one.toNat []).filter fun x => !decide (x = other)) := by unfold unM; rw [if_pos hn]
  have hm := rel_mem hi
  rw [e]
  refine ⟨good_set g hi ((g.up _ hm).filter _) (fun y hy => g.rng _ hm y (List.mem_filter.mp hy).1) (fun h => ?_), List.length_set, fun z => ?_⟩
  · exact g.own' (b := one) o0 o1 (by have := (List.mem_filter.mp h).1; rwa [show ((one.toNat : Nat) : Int) = one by omega] at this)
  · have : (pan.set one.toNat ((pan.getD one.toNat []).filter fun x => !decide (x = other))).getD one.toNat [] = pan.getD one.toNat [] := by rw [z]
    rw [List.getD_eq_getElem?_getD, List.getElem?_set, if_pos rfl, if_pos hi] at this
    replace this : (pan.getD one.toNat []).filter (fun x => !decide (x = other)) = pan.getD one.toNat [] := this
    rw [← this] at hn
    simpa using (List.mem_filter.mp hn).2
theorem pan_ok {pan : List (List Int)} (g : Good pan) : pan.length ≤ 100 ∧ ∀ l ∈ pan, l.length ≤ 60 := ⟨by have := g.few; omega, fun l hl => by
  have := pw_length (n := 10) (lo := 0) (g.up l hl) fun x hx => by have := g.rng l hl x hx; have := g.few; omega
  omega⟩
theorem tabs_but {H H' : Hp} {a c : Addr} {m : Nat} {T : List (Addr × Str)} (D : Deck H a c m) (b : But a c H H') (h : Tabs T H) : Tabs T H' := fun p hp => by
  obtain ⟨ps, h1, h2, h3⟩ := h p hp
  have q := D.apart h1 (fun _ => by intro z; cases z)
  refine ⟨ps, b _ _ q.1 q.2 h1, h2, fun pos cv hc => ?_⟩
  obtain ⟨cc, e1, e2⟩ := h3 pos cv hc
  have q2 := D.apart e2 (fun _ => by unfold CodeO; intro z; cases z)
  exact ⟨cc, e1, b _ _ q2.1 q2.2 e2⟩
theorem pat_extN {H H' : Hp} {p : Addr} {pan : List (List Int)} (e : ExtN H H') (h : PanAt H p pan) : PanAt H' p pan := by
  obtain ⟨qs, h1, h2⟩ := h
  have ft : ∀ {a : Addr} {xs : List V}, FT H a xs → FT H' a xs := fun {a xs} ⟨o, q, z⟩ => ⟨o, e _ _ q (fun _ y => by cases y), z⟩
  exact ⟨qs, ft h1, h2.mono fun _ _ x => ft x⟩
def ButN (a c : Addr) (H H' : Hp) : Prop := ∀ b o, b ≠ a → b ≠ c → H b = some o → (∀ ps, o ≠ .tbl ps) → H' b = some o
theorem ButN.refl (a c : Addr) (H : Hp) : ButN a c H H := fun _ _ _ _ e _ => e
theorem ButN.trans {a c : Addr} {H H1 H2 : Hp} (x : ButN a c H H1) (y : ButN a c H1 H2) : ButN a c H H2 := fun b o h1 h2 e n => y b o h1 h2 (x b o h1 h2 e n) n
theorem ButN.but {a c : Addr} {H H1 : Hp} (x : But a c H H1) : ButN a c H H1 := fun b o h1 h2 e _ => x b o h1 h2 e
theorem ButN.ext {a c : Addr} {H H1 : Hp} (x : ExtN H H1) : ButN a c H H1 := fun b o _ _ e n => x b o e n
theorem ButN.ft {a c p : Addr} {H H' : Hp} {m : Nat} {xs : List V} (d : Deck H a c m) (b : ButN a c H H') (h : FT H p xs) : FT H' p xs := by
  obtain ⟨o, q, z⟩ := h
  have ap := d.apart q (fun _ => by intro z; cases z)
  exact ⟨o, b _ _ ap.1 ap.2 q (fun _ => by intro z; cases z), z⟩
theorem ButN.pan {a c p : Addr} {H H' : Hp} {m : Nat} {pan : List (List Int)} (d : Deck H a c m) (b : ButN a c H H') (h : PanAt H p pan) : PanAt H' p pan :=
  let ⟨qs, h1, h2⟩ := h; ⟨qs, b.ft d h1, h2.mono fun _ _ z => b.ft d z⟩
theorem gs_parQ {σ : L2.St} {H : Hp} {ta : TA} {i j : Nat} {u : TS} {D : Ends} (h : ta σ H fun vs H' => ∃ v z, vs = [v, z] ∧ u D ((σ.set i (some v)).set j (some z)) H') : tSeq (tPar i j ta) u D σ H := h
theorem getD_set {pan : List (List Int)} {i b : Nat} {x : List Int} (hi : i < pan.length) : (pan.set i x).getD b [] = if i = b then x else pan.getD b [] := by
  rw [List.getD_eq_getElem?_getD, List.getElem?_set]
  split
  · rename_i e
    subst e
    rfl
  · rw [List.getD_eq_getElem?_getD]
theorem near_li {pan : List (List Int)} {one other : Int} (h : InP2 pan one other) : NearP pan (liM pan one other) other := by
  obtain ⟨o0, o1, u0, u1, ne⟩ := h
  have hi : one.toNat < pan.length := by omega
  unfold liM
  split
  · exact NearP.refl _ _
  · refine ⟨List.length_set, fun b x hx => ?_, fun b x hx => ?_⟩
    · rw [getD_set hi]
      split
      · rename_i e
        rw [e, srt_mem, List.mem_append]; exact .inl hx
      · exact hx
    · rw [getD_set hi] at hx
      split at hx
      · rename_i e
        rw [e, srt_mem, List.mem_append, List.mem_singleton] at hx; exact hx
      · exact .inl hx
theorem near_un {pan : List (List Int)} {one other : Int} (h : InP2 pan one other) : NearP (unM pan one other) pan other := by
  obtain ⟨o0, o1, u0, u1, ne⟩ := h
  have hi : one.toNat < pan.length := by omega
  unfold unM
  split
  · refine ⟨List.length_set.symm, fun b x hx => ?_, fun b x hx => ?_⟩
    · rw [getD_set hi] at hx
      split at hx
      · rename_i e
        rw [← e]; exact (List.mem_filter.mp hx).1
      · exact hx
    · rw [getD_set hi]
      split
      · rename_i e
        by_cases q : x = other
        · exact .inr q
        · exact .inl (List.mem_filter.mpr ⟨by rw [e]; exact hx, by simpa using q⟩)
      · exact .inl hx
  · exact NearP.refl _ _
theorem li_good {pan : List (List Int)} (g : Good pan) {one other : Int} (h : InP2 pan one other) : Good (liM pan one other) := by
  by_cases e : other ∈ pan.getD one.toNat []
  · unfold liM; rw [if_pos e]; exact g
  · exact (good_li g h e).1
theorem un_good {pan : List (List Int)} (g : Good pan) {one other : Int} (h : InP2 pan one other) : Good (unM pan one other) := by
  by_cases e : other ∈ pan.getD one.toNat []
  · exact (good_un g h e).1
  · unfold unM; rw [if_neg e]; exact g
theorem best_mn {pan : List (List Int)} {row : List Int} (b : BestR pan row) : Mn pan row.length := by
  refine ⟨⟨row, b.asc.rng, cov_iff.mp b.res, rfl⟩, fun r hr hc => ?_⟩
  obtain ⟨q, q1, q2, q3⟩ := dedup_ex _ r hr
  have := b.best q q1 (cov_iff.mpr (hc.sub fun x hx => (q2 x).mpr hx))
  rcases Nat.lt_or_ge q.length row.length with z | z
  · exact absurd (.inl z) this
  · omega
section
variable {K : PySem.W.Frag} {σ : L2.St} {H : Hp} {t ta tb tc td te : TE} {E : XK} {pS : Addr} {pan : List (List Int)}
theorem call_SR {Q : VK} (h : Gv K t σ H (dPan pan)) (hg : Good pan) (hT : Tabs (TSR pS) H) (q : ∀ (H' : Hp) (a : Addr) (row : List Int), ExtN H H' → Tabs (TSR pS) H' → SqT K H' a (row.map V.int) → BestR pan row → Q (.ref a) H') : tCall (spSReset K pS) [] E (tCons t tNil) σ H Q := h H (Same.refl _) _ fun v H2 s2 dv => by
  obtain ⟨p, rfl, hp⟩ := panT_dp dv
  exact ⟨p, pan, rfl, hp, hg, hT.ext (fun b o e => s2 b o e), fun H' a row e t sq b => q H' a row ((extN_same s2).trans e) t sq b⟩
theorem call_SRlen {Q : VK} (h : Gv K t σ H (dPan pan)) (hg : Good pan) (hT : Tabs (TSR pS) H) (q : ∀ (H' : Hp) (row : List Int), ExtN H H' → Tabs (TSR pS) H' → BestR pan row → Q (.int (row.length : Int)) H') : tCB (rLenG K) (tCons (tCall (spSReset K pS) [] E (tCons t tNil)) tNil) σ H Q :=
  call_SR h hg hT fun H' a row e t sq b => ⟨a, _, rfl, .inr sq, by rw [List.length_map]; exact q H' row e t b⟩
theorem gv_chain4 {a b c d e : Int} (ha : Gv K ta σ H (.int a)) (hb : Gv K tb σ H (.int b)) (hc : Gv K tc σ H (.int c)) (hd : Gv K td σ H (.int d)) (he : Gv K te σ H (.int e)) (h1 : a ≤ b) (h2 : b ≤ c) (h3 : c ≤ d) (h4 : d ≤ e) :
    Gv K (tChain4 (rI0 fun i j => V.bl (decide (i ≤ j))) (rI0 fun i j => V.bl (decide (i ≤ j))) (rI0 fun i j => V.bl (decide (i ≤ j))) (rI0 fun i j => V.bl (decide (i ≤ j))) ta tb tc td te) σ H (.bool true) := fun H1 s Q q =>
  ha H1 s _ fun x H2 s2 dx => by
    cases dx
    exact hb H2 (s.trans s2) _ fun y H3 s3 dy => by
      cases dy
      refine ⟨a, b, rfl, rfl, _, rfl, ?_⟩
      rw [if_pos (decide_eq_true h1)]
      exact hc H3 ((s.trans s2).trans s3) _ fun z H4 s4 dz => by
        cases dz
        refine ⟨b, c, rfl, rfl, _, rfl, ?_⟩
        rw [if_pos (decide_eq_true h2)]
        exact hd H4 (((s.trans s2).trans s3).trans s4) _ fun u H5 s5 du => by
          cases du
          refine ⟨c, d, rfl, rfl, _, rfl, ?_⟩
          rw [if_pos (decide_eq_true h3)]
          exact he H5 ((((s.trans s2).trans s3).trans s4).trans s5) _ fun v H6 s6 dv => by
            cases dv
            refine ⟨d, e, rfl, rfl, ?_⟩
            show Q (V.bl (decide (d ≤ e))) H6
            rw [decide_eq_true h4]
            exact q _ H6 ((((s2.trans s3).trans s4).trans s5).trans s6) (.bl _)
end
def nLinks : List Str := ["_law_deck_here", "_law_panel_here", "_law_many", "_law_one", "_law_other", "_law_more", "_law_fewer"]
theorem scLinks : FnScope nLinks ["_law_deck_here", "_law_panel_here", "_law_many"] (defScope sLinks) := ⟨rfl, rfl, rfl, by decide +kernel, rfl, by decide +kernel, by decide +kernel⟩
section
variable {P : Program} {w : World} {K : PySem.W.Frag} {mg : Str → Option Value} {base : Heap}
def spLinks (K : PySem.W.Frag) (pS : Addr) : Sp := fun vs H Q _ => ∃ (a c p : Addr) (m mm : Nat) (pan : List (List Int)), vs = [.ref a, .ref p, .int (mm : Int)] ∧ Deck H a c (m + 2) ∧ PanAt H p pan ∧ Good pan ∧ Mn pan mm ∧ Tabs (TSR pS) H ∧
  ∀ (H' : Hp), ButN a c H H' → Deck H' a c m → Tabs (TSR pS) H' → Q (.bl true) H'
theorem ok_Links {fNo : Addr} {fdNo : FuncData} {fPressE : Addr} {fdPressE : FuncData} {fJoin : Addr} {fdJoin : FuncData} {fWith : Addr} {fdWith : FuncData} {fEff : Addr} {fdEff : FuncData} {fBetw : Addr} {fdBetw : FuncData} {fReset : Addr} {fdReset : FuncData} {fSReset : Addr} {fdSReset : FuncData} {fWl : Addr} {fdWl : FuncData} {fLi : Addr} {fdLi : FuncData} {fUn : Addr} {fdUn : FuncData} {fDraw : Addr} {fdDraw : FuncData} {f : Addr} {fd : FuncData} {k : Nat} (F : Fun K "_law_links_right" "_law_links_right" sLinks f fd)
    (FNo : Fun K "no_effect" "no_effect" sNo fNo fdNo) (bNo : Binds K fdNo ["panel"] []) (gNo : mg "no_effect" = some (.ref fNo))
    (FPressE : Fun K "press_effect" "press_effect" sPressE fPressE fdPressE) (bPressE : Binds K fdPressE ["panel", "button"] []) (gPressE : mg "press_effect" = some (.ref fPressE))
    (FJoin : Fun K "joined_effect" "joined_effect" sJoin fJoin fdJoin) (bJoin : Binds K fdJoin ["first", "second"] []) (gJoin : mg "joined_effect" = some (.ref fJoin))
    (FWith : Fun K "effect_with_press" "effect_with_press" sWith fWith fdWith) (bWith : Binds K fdWith ["panel", "effect", "button"] []) (gWith : mg "effect_with_press" = some (.ref fWith))
    (FEff : Fun K "effect_of" "effect_of" sEff fEff fdEff) (bEff : Binds K fdEff ["panel", "row"] []) (gEff : mg "effect_of" = some (.ref fEff))
    (FBetw : Fun K "states_between" "states_between" sBetw fBetw fdBetw) (bBetw : Binds K fdBetw ["least", "most"] []) (gBetw : mg "states_between" = some (.ref fBetw))
    (FReset : Fun K "is_reset" "is_reset" sReset fReset fdReset) (bReset : Binds K fdReset ["panel", "row"] []) (gReset : mg "is_reset" = some (.ref fReset))
    (FSReset : Fun K "shortest_reset" "shortest_reset" sSReset fSReset fdSReset) (bSReset : Binds K fdSReset ["panel"] []) (gSReset : mg "shortest_reset" = some (.ref fSReset))
    (FWl : Fun K "with_list" "with_list" sWl fWl fdWl) (bWl : Binds K fdWl ["panel", "button", "released"] []) (gWl : mg "with_list" = some (.ref fWl))
    (FLi : Fun K "linked" "linked" sLi fLi fdLi) (bLi : Binds K fdLi ["panel", "one", "other"] []) (gLi : mg "linked" = some (.ref fLi))
    (FUn : Fun K "unlinked" "unlinked" sUn fUn fdUn) (bUn : Binds K fdUn ["panel", "one", "other"] []) (gUn : mg "unlinked" = some (.ref fUn))
    (FDraw : Fun K "_law_draw" "_law_draw" sDraw fDraw fdDraw) (bDraw : Binds K fdDraw ["_law_deck_here", "_law_bound"] []) (gDraw : mg "_law_draw" = some (.ref fDraw))
    (m_enumerate : mg "enumerate" = none) (m_len : mg "len" = none) (m_list : mg "list" = none) (m_max : mg "max" = none) (m_min : mg "min" = none) (m_range : mg "range" = none) (m_sorted : mg "sorted" = none) (m_tuple : mg "tuple" = none) (m_zip : mg "zip" = none) {cS pS : Addr} (ecS : fdSReset.code = .ref cS) (TBS : TabB base mg cS pS) : FnOk P w K mg base CX0 (k + 7) f fd ["_law_deck_here", "_law_panel_here", "_law_many"] (spLinks K pS) := by
  have GDraw : FnOk P w K mg base CX0 (k + 1) fDraw fdDraw ["_law_deck_here", "_law_bound"] spDraw := ok_draw FDraw m_len m_max
  have GSReset : FnOk P w K mg base CX0 (k + 6) fSReset fdSReset ["panel"] (spSReset K pS) := ok_SReset FSReset FNo bNo gNo FPressE bPressE gPressE FJoin bJoin gJoin FWith bWith gWith FEff bEff gEff FBetw bBetw gBetw FReset bReset gReset m_len m_list m_range m_sorted m_tuple m_zip m_min ecS TBS
  have GLi : FnOk P w K mg base CX0 (k + 2) fLi fdLi ["panel", "one", "other"] (spLi K) := ok_Li FLi FWl bWl gWl m_enumerate m_sorted m_tuple
  have GUn : FnOk P w K mg base CX0 (k + 2) fUn fdUn ["panel", "one", "other"] (spUn K) := ok_Un FUn FWl bWl gWl m_enumerate m_tuple
  refine F.ok scLinks (fun vs H Q E h => ?_) (fun cdv A outer s H vs Q E hr h => ?_)
  · obtain ⟨a, c, p, m, mm, pan, rfl, _⟩ := h
    rfl
  · obtain ⟨a, c, p, m, mm, pan, rfl, hD, hp, hg, hM, hT, q⟩ := h
    refine ⟨_, pss_cons (ps_par (i := 3) (j := 4) rfl scLinks.nd rfl rfl (by decide) rfl rfl (pa_cons (pe_call GDraw (hr.mono (by omega)) (by rfl) gDraw FDraw.kp bDraw .nil pass0 (pa_cons (pv 0) (pa_cons (pe_callB (show CallR _ _ (rLenG K) from cr_lenG) (by rfl) m_len PySem.boot_len (pa_cons (pv 1) pa_nil)) pa_nil))) (pa_cons (pe_call GDraw (hr.mono (by omega)) (by rfl) gDraw FDraw.kp bDraw .nil pass0 (pa_cons (pv 0) (pa_cons (pe_callB (show CallR _ _ (rLenG K) from cr_lenG) (by rfl) m_len PySem.boot_len (pa_cons (pv 1) pa_nil)) pa_nil))) pa_nil)) (by rfl))
      (pss_cons (ps_if (pt_cmpR op_eq (pv 3) (pv 4) (nomark _)) (pss_one (ps_ret pe_bl)) pss_nil)
      (pss_cons (ps_par (i := 5) (j := 6) rfl scLinks.nd rfl rfl (by decide) rfl rfl (pa_cons (pe_callB (show CallR _ _ (rLenG K) from cr_lenG) (by rfl) m_len PySem.boot_len (pa_cons (pe_call GSReset (hr.mono (by omega)) (by rfl) gSReset FSReset.kp bSReset .nil pass0 (pa_cons (pe_call GLi (hr.mono (by omega)) (by rfl) gLi FLi.kp bLi .nil pass0 (pa_cons (pv 1) (pa_cons (pv 3) (pa_cons (pv 4) pa_nil)))) pa_nil)) pa_nil)) (pa_cons (pe_callB (show CallR _ _ (rLenG K) from cr_lenG) (by rfl) m_len PySem.boot_len (pa_cons (pe_call GSReset (hr.mono (by omega)) (by rfl) gSReset FSReset.kp bSReset .nil pass0 (pa_cons (pe_call GUn (hr.mono (by omega)) (by rfl) gUn FUn.kp bUn .nil pass0 (pa_cons (pv 1) (pa_cons (pv 3) (pa_cons (pv 4) pa_nil)))) pa_nil)) pa_nil)) pa_nil)) (by rfl))
      (pss_one (ps_ret (pe_chain4 op_le op_le op_le op_le (pe_op op_sub (pv 2) pe_int) (pv 5) (pv 2) (pv 6) (pe_op op_add (pv 2) pe_int)))))), ?_⟩
    have few := hg.few
    have pos := hg.pos
    have hlp : (pan.map dInts).length = pan.length := List.length_map _
    have dp : Dp K H (.ref p) (dPan pan) := hp.dp
    refine gs_parQ ?_
    refine ⟨.ref a, rfl, (gv_lenT (gv_var (K := K) (i := 1) rfl dp)).at fun v1 H1 s1 dv1 => ?_⟩
    cases dv1
    have D1 := hD.same s1
    refine ⟨a, c, m + 1, _, rfl, D1, by rw [hlp]; omega, by rw [hlp]; omega, fun H2 one b2 D2 o0 o1 => ?_⟩
    rw [hlp] at o1
    have hp2 := (hp.same s1).but D1 b2
    refine ⟨.ref a, rfl, (gv_lenT (gv_var (K := K) (i := 1) rfl hp2.dp)).at fun v2 H3 s3 dv2 => ?_⟩
    cases dv2
    have D3 := D2.same s3
    refine ⟨a, c, m, _, rfl, D3, by rw [hlp]; omega, by rw [hlp]; omega, fun H4 other b4 D4 u0 u1 => ?_⟩
    rw [hlp] at u1
    have hp4 := (hp2.same s3).but D3 b4
    refine ⟨_, _, rfl, ?_⟩
    have hT4 := tabs_but D3 b4 ((tabs_but D1 b2 (hT.ext fun b o e => s1 b o e)).ext fun b o e => s3 b o e)
    have bn4 : ButN a c H H4 := (((ButN.but (But.of s1)).trans (ButN.but b2)).trans (ButN.but (But.of s3))).trans (ButN.but b4)
    refine gs_if1 (gvt_test (K := K) (gv_eqI (gv_var (i := 3) rfl (.int one)) (gv_var (i := 4) rfl (.int other)))) (fun e H5 s5 => ?_) (fun e H5 s5 => ?_)
    · refine gs_ret (gv_bl (K := K)) fun v H6 s6 dv => ?_
      cases dv
      exact q H6 (bn4.trans (ButN.but (But.of (s5.trans s6)))) (D4.same (s5.trans s6)) (hT4.ext fun b o e => s6 b o (s5 b o e))
    · have ne : one ≠ other := of_decide_eq_false e
      have ip : InP2 pan one other := ⟨o0, o1, u0, u1, ne⟩
      have pk := pan_ok hg
      have hp5 := hp4.same s5
      refine gs_parQ ?_
      refine call_SRlen (pan := liM pan one other) (gv_Li (gva_cons (gv_var (i := 1) rfl hp5.dp) (gva_cons (gv_var (i := 3) rfl (.int one)) (gva_cons (gv_var (i := 4) rfl (.int other)) gva_nil))) ⟨pk.1, pk.2, o0, o1⟩) (li_good hg ip) (hT4.ext fun b o e => s5 b o e) fun H6 r1 e6 T6 best1 => ?_
      have hp6 := pat_extN e6 hp5
      refine call_SRlen (pan := unM pan one other) (gv_Un (gva_cons (gv_var (i := 1) rfl hp6.dp) (gva_cons (gv_var (i := 3) rfl (.int one)) (gva_cons (gv_var (i := 4) rfl (.int other)) gva_nil))) ⟨pk.1, pk.2, o0, o1⟩) (un_good hg ip) T6 fun H7 r2 e7 T7 best2 => ?_
      refine ⟨_, _, rfl, ?_⟩
      have n1 := (near_li ip).mn ⟨u0, u1⟩ hM (best_mn best1)
      have n2 := (near_un ip).mn (by rw [(near_un ip).len.symm]; exact ⟨u0, u1⟩) (best_mn best2) hM
      refine gs_ret (gv_chain4 (K := K) (gv_sub (gv_var (i := 2) rfl (.int (mm : Int))) gv_int) (gv_var (i := 5) rfl (.int (r1.length : Int))) (gv_var (i := 2) rfl (.int (mm : Int))) (gv_var (i := 6) rfl (.int (r2.length : Int))) (gv_add (gv_var (i := 2) rfl (.int (mm : Int))) gv_int) (by omega) (by omega) (by omega) (by omega)) fun v H8 s8 dv => ?_
      cases dv
      exact q H8 (((bn4.trans (ButN.but (But.of s5))).trans (ButN.ext (e6.trans e7))).trans (ButN.but (But.of s8))) ((deck_extN (e6.trans e7) (D4.same s5)).same s8) (T7.ext fun b o e => s8 b o e)
end
end K39
namespace K39
open PySem PySem.Spec PyProof.Rows L2 Pr
open LamX
theorem Room.u65 {k : Nat} {A : PySem.Around} (r : Room k A) : A.units + 65 < PySem.cLine := by have := r.un; omega
theorem gs_setQ9 {σ : L2.St} {H : Hp} {t : TE} {i : Nat} {u : TS} {D : Ends} (h : t σ H fun v H' => u D (σ.set i (some v)) H') : tSeq (tAsg t (gName i)) u D σ H := h
theorem shp_intsL (l : List Int) : SeqAt.shaped (.list (l.map PyData.int)) = true := by
  obtain ⟨h1, h2⟩ := canLay_ints l
  simp [SeqAt.shaped, PyData.canLay0, PyData.depth, h1, h2]
theorem eqv_nilL (l : List Int) : PyData.eqv (.list (l.map PyData.int)) (.list []) = decide (l = []) := by
  simp only [PyData.eqv]
  rw [show ([] : List PyData) = ([] : List Int).map PyData.int from rfl, eqv_intsL]
section
variable {K : PySem.W.Frag} {σ : L2.St} {H : Hp} {ta tb : TE} {E : XK}
theorem gv_indexL {i : Nat} {N : Addr} {l : List Int} {k : Int} (hv : σ[i]? = some (some (.ref N))) (eN : H N = some (.lst (l.map V.int))) (ha : Gv K ta σ H (.int k)) (hk : k ∈ l) : Gv K (tBM K "list" (rIndexD K) (tVar i) (tCons ta tNil)) σ H (.int (l.idxOf k : Nat)) := fun H1 s Q q =>
  ⟨.ref N, hv, .inl ⟨rfl, _, .inl (.inl (s _ _ eN))⟩, ha H1 s _ fun v H2 s2 d2 => by
    cases d2
    obtain ⟨i1, i2⟩ := idx_at hk
    refine ⟨N, .int k, .int k, l.map PyData.int, l.idxOf k, .int k, rfl, rfl, .lst (.inl (.inl (s2 _ _ (s _ _ eN)))) (dpAll_ints l), .int k, shp_intsL l, rfl, by rw [List.getElem?_map, i1]; rfl, by simp [PyData.eqv], fun m z' hm hz => ?_, q _ _ s2 (.int _)⟩
    rw [List.getElem?_map] at hz
    cases e : l[m]? with
    | none => rw [e] at hz; cases hz
    | some y =>
      rw [e] at hz
      cases hz
      have : y ≠ k := fun z => i2 m hm (by rw [e, z])
      simpa [PyData.eqv] using this⟩
end
def nNames : List Str := ["_law_deck_here", "_law_panel_here", "_law_many", "_law_left", "_law_names", "_law_found", "_law_back", "_law_button"]
theorem scNames : FnScope nNames ["_law_deck_here", "_law_panel_here", "_law_many"] (defScope sNames) := ⟨rfl, rfl, rfl, by decide +kernel, rfl, by decide +kernel, by decide +kernel⟩
section
variable {P : Program} {w : World} {K : PySem.W.Frag} {mg : Str → Option Value} {base : Heap}
def spNames (K : PySem.W.Frag) (pS : Addr) : Sp := fun vs H Q _ => ∃ (a c p : Addr) (m mm : Nat) (pan : List (List Int)), vs = [.ref a, .ref p, .int (mm : Int)] ∧ Deck H a c (m + 10) ∧ PanAt H p pan ∧ Good pan ∧ Mn pan mm ∧ Tabs (TSR pS) H ∧
  ∀ (H' : Hp), ButN a c H H' → Deck H' a c m → Tabs (TSR pS) H' → Q (.bl true) H'
theorem ok_Names {fNo : Addr} {fdNo : FuncData} {fPressE : Addr} {fdPressE : FuncData} {fJoin : Addr} {fdJoin : FuncData} {fWith : Addr} {fdWith : FuncData} {fEff : Addr} {fdEff : FuncData} {fBetw : Addr} {fdBetw : FuncData} {fReset : Addr} {fdReset : FuncData} {fSReset : Addr} {fdSReset : FuncData} {fRen : Addr} {fdRen : FuncData} {fDraw : Addr} {fdDraw : FuncData} {f : Addr} {fd : FuncData} {k : Nat} (F : Fun K "_law_names_right" "_law_names_right" sNames f fd)
    (FNo : Fun K "no_effect" "no_effect" sNo fNo fdNo) (bNo : Binds K fdNo ["panel"] []) (gNo : mg "no_effect" = some (.ref fNo))
    (FPressE : Fun K "press_effect" "press_effect" sPressE fPressE fdPressE) (bPressE : Binds K fdPressE ["panel", "button"] []) (gPressE : mg "press_effect" = some (.ref fPressE))
    (FJoin : Fun K "joined_effect" "joined_effect" sJoin fJoin fdJoin) (bJoin : Binds K fdJoin ["first", "second"] []) (gJoin : mg "joined_effect" = some (.ref fJoin))
    (FWith : Fun K "effect_with_press" "effect_with_press" sWith fWith fdWith) (bWith : Binds K fdWith ["panel", "effect", "button"] []) (gWith : mg "effect_with_press" = some (.ref fWith))
    (FEff : Fun K "effect_of" "effect_of" sEff fEff fdEff) (bEff : Binds K fdEff ["panel", "row"] []) (gEff : mg "effect_of" = some (.ref fEff))
    (FBetw : Fun K "states_between" "states_between" sBetw fBetw fdBetw) (bBetw : Binds K fdBetw ["least", "most"] []) (gBetw : mg "states_between" = some (.ref fBetw))
    (FReset : Fun K "is_reset" "is_reset" sReset fReset fdReset) (bReset : Binds K fdReset ["panel", "row"] []) (gReset : mg "is_reset" = some (.ref fReset))
    (FSReset : Fun K "shortest_reset" "shortest_reset" sSReset fSReset fdSReset) (bSReset : Binds K fdSReset ["panel"] []) (gSReset : mg "shortest_reset" = some (.ref fSReset))
    (FRen : Fun K "renamed" "renamed" sRen fRen fdRen) (bRen : Binds K fdRen ["panel", "names"] []) (gRen : mg "renamed" = some (.ref fRen))
    (FDraw : Fun K "_law_draw" "_law_draw" sDraw fDraw fdDraw) (bDraw : Binds K fdDraw ["_law_deck_here", "_law_bound"] []) (gDraw : mg "_law_draw" = some (.ref fDraw))
    (m_enumerate : mg "enumerate" = none) (m_len : mg "len" = none) (m_list : mg "list" = none) (m_max : mg "max" = none) (m_min : mg "min" = none) (m_range : mg "range" = none) (m_sorted : mg "sorted" = none) (m_tuple : mg "tuple" = none) (m_zip : mg "zip" = none) {cS pS : Addr} (ecS : fdSReset.code = .ref cS) (TBS : TabB base mg cS pS) : FnOk P w K mg base CX0 (k + 7) f fd ["_law_deck_here", "_law_panel_here", "_law_many"] (spNames K pS) := by
  have GDraw : FnOk P w K mg base CX0 (k + 1) fDraw fdDraw ["_law_deck_here", "_law_bound"] spDraw := ok_draw FDraw m_len m_max
  have GSReset : FnOk P w K mg base CX0 (k + 6) fSReset fdSReset ["panel"] (spSReset K pS) := ok_SReset FSReset FNo bNo gNo FPressE bPressE gPressE FJoin bJoin gJoin FWith bWith gWith FEff bEff gEff FBetw bBetw gBetw FReset bReset gReset m_len m_list m_range m_sorted m_tuple m_zip m_min ecS TBS
  have GRen : FnOk P w K mg base CX0 (k + 1) fRen fdRen ["panel", "names"] (spRen K) := ok_Ren FRen m_enumerate m_list m_sorted m_tuple
  have GReset : FnOk P w K mg base CX0 (k + 5) fReset fdReset ["panel", "row"] (spReset K) := ok_Reset FReset FNo bNo gNo FPressE bPressE gPressE FJoin bJoin gJoin FWith bWith gWith FEff bEff gEff m_len m_list m_tuple m_zip
  refine F.ok scNames (fun vs H Q E h => ?_) (fun cdv A outer s H vs Q E hr h => ?_)
  · obtain ⟨a, c, p, m, mm, pan, rfl, _⟩ := h
    rfl
  · obtain ⟨a, c, p, m, mm, pan, rfl, hD, hp, hg, hM, hT, q⟩ := h
    refine ⟨_, pss_cons (ps_asg (pe_tup (pa_cons (pe_listRg rfl (by rfl) m_list (prg_1 (by rfl) m_range (pe_callB (show CallR _ _ (rLenG K) from cr_lenG) (by rfl) m_len PySem.boot_len (pa_cons (pv 1) pa_nil)))) (pa_cons (pe_lst pa_nil) pa_nil))) (pg_tup rfl (pgs_cons (pg_name (i := 3) scNames.nd rfl (Or.inl rfl)) (pgs_cons (pg_name (i := 4) scNames.nd rfl (Or.inr rfl)) pgs_nil))))
      (pss_cons (ps_while PassesOwn.never (pt_cmpR (show OpR _ _ (rNeD K) from op_neD hr.units) (pv 3) (pe_lst pa_nil) (nomark _)) (pss_one (ps_expr (show PE _ _ (tBM K "list" rAppend _ _) from pe_bm PySem.F.plainAttrs_list PySem.F.slot_list_append PySem.F.type_list_append mt_append (pv 4) (pa_cons (show PE _ _ (tBM K "list" rPopAt _ _) from pe_bm PySem.F.plainAttrs_list PySem.F.slot_list_pop PySem.F.type_list_pop mt_popAt (pv 3) (pa_cons (pe_call GDraw (hr.mono (by omega)) (by rfl) gDraw FDraw.kp bDraw .nil pass0 (pa_cons (pv 0) (pa_cons (pe_callB (show CallR _ _ (rLenG K) from cr_lenG) (by rfl) m_len PySem.boot_len (pa_cons (pv 3) pa_nil)) pa_nil))) pa_nil)) pa_nil)))))
      (pss_cons (ps_set (i := 5) scNames.nd rfl (.inl rfl) (pe_call GSReset (hr.mono (by omega)) (by rfl) gSReset FSReset.kp bSReset .nil pass0 (pa_cons (pe_call GRen (hr.mono (by omega)) (by rfl) gRen FRen.kp bRen .nil pass0 (pa_cons (pv 1) (pa_cons (pe_callTy (show CallR _ _ (rTupG K) from cr_tupG) (by rfl) m_tuple (by decide +kernel) (pa_cons (pv 4) pa_nil)) pa_nil))) pa_nil)))
      (pss_cons (ps_set (i := 6) scNames.nd rfl (.inl rfl) (pe_callTy (show CallR _ _ (rTupG K) from cr_tupG) (by rfl) m_tuple (by decide +kernel) (pa_cons (pe_lc (own := [("_law_button", 7)]) (g := gName 7) (tt := tYes) rfl scNames.nd (show PI _ _ _ (iTup K _) from pi_tup (pv 5)) (blkOk_by (own := [("_law_button", 7)]) (N := nNames) (sc := defScope sNames) (by decide +kernel)) (fun _ _ _ _ _ => pg_name (i := 7) scNames.nd rfl (Or.inl rfl)) (fun _ _ _ _ _ => pts_nil) (fun _ _ _ _ _ => show PE _ _ (tBM K "list" (rIndexD K) _ _) from pe_bm PySem.F.plainAttrs_list PySem.F.slot_list_index PySem.F.type_list_index (mt_indexD (Room.u65 hr)) (pv 4) (pa_cons (pv 7) pa_nil))) pa_nil)))
      (pss_one (ps_ret (pe_and (pe_cmpR op_eq (pe_callB (show CallR _ _ (rLenG K) from cr_lenG) (by rfl) m_len PySem.boot_len (pa_cons (pv 5) pa_nil)) (pv 2) (nomark _)) (pe_one (pe_cmpR op_isT (pe_call GReset (hr.mono (by omega)) (by rfl) gReset FReset.kp bReset .nil pass0 (pa_cons (pv 1) (pa_cons (pv 6) pa_nil))) pe_bl (by rfl))))))))), ?_⟩
    have few := hg.few
    have pos := hg.pos
    have hlp : (pan.map dInts).length = pan.length := List.length_map _
    have dp : Dp K H (.ref p) (dPan pan) := hp.dp
    refine (gv_lenT (gv_var (K := K) (i := 1) rfl dp)).at fun v1 H1 s1 dv1 => ?_
    cases dv1
    rw [hlp]
    refine ⟨_, rfl, ⟨by omega, by omega, by omega, by omega, by omega⟩, fun L nL => ?_⟩
    rw [rgV_intL]
    have s2 := same_new (o := HO.lst ((intL pan.length).map V.int)) nL
    have eL2 : (upd H1 L (.lst ((intL pan.length).map V.int))) L = some (.lst ((intL pan.length).map V.int)) := upd_same
    have fL := (hD.same s1).fresh nL
    have nL0 : H L = none := s1.free nL
    generalize upd H1 L (.lst ((intL pan.length).map V.int)) = H2 at s2 eL2 ⊢
    refine ⟨by decide, fun N nN => ?_⟩
    have s3 := same_new (o := HO.lst []) nN
    have eN3 : (upd H2 N (.lst [])) N = some (.lst []) := upd_same
    have fN := ((hD.same s1).same s2).fresh nN
    have nLN : N ≠ L := fun z => by rw [z, eL2] at nN; cases nN
    have nN0 : H N = none := s1.free (s2.free nN)
    generalize upd H2 N (.lst []) = H3 at s3 eN3 ⊢
    refine ⟨(show 2 ≤ sizeLine by decide), fun T nT => ?_⟩
    have s4 := same_new (o := HO.tup [V.ref L, V.ref N]) nT
    refine ⟨T, [.ref L, .ref N], rfl, .inl (.inl upd_same), rfl, .ref L, [.ref N], rfl, .ref N, [], rfl, rfl, ?_⟩
    generalize upd H3 T (.tup [V.ref L, V.ref N]) = H4 at s4 ⊢
    have s04 := s1.trans (s2.trans (s3.trans s4))
    show tSeq (tWhile _ _) _ _ _ _
    refine gs_seqS (fun σ H' => ∃ (acc : List Int) (x5 x6 x7 : Option V), IsP pan.length acc ∧ H' N = some (.lst (acc.map V.int)) ∧ But a c H H' ∧ Deck H' a c m ∧ σ = [some (.ref a), some (.ref p), some (.int (mm : Int)), some (.ref L), some (.ref N), x5, x6, x7]) ?rest ?loop
    case loop =>
      intro hk0
      refine ⟨fun mu σ H' => ∃ (left acc : List Int) (x5 x6 x7 : Option V), left.length = mu ∧ (acc ++ left).Perm (intL pan.length) ∧ H' L = some (.lst (left.map V.int)) ∧ H' N = some (.lst (acc.map V.int)) ∧ But a c H H' ∧ Deck H' a c (m + mu) ∧ σ = [some (.ref a), some (.ref p), some (.int (mm : Int)), some (.ref L), some (.ref N), x5, x6, x7],
        ⟨pan.length, intL pan.length, [], none, none, none, intL_len _, List.Perm.refl _, s4 _ _ (s3 _ _ eL2), s4 _ _ eN3, But.of s04, (hD.same s04).less (by omega), rfl⟩, fun mu σ H' hW => ?_⟩
      obtain ⟨left, acc, x5, x6, x7, ll, pm, eL, eN, b5, D5, rfl⟩ := hW
      have pl := pm.length_eq
      rw [List.length_append, intL_len] at pl
      refine (gvt_test (K := K) (b := !decide (left = [])) ((gv_neD (gl_var (i := 3) rfl eL (dpAll_ints left)).gv (gv_lst gva_nil) (shp_intsL left) rfl).to (by rw [eqv_nilL]))).at fun H6 s6 => ?_
      cases left with
      | nil =>
        refine (if_neg (by simp)).mpr ?_
        rw [List.append_nil] at pm
        have la : acc.length = pan.length := by simp at pl; omega
        exact hk0 _ _ ⟨acc, x5, x6, x7, ⟨la, pm.nodup_iff.mpr (isP_intL _).nd, fun x hx => mem_intL.mp (pm.subset hx)⟩, s6 _ _ eN, b5.trans (But.of s6), (D5.same s6).less (by omega), rfl⟩
      | cons y rest =>
        refine (if_pos (by simp)).mpr ?_
        rw [List.length_cons] at ll pl
        have eL6 := s6 _ _ eL
        have eN6 := s6 _ _ eN
        have D6 := D5.same s6
        refine ⟨fun σ' H' => ∃ mu', mu' < mu ∧ ∃ (left acc : List Int) (x5 x6 x7 : Option V), left.length = mu' ∧ (acc ++ left).Perm (intL pan.length) ∧ H' L = some (.lst (left.map V.int)) ∧ H' N = some (.lst (acc.map V.int)) ∧ But a c H H' ∧ Deck H' a c (m + mu') ∧ σ' = [some (.ref a), some (.ref p), some (.int (mm : Int)), some (.ref L), some (.ref N), x5, x6, x7], fun σ' H' h => h, ?_⟩
        refine ⟨.ref N, rfl, .inl ⟨rfl, _, .inl (.inl eN6)⟩, .ref L, rfl, .inl ⟨rfl, _, .inl (.inl eL6)⟩, .ref a, rfl, .ref L, rfl, L, _, rfl, .inl (.inl (.inl eL6)), a, c, m + rest.length, _, rfl, D6.less (by omega), by rw [List.length_map, List.length_cons]; omega, by rw [List.length_map, List.length_cons]; omega, fun H7 r b7 D7 r0 r1 => ?_⟩
        rw [List.length_map, List.length_cons] at r1
        have eL7 := b7 _ _ fL.1 fL.2 eL6
        have eN7 := b7 _ _ fN.1 fN.2 eN6
        have hr : r.toNat < (y :: rest).length := by rw [List.length_cons]; omega
        refine ⟨L, _, r, r.toNat, .int (y :: rest)[r.toNat], rfl, rfl, eL7, by omega, by omega, ?_, by rw [List.getElem?_map, List.getElem?_eq_getElem hr]; rfl, N, acc.map V.int, _, rfl, rfl, by rw [upd_ne nLN]; exact eN7, by rw [List.length_map]; exact small1000 (by omega), ?_⟩
        · rw [List.length_map, List.length_cons]; exact seqIndex_of (by omega) (by omega)
        · refine ⟨rest.length, by omega, (y :: rest).eraseIdx r.toNat, acc ++ [(y :: rest)[r.toNat]], x5, x6, x7, ?_, ?_, ?_, ?_, ?_, ?_, rfl⟩
          · rw [List.length_eraseIdx, if_pos hr, List.length_cons]; omega
          · refine List.Perm.trans ?_ pm
            rw [List.append_assoc]
            refine List.Perm.append_left _ ?_
            rw [List.eraseIdx_eq_take_drop_succ]
            conv => rhs; rw [← List.take_append_drop r.toNat (y :: rest), List.drop_eq_getElem_cons hr]
            rw [List.singleton_append]
            exact List.perm_middle.symm
          · rw [upd_ne (Ne.symm nLN), upd_same, erase_mapI]
          · rw [upd_same, List.map_append]; rfl
          · intro b o h1 h2 e
            have nb1 : b ≠ N := fun z => by rw [z, nN0] at e; cases e
            have nb2 : b ≠ L := fun z => by rw [z, nL0] at e; cases e
            rw [upd_ne nb1, upd_ne nb2]
            exact b7 _ _ h1 h2 (s6 _ _ (b5 _ _ h1 h2 e))
          · obtain ⟨cs, nn, e1, e2, e3⟩ := D7
            exact ⟨cs, nn, by rw [upd_ne (Ne.symm fN.1), upd_ne (Ne.symm fL.1)]; exact e1, by rw [upd_ne (Ne.symm fN.2), upd_ne (Ne.symm fL.2)]; exact e2, e3⟩
    case rest =>
      rintro σ H5 ⟨acc, x5, x6, x7, isp, eN, b5, D5, rfl⟩
      have hp5 := hp.but hD b5
      have T5 := tabs_but hD b5 hT
      refine gs_setQ9 ?_
      refine call_SR (pan := renM pan acc) (gv_Ren (gva_cons (gv_var (i := 1) rfl hp5.dp) (gva_cons ((gv_tupL (gl_var (i := 4) rfl eN (dpAll_ints acc)).gv).to rfl) gva_nil)) ⟨hg, isp⟩) (ren_good hg isp) T5 fun H6 f row e6 T6 sqf best => ?_
      have eN6 := e6 _ _ eN (fun _ z => by cases z)
      have hp6 := pat_extN e6 hp5
      have mn := best_mn best
      have rg := best.asc.rng
      rw [renM_len] at rg
      have rl : row.length ≤ 10 := by have := best.asc.len; rw [renM_len] at this; omega
      refine gs_set1 (K := K) ((gv_tupL (gv_lc (δ := PyData.int) (as := row) (p := fun _ => true) (f := fun x => .int ((acc.idxOf x : Nat) : Int)) (gvi_tup (gv_var (i := 5) rfl (dp_ints sqf))) (fun x v Hz hx sz dz => ⟨gvt_yes, fun _ => gv_indexL (i := 4) rfl (sz _ _ eN6) (gv_var rfl dz) (isp.mem (rg x hx).1 (rg x hx).2)⟩) (fun _ _ => rfl) (by omega))).to (e := dInts (row.map fun x => ((acc.idxOf x : Nat) : Int))) ?_) fun v H7 s7 dv => ?_
      · rw [List.filter_eq_self.mpr (fun _ _ => rfl)]
        unfold dInts
        rw [List.map_map]; rfl
      · obtain ⟨in7, cov7⟩ := ren_back isp hg.rng rg (cov_iff.mp best.res)
        have hm := ren_mn isp hg.rng hM mn
        refine gs_ret ((gv_andV (K := K) (b := true) (c := true) ((gv_eqI ((gv_lenT (gv_var (i := 5) rfl (dp_ints (same_sqT s7 sqf)))).to (by rw [List.length_map])) (gv_var (i := 2) rfl (.int (mm : Int)))).to (by rw [hm, decide_eq_true rfl])) fun _ => gv_isT ((gv_Reset (gva_cons (gv_var (i := 1) rfl (hp6.same s7).dp) (gva_cons (gv_var (i := 6) rfl dv) gva_nil)) hg in7).to (by rw [decide_eq_false (cov_iff.mpr cov7)]; rfl))).to rfl) fun v H8 s8 dv8 => ?_
        cases dv8
        exact q H8 (((ButN.but b5).trans (ButN.ext e6)).trans (ButN.but (But.of (s7.trans s8)))) ((deck_extN e6 D5).same (s7.trans s8)) (T6.ext fun b o e => s8 b o (s7 b o e))
end
end K39
namespace Pr
open PySem PySem.Spec PyProof.Rows L2
theorem hideD {t : TS} {D : Ends} {σ : L2.St} {H : Hp} (h : ∀ D' : Ends, (∀ σ H, D.nx σ H → D'.nx σ H) → t D' σ H) : t D σ H := h D fun _ _ z => z
end Pr
namespace K39
open PySem PySem.Spec PyProof.Rows L2 Pr
open LamX
theorem most_ix : ∀ i : Nat, i < 4 → ∃ most : Int, ([.int 10, .int 8, .int 6, .int 5] : List PyData)[i]? = some (.int most) ∧ 1 ≤ most ∧ most ≤ 10
  | 0, _ => ⟨10, rfl, by decide, by decide⟩
  | 1, _ => ⟨8, rfl, by decide, by decide⟩
  | 2, _ => ⟨6, rfl, by decide, by decide⟩
  | 3, _ => ⟨5, rfl, by decide, by decide⟩
  | n + 4, h => by omega
def constT (x : V) : TE := fun σ H Q => Q x H
theorem gv_const {K : PySem.W.Frag} {σ : L2.St} {H : Hp} {x : V} {d : PyData} (h : Dp K H x d) : Gv K (constT x) σ H d := fun H1 s Q q => q x H1 (Same.refl _) (h.sm s)
theorem ButN.sqT {K : PySem.W.Frag} {a c p : Addr} {H H' : Hp} {m : Nat} {xs : List V} (d : Deck H a c m) (b : ButN a c H H') (h : SqT K H p xs) : SqT K H' p xs := by
  rcases h with (h | ⟨o, h⟩) | h
  · have ap := d.apart h (fun _ => by intro z; cases z)
    exact .inl (.inl (b _ _ ap.1 ap.2 h (fun _ z => by cases z)))
  · have ap := d.apart h (fun _ => by intro z; cases z)
    exact .inl (.inr ⟨o, b _ _ ap.1 ap.2 h (fun _ z => by cases z)⟩)
  · exact .inr h
theorem bes_two (a b : List (List Int)) : besM [a, b] = besP a b := by
  unfold besM besP
  rw [List.foldl_cons, List.foldl_cons, List.foldl_nil, List.nil_append]
  have h0 : shM 0 a = a := by
    unfold shM
    refine (List.map_congr_left fun l _ => ?_).trans (List.map_id a)
    refine (List.map_congr_left fun x _ => ?_).trans (List.map_id l)
    show ((0 : Nat) : Int) + x = x
    omega
  rw [show ([] : List (List Int)).length = 0 from rfl, h0]
  rfl
section
variable {K : PySem.W.Frag} {σ : L2.St} {H : Hp} {ta' : TA} {E : XK}
theorem gvt_apart {i j : Nat} {p f : Addr} {pan : List (List Int)} {row : List Int} (hv : σ[i]? = some (some (.ref p))) (hp : PanAt H p pan) (hg : Good pan) (hw : σ[j]? = some (some (.ref f))) (hf : SqT K H f (row.map V.int)) (hin : InR pan.length row) (hc : Cov pan row) :
    GvT (tTest (tOp (rI0 fun i j => V.bl (decide (i ≤ j))) (tCall (spApart K) [] E (tCons (tVar i) tNil)) (tCB (rLenG K) (tCons (tVar j) tNil)))) σ H true := fun H1 s Q q =>
  ⟨.ref p, hv, p, pan, rfl, hp.same s, hg, fun H2 k s2 hk => ⟨.ref f, hw, f, _, rfl, .inr (same_sqT (s.trans s2) hf), (k : Int), _, rfl, rfl, true, by
    have := hk row hin hc
    rw [List.length_map]
    show V.bl (decide ((k : Int) ≤ (row.length : Int))) = V.bl true
    rw [decide_eq_true (by omega)], q H2 s2⟩⟩
theorem gv_Bes {ps : List (List (List Int))} (h : GvA K ta' σ H (ps.map dPan)) (ok : OkPs ps) (ht : totM ps ≤ 10) : Gv K (fun σ H Q => ta' σ H fun vs H1 => spBes K vs H1 Q E) σ H (dPan (besM ps)) := fun H1 s Q q => h H1 s _ fun vs H2 s2 dv => by
  have lv : vs.length = ps.length := by have := dv.length; rwa [List.length_map] at this
  refine ⟨[], vs, rfl, rfl, ?_, fun p np => ⟨p, ps, rfl, .tup (.inl (.inl upd_same)) (dv.sm (same_new np)), ok, ht, fun v H3 s3 dv3 => q v H3 (s2.trans ((same_new np).trans s3)) dv3⟩⟩
  have := ok.few
  exact Nat.le_trans (by omega) (show 11 ≤ sizeLine by decide)
end
theorem drop_one {pan : List (List Int)} {row : List Int} {k : Nat} (hm : Mn pan row.length) (hin : InR pan.length row) (hk : k < row.length) : InR pan.length (row.take k ++ row.drop (k + 1)) ∧ ¬ Cov pan (row.take k ++ row.drop (k + 1)) := by
  have h1 : InR pan.length (row.take k ++ row.drop (k + 1)) := fun x hx => by
    rcases List.mem_append.mp hx with z | z
    · exact hin x (List.mem_of_mem_take z)
    · exact hin x (List.mem_of_mem_drop z)
  refine ⟨h1, fun h => ?_⟩
  have := hm.le _ h1 h
  rw [List.length_append, List.length_take, List.length_drop] at this
  omega
theorem few_not {pan : List (List Int)} {r : List Int} {m : Nat} (hm : Mn pan m) (hp : 1 ≤ pan.length) (hin : InR pan.length r) : InR pan.length (r.take (m - 1)) ∧ ¬ Cov pan (r.take (m - 1)) := by
  have h1 : InR pan.length (r.take (m - 1)) := fun x hx => hin x (List.mem_of_mem_take hx)
  refine ⟨h1, fun h => ?_⟩
  have mp := hm.pos hp
  have := hm.le _ h1 h
  rw [List.length_take] at this
  omega
def nLaw : List Str := ["_law_script", "_law_deck_here", "_law_turn", "_law_panel_here", "_law_found", "_law_k", "_law_one", "_law_other"]
theorem scLaw : FnScope nLaw ["_law_script"] (defScope sLaw) := ⟨rfl, rfl, rfl, by decide +kernel, rfl, by decide +kernel, by decide +kernel⟩
section
variable {P : Program} {w : World} {K : PySem.W.Frag} {mg : Str → Option Value} {base : Heap}
def spLaw (K : PySem.W.Frag) (pS : Addr) : Sp := fun vs H Q _ => ∃ (s : Addr) (ns : List Int), vs = [.ref s] ∧ SqL K H s (ns.map V.int) ∧ ns.length ≤ 63 ∧ Tabs (TSR pS) H ∧ ∀ H', Q (.bl true) H'
theorem ok_law {fNo : Addr} {fdNo : FuncData} {fPressE : Addr} {fdPressE : FuncData} {fJoin : Addr} {fdJoin : FuncData} {fWith : Addr} {fdWith : FuncData} {fEff : Addr} {fdEff : FuncData} {fRel : Addr} {fdRel : FuncData} {fBetw : Addr} {fdBetw : FuncData} {fReset : Addr} {fdReset : FuncData} {fSReset : Addr} {fdSReset : FuncData} {fWl : Addr} {fdWl : FuncData} {fLi : Addr} {fdLi : FuncData} {fUn : Addr} {fdUn : FuncData} {fRen : Addr} {fdRen : FuncData} {fBes : Addr} {fdBes : FuncData} {fDeck : Addr} {fdDeck : FuncData} {fDraw : Addr} {fdDraw : FuncData} {fPanel : Addr} {fdPanel : FuncData} {fRow : Addr} {fdRow : FuncData} {fApart : Addr} {fdApart : FuncData} {fLinks : Addr} {fdLinks : FuncData} {fNames : Addr} {fdNames : FuncData} {f : Addr} {fd : FuncData} (F : Fun K "law" "law" sLaw f fd)
    (FNo : Fun K "no_effect" "no_effect" sNo fNo fdNo) (bNo : Binds K fdNo ["panel"] []) (gNo : mg "no_effect" = some (.ref fNo))
    (FPressE : Fun K "press_effect" "press_effect" sPressE fPressE fdPressE) (bPressE : Binds K fdPressE ["panel", "button"] []) (gPressE : mg "press_effect" = some (.ref fPressE))
    (FJoin : Fun K "joined_effect" "joined_effect" sJoin fJoin fdJoin) (bJoin : Binds K fdJoin ["first", "second"] []) (gJoin : mg "joined_effect" = some (.ref fJoin))
    (FWith : Fun K "effect_with_press" "effect_with_press" sWith fWith fdWith) (bWith : Binds K fdWith ["panel", "effect", "button"] []) (gWith : mg "effect_with_press" = some (.ref fWith))
    (FEff : Fun K "effect_of" "effect_of" sEff fEff fdEff) (bEff : Binds K fdEff ["panel", "row"] []) (gEff : mg "effect_of" = some (.ref fEff))
    (FRel : Fun K "releasers_of" "releasers_of" sRel fRel fdRel) (bRel : Binds K fdRel ["panel", "button"] []) (gRel : mg "releasers_of" = some (.ref fRel))
    (FBetw : Fun K "states_between" "states_between" sBetw fBetw fdBetw) (bBetw : Binds K fdBetw ["least", "most"] []) (gBetw : mg "states_between" = some (.ref fBetw))
    (FReset : Fun K "is_reset" "is_reset" sReset fReset fdReset) (bReset : Binds K fdReset ["panel", "row"] []) (gReset : mg "is_reset" = some (.ref fReset))
    (FSReset : Fun K "shortest_reset" "shortest_reset" sSReset fSReset fdSReset) (bSReset : Binds K fdSReset ["panel"] []) (gSReset : mg "shortest_reset" = some (.ref fSReset))
    (FWl : Fun K "with_list" "with_list" sWl fWl fdWl) (bWl : Binds K fdWl ["panel", "button", "released"] []) (gWl : mg "with_list" = some (.ref fWl))
    (FLi : Fun K "linked" "linked" sLi fLi fdLi) (bLi : Binds K fdLi ["panel", "one", "other"] []) (gLi : mg "linked" = some (.ref fLi))
    (FUn : Fun K "unlinked" "unlinked" sUn fUn fdUn) (bUn : Binds K fdUn ["panel", "one", "other"] []) (gUn : mg "unlinked" = some (.ref fUn))
    (FRen : Fun K "renamed" "renamed" sRen fRen fdRen) (bRen : Binds K fdRen ["panel", "names"] []) (gRen : mg "renamed" = some (.ref fRen))
    (FBes : Fun K "beside" "beside" sBes fBes fdBes) (gBes : mg "beside" = some (.ref fBes))
    (FDeck : Fun K "_law_deck" "_law_deck" sDeck fDeck fdDeck) (bDeck : Binds K fdDeck ["_law_script"] []) (gDeck : mg "_law_deck" = some (.ref fDeck))
    (FDraw : Fun K "_law_draw" "_law_draw" sDraw fDraw fdDraw) (bDraw : Binds K fdDraw ["_law_deck_here", "_law_bound"] []) (gDraw : mg "_law_draw" = some (.ref fDraw))
    (FPanel : Fun K "_law_panel" "_law_panel" sPanel fPanel fdPanel) (bPanel : Binds K fdPanel ["_law_deck_here", "_law_most"] []) (gPanel : mg "_law_panel" = some (.ref fPanel))
    (FRow : Fun K "_law_row" "_law_row" sRow fRow fdRow) (bRow : Binds K fdRow ["_law_deck_here", "_law_n", "_law_most"] []) (gRow : mg "_law_row" = some (.ref fRow))
    (FApart : Fun K "_law_apart" "_law_apart" sApart fApart fdApart) (bApart : Binds K fdApart ["_law_panel_here"] []) (gApart : mg "_law_apart" = some (.ref fApart))
    (FLinks : Fun K "_law_links_right" "_law_links_right" sLinks fLinks fdLinks) (bLinks : Binds K fdLinks ["_law_deck_here", "_law_panel_here", "_law_many"] []) (gLinks : mg "_law_links_right" = some (.ref fLinks))
    (FNames : Fun K "_law_names_right" "_law_names_right" sNames fNames fdNames) (bNames : Binds K fdNames ["_law_deck_here", "_law_panel_here", "_law_many"] []) (gNames : mg "_law_names_right" = some (.ref fNames))
    (m_abs : mg "abs" = none) (m_enumerate : mg "enumerate" = none) (m_int : mg "int" = none) (m_len : mg "len" = none) (m_list : mg "list" = none) (m_max : mg "max" = none) (m_min : mg "min" = none) (m_range : mg "range" = none) (m_set : mg "set" = none) (m_sorted : mg "sorted" = none) (m_sum : mg "sum" = none) (m_tuple : mg "tuple" = none) (m_zip : mg "zip" = none) {cS pS : Addr} (ecS : fdSReset.code = .ref cS) (TBS : TabB base mg cS pS) {tkM : Tok} (y_MAX_BUTTONS : mg "MAX_BUTTONS" = some (.int 10 tkM)) : FnG P w K mg base (8) f fd ["_law_script"] (spLaw K pS) := by
  have GDeck : FnOk P w K mg base CX0 (1) fDeck fdDeck ["_law_script"] (spDeck K) := ok_deck FDeck m_abs
  have GPanel : FnOk P w K mg base CX0 (2) fPanel fdPanel ["_law_deck_here", "_law_most"] spPanel := ok_panel FPanel FDraw bDraw gDraw m_len m_range m_tuple m_int m_max m_set m_sorted
  have GSReset : FnOk P w K mg base CX0 (6) fSReset fdSReset ["panel"] (spSReset K pS) := ok_SReset FSReset FNo bNo gNo FPressE bPressE gPressE FJoin bJoin gJoin FWith bWith gWith FEff bEff gEff FBetw bBetw gBetw FReset bReset gReset m_len m_list m_range m_sorted m_tuple m_zip m_min ecS TBS
  have GApart : FnOk P w K mg base CX0 (2) fApart fdApart ["_law_panel_here"] (spApart K) := ok_Apart FApart FRel bRel gRel m_enumerate m_len m_list m_range m_sorted m_tuple
  have GReset : FnOk P w K mg base CX0 (5) fReset fdReset ["panel", "row"] (spReset K) := ok_Reset FReset FNo bNo gNo FPressE bPressE gPressE FJoin bJoin gJoin FWith bWith gWith FEff bEff gEff m_len m_list m_tuple m_zip
  have GRow : FnOk P w K mg base CX0 (2) fRow fdRow ["_law_deck_here", "_law_n", "_law_most"] spRow := ok_row FRow FDraw bDraw gDraw m_len m_range m_tuple m_max
  have GNames : FnOk P w K mg base CX0 (7) fNames fdNames ["_law_deck_here", "_law_panel_here", "_law_many"] (spNames K pS) := ok_Names FNames FNo bNo gNo FPressE bPressE gPressE FJoin bJoin gJoin FWith bWith gWith FEff bEff gEff FBetw bBetw gBetw FReset bReset gReset FSReset bSReset gSReset FRen bRen gRen FDraw bDraw gDraw m_enumerate m_len m_list m_max m_min m_range m_sorted m_tuple m_zip ecS TBS
  have GLinks : FnOk P w K mg base CX0 (7) fLinks fdLinks ["_law_deck_here", "_law_panel_here", "_law_many"] (spLinks K pS) := ok_Links FLinks FNo bNo gNo FPressE bPressE gPressE FJoin bJoin gJoin FWith bWith gWith FEff bEff gEff FBetw bBetw gBetw FReset bReset gReset FSReset bSReset gSReset FWl bWl gWl FLi bLi gLi FUn bUn gUn FDraw bDraw gDraw m_enumerate m_len m_list m_max m_min m_range m_sorted m_tuple m_zip ecS TBS
  have GBes : FnR P w K mg base CX0 1 fBes (spBes K) := ok_Bes FBes y_MAX_BUTTONS m_len m_sum m_tuple
  refine okG F scLaw (fun vs H Q E h => ?_) (fun cdv A outer s H vs Q E gd hr h => ?_)
  · obtain ⟨s, ns, rfl, _⟩ := h
    rfl
  · obtain ⟨sc, ns, rfl, hS, hlen, hT0, q⟩ := h
    refine ⟨_, pss_cons (ps_set (i := 1) scLaw.nd rfl (.inl rfl) (pe_call GDeck (hr.mono (by omega)) (by rfl) gDeck FDeck.kp bDeck .nil pass0 (pa_cons (pv 0) pa_nil)))
      (pss_cons (ps_for PassesOwn.never rfl (pi_range1 (by rfl) m_range (pa_cons pe_int pa_nil)) (pg_name (i := 2) scLaw.nd rfl (Or.inl rfl)) (pss_cons (ps_set (i := 3) scLaw.nd rfl (.inl rfl) (pe_call GPanel (hr.mono (by omega)) (by rfl) gPanel FPanel.kp bPanel .nil pass0 (pa_cons (pv 1) (pa_cons (pe_ix (show IxR _ (rIxL K) from ix_list) (pe_lst (pa_cons pe_int (pa_cons pe_int (pa_cons pe_int (pa_cons pe_int pa_nil))))) (pv 2) (fun _ _ => rfl)) pa_nil))))
      (pss_cons (ps_set (i := 4) scLaw.nd rfl (.inl rfl) (pe_call GSReset (hr.mono (by omega)) (by rfl) gSReset FSReset.kp bSReset .nil pass0 (pa_cons (pv 3) pa_nil)))
      (pss_cons (ps_if (PW.pt (pw_or (pt_cmpR op_notT (pe_call GReset (hr.mono (by omega)) (by rfl) gReset FReset.kp bReset .nil pass0 (pa_cons (pv 3) (pa_cons (pv 4) pa_nil))) pe_bl (by rfl)) (pw_or1 (pt_not (pt_cmpR op_le (pe_call GApart (hr.mono (by omega)) (by rfl) gApart FApart.kp bApart .nil pass0 (pa_cons (pv 3) pa_nil)) (pe_callB (show CallR _ _ (rLenG K) from cr_lenG) (by rfl) m_len PySem.boot_len (pa_cons (pv 4) pa_nil)) (nomark _)))))) (pss_one (ps_ret pe_bl)) pss_nil)
      (pss_cons (ps_for PassesOwn.never rfl (pi_range1 (by rfl) m_range (pa_cons (pe_callB (show CallR _ _ (rLenG K) from cr_lenG) (by rfl) m_len PySem.boot_len (pa_cons (pv 4) pa_nil)) pa_nil)) (pg_name (i := 5) scLaw.nd rfl (Or.inl rfl)) (pss_one (ps_if (pt_val (pe_call GReset (hr.mono (by omega)) (by rfl) gReset FReset.kp bReset .nil pass0 (pa_cons (pv 3) (pa_cons (pe_op (show OpR _ _ (rCatS K) from op_catS) (pe_slice (show SlR _ (rSlS K) from sl_tupS) (pv 4) po_none (po_some (pv 5))) (pe_slice (show SlR _ (rSlS K) from sl_tupS) (pv 4) (po_some (pe_op op_add (pv 5) pe_int)) po_none)) pa_nil)))) (pss_one (ps_ret pe_bl)) pss_nil)))
      (pss_cons (ps_for PassesOwn.never rfl (pi_range1 (by rfl) m_range (pa_cons pe_int pa_nil)) (pg_name (i := 5) scLaw.nd rfl (Or.inl rfl)) (pss_one (ps_if (pt_val (pe_call GReset (hr.mono (by omega)) (by rfl) gReset FReset.kp bReset .nil pass0 (pa_cons (pv 3) (pa_cons (pe_slice (show SlR _ (rSlS K) from sl_tupS) (pe_call GRow (hr.mono (by omega)) (by rfl) gRow FRow.kp bRow .nil pass0 (pa_cons (pv 1) (pa_cons (pe_callB (show CallR _ _ (rLenG K) from cr_lenG) (by rfl) m_len PySem.boot_len (pa_cons (pv 3) pa_nil)) (pa_cons pe_int pa_nil)))) po_none (po_some (pe_op op_sub (pe_callB (show CallR _ _ (rLenG K) from cr_lenG) (by rfl) m_len PySem.boot_len (pa_cons (pv 4) pa_nil)) pe_int))) pa_nil)))) (pss_one (ps_ret pe_bl)) pss_nil)))
      (pss_one (ps_if (PW.pt (pw_or (pt_not (pt_val (pe_call GLinks (hr.mono (by omega)) (by rfl) gLinks FLinks.kp bLinks .nil pass0 (pa_cons (pv 1) (pa_cons (pv 3) (pa_cons (pe_callB (show CallR _ _ (rLenG K) from cr_lenG) (by rfl) m_len PySem.boot_len (pa_cons (pv 4) pa_nil)) pa_nil)))))) (pw_or1 (pt_not (pt_val (pe_call GNames (hr.mono (by omega)) (by rfl) gNames FNames.kp bNames .nil pass0 (pa_cons (pv 1) (pa_cons (pv 3) (pa_cons (pe_callB (show CallR _ _ (rLenG K) from cr_lenG) (by rfl) m_len PySem.boot_len (pa_cons (pv 4) pa_nil)) pa_nil))))))))) (pss_one (ps_ret pe_bl)) pss_nil))))))))
      (pss_cons (ps_par (i := 6) (j := 7) rfl scLaw.nd rfl rfl (by decide) rfl rfl (pa_cons (pe_call GPanel (hr.mono (by omega)) (by rfl) gPanel FPanel.kp bPanel .nil pass0 (pa_cons (pv 1) (pa_cons pe_int pa_nil))) (pa_cons (pe_call GPanel (hr.mono (by omega)) (by rfl) gPanel FPanel.kp bPanel .nil pass0 (pa_cons (pv 1) (pa_cons pe_int pa_nil))) pa_nil)) (by rfl))
      (pss_one (ps_ret (pe_cmpR op_eq (pe_callB (show CallR _ _ (rLenG K) from cr_lenG) (by rfl) m_len PySem.boot_len (pa_cons (pe_call GSReset (hr.mono (by omega)) (by rfl) gSReset FSReset.kp bSReset .nil pass0 (pa_cons (pe_callR GBes (hr.mono (by omega)) FBes.kp (by rfl) gBes L2.pass0 (pa_cons (pv 6) (pa_cons (pv 7) pa_nil))) pa_nil)) pa_nil)) (pe_op op_add (pe_callB (show CallR _ _ (rLenG K) from cr_lenG) (by rfl) m_len PySem.boot_len (pa_cons (pe_call GSReset (hr.mono (by omega)) (by rfl) gSReset FSReset.kp bSReset .nil pass0 (pa_cons (pv 6) pa_nil)) pa_nil)) (pe_callB (show CallR _ _ (rLenG K) from cr_lenG) (by rfl) m_len PySem.boot_len (pa_cons (pe_call GSReset (hr.mono (by omega)) (by rfl) gSReset FSReset.kp bSReset .nil pass0 (pa_cons (pv 7) pa_nil)) pa_nil))) (nomark _)))))), ?_⟩
    refine gs_setQ9 ?_
    refine ⟨.ref sc, rfl, sc, ns, rfl, hS, hlen, fun H1 a c s1 D1 => ?_⟩
    refine gs_seqS (fun σ H' => Deck H' a c 1000 ∧ Tabs (TSR pS) H' ∧ ∃ x2 x3 x4 x5 x6 x7, σ = [some (.ref sc), some (.ref a), x2, x3, x4, x5, x6, x7]) ?rest ?loop
    case loop =>
      intro hk0
      refine ⟨4, rfl, by decide, by decide, ?_⟩
      refine for_range (n := 4) (fun i σ H2 => Deck H2 a c (9000 - 2000 * i) ∧ Tabs (TSR pS) H2 ∧ ∃ x2 x3 x4 x5 x6 x7, σ = [some (.ref sc), some (.ref a), x2, x3, x4, x5, x6, x7]) ⟨D1.less (by decide), hT0.ext (fun b o e => s1 b o e), _, _, _, _, _, _, rfl⟩ (fun i σ H2 hi hP => ?step) (fun σ H2 hP => hk0 _ _ ⟨hP.1.less (by decide), hP.2⟩)
      obtain ⟨D2, T2, x2, x3, x4, x5, x6, x7, rfl⟩ := hP
      refine hideD fun D0 hn0 => ?_
      obtain ⟨most, hm0, m1, m10⟩ := most_ix i hi
      refine gs_setQ9 ?_
      refine ⟨.ref a, rfl, (gv_ixL (K := K) (j := i) (gv_lst (gva_cons gv_int (gva_cons gv_int (gva_cons gv_int (gva_cons gv_int gva_nil))))) (gv_var (i := 2) rfl (.int (0 + (i : Int)))) (by omega) hm0).at fun v3 H3 s3 dv3 => ?_⟩
      cases dv3
      refine ⟨a, c, 8800 - 2000 * i, most, rfl, (D2.same s3).less (by omega), m1, m10, fun H4 p pan b4 D4 hp4 hg hle => ?_⟩
      have T4 := tabs_but (D2.same s3) b4 (T2.ext fun b o e => s3 b o e)
      have pos := hg.pos
      have few := hg.few
      have hlp : (pan.map dInts).length = pan.length := List.length_map _
      refine gs_setQ9 ?_
      refine call_SR (pan := pan) (gv_var (K := K) (i := 3) rfl hp4.dp) hg T4 fun H5 f row e5 T5 sq5 best => ?_
      have hp5 := pat_extN e5 hp4
      have D5 := deck_extN e5 D4
      have df5 : Dp K H5 (.ref f) (dInts row) := dp_ints sq5
      have mn := best_mn best
      have rin : InR pan.length row := best.asc.rng
      have cov := cov_iff.mp best.res
      have rl := best.asc.len
      refine gs_no (b := false) ((gvt_or (gvt_test (gv_notT (K := K) (gv_Reset (gva_cons (gv_var (i := 3) rfl hp5.dp) (gva_cons (gv_var (i := 4) rfl df5) gva_nil)) hg rin))) (fun H' s _ => gvt_not (gvt_apart (i := 3) (j := 4) rfl (hp5.same s) hg rfl (same_sqT s sq5) rin cov))).to (by rw [decide_eq_false best.res]; rfl)) rfl fun H6 s6 => ?_
      refine gs_seqS (fun σ H' => Same H6 H' ∧ ∃ x5 : Option V, σ = [some (.ref sc), some (.ref a), some (.int (0 + (i : Int))), some (.ref p), some (.ref f), x5, x6, x7]) ?rest1 ?loop1
      case loop1 =>
        intro hk1
        refine gs_range (K := K) (n := row.length) ((gv_lenT (gv_var (i := 4) rfl (df5.sm s6))).to (by rw [List.length_map])) (by omega) (fun Ha k σ Hb => Same Ha Hb ∧ ∃ x5 : Option V, σ = [some (.ref sc), some (.ref a), some (.int (0 + (i : Int))), some (.ref p), some (.ref f), x5, x6, x7]) (fun Ha sa => ⟨Same.refl _, _, rfl⟩) (fun Ha k σ Hb sa hk hP => ?_) (fun Ha σ Hb sa hP => hk1 _ _ ⟨sa.trans hP.1, hP.2⟩)
        obtain ⟨sb, y5, rfl⟩ := hP
        have s0 := s6.trans (sa.trans sb)
        obtain ⟨z1, z2⟩ := drop_one mn rin hk
        refine gs_noN (b := false) (gvt_b ((gv_Reset (K := K) (pan := pan) (row := row.take k ++ row.drop (k + 1)) (gva_cons (gv_var (i := 3) rfl (hp5.same s0).dp) (gva_cons (gv_cat1 (gv_cutTo (gv_var (i := 4) rfl (df5.sm s0)) (gv_var (i := 5) rfl (.int (k : Int)))) (gv_cutFrom (gv_var (i := 4) rfl (df5.sm s0)) ((gv_add (gv_var (i := 5) rfl (.int (k : Int))) gv_int).to (e := .int ((k + 1 : Nat) : Int)) rfl)) (by rw [List.length_take, List.length_drop]; omega)) gva_nil)) hg z1).to (by rw [decide_eq_true (Classical.byContradiction fun z => z2 (cov_iff.mp z))]; rfl))) rfl fun Hc sc' => ⟨sb.trans sc', _, rfl⟩
      case rest1 =>
        rintro σ H7 ⟨s7, y5, rfl⟩
        have s57 := s6.trans s7
        refine gs_seqS (fun σ H' => Deck H' a c (8000 - 2000 * i) ∧ Tabs (TSR pS) H' ∧ PanAt H' p pan ∧ SqT K H' f (row.map V.int) ∧ ∃ x5 : Option V, σ = [some (.ref sc), some (.ref a), some (.int (0 + (i : Int))), some (.ref p), some (.ref f), x5, x6, x7]) ?rest2 ?loop2
        case loop2 =>
          intro hk2
          refine ⟨6, rfl, by decide, by decide, ?_⟩
          refine for_range (n := 6) (fun j σ H' => Deck H' a c (8800 - 2000 * i - 65 * j) ∧ Tabs (TSR pS) H' ∧ PanAt H' p pan ∧ SqT K H' f (row.map V.int) ∧ ∃ x5 : Option V, σ = [some (.ref sc), some (.ref a), some (.int (0 + (i : Int))), some (.ref p), some (.ref f), x5, x6, x7]) ⟨(D5.same s57).less (by omega), T5.ext (fun b o e => s7 b o (s6 b o e)), hp5.same s57, same_sqT s57 sq5, _, rfl⟩ (fun j σ H8 hj hP => ?_) (fun σ H8 hP => hk2 _ _ ⟨hP.1.less (by omega), hP.2⟩)
          obtain ⟨D8, T8, hp8, sq8, z5, rfl⟩ := hP
          refine ⟨.ref p, rfl, .ref a, rfl, (gv_lenT (gv_var (K := K) (i := 3) rfl hp8.dp)).at fun v9 H9 s9 dv9 => ?_⟩
          cases dv9
          refine ⟨a, c, 8800 - 2000 * i - 65 * (j + 1), _, 60, rfl, (D8.same s9).less (by omega), by rw [hlp]; omega, by rw [hlp]; omega, by decide, by decide, fun H10 t rw_ b10 D10 ft rin2 rlen => ?_⟩
          rw [hlp] at rin2
          have D9 := D8.same s9
          have hp10 := (hp8.same s9).but D9 b10
          have sq10 : SqT K H10 f (row.map V.int) := (ButN.but b10).sqT D9 (same_sqT s9 sq8)
          have T10 := tabs_but D9 b10 (T8.ext fun b o e => s9 b o e)
          obtain ⟨z1, z2⟩ := few_not mn pos rin2
          have mp := mn.pos pos
          refine (show GvT (tB (tCall (spReset K) [] E0 (tCons (constT (.ref p)) (tCons (tSl (Pr.rSlS K) (constT (.ref t)) tNoPart (tPart (tOp (rI0 fun i j => V.int (i - j)) (tCB (rLenG K) (tCons (tVar 4) tNil)) (tC (V.int 1))))) tNil)))) _ H10 false from gvt_b ((gv_Reset (K := K) (pan := pan) (row := rw_.take (row.length - 1)) (gva_cons (gv_const hp10.dp) (gva_cons (gv_cutTo (gv_const (dp_ints ft.sq)) ((gv_sub ((gv_lenT (gv_var (i := 4) rfl (dp_ints sq10))).to (by rw [List.length_map])) gv_int).to (e := .int ((row.length - 1 : Nat) : Int)) (by congr 1; omega))) gva_nil)) hg z1).to (by rw [decide_eq_true (Classical.byContradiction fun z => z2 (cov_iff.mp z))]; rfl))).at fun H11 s11 => ?_
          exact ⟨D10.same s11, T10.ext (fun b o e => s11 b o e), hp10.same s11, same_sqT s11 sq10, _, rfl⟩
        case rest2 =>
          rintro σ H8 ⟨D8, T8, hp8, sq8, z5, rfl⟩
          refine ⟨.ref a, rfl, .ref p, rfl, .ref f, rfl, f, _, rfl, .inr sq8, a, c, p, 7900 - 2000 * i, row.length, pan, by rw [List.length_map]; rfl, D8.less (by omega), hp8, hg, mn, T8, fun H9 b9 D9 T9 => ⟨true, rfl, ite2 (fun z => by cases z) fun _ => ?_⟩⟩
          have hp9 := b9.pan D8 hp8
          have sq9 := b9.sqT D8 sq8
          refine ⟨.ref a, rfl, .ref p, rfl, .ref f, rfl, f, _, rfl, .inr sq9, a, c, p, 7800 - 2000 * i, row.length, pan, by rw [List.length_map]; rfl, D9.less (by omega), hp9, hg, mn, T9, fun H10 b10 D10 T10 => ⟨true, rfl, ite2 (fun z => by cases z) fun _ => ?_⟩⟩
          exact hn0 _ _ ⟨D10.less (by omega), T10, _, _, _, _, _, _, rfl⟩
    case rest =>
      rintro σ H2 ⟨D2, T2, x2, x3, x4, x5, x6, x7, rfl⟩
      refine gs_parQ ?_
      refine ⟨.ref a, rfl, a, c, 700, 5, rfl, D2.less (by decide), by decide, by decide, fun H3 p1 pan1 b3 D3 hp1 hg1 hl1 => ?_⟩
      refine ⟨.ref a, rfl, a, c, 400, 5, rfl, D3.less (by decide), by decide, by decide, fun H4 p2 pan2 b4 D4 hp2 hg2 hl2 => ?_⟩
      refine ⟨_, _, rfl, ?_⟩
      have hp14 := hp1.but D3 b4
      have T4 := tabs_but D3 b4 (tabs_but D2 b3 T2)
      have okp : ∀ {pan : List (List Int)}, Good pan → pan.length ≤ 10 ∧ ∀ l ∈ pan, l.length ≤ 10 := fun {pan} g => ⟨g.few, fun l hl => by
        have := pw_length (n := 10) (lo := 0) (g.up l hl) fun x hx => by have := g.rng l hl x hx; have := g.few; omega
        omega⟩
      refine call_SRlen (pan := besM [pan1, pan2]) (gv_Bes (K := K) (ps := [pan1, pan2]) (gva_cons (gv_var (i := 6) rfl hp14.dp) (gva_cons (gv_var (i := 7) rfl hp2.dp) gva_nil)) ⟨(show 2 ≤ 11 by decide), fun x hx => by rcases (show x = pan1 ∨ x = pan2 by simpa using hx) with rfl | rfl; exact okp hg1; exact okp hg2⟩ (by show pan1.length + (pan2.length + 0) ≤ 10; omega)) (by rw [bes_two]; exact bes_good hg1 hg2 (by omega)) T4 fun H5 r1 e5 T5 best1 => ?_
      refine call_SRlen (pan := pan1) (gv_var (K := K) (i := 6) rfl (pat_extN e5 hp14).dp) hg1 T5 fun H6 r2 e6 T6 best2 => ?_
      refine call_SRlen (pan := pan2) (gv_var (K := K) (i := 7) rfl (pat_extN e6 (pat_extN e5 hp2)).dp) hg2 T6 fun H7 r3 e7 T7 best3 => ?_
      refine ⟨_, _, rfl, rfl, rfl, ?_⟩
      have m1 := best_mn best1
      rw [bes_two] at m1
      have := bes_mn hg1.rng hg2.rng m1 (best_mn best2) (best_mn best3)
      have e : decide (V.int (r1.length : Int) = V.int ((r2.length : Int) + (r3.length : Int))) = true := decide_eq_true (by congr 1; omega)
      show Q (.bl (decide (V.int (r1.length : Int) = V.int ((r2.length : Int) + (r3.length : Int))))) H7
      rw [e]
      exact q H7
end
end K39
namespace Pr
open PySem PySem.Spec PyProof.Rows L2
end Pr
namespace Pr
open PySem PySem.Spec PyProof.Rows L2 LamX
/-- nothing is tracked but the script and empty tables -/
def OnlyT (ts : List Addr) (H : Hp) : Prop := ∀ b, H b = none ∨ (b ∈ ts ∧ H b = some (.tbl #[])) ∨ ∃ o xs, H b = some (.frz o (.lst xs))
abbrev tab0 : Obj := { cls := .none, data := .fields #[] }
theorem lawGT {P : Program} {w : World} {K : PySem.W.Frag} {mg mb : Str → Option Value} {k : Nat} {fa a : Addr} {fd : FuncData} {x : Str} {sp : Sp} {s1 : Shared} {vs : List Value} {ns : List Int} {cs : List (Addr × Addr)}
    (kin : K.In s1.heap) (nsg : s1.heap.Ns mainGlobals mg) (nsb : s1.heap.Ns builtinsNs mb) (bb : ∀ y : Str, y ≠ "__name__" → mb y = bootBuiltins y) (lim : s1.heap.NoLimit) (g0 : s1.gens = #[])
    (hT : ∀ p ∈ cs, s1.heap.get? p.2 = some tab0) (nT : ∀ p ∈ cs, K.lookup p.2 = none) (C : ∀ p ∈ cs, PySem.W.CodeHd s1.heap p.1 p.2)
    (hbm : ∃ (bm : Addr) (ob : Obj), mg "__builtins__" = some (.ref bm) ∧ bm ≠ builtinsNs ∧ s1.heap.get? bm = some ob ∧ ob.cls = .type "module" ∧ ob.dict = some builtinsNs ∧ ob.data = .plain)
    (la : s1.heap.get? a = some { cls := .type "list", data := .seq vs.toArray }) (hints : IntsAre vs ns) (few : ns.length ≤ sizeLine) (rm : Room k callerA)
    (F : ∀ base : Heap, K.In base → base.Ns mainGlobals mg → (∀ p ∈ cs, TabB base mg p.1 p.2) → FnG P w K mg base k fa fd [x] sp) (bd : ∀ (s : Shared) (u : Value), BindsTo s fd ⟨[u], []⟩ [(x, u)])
    (wish : ∀ H : Hp, (∀ p ∈ cs, H p.2 = some (.tbl #[])) → SqL K H a (ns.map V.int) → sp [.ref a] H (fun v _ => v = .bl true) E0) :
    codeAny (model P w) callerA (.call (.ref fa) ⟨[.ref a], []⟩) (fun r s' => r = .ok (.ret (.bool true)) ∧ OldK s1.heap s'.heap ∧ s'.os = s1.os ∧ AllBare s'.gens) s1 := by
  have rv := vals_ints hints
  have lv := hints.length
  have tabOf : ∀ b, b ∈ cs.map (·.2) → s1.heap.get? b = some tab0 := fun b hb => by
    obtain ⟨p, hp, rfl⟩ := List.mem_map.mp hb
    exact hT p hp
  have inTs : ∀ p ∈ cs, p.2 ∈ cs.map (·.2) := fun p hp => List.mem_map.mpr ⟨p, hp, rfl⟩
  have aNot : a ∉ cs.map (·.2) := fun z => by
    have e := tabOf a z
    rw [la] at e
    exact nomatch (show Data.seq vs.toArray 0 = Data.fields #[] from congrArg Obj.data (Option.some.inj e))
  have main : ∀ H : Hp, (∀ p ∈ cs, H p.2 = some (.tbl #[])) → OnlyT (cs.map (·.2)) H → SqL K H a (ns.map V.int) → HOk P w H s1.heap → (∀ b, H b ≠ none → b = a ∨ b ∈ cs.map (·.2)) → (H a ≠ none → K.lookup a = none) →
      codeAny (model P w) callerA (.call (.ref fa) ⟨[.ref a], []⟩) (fun r s' => r = .ok (.ret (.bool true)) ∧ OldK s1.heap s'.heap ∧ s'.os = s1.os ∧ AllBare s'.gens) s1 := by
    intro H hTab hO hS hok hA hK
    -- what is neither a list nor an empty table is not tracked
    have free : ∀ {b : Addr} {o : Obj}, s1.heap.get? b = some o → (∀ us n, o.data ≠ .seq us n) → o.data ≠ .fields #[] → H b = none := fun {b o} e n1 n2 => by
      cases q : H b with
      | none => rfl
      | some u =>
        rcases hA b (by rw [q]; simp) with rfl | z
        · rw [la] at e; cases e
          exact absurd rfl (n1 _ _)
        · rw [tabOf b z] at e; cases e
          exact absurd rfl n2
    have dictFree : ∀ {b : Addr} {o : Obj} {es : Array DictEntry} {ep : Nat}, s1.heap.get? b = some o → o.data = .dict es ep → H b = none := fun {b o es ep} e d =>
      free e (fun us n z => nomatch d.symm.trans z) fun z => nomatch d.symm.trans z
    have nsH : ∀ {b : Addr} {m : Str → Option Value}, s1.heap.Ns b m → (hidT s1.heap H).Ns b m := fun {b m} ⟨o, es, ep, e, d, r⟩ => ⟨o, es, ep, hidT_get e (dictFree e d), d, r⟩
    have kinH : K.In (hidT s1.heap H) := fun b o e => hidT_get (kin b o e) (by
      cases q : H b with
      | none => rfl
      | some u =>
        rcases hA b (by rw [q]; simp) with rfl | z
        · rw [hK (by rw [q]; simp)] at e; cases e
        · obtain ⟨p, hp, rfl⟩ := List.mem_map.mp z
          rw [nT p hp] at e; cases e)
    have md : Mod K mg (hidT s1.heap H) := ⟨kinH, nsH nsg, ⟨mb, nsH nsb, bb⟩, let ⟨mc, h1, h2⟩ := lim; ⟨mc, nsH h1, h2⟩⟩
    have tb : ∀ p ∈ cs, TabB (hidT s1.heap H) mg p.1 p.2 := fun p hp => by
      have e2 := hT p hp
      constructor
      · obtain ⟨o, us, fl, t1, fg, t2, b1, tx, t3, g1, r1, r2, r3, r⟩ := C p hp
        have go : H p.1 = none := free g1 (fun us n z => nomatch r2.symm.trans z) fun z => by
          have := Data.fields.inj (r2.symm.trans z)
          rw [this] at r3
          simp at r3
        exact ⟨o, us, fl, t1, fg, t2, b1, tx, t3, hidT_get g1 go, r1, r2, r3, r⟩
      · obtain ⟨bm, ob, b1, b2, b3, b4, b5, b6⟩ := hbm
        refine ⟨bm, ob, b1, b2, fun z => ?_, fun z => ?_, hidT_get b3 (free b3 (fun us n y => nomatch b6.symm.trans y) fun y => nomatch b6.symm.trans y), b4, b5, b6⟩
        · obtain ⟨o, es, ep, e, d, _⟩ := nsg
          rw [← z, b3] at e; cases e
          exact nomatch b6.symm.trans d
        · rw [← z, b3] at e2; cases e2
          exact nomatch b6
      · intro z
        obtain ⟨o, es, ep, e, d, _⟩ := nsg
        rw [z, e2] at e; cases e
        exact nomatch d
    have e0 : Env0 P w K mg (hidT s1.heap H) callerA [] s1 H :=
      ⟨rfl, md, fun b o e => of_hidT e, Nat.le_of_eq (hidT_size _ _), trivial, fun b hb => absurd (show b ∈ ([] : List Addr) from hb) (by simp), hok, .of_eq g0⟩
    refine codeAny_mono ((F _ kinH (nsH nsg) tb).go callerA [] s1 H ⟨[.ref a], []⟩ [.ref a] [.ref a] _ _ rfl rm e0 (bd s1 (.ref a)) (.cons rfl .nil) (wish H hTab hS)) fun r s' h => ?_
    cases r with
    | error e => exact h.elim
    | ok fl =>
      cases fl with
      | next => exact h.elim
      | brk => exact h.elim
      | cont => exact h.elim
      | ret u =>
        obtain ⟨v, H', os, bare, un, hok', r', q⟩ := h
        obtain rfl : v = .bl true := q
        obtain rfl : u = Value.bool true := r'
        have stay : ∀ b o, b ∉ cs.map (·.2) → s1.heap.get? b = some o → s'.heap.get? b = some o := fun b o nb e => by
          rcases hO b with z | ⟨z, _⟩ | ⟨ob, xs, z⟩
          · exact un.keep b o e z (fun y => absurd (show b ∈ ([] : List Addr) from y) (by simp)) (by simp)
          · exact absurd z nb
          · have e1 := (hok b _ z).1
            rw [e] at e1; cases e1
            exact (hok' b _ (un.frzs b o _ z)).1
        have grow : ∀ p ∈ cs, ∃ more : Array Value, s'.heap.get? p.2 = some { cls := .none, data := .fields more } := fun p hp => by
          obtain ⟨more, z⟩ := un.tbls p.2 #[] (hTab p hp)
          exact ⟨_, hok' p.2 _ z⟩
        refine ⟨rfl, ⟨fun b o e => ?_, fun b o e => ?_⟩, os, bare⟩
        · by_cases hb : b ∈ cs.map (·.2)
          · obtain ⟨p, hp, rfl⟩ := List.mem_map.mp hb
            obtain ⟨more, hm⟩ := grow p hp
            have e2 := hT p hp
            rw [e2] at e; cases e
            exact .inr (.inl ⟨((C p hp).tab e2).isCodeTable, rfl, #[], more, rfl, by rw [Array.empty_append]; exact hm⟩)
          · exact .inl (stay b o hb e)
        · by_cases hb : b ∈ cs.map (·.2)
          · obtain ⟨p, hp, rfl⟩ := List.mem_map.mp hb
            obtain ⟨more, hm⟩ := grow p hp
            exact ⟨_, hm⟩
          · exact ⟨o, stay b o hb e⟩
  cases hk : K.lookup a with
  | some o =>
    have e := kin a o hk
    rw [la] at e
    cases e
    refine main (fun b => if b ∈ cs.map (·.2) then some (.tbl #[]) else none) (fun p hp => if_pos (inTs p hp)) (fun b => ?_) (.inr ⟨_, vs.toArray, _, hk, rfl, rfl, rfl, by rw [List.size_toArray, lv]; exact few, by simpa using rv⟩) (fun b u z => ?_) (fun b z => ?_) fun z => absurd (if_neg aNot) z
    · by_cases hb : b ∈ cs.map (·.2)
      · exact .inr (.inl ⟨hb, if_pos hb⟩)
      · exact .inl (if_neg hb)
    · by_cases hb : b ∈ cs.map (·.2)
      · cases (if_pos hb).symm.trans z
        exact tabOf b hb
      · cases (if_neg hb).symm.trans z
    · by_cases hb : b ∈ cs.map (·.2)
      · exact .inr hb
      · exact absurd (if_neg hb) z
  | none =>
    refine main (upd (fun b => if b ∈ cs.map (·.2) then some (.tbl #[]) else none) a (.frz { cls := .type "list", data := .seq vs.toArray } (.lst (ns.map V.int)))) (fun p hp => ?_) (fun b => ?_) (.inl (.inr ⟨_, upd_same⟩)) (fun b u z => ?_) (fun b z => ?_) fun _ => hk
    · rw [upd_ne (fun z : p.2 = a => aNot (by rw [← z]; exact inTs p hp))]; exact if_pos (inTs p hp)
    · by_cases hb : b = a
      · subst hb; exact .inr (.inr ⟨_, _, upd_same⟩)
      · rw [upd_ne hb]
        by_cases hb2 : b ∈ cs.map (·.2)
        · exact .inr (.inl ⟨hb2, if_pos hb2⟩)
        · exact .inl (if_neg hb2)
    · by_cases hb : b = a
      · subst hb
        rw [upd_same] at z
        cases z
        exact ⟨la, by rw [List.length_map]; exact few, vs, _, rv, la⟩
      · rw [upd_ne hb] at z
        by_cases hb2 : b ∈ cs.map (·.2)
        · cases (if_pos hb2).symm.trans z
          exact tabOf b hb2
        · cases (if_neg hb2).symm.trans z
    · by_cases hb : b = a
      · exact .inl hb
      · rw [upd_ne hb] at z
        by_cases hb2 : b ∈ cs.map (·.2)
        · exact .inr hb2
        · exact absurd (if_neg hb2) z
theorem walkGT {l : PySem.W.OpenLaw} {n k : Nat} {q : Program} {loose : List Str} {XP : (Str → Option Value) → Heap → Prop} {YP : World → Heap → Prop} {d : DefRec} {sp : PySem.W.Frag → Sp} {x : Str}
    (hn : l.most = some n) (hn2 : n ≤ sizeLine) (hdf : d.params.defaults = []) (hr : Room k callerA)
    (F : ∀ (w : World) (mg : Str → Option Value) (fa : Addr) (h : Heap), YP w h → h.Ns mainGlobals mg → mg d.name = some (.ref fa) →
      ∃ (K : PySem.W.Frag) (cs : List (Addr × Addr)), K.In h ∧ (∀ p ∈ cs, h.get? p.2 = some tab0) ∧ (∀ p ∈ cs, K.lookup p.2 = none) ∧ (∀ p ∈ cs, PySem.W.CodeHd h p.1 p.2) ∧
        (∀ (H : Hp) (a : Addr) (ns : List Int), ns.length ≤ n → (∀ p ∈ cs, H p.2 = some (.tbl #[])) → SqL K H a (ns.map V.int) → sp K [.ref a] H (fun v _ => v = .bl true) E0) ∧
        ∃ fd : FuncData, (∀ (s : Shared) (u : Value), BindsTo s fd ⟨[u], []⟩ [(x, u)]) ∧ ∀ base : Heap, K.In base → base.Ns mainGlobals mg → (∀ p ∈ cs, TabB base mg p.1 p.2) → FnG l.prog w K mg base k fa fd [x] (sp K)) :
    PySem.W.WalkO q loose XP YP l.row.toRowW d [] (fun f vs => PySem.call f vs) := by
  refine Att.attach_callB hn hdf fun w s0 s1 mg mb fa o pm cd doc a vs ns G Y ho hd hcd hmg hobj hints hlen hbits hg => ?_
  obtain ⟨K, cs, KX, hT, nT, C, hsp, fd, hb, hF⟩ := F w mg fa _ Y G.T.g hmg
  exact lawGT KX G.T.g G.T.b G.T.builtins G.T.nolimit hg hT nT C G.T.bmain hobj hints (Nat.le_trans hlen hn2) hr hF hb fun H hH hS => hsp H a ns hlen hH hS
end Pr
namespace K39
open PySem PySem.Spec PyProof.Rows L2 Pr LamX
theorem all_mk {l : PySem.W.OpenLaw} {w : World} {K : PySem.W.Frag} {h : Heap} {mg : Str → Option Value} {fa f1 f2 f3 f4 f5 f6 f7 f8 f9 f10 f11 f12 f13 f14 f15 f16 f17 f18 f19 f20 f21 f22 : Addr} (X : K.In h) (G : h.Ns mainGlobals mg) (hfa : mg "law" = some (.ref fa))
     {cS pS : Addr} {odcS : Option Addr} {vsS : Array Value} {slcS : Array (Option Value)} {flS : Str} {tfS tgS ttS : Tok} {fgS txS : Int} {inS : Bool}
    {od1 an1 od2 an2 od3 an3 od4 an4 od5 an5 od6 an6 od7 an7 od8 an8 od9 an9 od10 an10 od11 an11 od12 an12 od13 an13 od14 an14 od15 an15 od16 an16 od17 an17 od18 an18 od19 an19 od20 an20 od21 an21 od22 an22 : Option Addr} {sl1 sl2 sl3 sl4 sl5 sl6 sl7 sl8 sl9 sl10 sl11 sl12 sl13 sl14 sl15 sl16 sl17 sl18 sl19 sl20 sl21 sl22 : Array (Option Value)} {oc1 kV1 dc1 pm1 cd1 ct1 oc2 kV2 dc2 pm2 cd2 ct2 oc3 kV3 dc3 pm3 cd3 ct3 oc4 kV4 dc4 pm4 cd4 ct4 oc5 kV5 dc5 pm5 cd5 ct5 oc6 kV6 dc6 pm6 cd6 ct6 oc7 kV7 dc7 pm7 cd7 ct7 oc8 kV8 dc8 pm8 cd8 ct8 oc9 kV9 dc9 pm9 ct9 oc10 kV10 dc10 pm10 cd10 ct10 oc11 kV11 dc11 pm11 cd11 ct11 oc12 kV12 dc12 pm12 cd12 ct12 oc13 kV13 dc13 pm13 cd13 ct13 oc14 kV14 dc14 pm14 cd14 ct14 oc15 kV15 dc15 pm15 cd15 ct15 oc16 kV16 dc16 pm16 cd16 ct16 oc17 kV17 dc17 pm17 cd17 ct17 oc18 kV18 dc18 pm18 cd18 ct18 oc19 kV19 dc19 pm19 cd19 ct19 oc20 kV20 dc20 pm20 cd20 ct20 oc21 kV21 dc21 pm21 cd21 ct21 oc22 kV22 dc22 pm22 cd22 ct22 : Value}
    (a1 : PySem.W.nsIn K mainGlobals "no_effect" = some (some (.ref f1))) (l1 : K.lookup f1 = some ⟨oc1, od1, .func (PySem.W.fnOf "no_effect" "no_effect" (defArgs sNo) (defBody sNo) (defScope sNo) .none kV1 dc1 pm1 an1 cd1 ct1), sl1⟩) (c1 : PySem.W.codeIn K cd1 "no_effect" = true) (k1 : PySem.W.keepIn K (.ref f1) = true)
    (a2 : PySem.W.nsIn K mainGlobals "press_effect" = some (some (.ref f2))) (l2 : K.lookup f2 = some ⟨oc2, od2, .func (PySem.W.fnOf "press_effect" "press_effect" (defArgs sPressE) (defBody sPressE) (defScope sPressE) .none kV2 dc2 pm2 an2 cd2 ct2), sl2⟩) (c2 : PySem.W.codeIn K cd2 "press_effect" = true) (k2 : PySem.W.keepIn K (.ref f2) = true)
    (a3 : PySem.W.nsIn K mainGlobals "joined_effect" = some (some (.ref f3))) (l3 : K.lookup f3 = some ⟨oc3, od3, .func (PySem.W.fnOf "joined_effect" "joined_effect" (defArgs sJoin) (defBody sJoin) (defScope sJoin) .none kV3 dc3 pm3 an3 cd3 ct3), sl3⟩) (c3 : PySem.W.codeIn K cd3 "joined_effect" = true) (k3 : PySem.W.keepIn K (.ref f3) = true)
    (a4 : PySem.W.nsIn K mainGlobals "effect_with_press" = some (some (.ref f4))) (l4 : K.lookup f4 = some ⟨oc4, od4, .func (PySem.W.fnOf "effect_with_press" "effect_with_press" (defArgs sWith) (defBody sWith) (defScope sWith) .none kV4 dc4 pm4 an4 cd4 ct4), sl4⟩) (c4 : PySem.W.codeIn K cd4 "effect_with_press" = true) (k4 : PySem.W.keepIn K (.ref f4) = true)
    (a5 : PySem.W.nsIn K mainGlobals "effect_of" = some (some (.ref f5))) (l5 : K.lookup f5 = some ⟨oc5, od5, .func (PySem.W.fnOf "effect_of" "effect_of" (defArgs sEff) (defBody sEff) (defScope sEff) .none kV5 dc5 pm5 an5 cd5 ct5), sl5⟩) (c5 : PySem.W.codeIn K cd5 "effect_of" = true) (k5 : PySem.W.keepIn K (.ref f5) = true)
    (a6 : PySem.W.nsIn K mainGlobals "releasers_of" = some (some (.ref f6))) (l6 : K.lookup f6 = some ⟨oc6, od6, .func (PySem.W.fnOf "releasers_of" "releasers_of" (defArgs sRel) (defBody sRel) (defScope sRel) .none kV6 dc6 pm6 an6 cd6 ct6), sl6⟩) (c6 : PySem.W.codeIn K cd6 "releasers_of" = true) (k6 : PySem.W.keepIn K (.ref f6) = true)
    (a7 : PySem.W.nsIn K mainGlobals "states_between" = some (some (.ref f7))) (l7 : K.lookup f7 = some ⟨oc7, od7, .func (PySem.W.fnOf "states_between" "states_between" (defArgs sBetw) (defBody sBetw) (defScope sBetw) .none kV7 dc7 pm7 an7 cd7 ct7), sl7⟩) (c7 : PySem.W.codeIn K cd7 "states_between" = true) (k7 : PySem.W.keepIn K (.ref f7) = true)
    (a8 : PySem.W.nsIn K mainGlobals "is_reset" = some (some (.ref f8))) (l8 : K.lookup f8 = some ⟨oc8, od8, .func (PySem.W.fnOf "is_reset" "is_reset" (defArgs sReset) (defBody sReset) (defScope sReset) .none kV8 dc8 pm8 an8 cd8 ct8), sl8⟩) (c8 : PySem.W.codeIn K cd8 "is_reset" = true) (k8 : PySem.W.keepIn K (.ref f8) = true)
    (a9 : PySem.W.nsIn K mainGlobals "shortest_reset" = some (some (.ref f9))) (l9 : K.lookup f9 = some ⟨oc9, od9, .func (PySem.W.fnOf "shortest_reset" "shortest_reset" (defArgs sSReset) (defBody sSReset) (defScope sSReset) .none kV9 dc9 pm9 an9 (.ref cS) ct9), sl9⟩) (c9 : PySem.W.codeIn K (.ref cS) "shortest_reset" = true) (k9 : PySem.W.keepIn K (.ref f9) = true)
    (a10 : PySem.W.nsIn K mainGlobals "with_list" = some (some (.ref f10))) (l10 : K.lookup f10 = some ⟨oc10, od10, .func (PySem.W.fnOf "with_list" "with_list" (defArgs sWl) (defBody sWl) (defScope sWl) .none kV10 dc10 pm10 an10 cd10 ct10), sl10⟩) (c10 : PySem.W.codeIn K cd10 "with_list" = true) (k10 : PySem.W.keepIn K (.ref f10) = true)
    (a11 : PySem.W.nsIn K mainGlobals "linked" = some (some (.ref f11))) (l11 : K.lookup f11 = some ⟨oc11, od11, .func (PySem.W.fnOf "linked" "linked" (defArgs sLi) (defBody sLi) (defScope sLi) .none kV11 dc11 pm11 an11 cd11 ct11), sl11⟩) (c11 : PySem.W.codeIn K cd11 "linked" = true) (k11 : PySem.W.keepIn K (.ref f11) = true)
    (a12 : PySem.W.nsIn K mainGlobals "unlinked" = some (some (.ref f12))) (l12 : K.lookup f12 = some ⟨oc12, od12, .func (PySem.W.fnOf "unlinked" "unlinked" (defArgs sUn) (defBody sUn) (defScope sUn) .none kV12 dc12 pm12 an12 cd12 ct12), sl12⟩) (c12 : PySem.W.codeIn K cd12 "unlinked" = true) (k12 : PySem.W.keepIn K (.ref f12) = true)
    (a13 : PySem.W.nsIn K mainGlobals "renamed" = some (some (.ref f13))) (l13 : K.lookup f13 = some ⟨oc13, od13, .func (PySem.W.fnOf "renamed" "renamed" (defArgs sRen) (defBody sRen) (defScope sRen) .none kV13 dc13 pm13 an13 cd13 ct13), sl13⟩) (c13 : PySem.W.codeIn K cd13 "renamed" = true) (k13 : PySem.W.keepIn K (.ref f13) = true)
    (a14 : PySem.W.nsIn K mainGlobals "beside" = some (some (.ref f14))) (l14 : K.lookup f14 = some ⟨oc14, od14, .func (PySem.W.fnOf "beside" "beside" (defArgs sBes) (defBody sBes) (defScope sBes) .none kV14 dc14 pm14 an14 cd14 ct14), sl14⟩) (c14 : PySem.W.codeIn K cd14 "beside" = true) (k14 : PySem.W.keepIn K (.ref f14) = true)
    (a15 : PySem.W.nsIn K mainGlobals "_law_deck" = some (some (.ref f15))) (l15 : K.lookup f15 = some ⟨oc15, od15, .func (PySem.W.fnOf "_law_deck" "_law_deck" (defArgs sDeck) (defBody sDeck) (defScope sDeck) .none kV15 dc15 pm15 an15 cd15 ct15), sl15⟩) (c15 : PySem.W.codeIn K cd15 "_law_deck" = true) (k15 : PySem.W.keepIn K (.ref f15) = true)
    (a16 : PySem.W.nsIn K mainGlobals "_law_draw" = some (some (.ref f16))) (l16 : K.lookup f16 = some ⟨oc16, od16, .func (PySem.W.fnOf "_law_draw" "_law_draw" (defArgs sDraw) (defBody sDraw) (defScope sDraw) .none kV16 dc16 pm16 an16 cd16 ct16), sl16⟩) (c16 : PySem.W.codeIn K cd16 "_law_draw" = true) (k16 : PySem.W.keepIn K (.ref f16) = true)
    (a17 : PySem.W.nsIn K mainGlobals "_law_panel" = some (some (.ref f17))) (l17 : K.lookup f17 = some ⟨oc17, od17, .func (PySem.W.fnOf "_law_panel" "_law_panel" (defArgs sPanel) (defBody sPanel) (defScope sPanel) .none kV17 dc17 pm17 an17 cd17 ct17), sl17⟩) (c17 : PySem.W.codeIn K cd17 "_law_panel" = true) (k17 : PySem.W.keepIn K (.ref f17) = true)
    (a18 : PySem.W.nsIn K mainGlobals "_law_row" = some (some (.ref f18))) (l18 : K.lookup f18 = some ⟨oc18, od18, .func (PySem.W.fnOf "_law_row" "_law_row" (defArgs sRow) (defBody sRow) (defScope sRow) .none kV18 dc18 pm18 an18 cd18 ct18), sl18⟩) (c18 : PySem.W.codeIn K cd18 "_law_row" = true) (k18 : PySem.W.keepIn K (.ref f18) = true)
    (a19 : PySem.W.nsIn K mainGlobals "_law_apart" = some (some (.ref f19))) (l19 : K.lookup f19 = some ⟨oc19, od19, .func (PySem.W.fnOf "_law_apart" "_law_apart" (defArgs sApart) (defBody sApart) (defScope sApart) .none kV19 dc19 pm19 an19 cd19 ct19), sl19⟩) (c19 : PySem.W.codeIn K cd19 "_law_apart" = true) (k19 : PySem.W.keepIn K (.ref f19) = true)
    (a20 : PySem.W.nsIn K mainGlobals "_law_links_right" = some (some (.ref f20))) (l20 : K.lookup f20 = some ⟨oc20, od20, .func (PySem.W.fnOf "_law_links_right" "_law_links_right" (defArgs sLinks) (defBody sLinks) (defScope sLinks) .none kV20 dc20 pm20 an20 cd20 ct20), sl20⟩) (c20 : PySem.W.codeIn K cd20 "_law_links_right" = true) (k20 : PySem.W.keepIn K (.ref f20) = true)
    (a21 : PySem.W.nsIn K mainGlobals "_law_names_right" = some (some (.ref f21))) (l21 : K.lookup f21 = some ⟨oc21, od21, .func (PySem.W.fnOf "_law_names_right" "_law_names_right" (defArgs sNames) (defBody sNames) (defScope sNames) .none kV21 dc21 pm21 an21 cd21 ct21), sl21⟩) (c21 : PySem.W.codeIn K cd21 "_law_names_right" = true) (k21 : PySem.W.keepIn K (.ref f21) = true)
    (a22 : PySem.W.nsIn K mainGlobals "law" = some (some (.ref f22))) (l22 : K.lookup f22 = some ⟨oc22, od22, .func (PySem.W.fnOf "law" "law" (defArgs sLaw) (defBody sLaw) (defScope sLaw) .none kV22 dc22 pm22 an22 cd22 ct22), sl22⟩) (c22 : PySem.W.codeIn K cd22 "law" = true) (k22 : PySem.W.keepIn K (.ref f22) = true)
    {tk_MAX_BUTTONS : Tok} (y_MAX_BUTTONS : PySem.W.nsIn K mainGlobals "MAX_BUTTONS" = some (some (.int 10 tk_MAX_BUTTONS)))
    (lCS : K.lookup cS = some ⟨.type "code", odcS, .fields vsS, slcS⟩)
    (g11S : vsS[11]? = some (.ref pS))
    (d11S : vsS.getD 11 .none = .ref pS)
    (d18S : vsS.getD 18 .none = .str flS tfS)
    (d7S : vsS.getD 7 .none = .int fgS tgS)
    (d9S : vsS.getD 9 .none = .bool inS)
    (d10S : vsS.getD 10 .none = .int txS ttS)
    (ncPS : cS ≠ pS)
    (z1 : PySem.W.nsIn K mainGlobals "abs" = some none) (z2 : PySem.W.nsIn K mainGlobals "enumerate" = some none) (z3 : PySem.W.nsIn K mainGlobals "int" = some none) (z4 : PySem.W.nsIn K mainGlobals "len" = some none) (z5 : PySem.W.nsIn K mainGlobals "list" = some none) (z6 : PySem.W.nsIn K mainGlobals "max" = some none) (z7 : PySem.W.nsIn K mainGlobals "min" = some none) (z8 : PySem.W.nsIn K mainGlobals "range" = some none) (z9 : PySem.W.nsIn K mainGlobals "set" = some none) (z10 : PySem.W.nsIn K mainGlobals "sorted" = some none) (z11 : PySem.W.nsIn K mainGlobals "sum" = some none) (z12 : PySem.W.nsIn K mainGlobals "tuple" = some none) (z13 : PySem.W.nsIn K mainGlobals "zip" = some none) :
    PySem.W.CodeHd h cS pS ∧ ∃ fd : FuncData, (∀ (s : Shared) (v : Value), BindsTo s fd ⟨[v], []⟩ [("_law_script", v)]) ∧ ∀ base : Heap, K.In base → base.Ns mainGlobals mg → TabB base mg cS pS → FnG l.prog w K mg base 8 fa fd ["_law_script"] (spLaw K pS) := by
  have e := hfa.symm.trans (PySem.W.mg_of X G a22)
  cases e
  have F1 := fun_mk (st := sNo) l1 c1 k1
  have F2 := fun_mk (st := sPressE) l2 c2 k2
  have F3 := fun_mk (st := sJoin) l3 c3 k3
  have F4 := fun_mk (st := sWith) l4 c4 k4
  have F5 := fun_mk (st := sEff) l5 c5 k5
  have F6 := fun_mk (st := sRel) l6 c6 k6
  have F7 := fun_mk (st := sBetw) l7 c7 k7
  have F8 := fun_mk (st := sReset) l8 c8 k8
  have F9 := fun_mk (st := sSReset) l9 c9 k9
  have F10 := fun_mk (st := sWl) l10 c10 k10
  have F11 := fun_mk (st := sLi) l11 c11 k11
  have F12 := fun_mk (st := sUn) l12 c12 k12
  have F13 := fun_mk (st := sRen) l13 c13 k13
  have F14 := fun_mk (st := sBes) l14 c14 k14
  have F15 := fun_mk (st := sDeck) l15 c15 k15
  have F16 := fun_mk (st := sDraw) l16 c16 k16
  have F17 := fun_mk (st := sPanel) l17 c17 k17
  have F18 := fun_mk (st := sRow) l18 c18 k18
  have F19 := fun_mk (st := sApart) l19 c19 k19
  have F20 := fun_mk (st := sLinks) l20 c20 k20
  have F21 := fun_mk (st := sNames) l21 c21 k21
  have F22 := fun_mk (st := sLaw) l22 c22 k22
  have b1 := F1.binds (ps := ["panel"]) fun _ _ _ _ _ _ us hl => match us, hl with | [_], _ => rfl
  have b2 := F2.binds (ps := ["panel", "button"]) fun _ _ _ _ _ _ us hl => match us, hl with | [_, _], _ => rfl
  have b3 := F3.binds (ps := ["first", "second"]) fun _ _ _ _ _ _ us hl => match us, hl with | [_, _], _ => rfl
  have b4 := F4.binds (ps := ["panel", "effect", "button"]) fun _ _ _ _ _ _ us hl => match us, hl with | [_, _, _], _ => rfl
  have b5 := F5.binds (ps := ["panel", "row"]) fun _ _ _ _ _ _ us hl => match us, hl with | [_, _], _ => rfl
  have b6 := F6.binds (ps := ["panel", "button"]) fun _ _ _ _ _ _ us hl => match us, hl with | [_, _], _ => rfl
  have b7 := F7.binds (ps := ["least", "most"]) fun _ _ _ _ _ _ us hl => match us, hl with | [_, _], _ => rfl
  have b8 := F8.binds (ps := ["panel", "row"]) fun _ _ _ _ _ _ us hl => match us, hl with | [_, _], _ => rfl
  have b9 := F9.binds (ps := ["panel"]) fun _ _ _ _ _ _ us hl => match us, hl with | [_], _ => rfl
  have b10 := F10.binds (ps := ["panel", "button", "released"]) fun _ _ _ _ _ _ us hl => match us, hl with | [_, _, _], _ => rfl
  have b11 := F11.binds (ps := ["panel", "one", "other"]) fun _ _ _ _ _ _ us hl => match us, hl with | [_, _, _], _ => rfl
  have b12 := F12.binds (ps := ["panel", "one", "other"]) fun _ _ _ _ _ _ us hl => match us, hl with | [_, _, _], _ => rfl
  have b13 := F13.binds (ps := ["panel", "names"]) fun _ _ _ _ _ _ us hl => match us, hl with | [_, _], _ => rfl
  have b15 := F15.binds (ps := ["_law_script"]) fun _ _ _ _ _ _ us hl => match us, hl with | [_], _ => rfl
  have b16 := F16.binds (ps := ["_law_deck_here", "_law_bound"]) fun _ _ _ _ _ _ us hl => match us, hl with | [_, _], _ => rfl
  have b17 := F17.binds (ps := ["_law_deck_here", "_law_most"]) fun _ _ _ _ _ _ us hl => match us, hl with | [_, _], _ => rfl
  have b18 := F18.binds (ps := ["_law_deck_here", "_law_n", "_law_most"]) fun _ _ _ _ _ _ us hl => match us, hl with | [_, _, _], _ => rfl
  have b19 := F19.binds (ps := ["_law_panel_here"]) fun _ _ _ _ _ _ us hl => match us, hl with | [_], _ => rfl
  have b20 := F20.binds (ps := ["_law_deck_here", "_law_panel_here", "_law_many"]) fun _ _ _ _ _ _ us hl => match us, hl with | [_, _, _], _ => rfl
  have b21 := F21.binds (ps := ["_law_deck_here", "_law_panel_here", "_law_many"]) fun _ _ _ _ _ _ us hl => match us, hl with | [_, _, _], _ => rfl
  exact ⟨⟨_, vsS, flS, tfS, fgS, tgS, inS, txS, ttS, X _ _ lCS, rfl, rfl, g11S, d11S, d18S, d7S, d9S, d10S, ncPS⟩, _, fun s v => .of_eq rfl, fun base _ _ tbS => ok_law F22 F1 b1 (PySem.W.mg_of X G a1) F2 b2 (PySem.W.mg_of X G a2) F3 b3 (PySem.W.mg_of X G a3) F4 b4 (PySem.W.mg_of X G a4) F5 b5 (PySem.W.mg_of X G a5) F6 b6 (PySem.W.mg_of X G a6) F7 b7 (PySem.W.mg_of X G a7) F8 b8 (PySem.W.mg_of X G a8) F9 b9 (PySem.W.mg_of X G a9) F10 b10 (PySem.W.mg_of X G a10) F11 b11 (PySem.W.mg_of X G a11) F12 b12 (PySem.W.mg_of X G a12) F13 b13 (PySem.W.mg_of X G a13) F14 (PySem.W.mg_of X G a14) F15 b15 (PySem.W.mg_of X G a15) F16 b16 (PySem.W.mg_of X G a16) F17 b17 (PySem.W.mg_of X G a17) F18 b18 (PySem.W.mg_of X G a18) F19 b19 (PySem.W.mg_of X G a19) F20 b20 (PySem.W.mg_of X G a20) F21 b21 (PySem.W.mg_of X G a21) (PySem.W.mg_none_of X G z1) (PySem.W.mg_none_of X G z2) (PySem.W.mg_none_of X G z3) (PySem.W.mg_none_of X G z4) (PySem.W.mg_none_of X G z5) (PySem.W.mg_none_of X G z6) (PySem.W.mg_none_of X G z7) (PySem.W.mg_none_of X G z8) (PySem.W.mg_none_of X G z9) (PySem.W.mg_none_of X G z10) (PySem.W.mg_none_of X G z11) (PySem.W.mg_none_of X G z12) (PySem.W.mg_none_of X G z13)  rfl tbS (PySem.W.mg_of X G y_MAX_BUTTONS)⟩
theorem endT {l : PySem.W.OpenLaw} {w : World} {K : PySem.W.Frag} {h : Heap} {mg : Str → Option Value} {fa : Addr} {cS pS : Addr} (KX : K.In h) (TS : h.get? pS = some tab0) (NS : K.lookup pS = none) (A : PySem.W.CodeHd h cS pS ∧ ∃ fd : FuncData, (∀ (s : Shared) (v : Value), BindsTo s fd ⟨[v], []⟩ [("_law_script", v)]) ∧ ∀ base : Heap, K.In base → base.Ns mainGlobals mg → TabB base mg cS pS → FnG l.prog w K mg base 8 fa fd ["_law_script"] (spLaw K pS)) :
    ∃ (K : PySem.W.Frag) (cs : List (Addr × Addr)), K.In h ∧ (∀ p ∈ cs, h.get? p.2 = some tab0) ∧ (∀ p ∈ cs, K.lookup p.2 = none) ∧ (∀ p ∈ cs, PySem.W.CodeHd h p.1 p.2) ∧
      (∀ (H : Hp) (a : Addr) (ns : List Int), ns.length ≤ 63 → (∀ p ∈ cs, H p.2 = some (.tbl #[])) → SqL K H a (ns.map V.int) → spLaw K pS [.ref a] H (fun v _ => v = .bl true) E0) ∧
      ∃ fd : FuncData, (∀ (s : Shared) (u : Value), BindsTo s fd ⟨[u], []⟩ [("_law_script", u)]) ∧ ∀ base : Heap, K.In base → base.Ns mainGlobals mg → (∀ p ∈ cs, TabB base mg p.1 p.2) → FnG l.prog w K mg base 8 fa fd ["_law_script"] (spLaw K pS) := by
  obtain ⟨CS, fd, bd, F⟩ := A
  refine ⟨K, [(cS, pS)], KX, ?_, ?_, ?_, fun H a ns hl hT hS => ?_, fd, bd, fun base k1 k2 hB => F base k1 k2 (hB (cS, pS) (List.mem_cons_self))⟩
  · exact fun p hp => by
      simp only [List.mem_cons, List.not_mem_nil, or_false] at hp
      subst hp
      · exact TS
  · exact fun p hp => by
      simp only [List.mem_cons, List.not_mem_nil, or_false] at hp
      subst hp
      · exact NS
  · exact fun p hp => by
      simp only [List.mem_cons, List.not_mem_nil, or_false] at hp
      subst hp
      · exact CS
  · exact ⟨a, ns, rfl, hS, hl, fun p hp => by
      simp only [List.mem_cons, List.not_mem_nil, or_false] at hp
      subst hp
      exact TabS.nil (hT (cS, pS) List.mem_cons_self), fun _ => rfl⟩
end K39
open PySem PySem.W PyProof.Rows
theorem PySem.Challenge.cw_pressrelease_k39_whole_fewest_buttons_of_holds : PySem.Challenge.rw_pressrelease_k39_whole_fewest_buttons_of.Holds := by
  w_on; o_law; k_head; (case hw => w_witness2)
  k_fill
  refine Pr.walkGT (l := PySem.Challenge.rw_pressrelease_k39_whole_fewest_buttons_of) (n := 63) (k := 8) (x := "_law_script") (sp := fun K => K39.spLaw K 98) rfl (by decide) rfl ⟨rfl, by decide, by decide⟩ ?F
  case F =>
    intro w mg fa h Y G hmg
    have KX := PySem.W.km_in_of Y
    have KT := PySem.W.km_tabs_of Y
    refine' K39.endT KX (KT 98 (by decide)) ?NS (K39.all_mk KX G hmg ?a1 ?l1 ?c1 ?k1 ?a2 ?l2 ?c2 ?k2 ?a3 ?l3 ?c3 ?k3 ?a4 ?l4 ?c4 ?k4 ?a5 ?l5 ?c5 ?k5 ?a6 ?l6 ?c6 ?k6 ?a7 ?l7 ?c7 ?k7 ?a8 ?l8 ?c8 ?k8 ?a9 ?l9 ?c9 ?k9 ?a10 ?l10 ?c10 ?k10 ?a11 ?l11 ?c11 ?k11 ?a12 ?l12 ?c12 ?k12 ?a13 ?l13 ?c13 ?k13 ?a14 ?l14 ?c14 ?k14 ?a15 ?l15 ?c15 ?k15 ?a16 ?l16 ?c16 ?k16 ?a17 ?l17 ?c17 ?k17 ?a18 ?l18 ?c18 ?k18 ?a19 ?l19 ?c19 ?k19 ?a20 ?l20 ?c20 ?k20 ?a21 ?l21 ?c21 ?k21 ?a22 ?l22 ?c22 ?k22 ?y_MAX_BUTTONS ?lCS ?g11S ?d11S ?d18S ?d7S ?d9S ?d10S ?ncPS ?z1 ?z2 ?z3 ?z4 ?z5 ?z6 ?z7 ?z8 ?z9 ?z10 ?z11 ?z12 ?z13)
    (case NS => first | rfl | decide +kernel | kernel_rfl)
    (case a1 => k_is); (case l1 => k_is); (case c1 => k_is); (case k1 => k_is); (case a2 => k_is); (case l2 => k_is); (case c2 => k_is); (case k2 => k_is); (case a3 => k_is); (case l3 => k_is); (case c3 => k_is); (case k3 => k_is)
    (case a4 => k_is); (case l4 => k_is); (case c4 => k_is); (case k4 => k_is); (case a5 => k_is); (case l5 => k_is); (case c5 => k_is); (case k5 => k_is); (case a6 => k_is); (case l6 => k_is); (case c6 => k_is); (case k6 => k_is)
    (case a7 => k_is); (case l7 => k_is); (case c7 => k_is); (case k7 => k_is); (case a8 => k_is); (case l8 => k_is); (case c8 => k_is); (case k8 => k_is); (case a9 => k_is); (case l9 => k_is); (case c9 => k_is); (case k9 => k_is)
    (case a10 => k_is); (case l10 => k_is); (case c10 => k_is); (case k10 => k_is); (case a11 => k_is); (case l11 => k_is); (case c11 => k_is); (case k11 => k_is); (case a12 => k_is); (case l12 => k_is); (case c12 => k_is); (case k12 => k_is)
    (case a13 => k_is); (case l13 => k_is); (case c13 => k_is); (case k13 => k_is); (case a14 => k_is); (case l14 => k_is); (case c14 => k_is); (case k14 => k_is); (case a15 => k_is); (case l15 => k_is); (case c15 => k_is); (case k15 => k_is)
    (case a16 => k_is); (case l16 => k_is); (case c16 => k_is); (case k16 => k_is); (case a17 => k_is); (case l17 => k_is); (case c17 => k_is); (case k17 => k_is); (case a18 => k_is); (case l18 => k_is); (case c18 => k_is); (case k18 => k_is)
    (case a19 => k_is); (case l19 => k_is); (case c19 => k_is); (case k19 => k_is); (case a20 => k_is); (case l20 => k_is); (case c20 => k_is); (case k20 => k_is); (case a21 => k_is); (case l21 => k_is); (case c21 => k_is); (case k21 => k_is)
    (case a22 => k_is); (case l22 => k_is); (case c22 => k_is); (case k22 => k_is); (case y_MAX_BUTTONS => k_is); (case lCS => first | k_is | k_exc | rfl | decide +kernel | kernel_rfl); (case g11S => first | k_is | k_exc | rfl | decide +kernel | kernel_rfl); (case d11S => first | k_is | k_exc | rfl | decide +kernel | kernel_rfl); (case d18S => first | k_is | k_exc | rfl | decide +kernel | kernel_rfl); (case d7S => first | k_is | k_exc | rfl | decide +kernel | kernel_rfl); (case d9S => first | k_is | k_exc | rfl | decide +kernel | kernel_rfl); (case d10S => first | k_is | k_exc | rfl | decide +kernel | kernel_rfl)
    (case ncPS => first | k_is | k_exc | rfl | decide +kernel | kernel_rfl); (case z1 => k_is); (case z2 => k_is); (case z3 => k_is); (case z4 => k_is); (case z5 => k_is); (case z6 => k_is); (case z7 => k_is); (case z8 => k_is); (case z9 => k_is); (case z10 => k_is); (case z11 => k_is)
    (case z12 => k_is); (case z13 => k_is)
