import PyProof.Rows.All
import Wide.All
import OpenK.AllK
import Wide.FinOn
import HandS.ForMost
import HandS.TupMul
import HandS.TupAny
import HandS.SetFor
import HandS.Walk
import HandS.EndBits
import KE.GoesEnum
import PyProof.ReprRoads
import HandS.Zip
import HandS.NoneIn
import HandS.Strs
import PyProof.ListNew
import HandS.IsInst
import HandS.Conv
import PyProof.Rows.CountFlat
import HandS.More
import KE.DataMinMax
import HandS.Star
import HandS.SortRule
import HandS.NamedTupSort
import HandS.TupLe
import KE.KSortTup
import KE.SortData
import HandS.CallLocal
import KE.KDictDisplayH
import HandS.Style
import HandS.Dict
import KE.KExcIs
import HandS.Exc
import HandS.ExcIs
import HandS.ExcInit
import HandS.ExcField
import HandS.ExcOwn
import HandS.WordsExc
import HandS.RaiseMore
import HandS.FStr
import PyProof.StrLaws
import KE.KCallOwn
import HandS.Call
import HandS.List
import HandS.Defaults
import HandS.MakeKwOnly
import HandS.CallSlots
import PyProof.InstStoreFacts
import PyProof.ExcBaseAll.LookupError
import HandS.Finally
import HandS.HeadHook3
import KE.DataMinKey
import KE.DataCmp
import KE.LtData
import HandS.Lambda
import HandS.SortKw
import HandS.Nested
import HandS.Words
import HandS.Base
import HandS.ClsMeth
import KE.KSuper
import HandS.DictComp
import HandS.Head0
import HandS.Head1
import HandS.Head2
import HandS.HeadHook1
import HandS.EndTab
import PySem.Challenge.RW_pressrelease_k57_whole_watches_and_singl
set_option Elab.async false
set_option linter.all false
set_option maxRecDepth 100000
set_option maxHeartbeats 4000000
set_option genInjectivity false
set_option genSizeOfSpec false
namespace Pr
open PySem PySem.Spec PyProof.Rows L2
structure FnG (P : Program) (w : World) (K : PySem.W.Frag) (mg : Str → Option Value) (base : Heap) (k : Nat) (f : Addr) (fd : FuncData) (ps : List Str) (sp : Sp) : Prop where
  len : ∀ vs H Q E, sp vs H Q E → vs.length = ps.length
  go : ∀ (A : Around) (outer : List Env) (s : Shared) (H : Hp) (args : Args) (us : List Value) (vs : List V) (Q : VK) (E : XK), A.guards = some [] → Room k A →
    Env0 P w K mg base A outer s H → BindsTo s fd args (ps.zip us) → Vals vs us → sp vs H Q E →
    codeAny (model P w) A (.call (.ref f) args) (CR CX0 outer P w H s Q E) s
section
variable {P : Program} {w : World} {K : PySem.W.Frag} {mg : Str → Option Value} {base : Heap}
/-- a def by its body, where no repr is under way -/
theorem okG {x qual : Str} {st : Stmt} {f : Addr} {fd : FuncData} {N ps : List Str} {k : Nat} {sp : Sp} (F : Fun K x qual st f fd) (S : FnScope N ps (defScope st))
    (len : ∀ vs H Q E, sp vs H Q E → vs.length = ps.length)
    (body : ∀ (cdv : Value) (A : Around) (outer : List Env) (s : Shared) (H : Hp) (vs : List V) (Q : VK) (E : XK), A.guards = some [] →
      Room k (A.deeper (envOfC qual (defScope st) s.heap.objs.size f cdv)) → sp vs H Q E →
      ∃ t, PSs (cxOf CX0 P w K mg base N qual (defScope st) f cdv A outer s H E).nox (defBody st) t ∧ t { nx := fun _ H' => Q .non H', rt := Q } (start N vs) H) :
    FnG P w K mg base (k + 1) f fd ps sp := by
  obtain ⟨oc, od, kV, doc, pm, an, cdv, ct, osl, rfl, lk, hcd⟩ := F.ex
  refine ⟨len, fun A outer s H args us vs Q E hg hr e0 hb r hsp => ?_⟩
  have hin : K.In s.heap := e0.mod.kin.keeps fun b o e => (e0.bs b o e).1
  have hlm : s.heap.NoLimit := e0.mod.nolimit.keeps fun b o e => (e0.bs b o e).1
  refine codeAny_call_function hr.depth (hin _ _ lk) rfl S.co S.gen rfl (PySem.W.codeRec_of hin hcd) (hb _ _ _ _ ?_)
  refine wpAny_newFunctionEnv_cells S.kind (fun ⟨n, v⟩ hy => ?_) fun env he s1 x => ?_
  · rcases S.par n (List.of_mem_zip hy).1 with q | q
    · exact .inl q
    · exact .inr ⟨q, PySem.W.cellsFrom_some _ _ _ (.inl q)⟩
  · subst he
    refine ⟨hlm.keeps x.toInCall.keep, codeAny_func ?_⟩
    obtain ⟨t, ht, hq⟩ := body cdv A outer s H vs Q E hg (hr.deeper _) hsp
    have I := inv_start (CX := CX0) (E := E) S hr.hd e0 (len _ _ _ _ hsp) r x
    refine wpAny_mono (ht.nox.run [] s1 (start N vs) H _ I hq) (fun fl s' hs => ?_) fun e s' hs => hs
    cases fl with
    | ret u => obtain ⟨v, σ', H', J, rv, q⟩ := hs; exact ⟨v, H', J.os, J.bare, J.base, J.hok, rv, q⟩
    | next => obtain ⟨σ', H', J, q⟩ := hs; exact ⟨V.non, H', J.os, J.bare, J.base, J.hok, rfl, q⟩
    | brk => obtain ⟨_, _, _, q⟩ := hs; exact q.elim
    | cont => obtain ⟨_, _, _, q⟩ := hs; exact q.elim
end
section
variable {X : Cx} {k : Nat} {f : Addr} {fd : FuncData} {ps : List Str} {sp : Sp} {x : Str} {p pos : Pos} {e : Expr} {es : List Expr} {t : TA}
/-- f(e, ..) of such a def -/
theorem pe_callG (F : FnG X.prog X.w X.K X.mg X.base k f fd ps sp) (gd : X.A.guards = some []) (hr : Room k X.A) (hg : Gl X x) (hm : X.mg x = some (.ref f)) (hk : PySem.W.keepIn X.K (.ref f) = true) (hb : Binds X.K fd ps [])
    (ha : PA X (e :: es) t) (hdb : (x == ("__debug__" : Str)) = false := by decide) (he : starEach (e :: es) X.env = (false, eval e X.env) :: starEach es X.env := by rfl)
    (hpl : (backTo pos (starEach es X.env)).any (·.1) = false := by rfl) : PE X (.Call (.Name x p) (e :: es) [] pos) (tCall sp [] E0 t) := by
  refine ⟨fun pins s σ H Q I h => wpAny_Call_Name_kw (ld_glob I hg hm ?_ hdb)⟩
  refine PySem.W.callWith_K (h₀ := X.base) I.ok.mod.kin hk (thn (ha.run pos pins s σ H _ I h) fun us s1 ⟨vs, H1, I1, r, q⟩ => ⟨I1.kIn, ?_⟩) he hpl
  have q1 : sp vs H1 Q E0 := by
    have q0 : sp (vs ++ []) H1 Q E0 := q
    rwa [List.append_nil] at q0
  have hl : us.length = ps.length := by rw [← r.length]; exact F.len _ _ _ _ q1
  have hb1 : BindsTo s1 fd ⟨us, []⟩ (ps.zip us) := by
    have := hb s1 us I1.kIn (by rw [List.append_nil]; exact hl)
    rwa [List.append_nil] at this
  refine wpAny_call (codeAny_mono (F.go X.A X.stack s1 H1 ⟨us, []⟩ us vs Q E0 gd hr I1.env0 hb1 r q1) fun r' s' hq => ?_)
  cases r' with
  | error e' => exact hq.elim
  | ok fl =>
    cases fl with
    | ret u => exact I1.after hq
    | next => exact hq.elim
    | brk => exact hq.elim
    | cont => exact hq.elim
end
def rRepr (K : PySem.W.Frag) : List V → Hp → VK → Prop := fun xs H Q => ∃ (a : Addr) (d : PyData), xs = [.ref a] ∧ Dp K H (.ref a) d ∧ d.showable = true ∧ d.hasDict = false ∧ d.depth ≤ 60 ∧ d.shown.length ≤ sizeLine ∧ Q (.str d.shown) H
theorem call_repr {X : Cx} {k : Nat} (gd : X.A.guards = some []) (hr : Room k X.A) : CallR X (.builtin "repr") (rRepr X.K) := by
  intro pins s σ H xs us Q I rv h
  obtain ⟨a, d, rfl, hd, hs, hn, hdep, hz, q⟩ := h
  obtain ⟨u, rfl, rx⟩ := vals1 rv
  cases rx
  obtain ⟨as, r⟩ := Dp.reads I d _ _ hd rfl
  exact repr_of_reads' r hs (PyData.noDict_hsm hn) gd (by have := hr.un; omega) (fun _ _ e => e) (fun h' t tk hk => ⟨.str d.shown, H, I.kept hk, ⟨t, rfl⟩, q⟩) hz
end Pr
namespace Pr
open PySem PySem.Spec PyProof.Rows L2
/-- a tuple of which it is known that it has no attributes of its own -/
def FT (H : Hp) (a : Addr) (xs : List V) : Prop := ∃ o : Obj, H a = some (.frz o (.tup xs)) ∧ o.dict = none
theorem FT.sq {K : PySem.W.Frag} {H : Hp} {a : Addr} {xs : List V} (h : FT H a xs) : SqT K H a xs := let ⟨o, e, _⟩ := h; .inl (.inr ⟨o, e⟩)
theorem FT.same {H H' : Hp} {a : Addr} {xs : List V} (e : Same H H') (h : FT H a xs) : FT H' a xs := let ⟨o, q, z⟩ := h; ⟨o, e _ _ q, z⟩
theorem same_sqT {K : PySem.W.Frag} {H H' : Hp} {a : Addr} {xs : List V} (e : Same H H') (h : SqT K H a xs) : SqT K H' a xs := by
  rcases h with (h | ⟨o, h⟩) | h
  · exact .inl (.inl (e _ _ h))
  · exact .inl (.inr ⟨o, e _ _ h⟩)
  · exact .inr h
section
variable {X : Cx}
def rTupF (K : PySem.W.Frag) : List V → Hp → VK → Prop := fun xs H Q => ∃ p ys, xs = [.ref p] ∧ SqL K H p ys ∧ ∀ l o, H l = none → o.dict = none → Q (.ref l) (upd H l (.frz o (.tup ys)))
theorem call_tupF : CallR X (.type "tuple") (rTupF X.K) := by
  intro pins s σ H xs us Q I r h
  obtain ⟨p, ys, rfl, hq, q⟩ := h
  obtain ⟨u, rfl, rx⟩ := vals1 r
  cases rx
  obtain ⟨its, r', pl, hz⟩ := I.list hq
  have hlen := r'.length
  refine call_tuple_list pl.isList (fun h' kp => ?_) (by simp only [List.size_toArray] <;> omega)
  have I1 : Inv X pins σ H { s with heap := h' } := I.kept (t' := s.toks) kp
  have I2 := I1.laid (t' := s.toks) (h' := h'.push { cls := .type "tuple", data := .seq its.toArray }) (a := h'.objs.size)
    (o := .frz { cls := .type "tuple", data := .seq its.toArray } (.tup ys)) (fun b o e => Heap.get?_push_of_some _ e) (Nat.le_refl _) ⟨Heap.get?_push_size _ rfl, hz, its, r', IsTup.new _ _⟩
  exact ⟨.ref h'.objs.size, _, I2, rfl, q _ _ (I1.hok.fresh (Nat.le_refl _)) rfl⟩
end
theorem enum_newT (l : Addr) (items : Array Value) (n : Nat) (dct : Option Addr) (sl : Array (Option Value)) :
    Meets (Builtin.«enumerate.__new__» ⟨[.type "enumerate", .ref l], []⟩) (fun _ R s => s.heap.get? l = some { cls := .type "tuple", dict := dct, data := .seq items n, slots := sl } ∧
      R (.ok (.ret (.ref (s.heap.push { cls := .type "tuple_iterator", data := .fields #[.ref l, .int 0 0] }).objs.size)))
        { s with heap := (s.heap.push { cls := .type "tuple_iterator", data := .fields #[.ref l, .int 0 0] }).push { cls := .type "enumerate", data := .fields #[.none, .bool false, .ref s.heap.objs.size, rawInt 0, .none, .none] } }) :=
  .of_wp fun prog w A R s h => by
    obtain ⟨hp, g, d, tk, os⟩ := s; obtain ⟨hl, h⟩ := h
    have hsub := sub_enumerate
    have hL : Heap.IsTuple (Shared.heap ⟨hp, g, d, tk, os⟩) l items := ⟨_, hl, rfl, n, rfl⟩
    wp_walk using AutoSeq1.wpAny_loadPart' hl
    refine wpAny_stack_any fun st => wpAny_pure ?_
    split
    · rename_i c _ _ _ _ _
      cases (c == Value.type "enumerate") <;> (wp_walk using AutoSeq1.wpAny_loadPart' hl, wpAny_pyIter_tuple hL; exact ⟨_, rfl, h⟩)
    · wp_walk using AutoSeq1.wpAny_loadPart' hl, wpAny_pyIter_tuple hL
      exact ⟨_, rfl, h⟩
theorem call_enumT {prog : Program} {w : World} {A : Around} {E : Value → Shared → Prop} {s : Shared} {l : Addr} {items : Array Value} {Q : Value → Shared → Prop} (hL : s.heap.IsTuple l items)
    (h : ∀ h', IsEnum h' (s.heap.objs.size + 1) s.heap.objs.size 0 .none → h'.IsTupleIter s.heap.objs.size l 0 → h'.objs.size = s.heap.objs.size + 2 →
      (∀ b o, s.heap.get? b = some o → h'.get? b = some o) → Q (.ref (s.heap.objs.size + 1)) { s with heap := h' }) :
    wpAny (model prog w) A (call (.type "enumerate") [.ref l]) Q E s := by
  obtain ⟨⟨c, dct, dt, sl⟩, hl, hc, n, hd⟩ := hL
  simp only at hc hd
  subst hc hd
  refine callType_new F.called_enumerate (by decide) (F.typeCall_enumerate_1 _) (F.newCall_enumerate_1 _) (fun obj => F.args_object_init_2 obj _) F.entry_enumerate_new (enum_newT l items n dct sl) ⟨hl, ?_⟩
  generalize ho : ({ cls := .type "tuple_iterator", data := .fields #[.ref l, .int 0 0] } : Obj) = o1
  have f1 : o1.isFreed = false := by rw [← ho]; rfl
  generalize hp : ({ cls := .type "enumerate", data := .fields #[.none, .bool false, .ref s.heap.objs.size, rawInt 0, .none, .none] } : Obj) = o2
  have f2 : o2.isFreed = false := by rw [← hp]; rfl
  have hz : (s.heap.push o1).objs.size = s.heap.objs.size + 1 := Heap.size_push ..
  have hg := Heap.get?_push_size (s.heap.push o1) (o := o2) f2
  show _ ∧ _
  rw [hz] at hg ⊢
  have he : IsEnum ((s.heap.push o1).push o2) (s.heap.objs.size + 1) s.heap.objs.size 0 .none := by rw [hp.symm] at hg ⊢; exact hg
  refine ⟨⟨_, he, rfl⟩, h _ he ⟨_, Heap.get?_push_of_some _ (Heap.get?_push_size _ f1), by rw [← ho], by rw [← ho]; rfl⟩ (by rw [Heap.size_push, hz]) fun b o x => Heap.get?_push_of_some _ (Heap.get?_push_of_some _ x)⟩
/-- the tuple at a, each item in a new pair -/
def Itet (K : PySem.W.Frag) (a : Addr) : It :=
  ⟨fun i H => ∃ (xs : List V) (x : V), SqT K H a xs ∧ xs[i]? = some x, fun i H v H' => ∃ T x, v = .ref T ∧ H T = none ∧ H' = upd H T (.tup [.int (i : Nat), x]) ∧ ∀ xs, SqT K H a xs → xs[i]? = some x,
    fun i H => ∃ xs : List V, SqT K H a xs ∧ xs.length ≤ i⟩
theorem turn_enumT {P : Program} {w : World} {K : PySem.W.Frag} {elts : List Expr} {kk : Nat} {tpos : Pos} (a e it : Addr) :
    Turn P w K (.Tuple elts kk tpos) (Itet K a) [e, it] e (fun i h => (∃ old, IsEnum h e it ((i : Nat) : Int) old) ∧ h.IsTupleIter it a i ∧ e ≠ it) where
  mem := by simp
  obj := fun i h st b hb => by
    obtain ⟨⟨old, he⟩, ⟨o, ho, hc, hd⟩, _⟩ := st
    rcases (show b = e ∨ b = it by simpa using hb) with rfl | rfl
    · exact ⟨_, he, fun v q => nomatch q⟩
    · exact ⟨o, ho, fun v q => by rw [hd] at q; cases q⟩
  keep := fun i h h' st k => let ⟨⟨old, he⟩, hi, hne⟩ := st; ⟨⟨old, k e (by simp) _ he⟩, hi.at fun o q => k it (by simp) o q, hne⟩
  item := by
    intro X hP hw hK hc i pins s σ H E I hf st hg
    subst hP hw hK
    obtain ⟨⟨old, he⟩, hit, hne⟩ := st
    obtain ⟨xs, x, hq, hx⟩ := hg
    obtain ⟨its, rv, pt, hz⟩ := I.tuple hq
    have hT : s.heap.IsTuple a its.toArray := pt
    obtain ⟨u, hu, ru⟩ := rv.get hx
    have hel : e < s.heap.objs.size := Heap.lt_size he
    have hil : it < s.heap.objs.size := by obtain ⟨_, q, _⟩ := hit; exact Heap.lt_size q
    have nai : a ≠ it := fun z => by
      subst z
      obtain ⟨o1, q1, c1, _⟩ := hit
      obtain ⟨o2, q2, c2, _⟩ := hT
      rw [q1] at q2; cases q2
      rw [c1] at c2; exact absurd c2 (by decide)
    have nea : e ≠ a := fun z => by
      subst z
      obtain ⟨o2, q2, c2, _⟩ := hT
      have he' : s.heap.get? e = _ := he
      rw [he'] at q2; cases q2
      exact absurd (show Value.type "enumerate" = Value.type "tuple" from c2) (by decide)
    have hi : i < its.toArray.size := by
      have := (List.getElem?_eq_some_iff.mp hu).1
      simpa using this
    refine wpAny_pyNext_enum_itemD (Draws.tuple (A := X.A.in1) (I.ok.hd hc) it a nai its.toArray) he ⟨hit, hT⟩ hi hne (by simp [hne, nea]) fun y h' tk hy ho hit' hT' hsz hk => ?_
    obtain rfl : y = u := by
      have hy' : its.toArray[i]? = some y := hy
      rw [List.getElem?_toArray, hu] at hy'
      exact (Option.some.inj hy').symm
    refine ⟨_, rfl, wpAny_letOwnedTupleGo_enum (s := { s with heap := h', toks := tk + 1 }) ho fun h'' he' sb => ?_⟩
    have hT2 : h''.get? s.heap.objs.size = some { cls := .type "tuple", data := .seq #[.int i tk, y] } := (sb.2 _ (Nat.ne_of_gt hel)).trans hT'
    have new : ObjOk X.prog X.w (upd H s.heap.objs.size (.tup [.int (i : Nat), x])) h'' s.heap.objs.size (.tup [.int (i : Nat), x]) :=
      ⟨by show 2 ≤ sizeLine; decide, [.int i tk, y], .cons ⟨_, rfl⟩ (.cons ru .nil), ⟨_, hT2, rfl, _, rfl⟩⟩
    have I1 := I.turnedNew (t' := tk + 1) (ch := [e, it]) (fun b ob hb q => (sb.2 b (fun z => hb (by simp [z]))).trans (hk b ob (fun z => hb (by simp [z])) (fun z => hb (by simp [z])) q)) hf (Nat.le_refl _) new
    refine ⟨.ref s.heap.objs.size, _, I1, rfl, ⟨_, x, rfl, I.hok.fresh (Nat.le_refl _), rfl, fun ys hys => by rw [I.tuple_inj hys hq]; exact hx⟩, ⟨⟨y, ?_⟩, hit'.1.at fun o q => (sb.2 it (Ne.symm hne)).trans q, hne⟩, fun b hb => ?_⟩
    · rw [show ((i + 1 : Nat) : Int) = (i : Int) + 1 by omega]; exact he'
    · have hb' : b < s.heap.objs.size := by
        rcases (show b = e ∨ b = it by simpa using hb) with rfl | rfl
        · exact hel
        · exact hil
      rw [upd_ne (Nat.ne_of_lt hb')]
      exact (hf b hb).1
  done := by
    intro X hP hw hK hc i pins s σ H E I hf st hg
    subst hP hw hK
    obtain ⟨⟨old, he⟩, hit, hne⟩ := st
    obtain ⟨xs, hq, hx⟩ := hg
    obtain ⟨its, rv, pt, hz⟩ := I.tuple hq
    have hT : s.heap.IsTuple a its.toArray := pt
    obtain ⟨f0, f1, f2, f3, f4, f5⟩ := hf it (by simp)
    have hl := rv.length
    have hT : s.TypeIs (.ref e) "enumerate" := ⟨_, he, rfl⟩
    unfold pyNext
    refine wpAny_bind (wpAny_attempt (wpAny_callSpecial?_slot (name := Str.ofString "__next__") hT F.slot_enumerate_next (wpAny_call_entry F.slot_enumerate_next hT F.entry_enumerate_next ?_ (F.args_enumerate_next_1 _))))
    show wpAny _ _ (field (.ref e) 2 >>= _) _ _ _
    refine wpAny_bind (wpAny_field he rfl (x := .ref it) rfl ?_)
    refine wpAny_bind (wpAny_nextOf_tuple_end (I.ok.hd hc) hit pt (by simp; omega) fun h' x eb hx' => ?_)
    obtain ⟨o, ho, hcx⟩ := hx'
    refine wpAny_bind (wpAny_isInstance (T := "StopIteration") (b := true) ⟨o, ho, hcx⟩ isSubtype_stop ?_)
    exact wpAny_pure ⟨rfl, I.turned (t' := s.toks) (fun b o hb q => eb b o hb q) f0 f1 f3 f4 f5⟩
  self := fun A i s Q E st h => let ⟨⟨_, he⟩, _⟩ := st; wpAny_pyIter_enum he h
def iEnumT (K : PySem.W.Frag) (ta : TA) : TI := fun σ H R => ta σ H fun vs H1 => ∃ a xs, vs = [.ref a] ∧ SqT K H1 a xs ∧ R (Itet K a) H1
theorem pi_enumT {X : Cx} {e : Expr} {ta : TA} {p pos tpos : Pos} {elts : List Expr} {kk : Nat} (hg : Gl X "enumerate") (hm : X.mg "enumerate" = none) (ha : PA X [e] ta)
    (hs : starEach [e] X.env = [(false, eval e X.env)] := by rfl) : PI X (.Tuple elts kk tpos) (.Call (.Name "enumerate" p) [e] [] pos) (iEnumT X.K ta) := by
  refine ⟨fun pins s σ H R I h => Call_ (ld_blt I hg hm boot_enumerate (PyProof.Rows.callWith_type1 (thn (ha.run pos pins s σ H _ I h) fun us s1 ⟨vs, H1, I1, r1, a, xs, ex, hq, q⟩ => ?_) hs rfl))⟩
  subst ex
  obtain ⟨u, rfl, rx⟩ := vals1 r1
  cases rx
  obtain ⟨its, rv, pt, hz⟩ := I1.tuple hq
  refine call_enumT pt fun h' he hit hsz hk => wpAny_pyIter_enum he ?_
  refine ⟨s1.heap.objs.size + 1, [s1.heap.objs.size + 1, s1.heap.objs.size], _, _, H1, rfl, I1.kept (t' := s1.toks) hk, turn_enumT a (s1.heap.objs.size + 1) s1.heap.objs.size, ⟨⟨.none, he⟩, hit, Nat.succ_ne_self _⟩, fun b hb => ?_, q⟩
  have hle : s1.heap.objs.size ≤ b := by
    rcases (show b = s1.heap.objs.size + 1 ∨ b = s1.heap.objs.size by simpa using hb) with rfl | rfl
    · exact Nat.le_add_right _ _
    · exact Nat.le_refl _
  exact I1.fpOk hle (I1.hok.fresh hle)
theorem walk_enumT {K : PySem.W.Frag} {a : Addr} {xs : List V} : Walk (Itet K a) xs.length (fun H => SqT K H a xs) (YPair (fun i => some (.int (i : Nat))) (fun i => xs[i]?)) := by
  refine ⟨fun i _ hi q => ⟨xs, xs[i], q, by simp [hi]⟩, fun _ q => ⟨xs, q, Nat.le_refl _⟩, fun i H v H' _ q y => ?_⟩
  obtain ⟨T, x, h1, h2, h3, h4⟩ := y
  exact ⟨T, .int (i : Nat), x, h1, h2, h3, rfl, h4 xs q⟩
end Pr
namespace Pr
open PySem PySem.Spec PyProof.Rows L2
structure Shw (dep n : Nat) (d : PyData) : Prop where
  sh : d.showable = true
  nd : d.hasDict = false
  dp : d.depth ≤ dep
  ln : d.shown.length ≤ n
theorem Shw.mono {dep dep' n n' : Nat} {d : PyData} (h : Shw dep n d) (h1 : dep ≤ dep') (h2 : n ≤ n') : Shw dep' n' d := ⟨h.sh, h.nd, Nat.le_trans h.dp h1, Nat.le_trans h.ln h2⟩
theorem Shw.int {i : Int} {k : Nat} (h0 : 0 ≤ i) (hk : 0 < k) (hk2 : k ≤ 100) (h : i < 10 ^ k) : Shw 0 k (.int i) := by
  refine ⟨?_, by simp only [PyData.hasDict], by simp [PyData.depth], ?_⟩
  · simp only [PyData.showable, decide_eq_true_eq]
    by_cases hz : i.natAbs = 0
    · rw [hz]; decide
    · refine (Nat.log2_lt hz).mpr ?_
      have h1 : (i.natAbs : Int) < ((10 ^ k : Nat) : Int) := by
        rw [Int.natCast_pow]
        have : ((i.natAbs : Nat) : Int) = i := Int.natAbs_of_nonneg h0
        rw [this]; exact h
      have h2 : i.natAbs < 10 ^ k := by exact_mod_cast h1
      have h3 : (10 : Nat) ^ k ≤ 10 ^ 100 := Nat.pow_le_pow_right (by decide) hk2
      have h4 : (10 : Nat) ^ 100 < 2 ^ 1920 := by decide +kernel
      omega
  · simp only [PyData.shown]
    exact toString_length_le h0 hk h
theorem shownAll_map : ∀ ds : List PyData, PyData.shownAll ds = ds.map PyData.shown
  | [] => rfl
  | d :: r => by simp only [PyData.shownAll, List.map_cons, shownAll_map r]
theorem piled_le {n : Nat} : ∀ {ds : List PyData}, (∀ d ∈ ds, d.shown.length ≤ n) → piled (ds.map PyData.shown) ≤ ds.length * (n + 2)
  | [], _ => by simp [piled_nil]
  | d :: r, h => by
    have h1 := piled_le (ds := r) fun x hx => h x (List.mem_cons_of_mem _ hx)
    have h2 := h d List.mem_cons_self
    rw [List.map_cons, piled_cons, List.length_cons, Nat.succ_mul]
    omega
theorem showAll_of {dep n : Nat} : ∀ {ds : List PyData}, (∀ d ∈ ds, Shw dep n d) → PyData.showableAll ds = true ∧ PyData.hasDictAll ds = false ∧ PyData.depthAll ds ≤ dep
  | [], _ => ⟨by simp only [PyData.showableAll], by simp only [PyData.hasDictAll], by simp [PyData.depthAll]⟩
  | d :: r, h => by
    obtain ⟨h1, h2, h3⟩ := showAll_of (ds := r) fun x hx => h x (List.mem_cons_of_mem _ hx)
    have g := h d List.mem_cons_self
    refine ⟨by simp only [PyData.showableAll, g.sh, h1, Bool.and_self], by simp only [PyData.hasDictAll, g.nd, h2, Bool.or_self], ?_⟩
    simp only [PyData.depthAll]
    exact Nat.max_le.mpr ⟨g.dp, h3⟩
theorem tupleText_len (ts : List Str) : (tupleText ts).length ≤ piled ts + 3 := by
  unfold tupleText
  rw [strLen_append, strLen_append]
  have e1 : (("(" : Str)).length = 1 := by decide +kernel
  have e2 : ((if ts.length == 1 then ",)" else ")" : String) : Str).length ≤ 2 := by
    cases ts.length == 1 <;> decide +kernel
  by_cases h : ts = []
  · subst h
    have : (Str.join ", " ([] : List Str)).length = 0 := by decide +kernel
    omega
  · have := join_length_add ts h
    omega
theorem textFrom_le : ∀ (ts : List Str) (k : Nat) (acc : Str), (textFrom k acc ts).length ≤ acc.length + piled ts
  | [], k, acc => by simp [textFrom, piled_nil]
  | t :: r, k, acc => by
    have h := textFrom_le r (k + 1) (acc ++ (if k > 0 then ", " else "" : String) ++ t)
    rw [piled_cons]
    show (textFrom (k + 1) _ r).length ≤ _
    have e : ((if k > 0 then ", " else "" : String) : Str).length ≤ 2 := by split <;> decide +kernel
    rw [strLen_append, strLen_append] at h
    omega
theorem listText_len (ts : List Str) : (listText ts).length ≤ piled ts + 2 := by
  unfold listText
  rw [strLen_append]
  have h := textFrom_le ts 0 "["
  have e1 : (("[" : Str)).length = 1 := by decide +kernel
  have e2 : (("]" : Str)).length = 1 := by decide +kernel
  omega
theorem Shw.tuple {dep n m : Nat} {ds : List PyData} (h : ∀ d ∈ ds, Shw dep n d) (hm : ds.length ≤ m) : Shw (dep + 1) (m * (n + 2) + 3) (.tuple ds) := by
  obtain ⟨h1, h2, h3⟩ := showAll_of h
  refine ⟨by simp only [PyData.showable, h1], by simp only [PyData.hasDict, h2], by simp only [PyData.depth]; omega, ?_⟩
  simp only [PyData.shown]
  rw [shownAll_map]
  have a1 := tupleText_len (ds.map PyData.shown)
  have a2 := piled_le fun d hd => (h d hd).ln
  have a3 : ds.length * (n + 2) ≤ m * (n + 2) := Nat.mul_le_mul_right _ hm
  omega
theorem Shw.list {dep n m : Nat} {ds : List PyData} (h : ∀ d ∈ ds, Shw dep n d) (hm : ds.length ≤ m) : Shw (dep + 1) (m * (n + 2) + 3) (.list ds) := by
  obtain ⟨h1, h2, h3⟩ := showAll_of h
  refine ⟨by simp only [PyData.showable, h1], by simp only [PyData.hasDict, h2], by simp only [PyData.depth]; omega, ?_⟩
  simp only [PyData.shown]
  rw [shownAll_map]
  have a1 := listText_len (ds.map PyData.shown)
  have a2 := piled_le fun d hd => (h d hd).ln
  have a3 : ds.length * (n + 2) ≤ m * (n + 2) := Nat.mul_le_mul_right _ hm
  omega
/-- only what stands at a and c may have changed -/
def But (a c : Addr) (H H' : Hp) : Prop := ∀ b o, b ≠ a → b ≠ c → H b = some o → H' b = some o
theorem But.refl (a c : Addr) (H : Hp) : But a c H H := fun _ _ _ _ h => h
theorem But.trans {a c : Addr} {H H1 H2 : Hp} (x : But a c H H1) (y : But a c H1 H2) : But a c H H2 := fun b o h1 h2 h => y b o h1 h2 (x b o h1 h2 h)
theorem But.of {a c : Addr} {H H' : Hp} (x : Same H H') : But a c H H' := fun b o _ _ h => x b o h
theorem same_new {H : Hp} {p : Addr} {o : HO} (h : H p = none) : Same H (upd H p o) := fun b x e => by
  rw [upd_ne (ne_of_none e h)]; exact e
/-- the deck at a, its cells at c, m draws may still be made -/
def Deck (H : Hp) (a c : Addr) (m : Nat) : Prop :=
  ∃ (cells : List Int) (n : Nat), H a = some (.lst [.ref c, .int (n : Int)]) ∧ H c = some (.lst (cells.map V.int)) ∧ a ≠ c ∧ cells.length ≤ 63 ∧ n + m ≤ 1000000
theorem Deck.same {H H' : Hp} {a c : Addr} {m : Nat} (e : Same H H') (h : Deck H a c m) : Deck H' a c m :=
  let ⟨cs, n, h1, h2, h3⟩ := h; ⟨cs, n, e _ _ h1, e _ _ h2, h3⟩
theorem Deck.less {H : Hp} {a c : Addr} {m m' : Nat} (h : Deck H a c m) (z : m' ≤ m) : Deck H a c m' :=
  let ⟨cs, n, h1, h2, h3, h4, h5⟩ := h; ⟨cs, n, h1, h2, h3, h4, by omega⟩
theorem Deck.apart {H : Hp} {a c : Addr} {m : Nat} (h : Deck H a c m) {b : Addr} {o : HO} (e : H b = some o) (ho : ∀ xs, o ≠ .lst xs) : b ≠ a ∧ b ≠ c := by
  obtain ⟨cs, n, h1, h2, _⟩ := h
  exact ⟨ne_of e h1 (ho _), ne_of e h2 (ho _)⟩
theorem Deck.fresh {H : Hp} {a c : Addr} {m : Nat} (h : Deck H a c m) {b : Addr} (e : H b = none) : b ≠ a ∧ b ≠ c := by
  obtain ⟨cs, n, h1, h2, _⟩ := h
  exact ⟨Ne.symm (ne_of_none h1 e), Ne.symm (ne_of_none h2 e)⟩
theorem FT.but {H H' : Hp} {a c p : Addr} {m : Nat} {xs : List V} (d : Deck H a c m) (b : But a c H H') (h : FT H p xs) : FT H' p xs := by
  obtain ⟨o, e, z⟩ := h
  have q := d.apart e (fun _ => by intro z; cases z)
  exact ⟨o, b _ _ q.1 q.2 e, z⟩
/-- a panel at p -/
def PanAt (H : Hp) (p : Addr) (pan : List (List Int)) : Prop := ∃ qs : List Addr, FT H p (qs.map V.ref) ∧ Paired (fun q l => FT H q (l.map V.int)) qs pan
theorem PanAt.same {H H' : Hp} {p : Addr} {pan : List (List Int)} (e : Same H H') (h : PanAt H p pan) : PanAt H' p pan :=
  let ⟨qs, h1, h2⟩ := h; ⟨qs, h1.same e, h2.mono fun _ _ x => x.same e⟩
theorem PanAt.but {H H' : Hp} {a c p : Addr} {m : Nat} {pan : List (List Int)} (d : Deck H a c m) (b : But a c H H') (h : PanAt H p pan) : PanAt H' p pan :=
  let ⟨qs, h1, h2⟩ := h; ⟨qs, h1.but d b, h2.mono fun _ _ x => x.but d b⟩
theorem paired_get {α β : Type} {F : α → β → Prop} : ∀ {l1 : List α} {l2 : List β}, Paired F l1 l2 → ∀ (i : Nat) (y : β), l2[i]? = some y → ∃ x, l1[i]? = some x ∧ F x y
  | _, _, .nil, i, y, h => by simp at h
  | _, _, .cons r t, 0, y, h => by simp at h; subst h; exact ⟨_, rfl, r⟩
  | _, _, .cons r t, i + 1, y, h => by
    obtain ⟨x, h1, h2⟩ := paired_get t i y (by simpa using h)
    exact ⟨x, by simpa using h1, h2⟩
/-- what the document calls a panel of at most ten buttons -/
structure Good (pan : List (List Int)) : Prop where
  pos : 1 ≤ pan.length
  few : pan.length ≤ 10
  up : ∀ l ∈ pan, l.Pairwise (· < ·)
  rng : ∀ l ∈ pan, ∀ x ∈ l, 0 ≤ x ∧ x < (pan.length : Int)
  own : ∀ (i : Nat) (l : List Int), pan[i]? = some l → (i : Int) ∉ l
def dInts (l : List Int) : PyData := .tuple (l.map PyData.int)
def dPan (pan : List (List Int)) : PyData := .tuple (pan.map dInts)
section
variable {K : PySem.W.Frag} {H : Hp}
theorem dpAll_ints : ∀ l : List Int, DpAll K H (l.map V.int) (l.map PyData.int)
  | [] => .nil
  | x :: r => .cons (.int x) (dpAll_ints r)
theorem dp_ints {q : Addr} {l : List Int} (h : SqT K H q (l.map V.int)) : Dp K H (.ref q) (dInts l) := .tup h (dpAll_ints l)
theorem dpAll_pan : ∀ {qs : List Addr} {pan : List (List Int)}, Paired (fun q l => FT H q (l.map V.int)) qs pan → DpAll K H (qs.map V.ref) (pan.map dInts)
  | _, _, .nil => .nil
  | _, _, .cons r t => .cons (dp_ints r.sq) (dpAll_pan t)
theorem PanAt.dp {p : Addr} {pan : List (List Int)} (h : PanAt H p pan) : Dp K H (.ref p) (dPan pan) := by
  obtain ⟨qs, h1, h2⟩ := h
  exact .tup h1.sq (dpAll_pan h2)
end
theorem pw_length {n : Nat} : ∀ {l : List Int} {lo : Int}, l.Pairwise (· < ·) → (∀ x ∈ l, lo ≤ x ∧ x < lo + n) → l.length ≤ n := by
  induction n with
  | zero =>
    intro l lo _ h
    cases l with
    | nil => exact Nat.le_refl _
    | cons x r => have := h x List.mem_cons_self; omega
  | succ n ih =>
    intro l lo hp h
    cases l with
    | nil => exact Nat.zero_le _
    | cons x r =>
      have hx := h x List.mem_cons_self
      rw [List.pairwise_cons] at hp
      have := ih (l := r) (lo := lo + 1) hp.2 fun y hy => by
        have h1 := hp.1 y hy
        have h2 := h y (List.mem_cons_of_mem _ hy)
        omega
      rw [List.length_cons]; omega
theorem shw_ints {l : List Int} {m : Nat} (hl : l.length ≤ m) (h : ∀ x ∈ l, 0 ≤ x ∧ x < 10) : Shw 1 (m * 3 + 3) (dInts l) := by
  refine Shw.tuple (fun d hd => ?_) (by rw [List.length_map]; exact hl)
  obtain ⟨x, hx, rfl⟩ := List.mem_map.mp hd
  exact Shw.int (h x hx).1 (by decide) (by decide) (h x hx).2
theorem Good.shw {pan : List (List Int)} (g : Good pan) : Shw 2 353 (dPan pan) := by
  have := Shw.tuple (dep := 1) (n := 33) (m := 10) (ds := pan.map dInts) (fun d hd => ?_) (by rw [List.length_map]; exact g.few)
  · exact this
  · obtain ⟨l, hl, rfl⟩ := List.mem_map.mp hd
    have hf := g.few
    refine shw_ints (m := 10) (pw_length (n := 10) (lo := 0) (g.up l hl) fun x hx => ?_) fun x hx => ?_
    · have := g.rng l hl x hx; omega
    · have := g.rng l hl x hx; omega
end Pr
namespace Pr
open PySem PySem.Spec PyProof.Rows L2
def intL (n : Nat) : List Int := (List.range n).map fun i : Nat => (i : Int)
theorem mem_intL {n : Nat} {x : Int} : x ∈ intL n ↔ 0 ≤ x ∧ x < (n : Int) := by
  unfold intL
  rw [List.mem_map]
  constructor
  · rintro ⟨i, hi, rfl⟩
    have := List.mem_range.mp hi
    omega
  · rintro ⟨h0, h1⟩
    exact ⟨x.toNat, List.mem_range.mpr (by omega), Int.toNat_of_nonneg h0⟩
theorem intL_up (n : Nat) : (intL n).Pairwise (· < ·) := by
  unfold intL
  rw [List.pairwise_map]
  exact List.pairwise_lt_range.imp fun {a b} (h : a < b) => by omega
/-- a state of n buttons -/
structure Asc (n : Nat) (st : List Int) : Prop where
  up : st.Pairwise (· < ·)
  rng : ∀ x ∈ st, 0 ≤ x ∧ x < (n : Int)
theorem Asc.nil (n : Nat) : Asc n [] := ⟨List.Pairwise.nil, fun _ h => by cases h⟩
theorem Asc.full (n : Nat) : Asc n (intL n) := ⟨intL_up n, fun _ h => mem_intL.mp h⟩
theorem Asc.filter (n : Nat) (f : Int → Bool) : Asc n ((intL n).filter f) := ⟨(intL_up n).filter f, fun _ h => mem_intL.mp (List.mem_filter.mp h).1⟩
theorem Asc.len {n : Nat} {st : List Int} (h : Asc n st) : st.length ≤ n := pw_length (lo := 0) h.up fun x hx => by have := h.rng x hx; omega
theorem asc_ext : ∀ {l1 l2 : List Int}, l1.Pairwise (· < ·) → l2.Pairwise (· < ·) → (∀ x, x ∈ l1 ↔ x ∈ l2) → l1 = l2
  | [], [], _, _, _ => rfl
  | [], y :: r, _, _, h => absurd ((h y).mpr List.mem_cons_self) (by simp)
  | x :: r, [], _, _, h => absurd ((h x).mp List.mem_cons_self) (by simp)
  | x :: r, y :: t, h1, h2, h => by
    rw [List.pairwise_cons] at h1 h2
    have exy : x = y := by
      rcases List.mem_cons.mp ((h x).mp List.mem_cons_self) with e | e
      · exact e
      · rcases List.mem_cons.mp ((h y).mpr List.mem_cons_self) with e' | e'
        · exact e'.symm
        · have a1 := h2.1 x e
          have a2 := h1.1 y e'
          omega
    subst exy
    have : r = t := asc_ext h1.2 h2.2 fun z => by
      constructor
      · intro hz
        rcases List.mem_cons.mp ((h z).mp (List.mem_cons_of_mem _ hz)) with e | e
        · have := h1.1 z hz; omega
        · exact e
      · intro hz
        rcases List.mem_cons.mp ((h z).mpr (List.mem_cons_of_mem _ hz)) with e | e
        · have := h2.1 z hz; omega
        · exact e
    rw [this]
def pressM (pan : List (List Int)) (st : List Int) (b : Int) : List Int := (intL pan.length).filter fun x => decide (x = b ∨ (x ∈ st ∧ x ∉ pan.getD b.toNat []))
theorem pressM_asc (pan : List (List Int)) (st : List Int) (b : Int) : Asc pan.length (pressM pan st b) := Asc.filter _ _
theorem mem_pressM {pan : List (List Int)} {st : List Int} {b x : Int} : x ∈ pressM pan st b ↔ (0 ≤ x ∧ x < (pan.length : Int)) ∧ (x = b ∨ (x ∈ st ∧ x ∉ pan.getD b.toNat [])) := by
  unfold pressM
  rw [List.mem_filter, decide_eq_true_eq, mem_intL]
/-- what press_button makes: the kept ones and the button, sorted -/
theorem press_sorted {pan : List (List Int)} {st : List Int} {b : Int} {ns : List Int} (hs : Asc pan.length st) (h0 : 0 ≤ b) (h1 : b < (pan.length : Int))
    (hp : ns.Perm (st.filter (fun x => decide (x ≠ b ∧ x ∉ pan.getD b.toNat [])) ++ [b])) (hle : ns.Pairwise (· ≤ ·)) : ns = pressM pan st b := by
  have nd0 : (st.filter (fun x => decide (x ≠ b ∧ x ∉ pan.getD b.toNat [])) ++ [b]).Nodup := by
    refine List.nodup_append.mpr ⟨(hs.up.imp fun {x y} (q : x < y) => by omega : st.Nodup).filter _, by simp, fun x hx y hy e => ?_⟩
    rw [List.mem_singleton] at hy
    have := (List.mem_filter.mp hx).2
    rw [decide_eq_true_eq] at this
    exact this.1 (e.trans hy)
  have nd : ns.Nodup := hp.nodup_iff.mpr nd0
  have up : ns.Pairwise (· < ·) := (hle.and nd).imp fun {x y} (q : x ≤ y ∧ x ≠ y) => by omega
  refine asc_ext up (pressM_asc pan st b).up fun x => ?_
  rw [hp.mem_iff, mem_pressM, List.mem_append, List.mem_filter, decide_eq_true_eq, List.mem_singleton]
  constructor
  · rintro (⟨a1, a2⟩ | a)
    · exact ⟨hs.rng x a1, .inr ⟨a1, a2.2⟩⟩
    · subst a; exact ⟨⟨h0, h1⟩, .inl rfl⟩
  · rintro ⟨_, a | a⟩
    · exact .inr a
    · by_cases e : x = b
      · exact .inr e
      · exact .inl ⟨a.1, e, a.2⟩
end Pr
namespace Pr
open PySem PySem.Spec PyProof.Rows L2
theorem Good.own' {pan : List (List Int)} (g : Good pan) {b : Int} (h0 : 0 ≤ b) (h1 : b < (pan.length : Int)) : b ∉ pan.getD b.toNat [] := by
  have hb : b.toNat < pan.length := by omega
  have := g.own b.toNat pan[b.toNat] (List.getElem?_eq_getElem hb)
  rw [List.getD_eq_getElem?_getD, List.getElem?_eq_getElem hb]
  rw [Int.toNat_of_nonneg h0] at this
  exact this
def dStrs (l : List Str) : PyData := .tuple (l.map PyData.str)
theorem int_get {os : List Int} {k : Nat} {x : V} (h : (os.map V.int)[k]? = some x) : ∃ z, os[k]? = some z ∧ x = .int z := by
  rw [List.getElem?_map] at h
  cases e : os[k]? with
  | none => rw [e] at h; cases h
  | some z => rw [e] at h; exact ⟨z, rfl, (Option.some.inj h).symm⟩
theorem gen_heap {X : Hp} {R : Hp → Prop} (C : Hp → Prop) (hX : C X) (h : ∀ H', C H' → R H') : R X := h X hX
theorem gen_name {i : Nat} {v : V} {σ : L2.St} {X : Hp} {D : L2.St → Hp → Prop} (C : Hp → Prop) (hX : C X) (h : ∀ H', C H' → gName i v σ H' D) : gName i v σ X D := h X hX
theorem tyes {σ : L2.St} {H : Hp} {Q : Bool → Hp → Prop} (h : Q true H) : tYes σ H Q := h
theorem inV_ints {b : Int} (l : List Int) : inV (.int b) (l.map V.int) = decide (b ∈ l) := by
  unfold inV
  rw [List.any_map, Bool.eq_iff_iff, List.any_eq_true, decide_eq_true_eq]
  constructor
  · rintro ⟨x, hx, e⟩
    have e' : x = b := by simpa [eqV] using e
    rw [← e']; exact hx
  · intro h
    exact ⟨b, h, by simp [eqV]⟩
theorem flat_ints : ∀ l : List Int, (l.map V.int).all flatV = true
  | [] => rfl
  | x :: r => by rw [List.map_cons, List.all_cons, flat_ints r]; rfl
end Pr
namespace Pr
open PySem PySem.Spec PyProof.Rows L2
theorem nodup_few : ∀ (m : Nat) (l : List Int), l.Nodup → (∀ x ∈ l, 0 ≤ x ∧ x < (m : Int)) → l.length ≤ m
  | 0, l, _, h => by
    cases l with
    | nil => exact Nat.le_refl _
    | cons x r => have := h x List.mem_cons_self; omega
  | m + 1, l, hn, h => by
    have ih := nodup_few m (l.erase (m : Int)) (hn.erase _) fun x hx => by
      have h1 := (hn.mem_erase_iff.mp hx)
      have h2 := h x h1.2
      have h3 := h1.1
      omega
    have hl := List.length_erase (a := (m : Int)) (l := l)
    split at hl <;> omega
end Pr
namespace Pr
open PySem PySem.Spec PyProof.Rows L2
def PanT (K : PySem.W.Frag) (H : Hp) (p : Addr) (pan : List (List Int)) : Prop := ∃ qs : List Addr, SqT K H p (qs.map V.ref) ∧ Paired (fun q l => SqT K H q (l.map V.int)) qs pan
section
variable {K : PySem.W.Frag} {H H' : Hp} {p : Addr} {pan : List (List Int)}
theorem PanT.same (e : Same H H') (h : PanT K H p pan) : PanT K H' p pan :=
  let ⟨qs, h1, h2⟩ := h; ⟨qs, same_sqT e h1, h2.mono fun _ _ x => same_sqT e x⟩
theorem PanAt.t (h : PanAt H p pan) : PanT K H p pan :=
  let ⟨qs, h1, h2⟩ := h; ⟨qs, h1.sq, h2.mono fun _ _ x => x.sq⟩
theorem panT_at (h : PanT K H p pan) {b : Int} (h0 : 0 ≤ b) (h1 : b < (pan.length : Int)) :
    ∃ (qs : List Addr) (q : Addr), SqT K H p (qs.map V.ref) ∧ atI (qs.map V.ref) b = some (.ref q) ∧ SqT K H q ((pan.getD b.toNat []).map V.int) ∧ qs.length = pan.length := by
  obtain ⟨qs, hq, hqs⟩ := h
  obtain ⟨n, rfl⟩ : ∃ n : Nat, b = (n : Int) := ⟨b.toNat, (Int.toNat_of_nonneg h0).symm⟩
  have hn : n < pan.length := by omega
  obtain ⟨q', g1, g2⟩ := paired_get hqs n pan[n] (List.getElem?_eq_getElem hn)
  refine ⟨qs, q', hq, atI_nat (by rw [List.getElem?_map, g1]; rfl), ?_, hqs.length⟩
  rw [Int.toNat_natCast, List.getD_eq_getElem?_getD, List.getElem?_eq_getElem hn]
  exact g2
theorem PanT.len (h : PanT K H p pan) : ∃ xs : List V, SqT K H p xs ∧ xs.length = pan.length :=
  let ⟨qs, h1, h2⟩ := h; ⟨_, h1, by rw [List.length_map, h2.length]⟩
theorem dpAll_panT : ∀ {qs : List Addr} {pan : List (List Int)}, Paired (fun q l => SqT K H q (l.map V.int)) qs pan → DpAll K H (qs.map V.ref) (pan.map dInts)
  | _, _, .nil => .nil
  | _, _, .cons r t => .cons (dp_ints r) (dpAll_panT t)
theorem PanT.dp (h : PanT K H p pan) : Dp K H (.ref p) (dPan pan) := let ⟨_, h1, h2⟩ := h; .tup h1 (dpAll_panT h2)
end
end Pr
namespace Pr
open PySem PySem.Spec PyProof.Rows L2
def Rel (pan : List (List Int)) (st : List Int) (x y : Int) : Prop := x ∈ st ∧ y ∈ st ∧ y ∈ pan.getD x.toNat []
def Pth (pan : List (List Int)) (st : List Int) : Nat → Int → Int → Prop
  | 0, x, y => x = y
  | m + 1, x, y => ∃ z, Rel pan st x z ∧ Pth pan st m z y
section
variable {pan : List (List Int)} {st : List Int}
theorem Pth.join : ∀ {a b : Nat} {x y z : Int}, Pth pan st a x y → Pth pan st b y z → Pth pan st (a + b) x z
  | 0, b, x, y, z, h1, h2 => by rw [Nat.zero_add]; rw [show x = y from h1]; exact h2
  | a + 1, b, x, y, z, ⟨u, r, h1⟩, h2 => by
    rw [show a + 1 + b = (a + b) + 1 by omega]
    exact ⟨u, r, Pth.join h1 h2⟩
theorem Pth.split : ∀ {a b : Nat} {x z : Int}, Pth pan st (a + b) x z → ∃ y, Pth pan st a x y ∧ Pth pan st b y z
  | 0, b, x, z, h => ⟨x, rfl, by rw [Nat.zero_add] at h; exact h⟩
  | a + 1, b, x, z, h => by
    rw [show a + 1 + b = (a + b) + 1 by omega] at h
    obtain ⟨u, r, h⟩ := h
    obtain ⟨y, h1, h2⟩ := Pth.split h
    exact ⟨y, ⟨u, r, h1⟩, h2⟩
theorem Pth.one {x y : Int} (r : Rel pan st x y) : Pth pan st 1 x y := ⟨y, r, rfl⟩
theorem Pth.ends : ∀ {m : Nat} {x y : Int}, Pth pan st (m + 1) x y → x ∈ st ∧ y ∈ st
  | 0, x, y, ⟨z, r, h⟩ => ⟨r.1, by rw [← show z = y from h]; exact r.2.1⟩
  | m + 1, x, y, ⟨z, r, h⟩ => ⟨r.1, (Pth.ends h).2⟩
end
def Closed (pan : List (List Int)) (C : List Int) : Prop := ∀ b ∈ C, ∃ c ∈ pan.getD b.toNat [], c ∈ C
structure IsHeld (pan : List (List Int)) (st hs : List Int) : Prop where
  up : hs.Pairwise (· < ·)
  sub : ∀ x ∈ hs, x ∈ st
  closed : Closed pan hs
  most : ∀ C : List Int, Closed pan C → (∀ x ∈ C, x ∈ st) → ∀ x ∈ C, x ∈ hs
theorem nodup_sub : ∀ {l s : List Int}, l.Nodup → (∀ x ∈ l, x ∈ s) → l.length ≤ s.length
  | [], s, _, _ => Nat.zero_le _
  | x :: r, s, hn, h => by
    rw [List.nodup_cons] at hn
    have hx := h x List.mem_cons_self
    have ih := nodup_sub (l := r) (s := s.erase x) hn.2 fun y hy => (List.mem_erase_of_ne (fun e => hn.1 (by rw [← e]; exact hy))).mpr (h y (List.mem_cons_of_mem _ hy))
    rw [List.length_erase_of_mem hx] at ih
    have := List.length_pos_of_mem hx
    rw [List.length_cons]; omega
theorem not_nodup : ∀ {l : List Int}, ¬ l.Nodup → ∃ i j : Nat, ∃ x : Int, i < j ∧ l[i]? = some x ∧ l[j]? = some x
  | [], h => absurd List.nodup_nil h
  | y :: r, h => by
    by_cases hy : y ∈ r
    · obtain ⟨j, hj⟩ := List.getElem?_of_mem hy
      exact ⟨0, j + 1, y, Nat.succ_pos _, rfl, hj⟩
    · have : ¬ r.Nodup := fun hr => h (List.nodup_cons.mpr ⟨hy, hr⟩)
      obtain ⟨i, j, x, h1, h2, h3⟩ := not_nodup this
      exact ⟨i + 1, j + 1, x, by omega, h2, h3⟩
theorem walk_in {pan : List (List Int)} {st hs : List Int} (h : IsHeld pan st hs) : ∀ (m : Nat) (x : Int), x ∈ hs → ∃ l : List Int, l.length = m ∧ (∀ y ∈ l, y ∈ hs) ∧ (∀ (i : Nat) (y : Int), l[i]? = some y → Pth pan st (i + 1) x y) ∧
    ∀ (i j : Nat) (y z : Int), i < j → l[i]? = some y → l[j]? = some z → Pth pan st (j - i) y z
  | 0, x, _ => ⟨[], rfl, (fun y hy => by cases hy), (fun i y hy => by cases hy), (fun i j y z _ hy => by cases hy)⟩
  | m + 1, x, hx => by
    obtain ⟨c, hc1, hc2⟩ := h.closed x hx
    have r : Rel pan st x c := ⟨h.sub x hx, h.sub c hc2, hc1⟩
    obtain ⟨l, h1, h2, h3, h4⟩ := walk_in h m c hc2
    refine ⟨c :: l, by rw [List.length_cons, h1], fun y hy => (List.mem_cons.mp hy).elim (fun e => e ▸ hc2) (h2 y), fun i y hy => ?_, fun i j y z hij hy hz => ?_⟩
    · match i, hy with
      | 0, hy => cases hy; exact Pth.one r
      | i + 1, hy => exact ⟨c, r, h3 i y hy⟩
    · match i, j, hij, hy, hz with
      | 0, j + 1, _, hy, hz => cases hy; exact h3 j z hz
      | i + 1, j + 1, hij, hy, hz => rw [show j + 1 - (i + 1) = j - i by omega]; exact h4 i j y z (by omega) hy hz
theorem held_loop {pan : List (List Int)} {st hs : List Int} (h : IsHeld pan st hs) {b : Int} (hb : b ∈ hs) : ∃ (l : Int) (i j : Nat), 1 ≤ i ∧ i ≤ st.length ∧ 1 ≤ j ∧ j ≤ st.length ∧ Pth pan st i b l ∧ Pth pan st j l l := by
  obtain ⟨w, w1, w2, w3, w4⟩ := walk_in h (st.length + 1) b hb
  have nd : ¬ w.Nodup := fun hn => by
    have := nodup_sub hn fun x hx => h.sub x (w2 x hx)
    omega
  obtain ⟨i, j, x, hij, hi, hj⟩ := not_nodup nd
  have lj := (List.getElem?_eq_some_iff.mp hj).1
  exact ⟨x, i + 1, j - i, by omega, by omega, by omega, by omega, w3 i x hi, w4 i j x x hij hi hj⟩
theorem loop_held {pan : List (List Int)} {st hs : List Int} (h : IsHeld pan st hs) {b l : Int} {i j : Nat} (hi : 1 ≤ i) (hj : 1 ≤ j) (h1 : Pth pan st i b l) (h2 : Pth pan st j l l) : b ∈ hs := by
  classical
  have key : ∀ x, x ∈ st.filter (fun x => decide (∃ m, 1 ≤ m ∧ Pth pan st m x l)) → x ∈ hs := by
    refine fun x hx => h.most _ (fun y hy => ?_) (fun y hy => (List.mem_filter.mp hy).1) x hx
    obtain ⟨hy1, hy2⟩ := List.mem_filter.mp hy
    obtain ⟨m, hm, hp⟩ := of_decide_eq_true hy2
    obtain ⟨m, rfl⟩ : ∃ k, m = k + 1 := ⟨m - 1, by omega⟩
    obtain ⟨z, r, hp⟩ := hp
    refine ⟨z, r.2.2, List.mem_filter.mpr ⟨r.2.1, decide_eq_true ⟨m + j, by omega, Pth.join hp h2⟩⟩⟩
  refine key b (List.mem_filter.mpr ⟨?_, decide_eq_true ⟨i, hi, h1⟩⟩)
  obtain ⟨i, rfl⟩ : ∃ k, i = k + 1 := ⟨i - 1, by omega⟩
  exact (Pth.ends h1).1
theorem IsHeld.uniq {pan : List (List Int)} {st h1 h2 : List Int} (a : IsHeld pan st h1) (b : IsHeld pan st h2) : h1 = h2 :=
  asc_ext a.up b.up fun x => ⟨fun h => b.most h1 a.closed a.sub x h, fun h => a.most h2 b.closed b.sub x h⟩
def relB (pan : List (List Int)) (os : List Int) (b : Int) : Bool := (pan.getD b.toNat []).any fun c => decide (c ∈ os)
theorem relB_iff {pan : List (List Int)} {os : List Int} {b : Int} : relB pan os b = true ↔ ∃ c ∈ pan.getD b.toNat [], c ∈ os := by
  unfold relB
  rw [List.any_eq_true]
  exact ⟨fun ⟨c, h1, h2⟩ => ⟨c, h1, of_decide_eq_true h2⟩, fun ⟨c, h1, h2⟩ => ⟨c, h1, decide_eq_true h2⟩⟩
/-- on the way to the held buttons -/
structure Hold (pan : List (List Int)) (st hs : List Int) : Prop where
  up : hs.Pairwise (· < ·)
  sub : ∀ x ∈ hs, x ∈ st
  most : ∀ C : List Int, Closed pan C → (∀ x ∈ C, x ∈ st) → ∀ x ∈ C, x ∈ hs
theorem Hold.step {pan : List (List Int)} {st hs : List Int} (h : Hold pan st hs) : Hold pan st (hs.filter (relB pan hs)) := by
  refine ⟨h.up.filter _, fun x hx => h.sub x (List.mem_filter.mp hx).1, fun C hC hs' x hx => List.mem_filter.mpr ⟨h.most C hC hs' x hx, relB_iff.mpr ?_⟩⟩
  obtain ⟨c, h1, h2⟩ := hC x hx
  exact ⟨c, h1, h.most C hC hs' c h2⟩
theorem Hold.done {pan : List (List Int)} {st hs : List Int} (h : Hold pan st hs) (hl : ¬ (hs.filter (relB pan hs)).length < hs.length) : IsHeld pan st hs := by
  have e : (hs.filter (relB pan hs)).length = hs.length := Nat.le_antisymm (List.length_filter_le _ _) (by omega)
  exact ⟨h.up, h.sub, fun b hb => relB_iff.mp (List.length_filter_eq_length_iff.mp e b hb), h.most⟩
/-- rows[x] holds the ends of ways of at most 2 ^ k links, and ends of ways only -/
structure Rch (pan : List (List Int)) (st : List Int) (k : Nat) (rows : List (List Int)) : Prop where
  len : rows.length = pan.length
  sound : ∀ (x : Nat) (l : List Int) (y : Int), rows[x]? = some l → y ∈ l → ∃ m, 1 ≤ m ∧ Pth pan st m (x : Int) y
  full : ∀ (x : Nat) (l : List Int) (y : Int) (m : Nat), rows[x]? = some l → 1 ≤ m → m ≤ 2 ^ k → Pth pan st m (x : Int) y → y ∈ l
theorem Rch.rng {pan : List (List Int)} {st : List Int} {k : Nat} {rows : List (List Int)} (h : Rch pan st k rows) (hs : ∀ x ∈ st, 0 ≤ x ∧ x < (pan.length : Int)) {x : Nat} {l : List Int} (hl : rows[x]? = some l) {y : Int} (hy : y ∈ l) : 0 ≤ y ∧ y < (pan.length : Int) := by
  obtain ⟨m, hm, p⟩ := h.sound x l y hl hy
  obtain ⟨m, rfl⟩ : ∃ k, m = k + 1 := ⟨m - 1, by omega⟩
  exact hs y (Pth.ends p).2
theorem Rch.next {pan : List (List Int)} {st : List Int} {k : Nat} {rows rows' : List (List Int)} (h : Rch pan st k rows) (hs : ∀ x ∈ st, 0 ≤ x ∧ x < (pan.length : Int)) (hl : rows'.length = rows.length)
    (hm : ∀ (x : Nat) (l l' : List Int), rows[x]? = some l → rows'[x]? = some l' → ∀ y, y ∈ l' ↔ (y ∈ l ∨ ∃ z ∈ l, y ∈ rows.getD z.toNat [])) : Rch pan st (k + 1) rows' := by
  have get : ∀ (x : Nat) (l' : List Int), rows'[x]? = some l' → ∃ l, rows[x]? = some l := fun x l' hx => by
    have := (List.getElem?_eq_some_iff.mp hx).1
    exact ⟨rows[x], List.getElem?_eq_getElem (by omega)⟩
  have nth : ∀ (z : Int), 0 ≤ z → z < (pan.length : Int) → rows[z.toNat]? = some (rows.getD z.toNat []) := fun z h0 h1 => by
    have : z.toNat < rows.length := by have := h.len; omega
    rw [List.getD_eq_getElem?_getD, List.getElem?_eq_getElem this]; rfl
  refine ⟨hl.trans h.len, fun x l' y hx hy => ?_, fun x l' y m hx h1 h2 hp => ?_⟩
  · obtain ⟨l, hl'⟩ := get x l' hx
    rcases (hm x l l' hl' hx y).mp hy with q | ⟨z, hz, q⟩
    · exact h.sound x l y hl' q
    · obtain ⟨a, ha, pa⟩ := h.sound x l z hl' hz
      have zr := h.rng hs hl' hz
      obtain ⟨b, hb, pb⟩ := h.sound z.toNat _ y (nth z zr.1 zr.2) q
      rw [Int.toNat_of_nonneg zr.1] at pb
      exact ⟨a + b, by omega, pa.join pb⟩
  · obtain ⟨l, hl'⟩ := get x l' hx
    refine (hm x l l' hl' hx y).mpr ?_
    by_cases hk : m ≤ 2 ^ k
    · exact .inl (h.full x l y m hl' h1 hk hp)
    · have e2 : 2 ^ (k + 1) = 2 ^ k + 2 ^ k := by rw [Nat.pow_succ]; omega
      have p2 : 1 ≤ 2 ^ k := Nat.one_le_two_pow
      rw [show m = 2 ^ k + (m - 2 ^ k) by omega] at hp
      obtain ⟨z, pa, pb⟩ := Pth.split hp
      have hz := h.full x l z (2 ^ k) hl' p2 (Nat.le_refl _) pa
      have zr := h.rng hs hl' hz
      refine .inr ⟨z, hz, h.full z.toNat _ y (m - 2 ^ k) (nth z zr.1 zr.2) (by omega) (by omega) ?_⟩
      rw [Int.toNat_of_nonneg zr.1]; exact pb
/-- what the law holds for held -/
theorem Rch.held {pan : List (List Int)} {st hs : List Int} {k : Nat} {rows : List (List Int)} (h : Rch pan st k rows) (hk : st.length ≤ 2 ^ k) (hs' : ∀ x ∈ st, 0 ≤ x ∧ x < (pan.length : Int)) (hh : IsHeld pan st hs) {b : Int} (hb : b ∈ st) :
    b ∈ hs ↔ ∃ l ∈ rows.getD b.toNat [], l ∈ st ∧ l ∈ rows.getD l.toNat [] := by
  have nth : ∀ (z : Int), z ∈ st → rows[z.toNat]? = some (rows.getD z.toNat []) := fun z hz => by
    have : z.toNat < rows.length := by have := h.len; have := hs' z hz; omega
    rw [List.getD_eq_getElem?_getD, List.getElem?_eq_getElem this]; rfl
  have cast : ∀ z, z ∈ st → ((z.toNat : Nat) : Int) = z := fun z hz => Int.toNat_of_nonneg (hs' z hz).1
  constructor
  · intro hx
    obtain ⟨l, i, j, i1, i2, j1, j2, p1, p2⟩ := held_loop hh hx
    obtain ⟨j', rfl⟩ : ∃ k, j = k + 1 := ⟨j - 1, by omega⟩
    have hl := (Pth.ends p2).1
    exact ⟨l, h.full b.toNat _ l i (nth b hb) i1 (by omega) (by rw [cast b hb]; exact p1), hl, h.full l.toNat _ l (j' + 1) (nth l hl) j1 (by omega) (by rw [cast l hl]; exact p2)⟩
  · rintro ⟨l, h1, hl, h2⟩
    obtain ⟨i, i1, p1⟩ := h.sound b.toNat _ l (nth b hb) h1
    obtain ⟨j, j1, p2⟩ := h.sound l.toNat _ l (nth l hl) h2
    rw [cast b hb] at p1
    rw [cast l hl] at p2
    exact loop_held hh i1 j1 p1 p2
end Pr
namespace K57
open PySem PySem.Spec PyProof.Rows L2 Pr
def topS (i : Nat) : Stmt := PySem.Challenge.pw_pressrelease_k57_whole_watches_and_singl.main.body.getD i (.Pass ⟨0, 0, 0, 0⟩)
abbrev sWl : Stmt := topS 19
abbrev sLi : Stmt := topS 20
abbrev sUn : Stmt := topS 21
abbrev sBtn : Stmt := topS 23
abbrev sBtnT : Stmt := topS 24
abbrev sPErr : Stmt := topS 25
abbrev sPress : Stmt := topS 26
abbrev sAny : Stmt := topS 28
abbrev sHeld : Stmt := topS 29
abbrev sChkP : Stmt := topS 37
abbrev sChkS : Stmt := topS 38
abbrev sChkB : Stmt := topS 39
abbrev sIsV : Stmt := topS 40
abbrev sIsE : Stmt := topS 41
abbrev sCopy : Stmt := topS 42
abbrev sDeck : Stmt := topS 45
abbrev sDraw : Stmt := topS 46
abbrev sPanel : Stmt := topS 47
abbrev sState0 : Stmt := topS 48
abbrev sPressed : Stmt := topS 49
abbrev sChanged : Stmt := topS 50
abbrev sAfter : Stmt := topS 51
abbrev sEdit : Stmt := topS 52
abbrev sDo : Stmt := topS 53
abbrev sRight : Stmt := topS 54
abbrev sReach : Stmt := topS 55
abbrev sLaw : Stmt := topS 56
theorem scDeck : FnScope ["_law_script", "_law_cell"] ["_law_script"] (defScope sDeck) := ⟨rfl, rfl, rfl, by decide +kernel, rfl, by decide +kernel, by decide +kernel⟩
theorem scDraw : FnScope ["_law_deck_here", "_law_many", "_law_cell", "_law_place"] ["_law_deck_here", "_law_many"] (defScope sDraw) := ⟨rfl, rfl, rfl, by decide +kernel, rfl, by decide +kernel, by decide +kernel⟩
theorem cut_ints (ns : List Int) (lo hi : Option Int) : ∃ ms : List Int, cutV (ns.map V.int) lo hi = ms.map V.int ∧ ms.length ≤ ns.length := by
  refine ⟨(ns.drop (HT.sIx ns.length 0 lo)).take (HT.sIx ns.length ns.length hi - HT.sIx ns.length 0 lo), ?_, ?_⟩
  · unfold cutV
    rw [List.length_map, List.map_take, List.map_drop]
  · rw [List.length_take, List.length_drop]; omega
section
variable {P : Program} {w : World} {K : PySem.W.Frag} {mg : Str → Option Value} {base : Heap}
def spDeck (K : PySem.W.Frag) : Sp := fun vs H Q _ => ∃ (s : Addr) (ns : List Int), vs = [.ref s] ∧ SqL K H s (ns.map V.int) ∧ ns.length ≤ 63 ∧
  ∀ H' a c, Same H H' → Deck H' a c 1000000 → Q (.ref a) H'
theorem ok_deck {f : Addr} {fd : FuncData} {k : Nat} (F : Fun K "_law_deck" "_law_deck" sDeck f fd) (ma : mg "abs" = none) : FnOk P w K mg base CX0 (k + 1) f fd ["_law_script"] (spDeck K) := by
  refine F.ok scDeck (fun vs H Q E h => ?_) (fun cdv A outer s H vs Q E hr h => ?_)
  · obtain ⟨s, ns, rfl, _⟩ := h
    rfl
  · obtain ⟨sa, ns, rfl, hS, hlen, q⟩ := h
    refine ⟨_, pss_one (ps_ret (pe_lst (pa_cons
      (pe_lc (own := [("_law_cell", 1)]) (g := gName 1) (tt := tYes) rfl scDeck.nd (pi_list (pe_slice sl_list (pv 0) po_none (po_some pe_int)))
        (blkOk_by (own := [("_law_cell", 1)]) (N := ["_law_script", "_law_cell"]) (sc := defScope sDeck) (by decide +kernel))
        (fun _ _ _ _ _ => pg_name (i := 1) scDeck.nd rfl (Or.inl rfl)) (fun _ _ _ _ _ => pts_nil)
        (fun _ _ _ _ _ => pe_callB call_abs (by rfl) ma (by decide +kernel) (pa_cons (pv 1) pa_nil)))
      (pa_cons pe_int pa_nil)))), ?_⟩
    refine ⟨.ref sa, rfl, 63, rfl, sa, ns.map V.int, rfl, hS, fun l nl => ?_⟩
    obtain ⟨ms, em, lm⟩ := cut_ints ns none (some 63)
    rw [em]
    have s1 : Same H (upd H l (.lst (ms.map V.int))) := same_new nl
    refine ⟨l, rfl, ⟨_, .inl (.inl upd_same)⟩, fun D nD => ?_⟩
    refine lc_list (xs := ms.map V.int) (fun i H3 => Same (upd H l (.lst (ms.map V.int))) H3 ∧ ∃ cells : List Int, cells.length = i ∧ H3 D = some (.lst (cells.map V.int)))
      ⟨same_new nD, [], rfl, upd_same⟩ (fun i H3 _ hP => hP.1.seq (.inl (.inl upd_same))) (fun i x H3 hx hP => ?_) (fun H3 hP => ?_)
    · obtain ⟨sm, cells, hc, eD⟩ := hP
      rw [List.getElem?_map] at hx
      obtain ⟨z, hz, rfl⟩ : ∃ z, ms[i]? = some z ∧ x = V.int z := by
        cases e : ms[i]? with
        | none => rw [e] at hx; cases hx
        | some z => rw [e] at hx; exact ⟨z, rfl, (Option.some.inj hx).symm⟩
      have hi : i < ms.length := (List.getElem?_eq_some_iff.mp hz).1
      refine ⟨rfl, tyes (iteT ⟨_, rfl, _, rfl, cells.map V.int, eD, ?_, ?_, cells ++ [if z < 0 then -z else z], ?_, ?_⟩)⟩
      · rw [List.length_map]; exact small1000 (by omega)
      · intro b o e
        rw [upd_ne (ne_of_none e nD)]
        exact sm _ _ e
      · rw [List.length_append, hc]; rfl
      · rw [upd_same, List.map_append]; rfl
    · obtain ⟨sm, cells, hc, eD⟩ := hP
      rw [List.length_map] at hc
      refine ⟨by show 2 ≤ sizeLine; decide, fun p np => ?_⟩
      have nDp : D ≠ p := ne_of_none eD np
      refine q _ p D ((s1.trans sm).trans (same_new np)) ⟨cells, 0, upd_same, ?_, Ne.symm nDp, by omega, by omega⟩
      rw [upd_ne nDp]; exact eD
def spDraw : Sp := fun vs H Q _ => ∃ (a c : Addr) (m : Nat) (lim : Int), vs = [.ref a, .int lim] ∧ Deck H a c (m + 1) ∧ 0 < lim ∧ lim < 1000000 ∧
  ∀ H' r, But a c H H' → Deck H' a c m → 0 ≤ r → r < lim → Q (.int r) H'
theorem ok_draw {f : Addr} {fd : FuncData} {k : Nat} (F : Fun K "_law_draw" "_law_draw" sDraw f fd) (ml : mg "len" = none) : FnOk P w K mg base CX0 (k + 1) f fd ["_law_deck_here", "_law_many"] spDraw := by
  refine F.ok scDraw (fun vs H Q E h => ?_) (fun cdv A outer s H vs Q E hr h => ?_)
  · obtain ⟨a, c, m, lim, rfl, _⟩ := h
    rfl
  · obtain ⟨a, c, m, lim, rfl, hD, l0, l1, q⟩ := h
    refine ⟨_, pss_cons (ps_asg (pe_op op_add (pe_ix ix_list (pv 0) pe_int (fun _ _ => rfl)) pe_int) (pg_sub (pv 0) pe_int set_list))
      (pss_cons (ps_set (i := 2) scDraw.nd rfl (.inl rfl) pe_int)
      (pss_cons (ps_set (i := 3) scDraw.nd rfl (.inl rfl) (pe_un un_neg pe_int))
      (pss_cons (ps_if (pt_cmpR op_gt (pe_callB call_len_seq (by rfl) ml PySem.boot_len (pa_cons (pe_ix ix_list (pv 0) pe_int (fun _ _ => rfl)) pa_nil)) pe_int (nomark _))
        (pss_cons (ps_set (i := 3) scDraw.nd rfl (.inl rfl) (pe_op op_mod (pe_ix ix_list (pv 0) pe_int (fun _ _ => rfl)) (pe_callB call_len_seq (by rfl) ml PySem.boot_len (pa_cons (pe_ix ix_list (pv 0) pe_int (fun _ _ => rfl)) pa_nil))))
          (pss_one (ps_set (i := 2) scDraw.nd rfl (.inl rfl) (pe_ix ix_list (pe_ix ix_list (pv 0) pe_int (fun _ _ => rfl)) (pv 3) (fun _ _ => rfl)))))
        pss_nil)
      (pss_cons (ps_if (pt_cmpR op_ge (pv 2) (pe_op op_pow pe_int pe_int) (nomark _))
        (pss_cons (ps_asg (pe_op op_fdiv (pv 2) (pv 1)) (pg_sub (pe_ix ix_list (pv 0) pe_int (fun _ _ => rfl)) (pv 3) set_list))
          (pss_one (ps_ret (pe_op op_mod (pv 2) (pv 1)))))
        pss_nil)
      (pss_one (ps_ret (pe_op op_mod (pe_op op_mod (pe_op op_pow (pe_op op_add (pe_op op_add (pe_op op_mod (pv 2) pe_int) (pe_op op_mul pe_int (pe_ix ix_list (pv 0) pe_int (fun _ _ => rfl)))) pe_int) pe_int) pe_int) (pv 1)))))))), ?_⟩
    obtain ⟨cells, n, ha, hc, nac, hlen, hn⟩ := hD
    refine ⟨.ref a, rfl, a, _, 1, .int n, rfl, rfl, .inl (.inl ha), atI_nat (j := 1) rfl, n, 1, rfl, rfl, .ref a, rfl, a, _, 1, 1, rfl, rfl, ha, rfl, ?_⟩
    refine gen_heap (fun H1 => H1 a = some (.lst [.ref c, .int ((n : Int) + 1)]) ∧ H1 c = some (.lst (cells.map V.int)) ∧ But a c H H1) ⟨upd_same, by rw [upd_ne (Ne.symm nac)]; exact hc, fun b o h1 _ e => by rw [upd_ne h1]; exact e⟩ fun H1 ⟨ha1, hc1, b1⟩ => ?_
    refine ⟨1, rfl, ?_⟩
    have ha2 := ha1
    have hc2 := hc1
    have b2 := b1
    have hcs : SqL K H1 c (cells.map V.int) := .inl (.inl hc2)
    have has : SqL K H1 a [.ref c, .int ((n : Int) + 1)] := .inl (.inl ha2)
    -- the end of the walk, from any cell
    have fin : ∀ (z ix : Int) (j : Nat), (10 ^ 18 ≤ z → ixN cells.length ix = some j) →
        tSeq (tIfS (tTest (tOp (rI0 fun i j => V.bl (decide (j ≤ i))) (tVar 2) (tOp (rI CPow fun i j => V.int (i ^ j.toNat)) (tC (V.int 10)) (tC (V.int 18)))))
          (tSeq (tAsg (tOp (rI CDiv fun i j => V.int (i / j)) (tVar 2) (tVar 1)) (gSub (tOp (rIxL K) (tVar 0) (tC (V.int 0))) (tVar 3) rSetL))
            (tRet (tOp (rI (fun x j => 0 < j) fun i j => V.int (i % j)) (tVar 2) (tVar 1)))) tNext)
        (tRet (tOp (rI (fun x j => 0 < j) fun i j => V.int (i % j)) (tOp (rI (fun x j => 0 < j) fun i j => V.int (i % j)) (tOp (rI CPow fun i j => V.int (i ^ j.toNat))
          (tOp (rI0 fun i j => V.int (i + j)) (tOp (rI0 fun i j => V.int (i + j)) (tOp (rI (fun x j => 0 < j) fun i j => V.int (i % j)) (tVar 2) (tC (V.int 2147483587)))
            (tOp (rI CMul fun i j => V.int (i * j)) (tC (V.int 7919)) (tOp (rIxL K) (tVar 0) (tC (V.int 1))))) (tC (V.int 1))) (tC (V.int 5))) (tC (V.int 2147483647))) (tVar 1)))
        { nx := fun _ H' => Q .non H', rt := Q } [some (.ref a), some (.int lim), some (.int z), some (.int ix)] H1 := by
      intro z ix j hj
      refine ⟨.int z, rfl, 10, 18, rfl, rfl, ⟨by decide, by decide, by decide⟩, z, _, rfl, rfl, _, rfl, ite2 (fun e => ?_) (fun e => ?_)⟩
      · have ez : (10 : Int) ^ 18 ≤ z := of_decide_eq_true e
        refine ⟨.int z, rfl, .int lim, rfl, z, lim, rfl, rfl, ⟨l0, by omega⟩, .ref a, rfl, a, _, 0, .ref c, rfl, rfl, has, rfl, .int ix, rfl, c, _, ix, j, rfl, rfl, hc2, by rw [List.length_map]; exact hj ez,
          .int z, rfl, .int lim, rfl, z, lim, rfl, rfl, l0, ?_⟩
        refine q _ _ (b2.trans fun b o _ h2 e => by rw [upd_ne h2]; exact e) ⟨cells.set j (z / lim), n + 1, ?_, ?_, nac, by rw [List.length_set]; exact hlen, by omega⟩ (Int.emod_nonneg _ (by omega)) (Int.emod_lt_of_pos _ l0)
        · rw [upd_ne nac, ha2]; rfl
        · rw [upd_same, List.map_set]
      · have m1 : 0 ≤ z % 2147483587 := Int.emod_nonneg _ (by decide)
        have m2 : z % 2147483587 < 2147483587 := Int.emod_lt_of_pos _ (by decide)
        refine ⟨.int z, rfl, z, 2147483587, rfl, rfl, (by show (0 : Int) < 2147483587; decide), .ref a, rfl, a, _, 1, .int ((n : Int) + 1), rfl, rfl, has, rfl, 7919, (n : Int) + 1, rfl, rfl, .inl ⟨by decide, by decide⟩, _, _, rfl, rfl, _, 1, rfl, rfl, _, 5, rfl, rfl, ⟨by decide, by decide, ?_⟩,
          _, 2147483647, rfl, rfl, (by show (0 : Int) < 2147483647; decide), .int lim, rfl, _, lim, rfl, rfl, l0, ?_⟩
        · omega
        · exact q _ _ b2 ⟨cells, n + 1, by rw [ha2]; rfl, hc2, nac, hlen, by omega⟩ (Int.emod_nonneg _ (by omega)) (Int.emod_lt_of_pos _ l0)
    refine ⟨.ref a, rfl, a, _, 0, .ref c, rfl, rfl, has, rfl, c, _, rfl, .inl hcs, _, 0, rfl, rfl, _, rfl, ite2 (fun e => ?_) (fun e => ?_)⟩
    · have ez : (0 : Int) < ((cells.map V.int).length : Int) := of_decide_eq_true e
      rw [List.length_map] at ez
      have l2 := Int.emod_nonneg ((n : Int) + 1) (show ((cells.length : Int)) ≠ 0 by omega)
      have l3 := Int.emod_lt_of_pos ((n : Int) + 1) ez
      obtain ⟨j, hj⟩ : ∃ j : Nat, ((n : Int) + 1) % (cells.length : Int) = (j : Int) := ⟨_, (Int.toNat_of_nonneg l2).symm⟩
      have hjl : j < cells.length := by omega
      have gj : (cells.map V.int)[j]? = some (.int cells[j]) := by rw [List.getElem?_map, List.getElem?_eq_getElem hjl]; rfl
      refine ⟨.ref a, rfl, a, _, 1, .int ((n : Int) + 1), rfl, rfl, has, rfl, .ref a, rfl, a, _, 0, .ref c, rfl, rfl, has, rfl, c, _, rfl, .inl hcs, _, _, rfl, rfl, by rw [List.length_map]; exact ez, ?_⟩
      refine ⟨.ref a, rfl, a, _, 0, .ref c, rfl, rfl, has, rfl, _, rfl, c, _, _, _, rfl, rfl, hcs, by rw [List.length_map, hj]; exact atI_nat gj, ?_⟩
      rw [List.length_map]
      refine fin _ (((n : Int) + 1) % (cells.length : Int)) j fun _ => ?_
      rw [hj]
      unfold ixN
      rw [if_pos (by omega), if_pos (by omega)]; rfl
    · refine fin 0 (-1) 0 fun h => ?_
      exact absurd h (by decide)
end
end K57
namespace Pr
open PySem PySem.Spec PyProof.Rows L2
mutual
inductive Dq (K : PySem.W.Frag) (N : Addr → Prop) (H : Hp) : V → PyData → Prop
  | non : Dq K N H .non .none
  | bl (b : Bool) : Dq K N H (.bl b) (.bool b)
  | int (i : Int) : Dq K N H (.int i) (.int i)
  | str (x : Str) : Dq K N H (.str x) (.str x)
  | lst {l : Addr} {xs : List V} {ds : List PyData} : l ≠ sysModules → ¬ N l → H l = some (.lst xs) → DqAll K N H xs ds → Dq K N H (.ref l) (.list ds)
  | tup {l : Addr} {xs : List V} {ds : List PyData} : SqT K H l xs → DqAll K N H xs ds → Dq K N H (.ref l) (.tuple ds)
  | dct0 {l : Addr} : H l = some (.dK []) → Dq K N H (.ref l) (.dict [])
  | dct1 {l : Addr} {x : Str} {i : Int} : H l = some (.dK [(Sum.inr x, .int i)]) → Dq K N H (.ref l) (.dict [(.str x, .int i)])
  | dctN {l : Addr} {x : Str} : H l = some (.dK [(Sum.inr x, .non)]) → Dq K N H (.ref l) (.dict [(.str x, .none)])
  | dct2 {l : Addr} {x y : Str} {i j : Int} : H l = some (.dK [(Sum.inr x, .int i), (Sum.inr y, .int j)]) → Dq K N H (.ref l) (.dict [(.str x, .int i), (.str y, .int j)])
inductive DqAll (K : PySem.W.Frag) (N : Addr → Prop) (H : Hp) : List V → List PyData → Prop
  | nil : DqAll K N H [] []
  | cons {v : V} {vs : List V} {d : PyData} {ds : List PyData} : Dq K N H v d → DqAll K N H vs ds → DqAll K N H (v :: vs) (d :: ds)
end
section
variable {K : PySem.W.Frag} {N : Addr → Prop} {a c : Addr} {H H' : Hp}
theorem DqAll.length : ∀ {vs : List V} {ds : List PyData}, DqAll K N H vs ds → vs.length = ds.length
  | _, _, .nil => rfl
  | _, _, .cons _ t => by rw [List.length_cons, List.length_cons, t.length]
theorem DqAll.append : ∀ {vs us : List V} {ds es : List PyData}, DqAll K N H vs ds → DqAll K N H us es → DqAll K N H (vs ++ us) (ds ++ es)
  | _, _, _, _, .nil, h => h
  | _, _, _, _, .cons r t, h => .cons r (t.append h)
theorem DqAll.get : ∀ {vs : List V} {ds : List PyData}, DqAll K N H vs ds → ∀ (i : Nat) (v : V), vs[i]? = some v → ∃ d, ds[i]? = some d ∧ Dq K N H v d
  | _, _, .nil, i, v, h => by simp at h
  | _, _, .cons r t, 0, v, h => by simp at h; subst h; exact ⟨_, rfl, r⟩
  | _, _, .cons r t, i + 1, v, h => by
    obtain ⟨d, h1, h2⟩ := t.get i v (by simpa using h)
    exact ⟨d, by simpa using h1, h2⟩
theorem DqAll.take : ∀ (n : Nat) {vs : List V} {ds : List PyData}, DqAll K N H vs ds → DqAll K N H (vs.take n) (ds.take n)
  | 0, _, _, _ => by simpa using DqAll.nil
  | n + 1, _, _, .nil => .nil
  | n + 1, _, _, .cons r t => .cons r (t.take n)
theorem DqAll.drop : ∀ (n : Nat) {vs : List V} {ds : List PyData}, DqAll K N H vs ds → DqAll K N H (vs.drop n) (ds.drop n)
  | 0, _, _, h => h
  | n + 1, _, _, .nil => .nil
  | n + 1, _, _, .cons r t => t.drop n
theorem dqAll_ints : ∀ l : List Int, DqAll K N H (l.map V.int) (l.map PyData.int)
  | [] => .nil
  | x :: r => .cons (.int x) (dqAll_ints r)
theorem dq_ints {q : Addr} {l : List Int} (h : SqT K H q (l.map V.int)) : Dq K N H (.ref q) (dInts l) := .tup h (dqAll_ints l)
mutual
theorem Dq.keep (hs : ∀ l o, ¬ N l → H l = some o → H' l = some o) (ht : ∀ l xs, SqT K H l xs → SqT K H' l xs) (hk : ∀ l kvs, H l = some (.dK kvs) → H' l = some (.dK kvs)) : ∀ (d : PyData) (v : V), Dq K N H v d → Dq K N H' v d
  | .none, _, h => by cases h; exact .non
  | .bool b, _, h => by cases h; exact .bl b
  | .int i, _, h => by cases h; exact .int i
  | .str x, _, h => by cases h; exact .str x
  | .list ds, _, h => by
    cases h with
    | lst h1 h2 e q => exact .lst h1 h2 (hs _ _ h2 e) (Dq.keepAll hs ht hk ds _ q)
  | .tuple ds, _, h => by
    cases h with
    | tup e q => exact .tup (ht _ _ e) (Dq.keepAll hs ht hk ds _ q)
  | .dict kvs, _, h => by
    cases h with
    | dct0 e => exact .dct0 (hk _ _ e)
    | dct1 e => exact .dct1 (hk _ _ e)
    | dctN e => exact .dctN (hk _ _ e)
    | dct2 e => exact .dct2 (hk _ _ e)
theorem Dq.keepAll (hs : ∀ l o, ¬ N l → H l = some o → H' l = some o) (ht : ∀ l xs, SqT K H l xs → SqT K H' l xs) (hk : ∀ l kvs, H l = some (.dK kvs) → H' l = some (.dK kvs)) : ∀ (ds : List PyData) (vs : List V), DqAll K N H vs ds → DqAll K N H' vs ds
  | [], _, h => by cases h; exact .nil
  | d :: ds, _, h => by
    cases h with
    | cons r t => exact .cons (Dq.keep hs ht hk d _ r) (Dq.keepAll hs ht hk ds _ t)
end
theorem Deck.sqT {m : Nat} (D : Deck H a c m) (b : But a c H H') {l : Addr} {xs : List V} (h : SqT K H l xs) : SqT K H' l xs := by
  rcases h with (h | ⟨o, h⟩) | h
  · exact .inl (.inl (b _ _ (D.apart h (fun _ => by intro z; cases z)).1 (D.apart h (fun _ => by intro z; cases z)).2 h))
  · exact .inl (.inr ⟨o, b _ _ (D.apart h (fun _ => by intro z; cases z)).1 (D.apart h (fun _ => by intro z; cases z)).2 h⟩)
  · exact .inr h
theorem Deck.dk {m : Nat} (D : Deck H a c m) (l : Addr) (kvs : List (Key × V)) (h : H l = some (.dK kvs)) : l ≠ a ∧ l ≠ c := D.apart h (fun _ => by intro z; cases z)
theorem apart_N (na : N a) (nc : N c) {l : Addr} (h : ¬ N l) : l ≠ a ∧ l ≠ c := ⟨fun e => h (by rw [e]; exact na), fun e => h (by rw [e]; exact nc)⟩
theorem Dq.but {m : Nat} (na : N a) (nc : N c) (D : Deck H a c m) (b : But a c H H') {v : V} {d : PyData} (h : Dq K N H v d) : Dq K N H' v d :=
  Dq.keep (fun l o h1 e => b l o (apart_N na nc h1).1 (apart_N na nc h1).2 e) (fun _ _ e => D.sqT b e) (fun l kvs e => b _ _ (D.dk l kvs e).1 (D.dk l kvs e).2 e) d v h
theorem DqAll.but {m : Nat} (na : N a) (nc : N c) (D : Deck H a c m) (b : But a c H H') {v : List V} {d : List PyData} (h : DqAll K N H v d) : DqAll K N H' v d :=
  Dq.keepAll (fun l o h1 e => b l o (apart_N na nc h1).1 (apart_N na nc h1).2 e) (fun _ _ e => D.sqT b e) (fun l kvs e => b _ _ (D.dk l kvs e).1 (D.dk l kvs e).2 e) d v h
mutual
theorem Dq.same (e : Same H H') : ∀ (d : PyData) (v : V), Dq K N H v d → Dq K N H' v d
  | .none, _, h => by cases h; exact .non
  | .bool b, _, h => by cases h; exact .bl b
  | .int i, _, h => by cases h; exact .int i
  | .str x, _, h => by cases h; exact .str x
  | .list ds, _, h => by
    cases h with
    | lst h1 h2 q r => exact .lst h1 h2 (e _ _ q) (Dq.sameAll e ds _ r)
  | .tuple ds, _, h => by
    cases h with
    | tup q r => exact .tup (same_sqT e q) (Dq.sameAll e ds _ r)
  | .dict kvs, _, h => by
    cases h with
    | dct0 q => exact .dct0 (e _ _ q)
    | dct1 q => exact .dct1 (e _ _ q)
    | dctN q => exact .dctN (e _ _ q)
    | dct2 q => exact .dct2 (e _ _ q)
theorem Dq.sameAll (e : Same H H') : ∀ (ds : List PyData) (vs : List V), DqAll K N H vs ds → DqAll K N H' vs ds
  | [], _, h => by cases h; exact .nil
  | d :: ds, _, h => by
    cases h with
    | cons r t => exact .cons (Dq.same e d _ r) (Dq.sameAll e ds _ t)
end
/-- its built-in type -/
def tyD : PyData → String
  | .none => "NoneType"
  | .bool _ => "bool"
  | .int _ => "int"
  | .str _ => "str"
  | .list _ => "list"
  | .tuple _ => "tuple"
  | .dict _ => "dict"
theorem tyT {l : Addr} {xs : List V} (h : SqT K H l xs) : TyX K H (.ref l) (.type "tuple") := by
  rcases h with (h | ⟨o, h⟩) | ⟨o, its, n, h, hc, _⟩
  · exact .base (.tup h)
  · exact .fTuple h
  · exact .kTuple h hc
theorem Dq.ty {v : V} {d : PyData} (h : Dq K N H v d) : TyX K H v (.type (tyD d)) := by
  cases h with
  | non => exact .base .non
  | bl b => exact .base (.bl b)
  | int i => exact .base (.int i)
  | str x => exact .base (.str x)
  | lst _ _ e _ => exact .base (.lst e)
  | tup e _ => exact tyT e
  | dct0 e => exact .base (.dK e)
  | dct1 e => exact .base (.dK e)
  | dctN e => exact .base (.dK e)
  | dct2 e => exact .base (.dK e)
end
section
variable {X : Cx} {pins : List (Addr × Obj)} {σ : L2.St} {H : Hp} {s : Shared} {N : Addr → Prop}
mutual
theorem Dq.reads (I : Inv X pins σ H s) : ∀ (d : PyData) (v : V) (u : Value), Dq X.K N H v d → RelV v u → ∃ as, Reads s.heap u d as ∧ sysModules ∉ as
  | .none, _, _, h, r => by
    cases h; cases r; exact ⟨_, Reads.none, by simp⟩
  | .bool b, _, _, h, r => by
    cases h; cases r; exact ⟨_, Reads.bool b, by simp⟩
  | .int i, _, _, h, r => by
    cases h; obtain ⟨t, rfl⟩ := r; exact ⟨_, Reads.int i t, by simp⟩
  | .str x, _, _, h, r => by
    cases h; obtain ⟨t, rfl⟩ := r; exact ⟨_, Reads.str x t, by simp⟩
  | .list ds, _, _, h, r => by
    cases h with
    | lst h1 _ hs ha =>
      cases r
      obtain ⟨_, its, n, rv, ho⟩ := I.hok _ _ hs
      obtain ⟨as, hr, hn⟩ := Dq.readsAll I ds _ its ha rv
      exact ⟨_, Reads.list ho rfl rfl hr, by simp [hn, Ne.symm h1]⟩
  | .tuple ds, _, _, h, r => by
    cases h with
    | tup hs ha =>
      cases r
      obtain ⟨its, rv, ⟨o, ho, hc, n, hd⟩, _⟩ := I.tuple hs
      obtain ⟨as, hr, hn⟩ := Dq.readsAll I ds _ its ha rv
      exact ⟨_, Reads.tuple ho hc hd hr, hn⟩
  | .dict _, _, _, h, r => by
    cases h with
    | dct0 e =>
      cases r
      obtain ⟨_, ns, vs, kv, o, es, ep, ho, hc, hd, _, hp, _⟩ := I.hok _ _ e
      cases kv
      have he : es.toList = [] := by cases hes : es.toList with
        | nil => rfl
        | cons x y => rw [hes] at hp; cases hp
      have ns' := of_decide_eq_false (show decide (_ = sysModules) = false by simpa using ns)
      refine ⟨_, Reads.dict (kvs := []) ho hc.1 hd (by rw [he]; exact .nil) (by rw [he]; exact .nil), ?_⟩
      simp [Ne.symm ns']
    | @dct1 l x i e =>
      cases r
      obtain ⟨_, ns, vs, kv, o, es, ep, ho, hc, hd, _, hp, _⟩ := I.hok _ _ e
      cases kv with
      | @cons p q l1 l2 kq kr =>
        cases kr
        obtain ⟨h1, t, h2⟩ := kq
        obtain ⟨en, he, hk, hv⟩ : ∃ en, es.toList = [en] ∧ keyIs q.1 en.key = true ∧ en.val = q.2 := by
          cases hes : es.toList with
          | nil => rw [hes] at hp; cases hp
          | cons x y =>
            rw [hes] at hp
            cases hp with
            | cons p1 p2 p3 => cases p3; exact ⟨x, rfl, p1, p2⟩
        have h1' : (Sum.inr x : Key) = q.1 := h1
        rw [← h1'] at hk
        obtain ⟨t', hk'⟩ := Value.isStrOf_shape (show Value.isStrOf x en.key = true from hk)
        have ns' := of_decide_eq_false (show decide (_ = sysModules) = false by simpa using ns)
        refine ⟨_, Reads.dict (kvs := [(.str x, .int i)]) ho hc.1 hd (as := [] ++ []) (bs := [] ++ []) ?_ ?_, ?_⟩
        · rw [he]; show ReadsAll _ [en.key] _ _; rw [hk']; exact .cons (.str x t') .nil
        · rw [he]; show ReadsAll _ [en.val] _ _; rw [hv, h2]; exact .cons (.int i t) .nil
        · simp [Ne.symm ns']
    | @dctN l x e =>
      cases r
      obtain ⟨_, ns, vs, kv, o, es, ep, ho, hc, hd, _, hp, _⟩ := I.hok _ _ e
      cases kv with
      | @cons p q l1 l2 kq kr =>
        cases kr
        obtain ⟨h1, h2⟩ := kq
        obtain ⟨en, he, hk, hv⟩ : ∃ en, es.toList = [en] ∧ keyIs q.1 en.key = true ∧ en.val = q.2 := by
          cases hes : es.toList with
          | nil => rw [hes] at hp; cases hp
          | cons x y =>
            rw [hes] at hp
            cases hp with
            | cons p1 p2 p3 => cases p3; exact ⟨x, rfl, p1, p2⟩
        have h1' : (Sum.inr x : Key) = q.1 := h1
        rw [← h1'] at hk
        obtain ⟨t', hk'⟩ := Value.isStrOf_shape (show Value.isStrOf x en.key = true from hk)
        have ns' := of_decide_eq_false (show decide (_ = sysModules) = false by simpa using ns)
        refine ⟨_, Reads.dict (kvs := [(.str x, .none)]) ho hc.1 hd (as := [] ++ []) (bs := [] ++ []) ?_ ?_, ?_⟩
        · rw [he]; show ReadsAll _ [en.key] _ _; rw [hk']; exact .cons (.str x t') .nil
        · rw [he]; show ReadsAll _ [en.val] _ _; rw [hv, h2]; exact .cons .none .nil
        · simp [Ne.symm ns']
    | @dct2 l x y i j e =>
      cases r
      obtain ⟨_, ns, vs, kv, o, es, ep, ho, hc, hd, _, hp, _⟩ := I.hok _ _ e
      cases kv with
      | @cons p q l1 l2 kq kr =>
        cases kr with
        | @cons p2 q2 l3 l4 kq2 kr2 =>
        cases kr2
        obtain ⟨h1, t, h2⟩ := kq
        obtain ⟨g1, u, g2⟩ := kq2
        obtain ⟨en, en2, he, hk, hv, hk2, hv2⟩ : ∃ en en2, es.toList = [en, en2] ∧ keyIs q.1 en.key = true ∧ en.val = q.2 ∧ keyIs q2.1 en2.key = true ∧ en2.val = q2.2 := by
          cases hes : es.toList with
          | nil => rw [hes] at hp; cases hp
          | cons x y =>
            rw [hes] at hp
            cases hp with
            | cons p1 p2 p3 =>
              cases p3 with
              | cons p4 p5 p6 => cases p6; exact ⟨_, _, rfl, p1, p2, p4, p5⟩
        have h1' : (Sum.inr x : Key) = q.1 := h1
        have g1' : (Sum.inr y : Key) = q2.1 := g1
        rw [← h1'] at hk
        rw [← g1'] at hk2
        obtain ⟨t', hk'⟩ := Value.isStrOf_shape (show Value.isStrOf x en.key = true from hk)
        obtain ⟨u', hk2'⟩ := Value.isStrOf_shape (show Value.isStrOf y en2.key = true from hk2)
        have ns' := of_decide_eq_false (show decide (_ = sysModules) = false by simpa using ns)
        refine ⟨_, Reads.dict (kvs := [(.str x, .int i), (.str y, .int j)]) ho hc.1 hd (as := [] ++ ([] ++ [])) (bs := [] ++ ([] ++ [])) ?_ ?_, ?_⟩
        · rw [he]; show ReadsAll _ [en.key, en2.key] _ _; rw [hk', hk2']; exact .cons (.str x t') (.cons (.str y u') .nil)
        · rw [he]; show ReadsAll _ [en.val, en2.val] _ _; rw [hv, h2, hv2, g2]; exact .cons (.int i t) (.cons (.int j u) .nil)
        · simp [Ne.symm ns']
theorem Dq.readsAll (I : Inv X pins σ H s) : ∀ (ds : List PyData) (vs : List V) (us : List Value), DqAll X.K N H vs ds → Vals vs us → ∃ as, ReadsAll s.heap us ds as ∧ sysModules ∉ as
  | [], _, _, h, r => by
    cases h; cases r; exact ⟨_, ReadsAll.nil, by simp⟩
  | d :: ds, _, _, h, r => by
    cases h with
    | cons h1 h2 =>
      cases r with
      | cons r1 r2 =>
        obtain ⟨as, q1, n1⟩ := Dq.reads I d _ _ h1 r1
        obtain ⟨bs, q2, n2⟩ := Dq.readsAll I ds _ _ h2 r2
        exact ⟨_, ReadsAll.cons q1 q2, by simp [n1, n2]⟩
end
end
structure Shq (dep n : Nat) (d : PyData) : Prop where
  sh : d.showable = true
  dp : d.depth ≤ dep
  ln : d.shown.length ≤ n
theorem Shq.mono {dep dep' n n' : Nat} {d : PyData} (h : Shq dep n d) (h1 : dep ≤ dep') (h2 : n ≤ n') : Shq dep' n' d := ⟨h.sh, Nat.le_trans h.dp h1, Nat.le_trans h.ln h2⟩
theorem Shw.q {dep n : Nat} {d : PyData} (h : Shw dep n d) : Shq dep n d := ⟨h.sh, h.dp, h.ln⟩
theorem shqAll {dep n : Nat} : ∀ {ds : List PyData}, (∀ d ∈ ds, Shq dep n d) → PyData.showableAll ds = true ∧ PyData.depthAll ds ≤ dep
  | [], _ => ⟨by simp only [PyData.showableAll], by simp [PyData.depthAll]⟩
  | d :: r, h => by
    obtain ⟨h1, h3⟩ := shqAll (ds := r) fun x hx => h x (List.mem_cons_of_mem _ hx)
    have g := h d List.mem_cons_self
    refine ⟨by simp only [PyData.showableAll, g.sh, h1, Bool.and_self], ?_⟩
    simp only [PyData.depthAll]
    exact Nat.max_le.mpr ⟨g.dp, h3⟩
theorem Shq.tuple {dep n m : Nat} {ds : List PyData} (h : ∀ d ∈ ds, Shq dep n d) (hm : ds.length ≤ m) : Shq (dep + 1) (m * (n + 2) + 3) (.tuple ds) := by
  obtain ⟨h1, h3⟩ := shqAll h
  refine ⟨by simp only [PyData.showable, h1], by simp only [PyData.depth]; omega, ?_⟩
  simp only [PyData.shown]
  rw [shownAll_map]
  have a1 := tupleText_len (ds.map PyData.shown)
  have a2 := piled_le fun d hd => (h d hd).ln
  have a3 : ds.length * (n + 2) ≤ m * (n + 2) := Nat.mul_le_mul_right _ hm
  omega
theorem Shq.list {dep n m : Nat} {ds : List PyData} (h : ∀ d ∈ ds, Shq dep n d) (hm : ds.length ≤ m) : Shq (dep + 1) (m * (n + 2) + 3) (.list ds) := by
  obtain ⟨h1, h3⟩ := shqAll h
  refine ⟨by simp only [PyData.showable, h1], by simp only [PyData.depth]; omega, ?_⟩
  simp only [PyData.shown]
  rw [shownAll_map]
  have a1 := listText_len (ds.map PyData.shown)
  have a2 := piled_le fun d hd => (h d hd).ln
  have a3 : ds.length * (n + 2) ≤ m * (n + 2) := Nat.mul_le_mul_right _ hm
  omega
def rReprQ (K : PySem.W.Frag) : List V → Hp → VK → Prop := fun xs H Q => ∃ (N : Addr → Prop) (v : V) (d : PyData), xs = [v] ∧ Dq K N H v d ∧ Shq 60 sizeLine d ∧ Q (.str d.shown) H
theorem call_reprQ {X : Cx} {k : Nat} (gd : X.A.guards = some []) (hr : Room k X.A) : CallR X (.builtin "repr") (rReprQ X.K) := by
  intro pins s σ H xs us Q I rv h
  obtain ⟨N, v, d, rfl, hd, hs, q⟩ := h
  obtain ⟨u, rfl, rx⟩ := vals1 rv
  have isref : ∀ (l : Addr), v = .ref l → wpAny (model X.prog X.w) X.A (call (.builtin "repr") [u]) (EP X pins σ Q) X.xe s := fun l e => by
    subst e
    obtain ⟨as, r, hn⟩ := Dq.reads I d _ _ hd rx
    obtain rfl : u = .ref l := rx
    exact repr_of_reads' r hs.sh (fun _ => hn) gd (by have := hr.un; have := hs.dp; omega) (fun _ _ e => e) (fun h' t tk hk => ⟨.str d.shown, H, I.kept hk, ⟨t, rfl⟩, q⟩) hs.ln
  cases hd with
  | non => obtain rfl : u = .none := rx; exact PySem.P.repr_of_none ⟨.str "None", H, I.tok _, ⟨_, rfl⟩, by simpa only [PyData.shown] using q⟩
  | bl b => obtain rfl : u = .bool b := rx; exact PySem.P.repr_of_bool ⟨.str _, H, I.tok _, ⟨_, rfl⟩, by simpa only [PyData.shown] using q⟩
  | int i =>
    obtain ⟨t, rfl⟩ := rx
    have h1 : i.natAbs.log2 < 1920 := by simpa only [PyData.showable, decide_eq_true_eq] using hs.sh
    exact PySem.P.repr_of_int h1 ⟨.str _, H, I.tok _, ⟨_, rfl⟩, by simpa only [PyData.shown] using q⟩
  | str x =>
    obtain ⟨t, rfl⟩ := rx
    have h1 : (reprText x).length ≤ sizeLine := by simpa only [PyData.shown] using hs.ln
    exact PySem.P.repr_of_str ⟨.str _, H, I.tok _, ⟨_, rfl⟩, by simpa only [PyData.shown] using q⟩ h1
  | lst _ _ _ _ => exact isref _ rfl
  | tup _ _ => exact isref _ rfl
  | dct0 _ => exact isref _ rfl
  | dct1 _ => exact isref _ rfl
  | dctN _ => exact isref _ rfl
  | dct2 _ => exact isref _ rfl
end Pr
namespace Pr
open PySem PySem.Spec PyProof.Rows L2
section
variable {X : Cx} {es : List Expr} {t : TA} {pos : Pos}
def rListG (K : PySem.W.Frag) : List V → Hp → VK → Prop := fun xs H Q => ∃ p ys, xs = [.ref p] ∧ SqT K H p ys ∧ ∀ l, H l = none → l ≠ sysModules → Q (.ref l) (upd H l (.lst ys))
theorem call_listG : CallR X (.type "list") (rListG X.K) := by
  intro pins s σ H xs us Q I r h
  obtain ⟨p, ys, rfl, hq, q⟩ := h
  obtain ⟨u, rfl, rx⟩ := vals1 r
  cases rx
  obtain ⟨its, r', ⟨o, ho, hc, n, hd⟩, hz⟩ := I.tuple hq
  have hlen := r'.length
  refine call_list_seq p (.inr rfl) ho hc hd (fun h' c' kp e => ?_) (by simp only [List.size_toArray] <;> omega)
  exact ⟨.ref s.heap.objs.size, _, I.laid (t' := s.toks) kp (Nat.le_refl _) (show ObjOk X.prog X.w _ h' _ (.lst ys) from ⟨hz, its, c', r', e⟩), rfl, q _ (I.hok.fresh (Nat.le_refl _)) (Nat.ne_of_gt I.big)⟩
end
end Pr
namespace Pr
open PySem PySem.Spec PyProof.Rows L2
section
variable {X : Cx}
/-- t + u, one way on -/
def rCatS (K : PySem.W.Frag) : R2 := fun x y H Q => ∃ a b xs ys, x = .ref a ∧ y = .ref b ∧ SqT K H a xs ∧ SqT K H b ys ∧ xs.length + ys.length ≤ sizeLine ∧ ∀ p H', Same H H' → SqT K H' p (xs ++ ys) → Q (.ref p) H'
theorem op_catS : OpR X (binaryOp .Add) (rCatS X.K) := by
  intro pins s σ H x y u1 u2 Q I rx ry h
  obtain ⟨a, b, xs, ys, rfl, rfl, ha, hb, hz, q⟩ := h
  refine op_catA pins s σ H _ _ u1 u2 Q I rx ry ⟨a, b, xs, ys, rfl, rfl, ha, hb, hz, fun e => q b H (Same.refl _) ?_, fun _ e => q a H (Same.refl _) ?_, fun _ _ p np => q p _ (same_new np) (.inl (.inl upd_same))⟩
  · rw [e]; exact hb
  · rw [e, List.append_nil]; exact ha
/-- t[lo:hi], one way on -/
def rSlS (K : PySem.W.Frag) : V → Option Int → Option Int → Hp → VK → Prop := fun x lo hi H Q => ∃ a xs, x = .ref a ∧ SqT K H a xs ∧ ∀ p H', Same H H' → SqT K H' p (cutV xs lo hi) → Q (.ref p) H'
theorem sl_tupS : SlR X (rSlS X.K) := by
  intro pins s σ H x v vl vu lo hi sl Q I rx hs pl pu h
  obtain ⟨a, xs, rfl, ha, q⟩ := h
  refine sl_tupA pins s σ H _ v vl vu lo hi sl Q I rx hs pl pu ⟨a, xs, rfl, ha, fun e => q a H (Same.refl _) ?_, fun _ p np => q p _ (same_new np) (.inl (.inl upd_same))⟩
  have : cutV xs lo hi = xs := by
    unfold cutV
    rw [e.1, e.2, List.drop_zero, Nat.sub_zero, List.take_length]
  rw [this]; exact ha
end
end Pr
namespace Pr
open PySem PySem.Spec PyProof.Rows L2
end Pr
namespace Pr
open PySem PySem.Spec PyProof.Rows L2
end Pr
namespace Pr
open PySem PySem.Spec PyProof.Rows L2
mutual
def lf : PyData → Bool
  | .list _ => false
  | .dict _ => false
  | .tuple ds => lfAll ds
  | .none => true
  | .bool _ => true
  | .int _ => true
  | .str _ => true
def lfAll : List PyData → Bool
  | [] => true
  | d :: r => lf d && lfAll r
end
theorem lfAll_of {ds : List PyData} (h : ∀ d ∈ ds, lf d = true) : lfAll ds = true := by
  induction ds with
  | nil => simp [lfAll]
  | cons d r ih => simp [lfAll, h d List.mem_cons_self, ih fun x hx => h x (List.mem_cons_of_mem _ hx)]
theorem lf_tup {ds : List PyData} (h : ∀ d ∈ ds, lf d = true) : lf (.tuple ds) = true := by simp only [lf]; exact lfAll_of h
theorem lf_ints (l : List Int) : lf (dInts l) = true := lf_tup fun d hd => by
  obtain ⟨x, _, rfl⟩ := List.mem_map.mp hd
  simp only [lf]
theorem lf_pan (p : List (List Int)) : lf (dPan p) = true := lf_tup fun d hd => by
  obtain ⟨x, _, rfl⟩ := List.mem_map.mp hd
  exact lf_ints x
theorem lf_strs (l : List Str) : lf (dStrs l) = true := lf_tup fun d hd => by
  obtain ⟨x, _, rfl⟩ := List.mem_map.mp hd
  simp only [lf]
def Kp (H H' : Hp) : Prop := (∀ b xs, H b = some (.tup xs) → H' b = some (.tup xs)) ∧ ∀ b o u, H b = some (.frz o u) → H' b = some (.frz o u)
theorem Kp.refl (H : Hp) : Kp H H := ⟨fun _ _ h => h, fun _ _ _ h => h⟩
theorem Kp.trans {H H1 H2 : Hp} (x : Kp H H1) (y : Kp H1 H2) : Kp H H2 := ⟨fun b xs h => y.1 b xs (x.1 b xs h), fun b o u h => y.2 b o u (x.2 b o u h)⟩
theorem Kp.of {H H' : Hp} (x : Same H H') : Kp H H' := ⟨fun b xs h => x b _ h, fun b o u h => x b _ h⟩
theorem Kp.upd {H : Hp} {D : Addr} {xs : List V} {o : HO} (h : H D = some (.lst xs)) : Kp H (upd H D o) :=
  ⟨fun b ys e => by rw [upd_ne (ne_of e h (by intro z; cases z))]; exact e, fun b q u e => by rw [upd_ne (ne_of e h (by intro z; cases z))]; exact e⟩
theorem Kp.but {H H' : Hp} {a c : Addr} {m : Nat} (d : Deck H a c m) (b : But a c H H') : Kp H H' :=
  ⟨fun p xs e => let q := d.apart e (fun _ => by intro z; cases z); b _ _ q.1 q.2 e, fun p o u e => let q := d.apart e (fun _ => by intro z; cases z); b _ _ q.1 q.2 e⟩
theorem FT.kp {H H' : Hp} {a : Addr} {xs : List V} (e : Kp H H') (h : FT H a xs) : FT H' a xs := let ⟨o, q, z⟩ := h; ⟨o, e.2 _ _ _ q, z⟩
theorem PanAt.kp {H H' : Hp} {p : Addr} {pan : List (List Int)} (e : Kp H H') (h : PanAt H p pan) : PanAt H' p pan :=
  let ⟨qs, h1, h2⟩ := h; ⟨qs, h1.kp e, h2.mono fun _ _ x => x.kp e⟩
section
variable {K : PySem.W.Frag} {H H' : Hp}
theorem sqT_kp {a : Addr} {xs : List V} (e : Kp H H') (h : SqT K H a xs) : SqT K H' a xs := by
  rcases h with (h | ⟨o, h⟩) | h
  · exact .inl (.inl (e.1 _ _ h))
  · exact .inl (.inr ⟨o, e.2 _ _ _ h⟩)
  · exact .inr h
mutual
theorem dp_same (e : Same H H') : ∀ (d : PyData) (v : V), Dp K H v d → Dp K H' v d
  | .none, _, h => by cases h; exact .non
  | .bool _, _, h => by cases h; exact .bl _
  | .int _, _, h => by cases h; exact .int _
  | .str _, _, h => by cases h; exact .str _
  | .list ds, _, h => by cases h with | lst q r => exact .lst (e.seq q) (dpAll_same e ds _ r)
  | .tuple ds, _, h => by cases h with | tup q r => exact .tup (same_sqT e q) (dpAll_same e ds _ r)
  | .dict _, _, h => by cases h
theorem dpAll_same (e : Same H H') : ∀ (ds : List PyData) (vs : List V), DpAll K H vs ds → DpAll K H' vs ds
  | [], _, h => by cases h; exact .nil
  | d :: r, _, h => by cases h with | cons x y => exact .cons (dp_same e d _ x) (dpAll_same e r _ y)
end
mutual
theorem dp_kp (e : Kp H H') : ∀ (d : PyData) (v : V), lf d = true → Dp K H v d → Dp K H' v d
  | .none, _, _, h => by cases h; exact .non
  | .bool _, _, _, h => by cases h; exact .bl _
  | .int _, _, _, h => by cases h; exact .int _
  | .str _, _, _, h => by cases h; exact .str _
  | .list ds, _, z, h => by simp [lf] at z
  | .tuple ds, _, z, h => by cases h with | tup q r => exact .tup (sqT_kp e q) (dpAll_kp e ds _ (by simpa [lf] using z) r)
  | .dict _, _, _, h => by cases h
theorem dpAll_kp (e : Kp H H') : ∀ (ds : List PyData) (vs : List V), lfAll ds = true → DpAll K H vs ds → DpAll K H' vs ds
  | [], _, _, h => by cases h; exact .nil
  | d :: r, _, z, h => by
    simp only [lfAll, Bool.and_eq_true] at z
    cases h with | cons x y => exact .cons (dp_kp e d _ z.1 x) (dpAll_kp e r _ z.2 y)
end
theorem _root_.L2.Dp.sm {d : PyData} {v : V} (h : Dp K H v d) (e : Same H H') : Dp K H' v d := dp_same e d v h
theorem _root_.L2.DpAll.sm {ds : List PyData} {vs : List V} (h : DpAll K H vs ds) (e : Same H H') : DpAll K H' vs ds := dpAll_same e ds vs h
theorem _root_.L2.Dp.kp {d : PyData} {v : V} (h : Dp K H v d) (e : Kp H H') (z : lf d = true := by first | exact lf_pan _ | exact lf_ints _ | exact lf_strs _ | rfl | assumption) : Dp K H' v d := dp_kp e d v z h
theorem _root_.L2.DpAll.length {ds : List PyData} : ∀ {vs : List V}, DpAll K H vs ds → vs.length = ds.length := by
  induction ds with
  | nil => intro vs h; cases h; rfl
  | cons d r ih => intro vs h; cases h with | cons x y => simp [ih y]
theorem _root_.L2.DpAll.get {ds : List PyData} : ∀ {vs : List V}, DpAll K H vs ds → ∀ (i : Nat) (d : PyData), ds[i]? = some d → ∃ v, vs[i]? = some v ∧ Dp K H v d := by
  induction ds with
  | nil => intro vs h i d e; simp at e
  | cons d' r ih =>
    intro vs h i d e
    cases h with
    | cons x y =>
      cases i with
      | zero => simp at e; subst e; exact ⟨_, rfl, x⟩
      | succ i => obtain ⟨v, h1, h2⟩ := ih y i d (by simpa using e); exact ⟨v, by simpa using h1, h2⟩
theorem _root_.L2.DpAll.append {d1 d2 : List PyData} : ∀ {v1 v2 : List V}, DpAll K H v1 d1 → DpAll K H v2 d2 → DpAll K H (v1 ++ v2) (d1 ++ d2) := by
  induction d1 with
  | nil => intro v1 v2 h g; cases h; exact g
  | cons d r ih => intro v1 v2 h g; cases h with | cons x y => exact .cons x (ih y g)
theorem _root_.L2.DpAll.take {ds : List PyData} : ∀ {vs : List V} (n : Nat), DpAll K H vs ds → DpAll K H (vs.take n) (ds.take n) := by
  induction ds with
  | nil => intro vs n h; cases h; simp; exact .nil
  | cons d r ih =>
    intro vs n h
    cases h with
    | cons x y =>
      cases n with
      | zero => simp; exact .nil
      | succ n => simpa using DpAll.cons x (ih n y)
theorem _root_.L2.DpAll.drop {ds : List PyData} : ∀ {vs : List V} (n : Nat), DpAll K H vs ds → DpAll K H (vs.drop n) (ds.drop n) := by
  induction ds with
  | nil => intro vs n h; cases h; simp; exact .nil
  | cons d r ih =>
    intro vs n h
    cases h with
    | cons x y =>
      cases n with
      | zero => simpa using DpAll.cons x y
      | succ n => simpa using ih n y
theorem dpAll_intsV : ∀ {l : List Int} {vs : List V}, DpAll K H vs (l.map PyData.int) → vs = l.map V.int
  | [], _, h => by cases h; rfl
  | x :: r, _, h => by
    rw [List.map_cons] at h
    cases h with | cons a b => cases a; rw [dpAll_intsV b]; rfl
theorem _root_.L2.Dp.tupI {v : V} {ds : List PyData} (h : Dp K H v (.tuple ds)) : ∃ a xs, v = .ref a ∧ SqT K H a xs ∧ DpAll K H xs ds := by cases h with | tup q r => exact ⟨_, _, rfl, q, r⟩
theorem _root_.L2.Dp.lstI {v : V} {ds : List PyData} (h : Dp K H v (.list ds)) : ∃ a xs, v = .ref a ∧ SqL K H a xs ∧ DpAll K H xs ds := by cases h with | lst q r => exact ⟨_, _, rfl, q, r⟩
theorem _root_.L2.Dp.intsI {v : V} {l : List Int} (h : Dp K H v (dInts l)) : ∃ a, v = .ref a ∧ SqT K H a (l.map V.int) := by
  obtain ⟨a, xs, rfl, q, r⟩ := Dp.tupI h
  rw [dpAll_intsV r] at q
  exact ⟨a, rfl, q⟩
end
section
variable (K : PySem.W.Frag)
def Gv (t : TE) (σ : L2.St) (H : Hp) (d : PyData) : Prop := ∀ H1, Same H H1 → ∀ Q : VK, (∀ v H', Same H1 H' → Dp K H' v d → Q v H') → t σ H1 Q
/-- a list that is tracked -/
def GvL (t : TE) (σ : L2.St) (H : Hp) (ds : List PyData) : Prop := ∀ H1, Same H H1 → ∀ Q : VK, (∀ a vs H', Same H1 H' → H' a = some (.lst vs) → DpAll K H' vs ds → Q (.ref a) H') → t σ H1 Q
/-- a new list -/
def GvN (t : TE) (σ : L2.St) (H : Hp) (ds : List PyData) : Prop := ∀ H1, Same H H1 → ∀ Q : VK, (∀ a vs H', Same H1 H' → H1 a = none → H' a = some (.lst vs) → DpAll K H' vs ds → Q (.ref a) H') → t σ H1 Q
def GvA (t : TA) (σ : L2.St) (H : Hp) (ds : List PyData) : Prop := ∀ H1, Same H H1 → ∀ Q : List V → Hp → Prop, (∀ vs H', Same H1 H' → DpAll K H' vs ds → Q vs H') → t σ H1 Q
def GvT (t : TT) (σ : L2.St) (H : Hp) (b : Bool) : Prop := ∀ H1, Same H H1 → ∀ Q : Bool → Hp → Prop, (∀ H', Same H1 H' → Q b H') → t σ H1 Q
/-- what a walk gives, while what it goes over stays as R says -/
def GvI (R : Hp → Hp → Prop) (wi : TI) (σ : L2.St) (H : Hp) (ds : List PyData) : Prop := ∀ H1, Same H H1 → ∀ Q : It → Hp → Prop,
  (∀ J H', Same H1 H' → Walk J ds.length (R H') (fun i h x h' => Same h h' ∧ ∃ d, ds[i]? = some d ∧ Dp K h' x d) → Q J H') → wi σ H1 Q
end
section
variable {K : PySem.W.Frag} {σ : L2.St} {H H' : Hp} {t ta tb : TE} {d e : PyData} {ds : List PyData} {ta' : TA} {tt uu : TT} {b c : Bool}
theorem GvN.gl (h : GvN K t σ H ds) : GvL K t σ H ds := fun H1 s Q q => h H1 s Q fun a vs H' s' _ e dv => q a vs H' s' e dv
theorem GvN.at (h : GvN K t σ H ds) {Q : VK} (q : ∀ a vs H', Same H H' → H a = none → H' a = some (.lst vs) → DpAll K H' vs ds → Q (.ref a) H') : t σ H Q := h H (Same.refl _) Q q
theorem GvN.to {es : List PyData} (h : GvN K t σ H ds) (q : ds = es) : GvN K t σ H es := q ▸ h
theorem GvN.gv (h : GvN K t σ H ds) : Gv K t σ H (.list ds) := fun H1 s Q q => h H1 s Q fun a vs H' s' _ e dv => q _ H' s' (.lst (.inl (.inl e)) dv)
theorem GvL.gv (h : GvL K t σ H ds) : Gv K t σ H (.list ds) := fun H1 s Q q => h H1 s Q fun a vs H' s' e dv => q _ H' s' (.lst (.inl (.inl e)) dv)
theorem GvL.at (h : GvL K t σ H ds) {Q : VK} (q : ∀ a vs H', Same H H' → H' a = some (.lst vs) → DpAll K H' vs ds → Q (.ref a) H') : t σ H Q := h H (Same.refl _) Q q
theorem GvL.to {es : List PyData} (h : GvL K t σ H ds) (q : ds = es) : GvL K t σ H es := q ▸ h
theorem gl_var {i : Nat} {a : Addr} {vs : List V} (h : σ[i]? = some (some (.ref a))) (e : H a = some (.lst vs)) (hd : DpAll K H vs ds) : GvL K (tVar i) σ H ds := fun H1 s Q q => ⟨_, h, q a vs H1 (Same.refl _) (s _ _ e) (hd.sm s)⟩
theorem Gv.at (h : Gv K t σ H d) {Q : VK} (q : ∀ v H', Same H H' → Dp K H' v d → Q v H') : t σ H Q := h H (Same.refl _) Q q
theorem Gv.sm (h : Gv K t σ H d) (s : Same H H') : Gv K t σ H' d := fun H1 s1 => h H1 (s.trans s1)
theorem Gv.to (h : Gv K t σ H d) (q : d = e) : Gv K t σ H e := q ▸ h
theorem GvT.at (h : GvT tt σ H b) {Q : Bool → Hp → Prop} (q : ∀ H', Same H H' → Q b H') : tt σ H Q := h H (Same.refl _) Q q
theorem GvT.to (h : GvT tt σ H b) (q : b = c) : GvT tt σ H c := q ▸ h
theorem gv_var {i : Nat} {v : V} (h : σ[i]? = some (some v)) (hd : Dp K H v d) : Gv K (tVar i) σ H d := fun H1 s Q q => ⟨v, h, q v H1 (Same.refl _) (hd.sm s)⟩
theorem gv_int {i : Int} : Gv K (tC (.int i)) σ H (.int i) := fun H1 _ Q q => q _ H1 (Same.refl _) (.int i)
theorem gv_str {x : Str} : Gv K (tC (.str x)) σ H (.str x) := fun H1 _ Q q => q _ H1 (Same.refl _) (.str x)
theorem gv_non : Gv K (tC .non) σ H .none := fun H1 _ Q q => q _ H1 (Same.refl _) .non
theorem gva_nil : GvA K tNil σ H [] := fun H1 _ Q q => q [] H1 (Same.refl _) .nil
theorem gva_cons {tr : TA} (h : Gv K t σ H d) (g : GvA K tr σ H ds) : GvA K (tCons t tr) σ H (d :: ds) := fun H1 s Q q =>
  h H1 s _ fun v H2 s2 d2 => g H2 (s.trans s2) _ fun vs H3 s3 d3 => q _ H3 (s2.trans s3) (.cons (d2.sm s3) d3)
theorem gva_starT {es : List PyData} {tr : TA} (h : Gv K t σ H (.tuple es)) (g : GvA K tr σ H ds) : GvA K (StX.tStar K t tr) σ H (es ++ ds) := fun H1 s Q q =>
  h H1 s _ fun v H2 s2 d2 => by
    obtain ⟨a, xs, rfl, hq, hr⟩ := d2.tupI
    exact ⟨a, xs, rfl, .inl hq, g H2 (s.trans s2) _ fun vs H3 s3 d3 => q _ H3 (s2.trans s3) (DpAll.append (hr.sm s3) d3)⟩
theorem gva_starL {es : List PyData} {tr : TA} (h : Gv K t σ H (.list es)) (g : GvA K tr σ H ds) : GvA K (StX.tStar K t tr) σ H (es ++ ds) := fun H1 s Q q =>
  h H1 s _ fun v H2 s2 d2 => by
    obtain ⟨a, xs, rfl, hq, hr⟩ := d2.lstI
    exact ⟨a, xs, rfl, .inr hq, g H2 (s.trans s2) _ fun vs H3 s3 d3 => q _ H3 (s2.trans s3) (DpAll.append (hr.sm s3) d3)⟩
theorem small5 {n : Nat} (h : n ≤ 100000) : n < sizeLine := Nat.lt_of_le_of_lt h (by decide)
theorem gv_tup (h : GvA K ta' σ H ds) (hl : ds.length ≤ sizeLine := by first | decide | exact Nat.le_of_lt (small5 (by simp only [List.length_cons, List.length_nil]; decide))) : Gv K (tTup ta') σ H (.tuple ds) := fun H1 s Q q => h H1 s _ fun vs H2 s2 d2 =>
  ⟨by rw [d2.length]; exact hl, fun p np => q _ _ (s2.trans (same_new np)) (.tup (.inl (.inl upd_same)) (d2.sm (same_new np)))⟩
theorem gn_lst (h : GvA K ta' σ H ds) (hl : ds.length ≤ sizeLine := by first | decide | exact Nat.le_of_lt (small5 (by simp only [List.length_cons, List.length_nil]; decide))) : GvN K (tLst ta') σ H ds := fun H1 s Q q => h H1 s _ fun vs H2 s2 d2 =>
  ⟨by rw [d2.length]; exact hl, fun p np => q _ _ _ (s2.trans (same_new np)) (s2.free np) upd_same (d2.sm (same_new np))⟩
theorem gl_lst (h : GvA K ta' σ H ds) (hl : ds.length ≤ sizeLine := by first | decide | exact Nat.le_of_lt (small5 (by simp only [List.length_cons, List.length_nil]; decide))) : GvL K (tLst ta') σ H ds := (gn_lst h hl).gl
theorem gv_lst (h : GvA K ta' σ H ds) (hl : ds.length ≤ sizeLine := by first | decide | exact Nat.le_of_lt (small5 (by simp only [List.length_cons, List.length_nil]; decide))) : Gv K (tLst ta') σ H (.list ds) := (gl_lst h hl).gv
theorem gv_op2 {r : R2} (ha : Gv K ta σ H d) (hb : Gv K tb σ H e) {f : PyData} (hr : ∀ x y H1 Q, Same H H1 → Dp K H1 x d → Dp K H1 y e → (∀ v H', Same H1 H' → Dp K H' v f → Q v H') → r x y H1 Q) : Gv K (tOp r ta tb) σ H f := fun H1 s Q q =>
  ha H1 s _ fun x H2 s2 d2 => hb H2 (s.trans s2) _ fun y H3 s3 d3 => hr x y H3 Q ((s.trans s2).trans s3) (d2.sm s3) d3 fun v H4 s4 d4 => q v H4 ((s2.trans s3).trans s4) d4
theorem gv_I0 {g : Int → Int → V} {i j : Int} (ha : Gv K ta σ H (.int i)) (hb : Gv K tb σ H (.int j)) {f : PyData} (hf : ∀ H, Dp K H (g i j) f) : Gv K (tOp (rI0 g) ta tb) σ H f :=
  gv_op2 ha hb fun x y H1 Q s hx hy q => by cases hx; cases hy; exact ⟨i, j, rfl, rfl, q _ _ (Same.refl _) (hf _)⟩
theorem gv_add {i j : Int} (ha : Gv K ta σ H (.int i)) (hb : Gv K tb σ H (.int j)) : Gv K (tOp (rI0 fun i j => V.int (i + j)) ta tb) σ H (.int (i + j)) := gv_I0 ha hb fun _ => .int _
theorem gv_eqI {i j : Int} (ha : Gv K ta σ H (.int i)) (hb : Gv K tb σ H (.int j)) : Gv K (tOp rEq ta tb) σ H (.bool (decide (i = j))) :=
  gv_op2 ha hb fun x y H1 Q s hx hy q => by
    cases hx; cases hy
    refine ⟨rfl, q _ _ (Same.refl _) ?_⟩
    rw [show decide (V.int i = V.int j) = decide (i = j) from decide_eq_decide.mpr ⟨fun h => V.int.inj h, fun h => by rw [h]⟩]
    exact .bl _
theorem gv_neI {i j : Int} (ha : Gv K ta σ H (.int i)) (hb : Gv K tb σ H (.int j)) : Gv K (tOp rNe ta tb) σ H (.bool (!decide (i = j))) :=
  gv_op2 ha hb fun x y H1 Q s hx hy q => by
    cases hx; cases hy
    refine ⟨rfl, q _ _ (Same.refl _) ?_⟩
    rw [show decide (V.int i = V.int j) = decide (i = j) from decide_eq_decide.mpr ⟨fun h => V.int.inj h, fun h => by rw [h]⟩]
    exact .bl _
theorem gv_eqS {i j : Str} (ha : Gv K ta σ H (.str i)) (hb : Gv K tb σ H (.str j)) : Gv K (tOp rEq ta tb) σ H (.bool (decide (i = j))) :=
  gv_op2 ha hb fun x y H1 Q s hx hy q => by
    cases hx; cases hy
    refine ⟨rfl, q _ _ (Same.refl _) ?_⟩
    rw [show decide (V.str i = V.str j) = decide (i = j) from decide_eq_decide.mpr ⟨fun h => V.str.inj h, fun h => by rw [h]⟩]
    exact .bl _
theorem gv_neS {i j : Str} (ha : Gv K ta σ H (.str i)) (hb : Gv K tb σ H (.str j)) : Gv K (tOp rNe ta tb) σ H (.bool (!decide (i = j))) :=
  gv_op2 ha hb fun x y H1 Q s hx hy q => by
    cases hx; cases hy
    refine ⟨rfl, q _ _ (Same.refl _) ?_⟩
    rw [show decide (V.str i = V.str j) = decide (i = j) from decide_eq_decide.mpr ⟨fun h => V.str.inj h, fun h => by rw [h]⟩]
    exact .bl _
theorem gv_eqD (ha : Gv K ta σ H d) (hb : Gv K tb σ H e) (h1 : SeqAt.shaped d = true) (h2 : SeqAt.shaped e = true) : Gv K (tOp (rEqD K) ta tb) σ H (.bool (PyData.eqv d e)) :=
  gv_op2 ha hb fun x y H1 Q s hx hy q => ⟨d, e, hx, hy, h1, h2, q _ _ (Same.refl _) (.bl _)⟩
theorem gv_neD (ha : Gv K ta σ H d) (hb : Gv K tb σ H e) (h1 : SeqAt.shaped d = true) (h2 : SeqAt.shaped e = true) : Gv K (tOp (rNeD K) ta tb) σ H (.bool (!PyData.eqv d e)) :=
  gv_op2 ha hb fun x y H1 Q s hx hy q => ⟨d, e, hx, hy, h1, h2, q _ _ (Same.refl _) (.bl _)⟩
theorem inV_intsG {b : Int} (l : List Int) : inV (.int b) (l.map V.int) = decide (b ∈ l) := by
  unfold inV
  rw [List.any_map, Bool.eq_iff_iff, List.any_eq_true, decide_eq_true_eq]
  constructor
  · rintro ⟨x, hx, e⟩
    have e' : x = b := by simpa [eqV] using e
    rw [← e']; exact hx
  · intro h
    exact ⟨b, h, by simp [eqV]⟩
theorem flat_intsG : ∀ l : List Int, (l.map V.int).all flatV = true
  | [] => rfl
  | x :: r => by rw [List.map_cons, List.all_cons, flat_intsG r]; rfl
theorem gv_inT {neg : Bool} {i : Int} {l : List Int} (ha : Gv K ta σ H (.int i)) (hb : Gv K tb σ H (dInts l)) : Gv K (tOp (rIn K neg) ta tb) σ H (.bool (if neg then !decide (i ∈ l) else decide (i ∈ l))) :=
  gv_op2 ha hb fun x y H1 Q s hx hy q => by
    cases hx
    obtain ⟨a, rfl, hq⟩ := hy.intsI
    refine ⟨a, _, rfl, .inr hq, rfl, flat_intsG l, ?_⟩
    rw [inV_intsG]
    exact q _ _ (Same.refl _) (.bl _)
theorem gv_ixT {i : Int} {j : Nat} (ha : Gv K ta σ H (.tuple ds)) (hb : Gv K tb σ H (.int i)) (hi : i = (j : Int)) (hj : ds[j]? = some d) : Gv K (tOp (rIxT K) ta tb) σ H d :=
  gv_op2 ha hb fun x y H1 Q s hx hy q => by
    cases hy
    obtain ⟨a, xs, rfl, hq, hr⟩ := hx.tupI
    obtain ⟨v, hv, dv⟩ := hr.get j d hj
    exact ⟨a, xs, i, v, rfl, rfl, hq, by rw [hi]; exact atI_nat hv, q _ _ (Same.refl _) dv⟩
theorem gv_ixL {i : Int} {j : Nat} (ha : Gv K ta σ H (.list ds)) (hb : Gv K tb σ H (.int i)) (hi : i = (j : Int)) (hj : ds[j]? = some d) : Gv K (tOp (rIxL K) ta tb) σ H d :=
  gv_op2 ha hb fun x y H1 Q s hx hy q => by
    cases hy
    obtain ⟨a, xs, rfl, hq, hr⟩ := hx.lstI
    obtain ⟨v, hv, dv⟩ := hr.get j d hj
    exact ⟨a, xs, i, v, rfl, rfl, hq, by rw [hi]; exact atI_nat hv, q _ _ (Same.refl _) dv⟩
theorem gv_pan {i : Int} {pan : List (List Int)} (ha : Gv K ta σ H (dPan pan)) (hb : Gv K tb σ H (.int i)) (h0 : 0 ≤ i) (h1 : i < (pan.length : Int)) : Gv K (tOp (rIxT K) ta tb) σ H (dInts (pan.getD i.toNat [])) := by
  refine gv_ixT (j := i.toNat) ha hb (by omega) ?_
  rw [List.getElem?_map, List.getD_eq_getElem?_getD, List.getElem?_eq_getElem (by omega)]; rfl
theorem gv_cb {r : List V → Hp → VK → Prop} (h : GvA K ta' σ H ds) {f : PyData} (hr : ∀ vs H1 Q, Same H H1 → DpAll K H1 vs ds → (∀ v H', Same H1 H' → Dp K H' v f → Q v H') → r vs H1 Q) : Gv K (tCB r ta') σ H f := fun H1 s Q q =>
  h H1 s _ fun vs H2 s2 d2 => hr vs H2 Q (s.trans s2) d2 fun v H3 s3 d3 => q v H3 (s2.trans s3) d3
theorem dpAll1 {vs : List V} (h : DpAll K H vs [d]) : ∃ v, vs = [v] ∧ Dp K H v d := by
  cases h with | cons x y => cases y; exact ⟨_, rfl, x⟩
theorem dpAll2 {vs : List V} (h : DpAll K H vs [d, e]) : ∃ v u, vs = [v, u] ∧ Dp K H v d ∧ Dp K H u e := by
  cases h with | cons x y => obtain ⟨u, rfl, z⟩ := dpAll1 y; exact ⟨_, _, rfl, x, z⟩
theorem dpAll3 {f : PyData} {vs : List V} (h : DpAll K H vs [d, e, f]) : ∃ v u w, vs = [v, u, w] ∧ Dp K H v d ∧ Dp K H u e ∧ Dp K H w f := by
  cases h with | cons x y => obtain ⟨u, w, rfl, z⟩ := dpAll2 y; exact ⟨_, _, _, rfl, x, z⟩
theorem dpAll4 {f g : PyData} {vs : List V} (h : DpAll K H vs [d, e, f, g]) : ∃ v u w z, vs = [v, u, w, z] ∧ Dp K H v d ∧ Dp K H u e ∧ Dp K H w f ∧ Dp K H z g := by
  cases h with | cons x y => obtain ⟨u, w, q, rfl, z⟩ := dpAll3 y; exact ⟨_, _, _, _, rfl, x, z⟩
def rLenG (K : PySem.W.Frag) : List V → Hp → VK → Prop := fun xs H Q => ∃ p ys, xs = [V.ref p] ∧ (SqL K H p ys ∨ SqT K H p ys) ∧ Q (.int ys.length) H
theorem cr_lenG {X : Cx} : CallR X (.builtin "len") (rLenG X.K) := call_len_seq
def rTupG (K : PySem.W.Frag) : List V → Hp → VK → Prop := fun xs H Q => ∃ p ys, xs = [V.ref p] ∧ ((SqL K H p ys ∧ ∀ l, H l = none → Q (.ref l) (upd H l (.tup ys))) ∨ (SqT K H p ys ∧ Q (.ref p) H))
theorem cr_tupG {X : Cx} : CallR X (.type "tuple") (rTupG X.K) := call_tuple_of
theorem gv_lenT (h : Gv K t σ H (.tuple ds)) : Gv K (tCB (rLenG K) (tCons t tNil)) σ H (.int ds.length) :=
  gv_cb (gva_cons h gva_nil) fun vs H1 Q s hd q => by
    obtain ⟨v, rfl, hv⟩ := dpAll1 hd
    obtain ⟨a, xs, rfl, hq, hr⟩ := hv.tupI
    exact ⟨a, xs, rfl, .inr hq, by rw [hr.length]; exact q _ _ (Same.refl _) (.int _)⟩
theorem gv_lenL (h : Gv K t σ H (.list ds)) : Gv K (tCB (rLenG K) (tCons t tNil)) σ H (.int ds.length) :=
  gv_cb (gva_cons h gva_nil) fun vs H1 Q s hd q => by
    obtain ⟨v, rfl, hv⟩ := dpAll1 hd
    obtain ⟨a, xs, rfl, hq, hr⟩ := hv.lstI
    exact ⟨a, xs, rfl, .inl hq, by rw [hr.length]; exact q _ _ (Same.refl _) (.int _)⟩
theorem gv_tupL (h : Gv K t σ H (.list ds)) : Gv K (tCB (rTupG K) (tCons t tNil)) σ H (.tuple ds) :=
  gv_cb (gva_cons h gva_nil) fun vs H1 Q s hd q => by
    obtain ⟨v, rfl, hv⟩ := dpAll1 hd
    obtain ⟨a, xs, rfl, hq, hr⟩ := hv.lstI
    exact ⟨a, xs, rfl, .inl ⟨hq, fun l nl => q _ _ (same_new nl) (.tup (.inl (.inl upd_same)) (hr.sm (same_new nl)))⟩⟩
theorem gv_lstT (h : Gv K t σ H (.tuple ds)) : Gv K (tCB (rListG K) (tCons t tNil)) σ H (.list ds) :=
  gv_cb (gva_cons h gva_nil) fun vs H1 Q s hd q => by
    obtain ⟨v, rfl, hv⟩ := dpAll1 hd
    obtain ⟨a, xs, rfl, hq, hr⟩ := hv.tupI
    exact ⟨a, xs, rfl, hq, fun l nl _ => q _ _ (same_new nl) (.lst (.inl (.inl upd_same)) (hr.sm (same_new nl)))⟩
/-- the ascending one of the same numbers -/
def srt (l : List Int) : List Int := l.mergeSort (fun a b => decide (a ≤ b))
theorem srt_perm (l : List Int) : (srt l).Perm l := List.mergeSort_perm _ _
theorem srt_up (l : List Int) : (srt l).Pairwise (· ≤ ·) := by
  have := List.pairwise_mergeSort (le := fun a b : Int => decide (a ≤ b)) (fun a b c h1 h2 => by simp at *; omega) (fun a b => by simp; omega) l
  exact this.imp fun h => by simpa using h
theorem perm_up_eq : ∀ {l1 l2 : List Int}, l1.Perm l2 → l1.Pairwise (· ≤ ·) → l2.Pairwise (· ≤ ·) → l1 = l2 := by
  intro l1
  induction l1 with
  | nil => intro l2 h _ _; exact (List.nil_perm.mp h).symm
  | cons x r ih =>
    intro l2 h h1 h2
    cases l2 with
    | nil => exact absurd h.symm (by simp)
    | cons y s =>
      rw [List.pairwise_cons] at h1 h2
      have hxy : x = y := by
        have hx : x ∈ y :: s := h.subset List.mem_cons_self
        have hy : y ∈ x :: r := h.symm.subset List.mem_cons_self
        rcases List.mem_cons.mp hx with e | e
        · exact e
        · rcases List.mem_cons.mp hy with e' | e'
          · exact e'.symm
          · have := h1.1 y e'
            have := h2.1 x e
            omega
      subst hxy
      rw [ih (List.Perm.cons_inv h) h1.2 h2.2]
theorem srt_eq {l m : List Int} (h : m.Perm l) (u : m.Pairwise (· ≤ ·)) : srt l = m := perm_up_eq ((srt_perm l).trans h.symm) (srt_up l) u
theorem srt_self {l : List Int} (u : l.Pairwise (· < ·)) : srt l = l := srt_eq (List.Perm.refl _) (u.imp fun h => by omega)
theorem gv_sortL {l : List Int} (h : Gv K t σ H (.list (l.map PyData.int))) (hl : l.length < 64) : Gv K (tCB (rSorted K) (tCons t tNil)) σ H (.list ((srt l).map PyData.int)) :=
  gv_cb (gva_cons h gva_nil) fun vs H1 Q s hd q => by
    obtain ⟨v, rfl, hv⟩ := dpAll1 hd
    obtain ⟨a, xs, rfl, hq, hr⟩ := hv.lstI
    rw [dpAll_intsV hr] at hq
    refine ⟨a, l, rfl, hq, hl, fun ns' p hp hu np => ?_⟩
    rw [← srt_eq hp hu]
    exact q _ _ (same_new np) (.lst (.inl (.inl upd_same)) (dpAll_ints _))
theorem gvt_test (h : Gv K t σ H (.bool b)) : GvT (tTest t) σ H b := fun H1 s Q q => h H1 s _ fun v H2 s2 d2 => by cases d2; exact ⟨b, rfl, q _ s2⟩
theorem gvt_b (h : Gv K t σ H (.bool b)) : GvT (tB t) σ H b := fun H1 s Q q => h H1 s _ fun v H2 s2 d2 => by cases d2; exact ⟨b, rfl, q _ s2⟩
theorem gvt_not (h : GvT tt σ H b) : GvT (tNot tt) σ H (!b) := fun H1 s Q q => h H1 s _ fun H2 s2 => q _ s2
theorem gvt_yes : GvT tYes σ H true := fun H1 s Q q => q H1 (Same.refl _)
theorem gvt_and (h : GvT tt σ H b) (g : ∀ H', Same H H' → b = true → GvT uu σ H' c) : GvT (tAnd tt uu) σ H (b && c) := fun H1 s Q q => h H1 s _ fun H2 s2 => by
  cases b with
  | true => rw [if_pos rfl]; exact g H2 (s.trans s2) rfl H2 (Same.refl _) _ fun H3 s3 => q _ (s2.trans s3)
  | false => rw [if_neg Bool.false_ne_true]; exact q _ s2
theorem gvt_or (h : GvT tt σ H b) (g : ∀ H', Same H H' → b = false → GvT uu σ H' c) : GvT (tOr tt uu) σ H (b || c) := fun H1 s Q q => h H1 s _ fun H2 s2 => by
  cases b with
  | true => rw [if_pos rfl]; exact q _ s2
  | false => rw [if_neg Bool.false_ne_true]; exact g H2 (s.trans s2) rfl H2 (Same.refl _) _ fun H3 s3 => q _ (s2.trans s3)
theorem gv_if (h : GvT tt σ H b) (h1 : b = true → Gv K ta σ H d) (h2 : b = false → Gv K tb σ H e) : Gv K (tIf tt ta tb) σ H (if b then d else e) := fun H1 s Q q => h H1 s _ fun H2 s2 => by
  cases b with
  | true => rw [if_pos rfl]; exact h1 rfl H2 (s.trans s2) _ fun v H3 s3 d3 => q v H3 (s2.trans s3) d3
  | false => rw [if_neg Bool.false_ne_true]; exact h2 rfl H2 (s.trans s2) _ fun v H3 s3 d3 => q v H3 (s2.trans s3) d3
/-- a def that only computes -/
def spP (K : PySem.W.Frag) {α : Type} (δ : α → List PyData) (C : α → Prop) (f : α → PyData) : Sp := fun vs H Q _ => ∃ a, DpAll K H vs (δ a) ∧ C a ∧ ∀ v H', Same H H' → Dp K H' v (f a) → Q v H'
theorem gv_call {α : Type} {δ : α → List PyData} {C : α → Prop} {f : α → PyData} {E : XK} (a : α) (h : GvA K ta' σ H (δ a)) (hc : C a) : Gv K (tCall (spP K δ C f) [] E ta') σ H (f a) := fun H1 s Q q =>
  h H1 s _ fun vs H2 s2 d2 => ⟨a, by rw [List.append_nil]; exact d2, hc, fun v H3 s3 d3 => q v H3 (s2.trans s3) d3⟩
end
section
variable {K : PySem.W.Frag} {R : Hp → Hp → Prop} {σ : L2.St} {H : Hp} {t : TE} {ta : TA} {ds : List PyData}
theorem gvi_list (h : Gv K t σ H (.list ds)) : GvI K Same (iList K t) σ H ds := fun H1 s Q q => h H1 s _ fun v H2 s2 d2 => by
  obtain ⟨a, xs, rfl, hq, hr⟩ := d2.lstI
  refine ⟨a, rfl, ⟨xs, hq⟩, q _ H2 s2 ?_⟩
  rw [← hr.length]
  refine walk_list.mono (fun h e => e.seq hq) fun i h x h' hi e y => ?_
  obtain ⟨rfl, y⟩ := y
  have hi' : i < ds.length := by rw [← hr.length]; exact hi
  obtain ⟨v, hv, dv⟩ := hr.get i ds[i] (List.getElem?_eq_getElem hi')
  rw [hv] at y; cases y
  exact ⟨Same.refl _, ds[i], List.getElem?_eq_getElem hi', dv.sm e⟩
theorem gvi_tup (h : Gv K t σ H (.tuple ds)) : GvI K Same (iTup K t) σ H ds := fun H1 s Q q => h H1 s _ fun v H2 s2 d2 => by
  obtain ⟨a, xs, rfl, hq, hr⟩ := d2.tupI
  refine ⟨a, rfl, ⟨xs, hq⟩, q _ H2 s2 ?_⟩
  rw [← hr.length]
  refine walk_tup.mono (fun h e => same_sqT e hq) fun i h x h' hi e y => ?_
  obtain ⟨rfl, y⟩ := y
  have hi' : i < ds.length := by rw [← hr.length]; exact hi
  obtain ⟨v, hv, dv⟩ := hr.get i ds[i] (List.getElem?_eq_getElem hi')
  rw [hv] at y; cases y
  exact ⟨Same.refl _, ds[i], List.getElem?_eq_getElem hi', dv.sm e⟩
theorem gvi_enumT {α : Type} {δ : α → PyData} {as : List α} (h : Gv K t σ H (.tuple (as.map δ))) : GvI K Same (iEnumT K (tCons t tNil)) σ H (as.zipIdx.map fun x => .tuple [.int (x.2 : Nat), δ x.1]) := fun H1 s Q q => h H1 s _ fun v H2 s2 d2 => by
  obtain ⟨a, xs, rfl, hq, hr⟩ := d2.tupI
  refine ⟨a, xs, rfl, hq, q _ H2 s2 ?_⟩
  have hl : xs.length = as.length := by rw [hr.length, List.length_map]
  rw [List.length_map, List.length_zipIdx, ← hl]
  refine walk_enumT.mono (fun h e => same_sqT e hq) fun i h x h' hi e y => ?_
  obtain ⟨T, x1, x2, rfl, nT, rfl, e1, e2⟩ := y
  cases e1
  have hi' : i < as.length := by omega
  obtain ⟨v, hv, dv⟩ := hr.get i (δ as[i]) (by rw [List.getElem?_map, List.getElem?_eq_getElem hi']; rfl)
  replace e2 : xs[i]? = some x2 := e2
  rw [hv] at e2; cases e2
  have sT : Same h (upd h T (.tup [.int (i : Nat), x2])) := same_new nT
  refine ⟨sT, .tuple [.int (i : Nat), δ as[i]], ?_, .tup (.inl (.inl upd_same)) (.cons (.int _) (.cons ((dv.sm e).sm sT) .nil))⟩
  rw [List.getElem?_map, List.getElem?_zipIdx, List.getElem?_eq_getElem hi']
  simp
theorem gvi_enumTK {α : Type} {δ : α → PyData} {as : List α} (h : Gv K t σ H (.tuple (as.map δ))) (z : ∀ a ∈ as, lf (δ a) = true) : GvI K Kp (iEnumT K (tCons t tNil)) σ H (as.zipIdx.map fun x => .tuple [.int (x.2 : Nat), δ x.1]) := fun H1 s Q q => h H1 s _ fun v H2 s2 d2 => by
  obtain ⟨a, xs, rfl, hq, hr⟩ := d2.tupI
  refine ⟨a, xs, rfl, hq, q _ H2 s2 ?_⟩
  have hl : xs.length = as.length := by rw [hr.length, List.length_map]
  rw [List.length_map, List.length_zipIdx, ← hl]
  refine walk_enumT.mono (fun h e => sqT_kp e hq) fun i h x h' hi e y => ?_
  obtain ⟨T, x1, x2, rfl, nT, rfl, e1, e2⟩ := y
  cases e1
  have hi' : i < as.length := by omega
  obtain ⟨v, hv, dv⟩ := hr.get i (δ as[i]) (by rw [List.getElem?_map, List.getElem?_eq_getElem hi']; rfl)
  replace e2 : xs[i]? = some x2 := e2
  rw [hv] at e2; cases e2
  have sT : Same h (upd h T (.tup [.int (i : Nat), x2])) := same_new nT
  refine ⟨sT, .tuple [.int (i : Nat), δ as[i]], ?_, .tup (.inl (.inl upd_same)) (.cons (.int _) (.cons ((dv.kp e (z _ (List.getElem_mem _))).sm sT) .nil))⟩
  rw [List.getElem?_map, List.getElem?_zipIdx, List.getElem?_eq_getElem hi']
  simp
/-- what a comprehension has gathered when D is the new list -/
def LcP (K : PySem.W.Frag) (H1 : Hp) (D : Addr) (ds : Nat → List PyData) (k : Nat) (H2 : Hp) : Prop := (∀ b o, b ≠ D → H1 b = some o → H2 b = some o) ∧ ∃ acc, H2 D = some (.lst acc) ∧ DpAll K H2 acc (ds k) ∧ acc.length ≤ k
theorem lcP_yes {H1 H5 H2 : Hp} {D : Addr} {ds : Nat → List PyData} {k : Nat} {acc : List V} {y : V} {d : PyData} (h : ∀ b o, b ≠ D → H1 b = some o → H2 b = some o) (s25 : Same H2 H5) (eD : H2 D = some (.lst acc)) (ha : DpAll K H2 acc (ds k)) (la : acc.length ≤ k) (dy : Dp K H5 y d)
    (e : ds (k + 1) = ds k ++ [d]) (z : lfAll (ds (k + 1)) = true) : LcP K H1 D ds (k + 1) (upd H5 D (.lst (acc ++ [y]))) := by
  refine ⟨fun b o hb q => by rw [upd_ne hb]; exact s25 _ _ (h b o hb q), acc ++ [y], upd_same, ?_, by rw [List.length_append]; show acc.length + 1 ≤ k + 1; omega⟩
  refine dpAll_kp (Kp.upd (s25 _ _ eD)) _ _ z ?_
  rw [e]
  exact DpAll.append (ha.sm s25) (.cons dy .nil)
theorem lcP_no {H1 H3 H2 : Hp} {D : Addr} {ds : Nat → List PyData} {k : Nat} {acc : List V} (h : ∀ b o, b ≠ D → H1 b = some o → H2 b = some o) (s23 : Same H2 H3) (eD : H2 D = some (.lst acc)) (ha : DpAll K H2 acc (ds k)) (la : acc.length ≤ k)
    (e : ds (k + 1) = ds k) : LcP K H1 D ds (k + 1) H3 :=
  ⟨fun b o hb q => s23 _ _ (h b o hb q), acc, s23 _ _ eD, by rw [e]; exact ha.sm s23, by omega⟩
theorem fil_take {α : Type} {as : List α} {p : α → Bool} {f : α → PyData} {k : Nat} (hk : k < as.length) : (((as.take (k + 1)).filter p).map f) = ((as.take k).filter p).map f ++ if p as[k] then [f as[k]] else [] := by
  rw [List.take_add_one, List.getElem?_eq_getElem hk, Option.toList_some, List.filter_append, List.map_append]
  cases h : p as[k] with
  | true => rw [List.filter_cons_of_pos h]; rfl
  | false => rw [List.filter_cons_of_neg (by rw [h]; exact Bool.false_ne_true)]; rfl
theorem lf_fil {α : Type} {as : List α} {p : α → Bool} {f : α → PyData} (h : ∀ a ∈ as, lf (f a) = true) (k : Nat) : lfAll (((as.take k).filter p).map f) = true := lfAll_of fun d hd => by
  obtain ⟨a, ha, rfl⟩ := List.mem_map.mp hd
  exact h a (List.mem_of_mem_take (List.mem_filter.mp ha).1)
/-- a comprehension, its target one name -/
theorem gn_lc {wi : TI} {tt : TT} {te : TE} {i : Nat} {α : Type} {δ : α → PyData} {as : List α} {p : α → Bool} {f : α → PyData} (hI : GvI K Same wi σ H (as.map δ))
    (hb : ∀ a v H1, a ∈ as → Same H H1 → Dp K H1 v (δ a) → GvT tt ((σ.set i none).set i (some v)) H1 (p a) ∧ (p a = true → Gv K te ((σ.set i none).set i (some v)) H1 (f a)))
    (hf : ∀ a ∈ as, lf (f a) = true) (hn : as.length ≤ 100000) : GvN K (tLc wi (gName i) tt te [i]) σ H ((as.filter p).map f) := by
  intro H0 s0 Q q
  refine hI H0 s0 _ fun J H1 s1 w D nD => ?_
  rw [List.length_map] at w
  refine lc_it w (LcP K H1 D fun k => ((as.take k).filter p).map f) ⟨fun b o hb e => by rw [upd_ne hb]; exact e, [], upd_same, .nil, Nat.zero_le _⟩ (fun k H2 _ hP b o e => hP.1 b o (ne_of_none e nD) e) (fun k x H2 H3 hk hP hY => ?_) (fun H2 hP => ?_)
  · obtain ⟨s2, acc, eD, hacc, la⟩ := hP
    obtain ⟨s3, d, hd, dx⟩ := hY
    rw [List.getElem?_map, List.getElem?_eq_getElem hk] at hd
    cases hd
    have sH : Same H H3 := (s0.trans s1).trans fun b o e => s3 _ _ (s2 b o (ne_of_none e nD) e)
    obtain ⟨g1, g2⟩ := hb as[k] x H3 (List.getElem_mem _) sH dx
    refine ⟨by show ((σ.set i none).set i (some x)).set i none = σ.set i none; rw [List.set_set, List.set_set], g1.at fun H4 s4 => ?_⟩
    cases hp : p as[k] with
    | true =>
      rw [if_pos rfl]
      refine (g2 hp).sm s4 |>.at fun y H5 s5 dy => ⟨acc, s5 _ _ (s4 _ _ (s3 _ _ eD)), small5 (by omega), ?_⟩
      exact lcP_yes s2 ((s3.trans s4).trans s5) eD hacc la dy (by rw [fil_take hk, hp]; rfl) (lf_fil hf _)
    | false =>
      rw [if_neg Bool.false_ne_true]
      exact lcP_no s2 (s3.trans s4) eD hacc la (by rw [fil_take hk, hp]; exact List.append_nil _)
  · obtain ⟨s2, acc, eD, hacc, la⟩ := hP
    replace hacc : DpAll K H2 acc (((as.take as.length).filter p).map f) := hacc
    rw [List.take_length] at hacc
    exact q _ _ H2 (s1.trans fun b o e => s2 b o (ne_of_none e nD) e) (s1.free nD) eD hacc
theorem gl_lc {wi : TI} {tt : TT} {te : TE} {i : Nat} {α : Type} {δ : α → PyData} {as : List α} {p : α → Bool} {f : α → PyData} (hI : GvI K Same wi σ H (as.map δ))
    (hb : ∀ a v H1, a ∈ as → Same H H1 → Dp K H1 v (δ a) → GvT tt ((σ.set i none).set i (some v)) H1 (p a) ∧ (p a = true → Gv K te ((σ.set i none).set i (some v)) H1 (f a)))
    (hf : ∀ a ∈ as, lf (f a) = true) (hn : as.length ≤ 100000) : GvL K (tLc wi (gName i) tt te [i]) σ H ((as.filter p).map f) := (gn_lc hI hb hf hn).gl
theorem gv_lc {wi : TI} {tt : TT} {te : TE} {i : Nat} {α : Type} {δ : α → PyData} {as : List α} {p : α → Bool} {f : α → PyData} (hI : GvI K Same wi σ H (as.map δ))
    (hb : ∀ a v H1, a ∈ as → Same H H1 → Dp K H1 v (δ a) → GvT tt ((σ.set i none).set i (some v)) H1 (p a) ∧ (p a = true → Gv K te ((σ.set i none).set i (some v)) H1 (f a)))
    (hf : ∀ a ∈ as, lf (f a) = true) (hn : as.length ≤ 100000) : Gv K (tLc wi (gName i) tt te [i]) σ H (.list ((as.filter p).map f)) := (gl_lc hI hb hf hn).gv
theorem set_two {i j : Nat} (σ : L2.St) (v u : V) : (((((σ.set j none).set i none).set i (some v)).set j (some u)).set j none).set i none = (σ.set j none).set i none := by
  refine List.ext_getElem? fun k => ?_
  simp only [List.getElem?_set, List.length_set]
  split <;> split <;> (try split) <;> simp_all
/-- the same, its target two names -/
theorem gn_lc2 {wi : TI} {tt : TT} {te : TE} {i j : Nat} {α : Type} {δ1 δ2 : α → PyData} {as : List α} {p : α → Bool} {f : α → PyData} (hI : GvI K Same wi σ H (as.map fun a => .tuple [δ1 a, δ2 a]))
    (hb : ∀ a v u H1, a ∈ as → Same H H1 → Dp K H1 v (δ1 a) → Dp K H1 u (δ2 a) → GvT tt ((((σ.set j none).set i none).set i (some v)).set j (some u)) H1 (p a) ∧ (p a = true → Gv K te ((((σ.set j none).set i none).set i (some v)).set j (some u)) H1 (f a)))
    (hf : ∀ a ∈ as, lf (f a) = true) (hn : as.length ≤ 100000) (hij : i ≠ j) : GvN K (tLc wi (gTup K 2 (gCons (gName i) (gCons (gName j) gNil))) tt te [i, j]) σ H ((as.filter p).map f) := by
  intro H0 s0 Q q
  refine hI H0 s0 _ fun J H1 s1 w D nD => ?_
  rw [List.length_map] at w
  refine lc_it w (LcP K H1 D fun k => ((as.take k).filter p).map f) ⟨fun b o hb e => by rw [upd_ne hb]; exact e, [], upd_same, .nil, Nat.zero_le _⟩ (fun k H2 _ hP b o e => hP.1 b o (ne_of_none e nD) e) (fun k x H2 H3 hk hP hY => ?_) (fun H2 hP => ?_)
  · obtain ⟨s2, acc, eD, hacc, la⟩ := hP
    obtain ⟨s3, d, hd, dx⟩ := hY
    rw [List.getElem?_map, List.getElem?_eq_getElem hk] at hd
    cases hd
    have sH : Same H H3 := (s0.trans s1).trans fun b o e => s3 _ _ (s2 b o (ne_of_none e nD) e)
    obtain ⟨T, xs, rfl, hT, hr⟩ := dx.tupI
    obtain ⟨v, u, rfl, dv, du⟩ := dpAll2 hr
    obtain ⟨g1, g2⟩ := hb as[k] v u H3 (List.getElem_mem _) sH dv du
    refine ⟨T, [v, u], rfl, hT, rfl, v, [u], rfl, u, [], rfl, rfl, ?_, g1.at fun H4 s4 => ?_⟩
    · show (((((σ.set j none).set i none).set i (some v)).set j (some u)).set j none).set i none = (σ.set j none).set i none
      exact set_two _ _ _
    cases hp : p as[k] with
    | true =>
      rw [if_pos rfl]
      refine (g2 hp).sm s4 |>.at fun y H5 s5 dy => ⟨acc, s5 _ _ (s4 _ _ (s3 _ _ eD)), small5 (by omega), ?_⟩
      exact lcP_yes s2 ((s3.trans s4).trans s5) eD hacc la dy (by rw [fil_take hk, hp]; rfl) (lf_fil hf _)
    | false =>
      rw [if_neg Bool.false_ne_true]
      exact lcP_no s2 (s3.trans s4) eD hacc la (by rw [fil_take hk, hp]; exact List.append_nil _)
  · obtain ⟨s2, acc, eD, hacc, la⟩ := hP
    replace hacc : DpAll K H2 acc (((as.take as.length).filter p).map f) := hacc
    rw [List.take_length] at hacc
    exact q _ _ H2 (s1.trans fun b o e => s2 b o (ne_of_none e nD) e) (s1.free nD) eD hacc
theorem gl_lc2 {wi : TI} {tt : TT} {te : TE} {i j : Nat} {α : Type} {δ1 δ2 : α → PyData} {as : List α} {p : α → Bool} {f : α → PyData} (hI : GvI K Same wi σ H (as.map fun a => .tuple [δ1 a, δ2 a]))
    (hb : ∀ a v u H1, a ∈ as → Same H H1 → Dp K H1 v (δ1 a) → Dp K H1 u (δ2 a) → GvT tt ((((σ.set j none).set i none).set i (some v)).set j (some u)) H1 (p a) ∧ (p a = true → Gv K te ((((σ.set j none).set i none).set i (some v)).set j (some u)) H1 (f a)))
    (hf : ∀ a ∈ as, lf (f a) = true) (hn : as.length ≤ 100000) (hij : i ≠ j) : GvL K (tLc wi (gTup K 2 (gCons (gName i) (gCons (gName j) gNil))) tt te [i, j]) σ H ((as.filter p).map f) := (gn_lc2 hI hb hf hn hij).gl
theorem gv_lc2 {wi : TI} {tt : TT} {te : TE} {i j : Nat} {α : Type} {δ1 δ2 : α → PyData} {as : List α} {p : α → Bool} {f : α → PyData} (hI : GvI K Same wi σ H (as.map fun a => .tuple [δ1 a, δ2 a]))
    (hb : ∀ a v u H1, a ∈ as → Same H H1 → Dp K H1 v (δ1 a) → Dp K H1 u (δ2 a) → GvT tt ((((σ.set j none).set i none).set i (some v)).set j (some u)) H1 (p a) ∧ (p a = true → Gv K te ((((σ.set j none).set i none).set i (some v)).set j (some u)) H1 (f a)))
    (hf : ∀ a ∈ as, lf (f a) = true) (hn : as.length ≤ 100000) (hij : i ≠ j) : Gv K (tLc wi (gTup K 2 (gCons (gName i) (gCons (gName j) gNil))) tt te [i, j]) σ H (.list ((as.filter p).map f)) := (gl_lc2 hI hb hf hn hij).gv
theorem gs_ret {t : TE} {d : PyData} {D : Ends} (h : Gv K t σ H d) (q : ∀ v H', Same H H' → Dp K H' v d → D.rt v H') : tRet t D σ H := h.at q
theorem gs_if {c : TT} {b : Bool} {t u : TS} {D : Ends} (h : GvT c σ H b) (h1 : b = true → ∀ H', Same H H' → t D σ H') (h2 : b = false → ∀ H', Same H H' → u D σ H') : tIfS c t u D σ H := h.at fun H' s => by
  cases b with
  | true => rw [if_pos rfl]; exact h1 rfl H' s
  | false => rw [if_neg Bool.false_ne_true]; exact h2 rfl H' s
/-- a loop: Pv by the heap at its start, the turn, the slots and the heap -/
theorem gs_for {wi : TI} {g : TG} {tb : TS} {D : Ends} {ds : List PyData} (hI : GvI K R wi σ H ds) (Pv : Hp → Nat → L2.St → Hp → Prop) (h0 : ∀ H1, Same H H1 → Pv H1 0 σ H1) (hS : ∀ H1 k σ' H', Same H H1 → Pv H1 k σ' H' → R H1 H')
    (hs : ∀ H1 k x d σ' H' H'', Same H H1 → ds[k]? = some d → Pv H1 k σ' H' → Same H' H'' → Dp K H'' x d → g x σ' H'' fun σ2 H2 => tb { D with nx := Pv H1 (k + 1), ct := Pv H1 (k + 1), bk := D.nx } σ2 H2)
    (hd : ∀ H1 σ' H', Same H H1 → Pv H1 ds.length σ' H' → D.nx σ' H') : tFor wi g tb D σ H := by
  refine hI H (Same.refl _) _ fun J H1 s1 w => ?_
  refine for_it w (Pv H1) (h0 H1 s1) (fun k σ' H' _ hP => hS H1 k σ' H' s1 hP) (fun k x σ' H' H'' hk hP hY => ?_) (fun σ' H' hP => hd H1 σ' H' s1 hP)
  obtain ⟨s3, d, hd', dx⟩ := hY
  exact hs H1 k x d σ' H' H'' s1 hd' hP s3 dx
end
end Pr
namespace Pr
open PySem PySem.Spec PyProof.Rows L2
section
variable {K : PySem.W.Frag} {σ : L2.St} {H : Hp} {t ta tb : TE} {d e : PyData} {ds es : List PyData}
theorem gs_if1 {c : TT} {b : Bool} {t u : TS} {D : Ends} (h : GvT c σ H b) (h1 : b = true → ∀ H', Same H H' → t { D with nx := u D } σ H') (h2 : b = false → ∀ H', Same H H' → u D σ H') : tSeq (tIfS c t tNext) u D σ H := gs_if h h1 h2
theorem gs_set1 {i : Nat} {u : TS} {D : Ends} (h : Gv K t σ H d) (q : ∀ v H', Same H H' → Dp K H' v d → u D (σ.set i (some v)) H') : tSeq (tAsg t (gName i)) u D σ H := h.at fun v H' s dv => q v H' s dv
/-- a test that comes out false, what stands under it not reached -/
theorem gs_no {c : TT} {t u : TS} {D : Ends} {b : Bool} (h : GvT c σ H b) (hb : b = false) (h2 : ∀ H', Same H H' → u D σ H') : tSeq (tIfS c t tNext) u D σ H := gs_if h (fun e => by rw [hb] at e; cases e) fun _ => h2
theorem gs_noN {c : TT} {t : TS} {D : Ends} {b : Bool} (h : GvT c σ H b) (hb : b = false) (h2 : ∀ H', Same H H' → D.nx σ H') : tIfS c t tNext D σ H := gs_if h (fun e => by rw [hb] at e; cases e) fun _ => h2
/-- for a, b in pairs -/
theorem gs_each2 {i j : Nat} {tb : TS} {D : Ends} {R : Hp → Hp → Prop} {wi : TI} {α : Type} {δ1 δ2 : α → PyData} {as : List α} (hI : GvI K R wi σ H (as.map fun a => .tuple [δ1 a, δ2 a])) (Pv : Hp → Nat → L2.St → Hp → Prop) (h0 : ∀ H1, Same H H1 → Pv H1 0 σ H1) (hS : ∀ H1 k σ' H', Same H H1 → Pv H1 k σ' H' → R H1 H')
    (hs : ∀ H1 k a v u σ' H' H'', Same H H1 → as[k]? = some a → Pv H1 k σ' H' → Same H' H'' → Dp K H'' v (δ1 a) → Dp K H'' u (δ2 a) → tb { D with nx := Pv H1 (k + 1), ct := Pv H1 (k + 1), bk := D.nx } ((σ'.set i (some v)).set j (some u)) H'')
    (hd : ∀ H1 σ' H', Same H H1 → Pv H1 as.length σ' H' → D.nx σ' H') : tFor wi (gTup K 2 (gCons (gName i) (gCons (gName j) gNil))) tb D σ H := by
  refine gs_for hI Pv h0 hS (fun H1 k x d σ' H' H'' s1 hd' hP s2 dx => ?_) (fun H1 σ' H' s1 hP => hd H1 σ' H' s1 (by rwa [List.length_map] at hP))
  rw [List.getElem?_map] at hd'
  cases e : as[k]? with
  | none => rw [e] at hd'; cases hd'
  | some a =>
    rw [e] at hd'; cases hd'
    obtain ⟨T, xs, rfl, hT, hr⟩ := dx.tupI
    obtain ⟨v, u, rfl, dv, du⟩ := dpAll2 hr
    exact ⟨T, [v, u], rfl, hT, rfl, v, [u], rfl, u, [], rfl, rfl, hs H1 k a v u σ' H' H'' s1 e hP s2 dv du⟩
theorem gn_cat (ha : GvL K ta σ H ds) (hb : GvL K tb σ H es) (hn : ds.length + es.length ≤ 100000) : GvN K (tOp rCat ta tb) σ H (ds ++ es) := fun H1 s Q q =>
  ha H1 s _ fun a xs H2 s2 ea da => hb H2 (s.trans s2) _ fun b ys H3 s3 eb db =>
    ⟨a, b, xs, ys, rfl, rfl, s3 _ _ ea, eb, by rw [da.length, db.length]; exact Nat.le_of_lt (small5 hn), fun p np => q _ _ _ ((s2.trans s3).trans (same_new np)) ((s2.trans s3).free np) upd_same (DpAll.append (da.sm (s3.trans (same_new np))) (db.sm (same_new np)))⟩
theorem gs_setN {i : Nat} {u : TS} {D : Ends} (h : GvN K t σ H ds) (q : ∀ a vs H', Same H H' → H a = none → H' a = some (.lst vs) → DpAll K H' vs ds → u D (σ.set i (some (.ref a))) H') : tSeq (tAsg t (gName i)) u D σ H := h.at fun a vs H' s n e dv => q a vs H' s n e dv
theorem gs_setL {i : Nat} {u : TS} {D : Ends} (h : GvL K t σ H ds) (q : ∀ a vs H', Same H H' → H' a = some (.lst vs) → DpAll K H' vs ds → u D (σ.set i (some (.ref a))) H') : tSeq (tAsg t (gName i)) u D σ H := h.at fun a vs H' s e dv => q a vs H' s e dv
theorem gv_catT (ha : Gv K ta σ H (.tuple ds)) (hb : Gv K tb σ H (.tuple es)) (hn : ds.length + es.length ≤ 100000) : Gv K (tOp (rCatS K) ta tb) σ H (.tuple (ds ++ es)) :=
  gv_op2 ha hb fun x y H1 Q s hx hy q => by
    obtain ⟨a, xs, rfl, hq, hr⟩ := hx.tupI
    obtain ⟨b, ys, rfl, hq2, hr2⟩ := hy.tupI
    exact ⟨a, b, xs, ys, rfl, rfl, hq, hq2, by rw [hr.length, hr2.length]; exact Nat.le_of_lt (small5 hn), fun p H' s' hp => q _ _ s' (.tup hp (DpAll.append (hr.sm s') (hr2.sm s')))⟩
theorem cut_dp {ds : List PyData} {xs : List V} (h : DpAll K H xs ds) (lo hi : Option Int) : DpAll K H (cutV xs lo hi) ((ds.drop (HT.sIx ds.length 0 lo)).take (HT.sIx ds.length ds.length hi - HT.sIx ds.length 0 lo)) := by
  unfold cutV
  rw [h.length]
  exact (h.drop _).take _
end
end Pr
namespace Pr
open PySem PySem.Spec PyProof.Rows L2
theorem rgV_intL (n : Nat) : rgV 0 (n : Int) = (intL n).map V.int := by
  unfold rgV intL
  rw [List.map_map, Int.sub_zero, Int.toNat_natCast]
  refine List.map_congr_left fun i _ => ?_
  show V.int (0 + (i : Int)) = V.int (i : Int)
  rw [Int.zero_add]
theorem gv_andV {K : PySem.W.Frag} {σ : L2.St} {H : Hp} {ta tb : TE} {b c : Bool} (ha : Gv K ta σ H (.bool b)) (hb : b = true → Gv K tb σ H (.bool c)) : Gv K (tAndV ta tb) σ H (.bool (b && c)) := fun H1 s Q q => ha H1 s _ fun v H2 s2 d2 => by
  cases d2
  refine ⟨b, rfl, ?_⟩
  cases b with
  | true => rw [if_pos rfl]; exact hb rfl H2 (s.trans s2) _ fun v H3 s3 d3 => q v H3 (s2.trans s3) d3
  | false => rw [if_neg Bool.false_ne_true]; exact q _ _ s2 (.bl false)
/-- each of 0 .. n - 1 once -/
structure IsP (n : Nat) (nm : List Int) : Prop where
  len : nm.length = n
  nd : nm.Nodup
  rng : ∀ x ∈ nm, 0 ≤ x ∧ x < (n : Int)
theorem IsP.mem {n : Nat} {nm : List Int} (h : IsP n nm) {x : Int} (h0 : 0 ≤ x) (h1 : x < (n : Int)) : x ∈ nm := Classical.byContradiction fun hx => by
  have := nodup_few n (x :: nm) (List.nodup_cons.mpr ⟨hx, h.nd⟩) fun y hy => by
    rcases List.mem_cons.mp hy with rfl | hy
    · exact ⟨h0, h1⟩
    · exact h.rng y hy
  rw [List.length_cons, h.len] at this
  omega
/-- what button b is called -/
def nmOf (nm : List Int) (x : Int) : Int := nm.getD x.toNat 0
theorem IsP.at {n : Nat} {nm : List Int} (h : IsP n nm) {x : Int} (h0 : 0 ≤ x) (h1 : x < (n : Int)) : nm[x.toNat]? = some (nmOf nm x) := by
  unfold nmOf
  rw [List.getD_eq_getElem?_getD, List.getElem?_eq_getElem (by rw [h.len]; omega)]; rfl
theorem nd_get {l : List Int} (h : l.Nodup) {i j : Nat} {x : Int} (hi : l[i]? = some x) (hj : l[j]? = some x) : i = j := by
  obtain ⟨w1, z1⟩ := List.getElem?_eq_some_iff.mp hi
  obtain ⟨w2, z2⟩ := List.getElem?_eq_some_iff.mp hj
  have hp := List.pairwise_iff_getElem.mp h
  rcases Nat.lt_trichotomy i j with lt | e | lt
  · exact absurd (z1.trans z2.symm) (hp _ _ w1 w2 lt)
  · exact e
  · exact absurd (z2.trans z1.symm) (hp _ _ w2 w1 lt)
theorem IsP.inj {n : Nat} {nm : List Int} (h : IsP n nm) {x y : Int} (h0 : 0 ≤ x) (h1 : x < (n : Int)) (h2 : 0 ≤ y) (h3 : y < (n : Int)) (e : nmOf nm x = nmOf nm y) : x = y := by
  have a := h.at h0 h1
  have b := h.at h2 h3
  rw [← e] at b
  have := nd_get h.nd a b
  omega
end Pr
namespace Pr
open PySem PySem.Spec PyProof.Rows L2
section
variable {κ : Type} [DecidableEq κ]
abbrev BL (κ : Type) := List (κ × List Int)
variable {step : κ → Nat → κ} {n : Nat} {s : κ}
end
end Pr
namespace Pr
open PySem PySem.Spec PyProof.Rows L2 PySem.W
/-- v is a tuple that holds these numbers -/
def IsTI (h : Heap) (v : Value) (ns : List Int) : Prop :=
  ∃ (a : Addr) (dd : Option Addr) (items : Array Value) (n : Nat) (sl : Array (Option Value)), v = .ref a ∧ h.get? a = some { cls := .type "tuple", dict := dd, data := .seq items n, slots := sl } ∧ IntsAre items.toList ns
theorem IsTI.keeps {h h' : Heap} {v : Value} {ns : List Int} (x : IsTI h v ns) (k : ∀ b o, v = .ref b → h.get? b = some o → h'.get? b = some o) : IsTI h' v ns := by
  obtain ⟨a, dd, items, n, sl, e, g, i⟩ := x
  exact ⟨a, dd, items, n, sl, e, k _ _ e g, i⟩
theorem IsTI.type {M : Model} {h : Heap} {v : Value} {ns : List Int} (x : IsTI h v ns) : Looks M h (typeOf v) (.type "tuple") := by
  obtain ⟨a, dd, items, n, sl, rfl, g, i⟩ := x
  exact (Looks.ld g).andThen .now
end Pr
namespace Pr
open PySem PySem.Spec PyProof.Rows L2 PySem.W
end Pr
namespace Pr
open PySem PySem.Spec PyProof.Rows L2
theorem val_zip {κ : Type} [DecidableEq κ] : ∀ {ks : List κ} {vs : List V} {i : Nat} {k : κ} {v : V}, ks.Nodup → ks[i]? = some k → vs[i]? = some v → valV (ks.zip vs) k = some v
  | [], _, _, _, _, _, h, _ => by simp at h
  | _ :: _, [], _, _, _, _, _, h => by simp at h
  | a :: ks, b :: vs, 0, k, v, nd, h1, h2 => by
    simp at h1 h2; subst h1 h2
    rw [List.zip_cons_cons]; exact valV_pos rfl
  | a :: ks, b :: vs, i + 1, k, v, nd, h1, h2 => by
    rw [List.nodup_cons] at nd
    have h1' : ks[i]? = some k := by simpa using h1
    rw [List.zip_cons_cons, valV_neg (fun e => nd.1 (by rw [show a = k from e]; exact List.mem_of_getElem? h1'))]
    exact val_zip nd.2 h1' (by simpa using h2)
theorem val_zip_none {κ : Type} [DecidableEq κ] : ∀ {ks : List κ} {vs : List V} {k : κ}, k ∉ ks → valV (ks.zip vs) k = none
  | [], _, _, _ => rfl
  | _ :: _, [], _, _ => by rw [List.zip_nil_right]; rfl
  | a :: ks, b :: vs, k, h => by
    rw [List.zip_cons_cons, valV_neg (fun e => h (by rw [show a = k from e]; exact List.mem_cons_self))]
    exact val_zip_none fun z => h (List.mem_cons_of_mem _ z)
/-- the dict of the things found, each with its row -/
def DictB (K : PySem.W.Frag) (H : Hp) (d : Addr) (L : BL (List Key)) : Prop := ∃ vs, H d = some (.dT ((L.map (·.1)).zip vs)) ∧ DpAll K H vs (L.map fun x => dInts x.2)
theorem DictB.same {K : PySem.W.Frag} {H H' : Hp} {d : Addr} {L : BL (List Key)} (h : DictB K H d L) (s : Same H H') : DictB K H' d L := let ⟨vs, e, dv⟩ := h; ⟨vs, s _ _ e, dv.sm s⟩
theorem DictB.get {K : PySem.W.Frag} {H : Hp} {d a : Addr} {L : BL (List Key)} {i : Nat} {x : List Key × List Int} (h : DictB K H d L) (nd : (L.map (·.1)).Nodup) (hx : L[i]? = some x) (ea : H a = some (.tup (x.1.map kV))) : ∃ v, DGet H d (.ref a) (some v) ∧ Dp K H v (dInts x.2) := by
  obtain ⟨vs, e, dv⟩ := h
  obtain ⟨v, hv, dx⟩ := dv.get i (dInts x.2) (by rw [List.getElem?_map, hx]; rfl)
  refine ⟨v, ?_, dx⟩
  have := DGet.t (k := x.1) e ea
  rwa [val_zip nd (by rw [List.getElem?_map, hx]; rfl) hv] at this
theorem DictB.none {K : PySem.W.Frag} {H : Hp} {d a : Addr} {L : BL (List Key)} {k : List Key} (h : DictB K H d L) (hk : k ∉ L.map (·.1)) (ea : H a = some (.tup (k.map kV))) : DGet H d (.ref a) none := by
  obtain ⟨vs, e, dv⟩ := h
  have := DGet.t (k := k) e ea
  rwa [val_zip_none hk] at this
theorem DictB.some {K : PySem.W.Frag} {H : Hp} {d a : Addr} {L : BL (List Key)} {k : List Key} (h : DictB K H d L) (nd : (L.map (·.1)).Nodup) (hk : k ∈ L.map (·.1)) (ea : H a = some (.tup (k.map kV))) : ∃ v, DGet H d (.ref a) (some v) := by
  obtain ⟨x, hx, rfl⟩ := List.mem_map.mp hk
  obtain ⟨i, hi⟩ := List.getElem?_of_mem hx
  obtain ⟨v, g, _⟩ := h.get nd hi ea
  exact ⟨v, g⟩
end Pr
namespace Pr
open PySem PySem.Spec PyProof.Rows L2
theorem shp_of {d : PyData} (h : d.canLay0 = true) (hd : d.depth ≤ 64) : SeqAt.shaped d = true := by
  unfold SeqAt.shaped
  rw [h, decide_eq_true hd]; rfl
end Pr
namespace Pr
open PySem PySem.Spec PyProof.Rows L2
/-- a new tuple -/
def GvU (K : PySem.W.Frag) (t : TE) (σ : L2.St) (H : Hp) (ds : List PyData) : Prop := ∀ H1, Same H H1 → ∀ Q : VK, (∀ a vs H', Same H1 H' → H1 a = none → H' a = some (.tup vs) → DpAll K H' vs ds → Q (.ref a) H') → t σ H1 Q
section
variable {K : PySem.W.Frag} {σ : L2.St} {H : Hp} {t ta tb : TE} {d e : PyData} {ds es : List PyData}
theorem GvU.at (h : GvU K t σ H ds) {Q : VK} (q : ∀ a vs H', Same H H' → H a = none → H' a = some (.tup vs) → DpAll K H' vs ds → Q (.ref a) H') : t σ H Q := h H (Same.refl _) Q q
theorem GvU.gv (h : GvU K t σ H ds) : Gv K t σ H (.tuple ds) := fun H1 s Q q => h H1 s Q fun a vs H' s' _ e dv => q _ H' s' (.tup (.inl (.inl e)) dv)
theorem gu_tupL (h : Gv K t σ H (.list ds)) : GvU K (tCB (rTupG K) (tCons t tNil)) σ H ds := fun H1 s Q q => h H1 s _ fun v H2 s2 d2 => by
  obtain ⟨a, xs, rfl, hq, hr⟩ := d2.lstI
  exact ⟨a, xs, rfl, .inl ⟨hq, fun l nl => q _ _ _ (s2.trans (same_new nl)) (s2.free nl) upd_same (hr.sm (same_new nl))⟩⟩
theorem gu_tupRg {n : Nat} (h : Gv K t σ H (.int n)) (hn : n ≤ 100000) : GvU K (tTupRg (tRg1 t)) σ H ((intL n).map PyData.int) := fun H1 s Q q => h H1 s _ fun v H2 s2 d2 => by
  cases d2
  refine ⟨_, rfl, ⟨by omega, by omega, by omega, by omega, ?_⟩, fun p np => q _ _ _ (s2.trans (same_new np)) (s2.free np) upd_same ?_⟩
  · have := small5 hn; omega
  · rw [rgV_intL]; exact dpAll_ints _
end
section
variable {X : Cx}
theorem rep_flatA {v : V} : ∀ k : Nat, (List.replicate k [v]).flatten = List.replicate k v
  | 0 => rfl
  | k + 1 => by rw [List.replicate_succ, List.flatten_cons, rep_flatA k]; rfl
end
end Pr
namespace Pr
open PySem PySem.Spec PyProof.Rows L2
end Pr
namespace L2
end L2
namespace Pr
open PySem PySem.Spec PyProof.Rows L2
def rReprN (K : PySem.W.Frag) : List V → Hp → VK → Prop := fun xs H Q => rRepr K xs H Q ∨ (xs = [.non] ∧ Q (.str (PyData.shown .none)) H)
theorem shq_none : Shq 60 sizeLine .none := ⟨by simp only [PyData.showable], by simp [PyData.depth], by simp only [PyData.shown]; decide⟩
theorem cr_reprN {X : Cx} {k : Nat} (gd : X.A.guards = some []) (hr : Room k X.A) : CallR X (.builtin "repr") (rReprN X.K) := by
  intro pins s σ H xs us Q I rv h
  rcases h with h | ⟨rfl, q⟩
  · exact call_repr gd hr pins s σ H xs us Q I rv h
  · exact call_reprQ gd hr pins s σ H _ us Q I rv ⟨fun _ => False, .non, .none, rfl, .non, shq_none, q⟩
section
variable {K : PySem.W.Frag} {σ : L2.St} {H : Hp} {t ta tb : TE} {d e : PyData}
/-- what repr takes -/
def RepOk (d : PyData) : Prop := d = .none ∨ (Shw 60 sizeLine d ∧ ∃ ds, d = .tuple ds ∨ d = .list ds)
theorem gv_reprN (h : Gv K t σ H d) (hd : RepOk d) : Gv K (tCB (rReprN K) (tCons t tNil)) σ H (.str d.shown) := by
  rcases hd with rfl | ⟨hs, hr⟩
  · exact gv_cb (gva_cons h gva_nil) fun vs H1 Q s hd' q => by
      obtain ⟨v, rfl, hv⟩ := dpAll1 hd'
      cases hv
      exact .inr ⟨rfl, q _ _ (Same.refl _) (.str _)⟩
  · exact gv_cb (gva_cons h gva_nil) fun vs H1 Q s hd' q => by
      obtain ⟨v, rfl, hv⟩ := dpAll1 hd'
      obtain ⟨a, rfl⟩ : ∃ a, v = V.ref a := by
        obtain ⟨ds, rfl | rfl⟩ := hr
        · obtain ⟨a, _, e, _⟩ := hv.tupI; exact ⟨a, e⟩
        · obtain ⟨a, _, e, _⟩ := hv.lstI; exact ⟨a, e⟩
      exact .inl ⟨a, d, rfl, hv, hs.sh, hs.nd, hs.dp, hs.ln, q _ _ (Same.refl _) (.str _)⟩
end
end Pr
namespace K57
open PySem PySem.Spec PyProof.Rows L2 Pr
def rMin2 : List V → Hp → VK → Prop := fun xs H Q => ∃ i j, xs = [.int i, .int j] ∧ Q (.int (if j < i then j else i)) H
theorem gs_seqJ {t u : TS} {D : Ends} {σ : L2.St} {H : Hp} (J : L2.St → Hp → Prop) (hk : ∀ σ' H', J σ' H' → u D σ' H') (h : (∀ σ' H', J σ' H' → u D σ' H') → t { D with nx := u D } σ H) : tSeq t u D σ H := h hk
theorem Deck.upd' {H : Hp} {a c b : Addr} {m : Nat} {o : HO} (d : Deck H a c m) (n : b ≠ a ∧ b ≠ c) : Deck (upd H b o) a c m := by
  obtain ⟨cs, k, h1, h2, h3⟩ := d
  exact ⟨cs, k, by rw [upd_ne (Ne.symm n.1)]; exact h1, by rw [upd_ne (Ne.symm n.2)]; exact h2, h3⟩
def nPanel : List Str := ["_law_deck_here", "_law_most", "_law_n", "_law_way", "_law_share", "_law_found", "_law_button", "_law_own", "_law_one"]
theorem scPanel : FnScope nPanel ["_law_deck_here", "_law_most"] (defScope sPanel) := ⟨rfl, rfl, rfl, by decide +kernel, rfl, by decide +kernel, by decide +kernel⟩
section
variable {P : Program} {w : World} {K : PySem.W.Frag} {mg : Str → Option Value} {base : Heap}
def spPanel (K : PySem.W.Frag) : Sp := fun vs H Q _ => ∃ (a c : Addr) (m : Nat) (most : Int), vs = [.ref a, .int most] ∧ Deck H a c (m + 300) ∧ 1 ≤ most ∧ most ≤ 10 ∧
  ∀ H' v pan, But a c H H' → Deck H' a c m → Dp K H' v (dPan pan) → Good pan → (pan.length : Int) ≤ most → Q v H'
theorem ok_Panel {fDraw : Addr} {fdDraw : FuncData} {f : Addr} {fd : FuncData} {k : Nat} (F : Fun K "_law_panel" "_law_panel" sPanel f fd)
    (FDraw : Fun K "_law_draw" "_law_draw" sDraw fDraw fdDraw) (bDraw : Binds K fdDraw ["_law_deck_here", "_law_many"] []) (gDraw : mg "_law_draw" = some (.ref fDraw))
    (m_len : mg "len" = none) (m_list : mg "list" = none) (m_min : mg "min" = none) (m_range : mg "range" = none) (m_tuple : mg "tuple" = none) : FnOk P w K mg base CX0 (k + 2) f fd ["_law_deck_here", "_law_most"] (spPanel K) := by
  have GDraw : FnOk P w K mg base CX0 (k + 1) fDraw fdDraw ["_law_deck_here", "_law_many"] spDraw := ok_draw FDraw m_len
  refine F.ok scPanel (fun vs H Q E h => ?_) (fun cdv A outer s H vs Q E hr h => ?_)
  · obtain ⟨a, c, m, most, rfl, _⟩ := h
    rfl
  · obtain ⟨a, c, m, most, rfl, hD, m1, m2, q⟩ := h
    refine ⟨_, pss_cons (ps_set (i := 2) scPanel.nd rfl (.inl rfl) (pe_ix (show IxR _ (rIxL K) from ix_list) (pe_lst (pa_cons (pe_op op_add pe_int (pe_call GDraw (hr.mono (by omega)) (by rfl) gDraw FDraw.kp bDraw .nil pass0 (pa_cons (pv 0) (pa_cons (pv 1) pa_nil)))) (pa_cons (pv 1) (pa_cons (pe_op op_add pe_int (pe_call GDraw (hr.mono (by omega)) (by rfl) gDraw FDraw.kp bDraw .nil pass0 (pa_cons (pv 0) (pa_cons (pe_callB (show CallR _ _ rMin2 from call_min2 rfl) (by rfl) m_min (by decide +kernel) (pa_cons pe_int (pa_cons (pv 1) pa_nil))) pa_nil)))) pa_nil)))) (pe_call GDraw (hr.mono (by omega)) (by rfl) gDraw FDraw.kp bDraw .nil pass0 (pa_cons (pv 0) (pa_cons pe_int pa_nil))) (fun _ _ => rfl)))
      (pss_cons (ps_asg (pe_tup (pa_cons (pe_call GDraw (hr.mono (by omega)) (by rfl) gDraw FDraw.kp bDraw .nil pass0 (pa_cons (pv 0) (pa_cons pe_int pa_nil))) (pa_cons (pe_op op_add pe_int (pe_call GDraw (hr.mono (by omega)) (by rfl) gDraw FDraw.kp bDraw .nil pass0 (pa_cons (pv 0) (pa_cons pe_int pa_nil)))) (pa_cons (pe_lst pa_nil) pa_nil)))) (pg_tup rfl (pgs_cons (pg_name (i := 3) scPanel.nd rfl (Or.inl rfl)) (pgs_cons (pg_name (i := 4) scPanel.nd rfl (Or.inr rfl)) (pgs_cons (pg_name (i := 5) scPanel.nd rfl (Or.inl rfl)) pgs_nil)))))
      (pss_cons (ps_for PassesOwn.never rfl (pi_range1 (by rfl) m_range (pa_cons (pv 2) pa_nil)) (pg_name (i := 6) scPanel.nd rfl (Or.inr rfl)) (pss_cons (ps_setLc (i := 7) (own := [("_law_one", 8)]) (g := gName 8) rfl scPanel.nd rfl rfl (sw_true rfl rfl rfl (by decide +kernel)) (pi_range1 (by rfl) m_range (pa_cons (pv 2) pa_nil)) (blkOk_by (own := [("_law_one", 8)]) (N := nPanel) (sc := defScope sPanel) (by decide +kernel)) (fun _ _ _ _ _ => pg_name (i := 8) scPanel.nd rfl (Or.inl rfl)) (fun _ _ _ _ _ => pts_one (pt_cmpR op_lt (pe_call GDraw (hr.mono (by omega)) (by rfl) gDraw FDraw.kp bDraw .nil pass0 (pa_cons (pv 0) (pa_cons pe_int pa_nil))) (pv 4) (nomark _))) (fun _ _ _ _ _ => pv 8))
      (pss_cons (ps_if (pt_cmpR op_eq (pv 3) pe_int (nomark _)) (pss_one (ps_set (i := 7) scPanel.nd rfl (.inl rfl) (pe_lst (pa_cons (pe_op op_mod (pe_op op_add (pv 6) pe_int) (pv 2)) pa_nil)))) pss_nil)
      (pss_cons (ps_if (PW.pt (pw_and (pt_cmpR op_eq (pv 3) pe_int (nomark _)) (pw_and1 (pt_cmpR op_eq (pe_call GDraw (hr.mono (by omega)) (by rfl) gDraw FDraw.kp bDraw .nil pass0 (pa_cons (pv 0) (pa_cons pe_int pa_nil))) pe_int (nomark _))))) (pss_one (ps_set (i := 7) scPanel.nd rfl (.inl rfl) (pe_listRg rfl (by rfl) m_list (prg_1 (by rfl) m_range (pv 2))))) pss_nil)
      (pss_cons (ps_if (pt_cmpR op_eq (pv 3) pe_int (nomark _)) (pss_one (ps_setLc (i := 7) (own := [("_law_one", 8)]) (g := gName 8) rfl scPanel.nd rfl rfl (sw_true rfl rfl rfl (by decide +kernel)) (show PI _ _ _ (iList K _) from pi_list (pv 7)) (blkOk_by (own := [("_law_one", 8)]) (N := nPanel) (sc := defScope sPanel) (by decide +kernel)) (fun _ _ _ _ _ => pg_name (i := 8) scPanel.nd rfl (Or.inl rfl)) (fun _ _ _ _ _ => pts_one (pt_cmpR op_gt (pv 8) (pv 6) (nomark _))) (fun _ _ _ _ _ => pv 8))) pss_nil)
      (pss_one (ps_expr (show PE _ _ (tBM K "list" rAppend _ _) from pe_bm PySem.F.plainAttrs_list PySem.F.slot_list_append PySem.F.type_list_append mt_append (pv 5) (pa_cons (pe_callTy (show CallR _ _ (rTupG K) from cr_tupG) (by rfl) m_tuple (by decide +kernel) (pa_cons (pe_lc (own := [("_law_one", 8)]) (g := gName 8) rfl scPanel.nd (show PI _ _ _ (iList K _) from pi_list (pv 7)) (blkOk_by (own := [("_law_one", 8)]) (N := nPanel) (sc := defScope sPanel) (by decide +kernel)) (fun _ _ _ _ _ => pg_name (i := 8) scPanel.nd rfl (Or.inl rfl)) (fun _ _ _ _ _ => pts_one (pt_cmpR op_ne (pv 8) (pv 6) (nomark _))) (fun _ _ _ _ _ => pv 8)) pa_nil)) pa_nil)))))))))
      (pss_one (ps_ret (pe_callTy (show CallR _ _ (rTupG K) from cr_tupG) (by rfl) m_tuple (by decide +kernel) (pa_cons (pv 5) pa_nil)))))), ?_⟩
    refine ⟨.ref a, rfl, .int most, rfl, a, c, m + 299, most, rfl, hD.less (by omega), by omega, by omega, fun H1 r1 b1 D1 r1a r1b => ?_⟩
    refine ⟨1, r1, rfl, rfl, .int most, rfl, .ref a, rfl, .int most, rfl, 4, most, rfl, a, c, m + 298, _, rfl, D1.less (by omega), by split <;> omega, by split <;> omega, fun H2 r2 b2 D2 r2a r2b => ?_⟩
    refine ⟨1, r2, rfl, rfl, by show 3 ≤ sizeLine; decide, fun L nL => ?_⟩
    have sL : Same H2 (upd H2 L (.lst [.int (1 + r1), .int most, .int (1 + r2)])) := same_new nL
    refine ⟨.ref a, rfl, a, c, m + 297, 3, rfl, (D2.same sL).less (by omega), by decide, by decide, fun H3 r3 b3 D3 r3a r3b => ?_⟩
    have hL : H3 L = some (.lst [.int (1 + r1), .int most, .int (1 + r2)]) := b3 _ _ (D2.fresh nL).1 (D2.fresh nL).2 upd_same
    have r2c : r2 < most := by revert r2b; split <;> intro r2b <;> omega
    obtain ⟨nn, hnn, nn1, nn2⟩ : ∃ nn : Nat, atI [V.int (1 + r1), .int most, .int (1 + r2)] r3 = some (.int (nn : Int)) ∧ 1 ≤ nn ∧ (nn : Int) ≤ most := by
      obtain rfl | rfl | rfl : r3 = 0 ∨ r3 = 1 ∨ r3 = 2 := by omega
      · exact ⟨(1 + r1).toNat, by rw [Int.toNat_of_nonneg (by omega)]; rfl, by omega, by omega⟩
      · exact ⟨most.toNat, by rw [Int.toNat_of_nonneg (by omega)]; rfl, by omega, by omega⟩
      · exact ⟨(1 + r2).toNat, by rw [Int.toNat_of_nonneg (by omega)]; rfl, by omega, by omega⟩
    have nn3 : nn ≤ 10 := by omega
    refine ⟨L, _, _, .int (nn : Int), rfl, rfl, .inl (.inl hL), hnn, ?_⟩
    refine ⟨.ref a, rfl, a, c, m + 296, 5, rfl, D3.less (by omega), by decide, by decide, fun H4 r4 b4 D4 r4a r4b => ?_⟩
    refine ⟨.ref a, rfl, a, c, m + 295, 4, rfl, D4.less (by omega), by decide, by decide, fun H5 r5 b5 D5 r5a r5b => ⟨1, r5, rfl, rfl, ?_⟩⟩
    refine ⟨Nat.zero_le _, fun F nF => ⟨by show 3 ≤ sizeLine; decide, fun T nT => ⟨T, _, rfl, .inl (.inl upd_same), rfl, _, _, rfl, _, _, rfl, _, _, rfl, rfl, ?_⟩⟩⟩
    dsimp only
    have b05 : But a c H H5 := (((b1.trans b2).trans (But.of sL)).trans b3).trans (b4.trans b5)
    have hnF : H F = none := by
      cases e : H F with
      | none => rfl
      | some o => have := b05 F o (D5.fresh nF).1 (D5.fresh nF).2 e; rw [nF] at this; cases this
    have FD' := D5.fresh nF
    refine gen_heap (fun H6 => But a c H H6 ∧ Deck H6 a c (m + 200) ∧ H6 F = some (.lst [])) ⟨(b05.trans (But.of (same_new nF))).trans (But.of (same_new nT)), ((D5.same (same_new nF)).same (same_new nT)).less (by omega), same_new nT _ _ upd_same⟩ fun H6 ⟨b6, D6, eF6⟩ => ?_
    refine ⟨.int (nn : Int), rfl, (nn : Int), rfl, by omega, by omega, ?_⟩
    refine for_range (n := nn) (fun i σ H7 => But a c H H7 ∧ Deck H7 a c (m + 12 * (10 - i)) ∧ i ≤ nn ∧
        (∃ (vs : List V) (pan : List (List Int)), H7 F = some (.lst vs) ∧ DpAll K H7 vs (pan.map dInts) ∧ pan.length = i ∧ ∀ (j : Nat) (l : List Int), pan[j]? = some l → Asc nn l ∧ (j : Int) ∉ l) ∧
        ∃ x6 x7 x8, σ = [some (.ref a), some (.int most), some (.int (nn : Int)), some (.int r4), some (.int (1 + r5)), some (.ref F), x6, x7, x8]) ⟨b6, D6.less (by omega), Nat.zero_le _, ⟨[], [], eF6, .nil, rfl, fun j l h => by simp at h⟩, none, none, none, rfl⟩ (fun i σ H7 hi hP => ?_) (fun σ H7 hP => ?_)
    · obtain ⟨b7, D7, hin, ⟨vs, pan, eF7, dvs, hpl, hpan⟩, x6, x7, x8, rfl⟩ := hP
      rw [Int.zero_add]
      have vl : vs.length ≤ 10 := by rw [dvs.length, List.length_map, hpl]; omega
      let J : L2.St → Hp → Prop := fun σ H' => But a c H7 H' ∧ Deck H' a c (m + 12 * (10 - i) - 12) ∧ ∃ (O : Addr) (acc : List Int) (x8 : Option V), H' O = some (.lst (acc.map V.int)) ∧ (O ≠ a ∧ O ≠ c) ∧ Asc nn acc ∧ σ = [some (.ref a), some (.int most), some (.int (nn : Int)), some (.int r4), some (.int (1 + r5)), some (.ref F), some (.int (i : Int)), some (.ref O), x8]
      let J0 : L2.St → Hp → Prop := fun σ H' => But a c H7 H' ∧ Deck H' a c (m + 12 * (10 - i) - 11) ∧ ∃ (O : Addr) (acc : List Int) (x8 : Option V), H' O = some (.lst (acc.map V.int)) ∧ (O ≠ a ∧ O ≠ c) ∧ Asc nn acc ∧ σ = [some (.ref a), some (.int most), some (.int (nn : Int)), some (.int r4), some (.int (1 + r5)), some (.ref F), some (.int (i : Int)), some (.ref O), x8]
      refine gs_seqJ (J := J0) (fun σ8 H8 hJ => ?_) (fun hk => ?_)
      · refine gs_seqJ (J := J0) (fun σ9 H9 hJ => ?_) (fun hk => ?_)
        · refine gs_seqJ (J := J) (fun σ9 H9 hJ => ?_) (fun hk => ?_)
          · refine gs_seqJ (J := J) (fun σ9 H9 hJ => ?_) (fun hk => ?_)
            · -- append
              obtain ⟨b9, D9, O, acc, x8, eO, nO, hacc, rfl⟩ := hJ
              have al := hacc.len
              have eF9 := b9 _ _ FD'.1 FD'.2 eF7
              refine ⟨.ref F, rfl, .inl ⟨rfl, _, .inl (.inl eF9)⟩, (gu_tupL (K := K) (gv_lc (δ := PyData.int) (as := acc) (p := fun z => !decide (z = (i : Int))) (f := PyData.int) (gvi_list (gv_var rfl (.lst (.inl (.inl eO)) (dpAll_ints acc)))) (fun z vz Hz hz sz dz => ⟨gvt_test (gv_neI (gv_var rfl dz) (gv_var rfl (.int (i : Int)))), fun _ => gv_var rfl dz⟩) (fun _ _ => rfl) (by omega))).at fun p ws HA sA np ep dp => ?_⟩
              have eFA := sA _ _ eF9
              refine ⟨F, _, .ref p, rfl, rfl, eFA, Nat.lt_of_le_of_lt vl (by decide), ?_⟩
              have kF := Kp.upd (o := .lst (vs ++ [.ref p])) eFA
              have k7A : Kp H7 HA := (Kp.but D7 b9).trans (Kp.of sA)
              have hne : ∀ b o, b ≠ a → b ≠ c → H b = some o → HA b = some o := fun b o h1 h2 e => sA _ _ (b9 b o h1 h2 (b7 b o h1 h2 e))
              refine ⟨fun b o h1 h2 e => by rw [upd_ne (ne_of_none e hnF)]; exact hne b o h1 h2 e, (Deck.upd' (D9.same sA) FD').less (by omega), hi, ⟨vs ++ [.ref p], pan ++ [acc.filter fun z => !decide (z = (i : Int))], upd_same, ?_, by rw [List.length_append, hpl]; rfl, fun j l hj => ?_⟩, _, _, _, rfl⟩
              · rw [List.map_append]
                refine DpAll.append (dpAll_kp (k7A.trans kF) _ _ (lfAll_of fun d hd => by obtain ⟨l, _, rfl⟩ := List.mem_map.mp hd; exact lf_ints l) dvs) (.cons ?_ .nil)
                have pF : p ≠ F := fun z => by rw [z, eF9] at np; cases np
                rw [dpAll_intsV dp] at ep
                exact dp_ints (.inl (.inl (by rw [upd_ne pF]; exact ep)))
              · by_cases hji : j < i
                · rw [List.getElem?_append_left (by omega)] at hj
                  exact hpan j l hj
                · rw [List.getElem?_append_right (by omega), hpl] at hj
                  obtain rfl : j = i := by
                    have := (List.getElem?_eq_some_iff.mp hj).1
                    rw [List.length_singleton] at this; omega
                  rw [Nat.sub_self] at hj
                  obtain rfl : (acc.filter fun z => !decide (z = (j : Int))) = l := by simpa using hj
                  exact ⟨⟨hacc.up.filter _, fun x hx => hacc.rng x (List.mem_filter.mp hx).1⟩, fun h => by simpa using (List.mem_filter.mp h).2⟩
            · -- way == 2
              obtain ⟨b9, D9, O, acc, x8, eO, nO, hacc, rfl⟩ := hJ
              have al := hacc.len
              refine gs_if (gvt_test (K := K) (gv_eqI (gv_var rfl (.int r4)) gv_int)) (fun e H' s' => ?_) (fun e H' s' => ?_)
              · refine (gn_lc (K := K) (δ := PyData.int) (as := acc) (p := fun z => decide ((i : Int) < z)) (f := PyData.int) (gvi_list (gv_var rfl (.lst (.inl (.inl (s' _ _ eO))) (dpAll_ints acc)))) (fun z vz Hz hz sz dz => ⟨gvt_test (gv_I0 (gv_var rfl dz) (gv_var rfl (.int (i : Int))) fun _ => .bl _), fun _ => gv_var rfl dz⟩) (fun _ _ => rfl) (by omega)).at fun O2 ws HA sA nA eA dA => ?_
                rw [dpAll_intsV dA] at eA
                exact hk _ _ ⟨b9.trans (But.of (s'.trans sA)), (D9.same (s'.trans sA)), O2, _, _, eA, D9.fresh (s'.free nA), ⟨hacc.up.filter _, fun x hx => hacc.rng x (List.mem_filter.mp hx).1⟩, rfl⟩
              · exact hk _ _ ⟨b9.trans (But.of s'), D9.same s', O, acc, _, s' _ _ eO, nO, hacc, rfl⟩
          · -- way == 1 and a draw
            obtain ⟨b9, D9, O, acc, x8, eO, nO, hacc, rfl⟩ := hJ
            refine ⟨.int r4, rfl, rfl, _, rfl, ite2 (fun e => ?_) (fun e => ?_)⟩
            · refine ⟨.ref a, rfl, a, c, m + 12 * (10 - i) - 12, 2, rfl, D9.less (by omega), by decide, by decide, fun HA rA bA DA rAa rAb => ⟨rfl, _, rfl, ite2 (fun e2 => ?_) (fun e2 => ?_)⟩⟩
              · refine ⟨.int (nn : Int), rfl, (nn : Int), rfl, ⟨by omega, by omega, by omega, by omega, by have := small5 (n := nn) (by omega); omega⟩, fun O2 nO2 => ?_⟩
                have eR : rgV 0 (nn : Int) = (intL nn).map V.int := by
                  unfold rgV intL
                  rw [List.map_map, Int.sub_zero, Int.toNat_natCast]
                  exact List.map_congr_left fun z _ => by simp
                exact hk _ _ ⟨(b9.trans bA).trans (But.of (same_new nO2)), DA.same (same_new nO2), O2, intL nn, _, by rw [upd_same, eR], DA.fresh nO2, by have := Asc.filter (n := nn) (fun _ => true); rwa [List.filter_eq_self.mpr (fun _ _ => rfl)] at this, rfl⟩
              · exact hk _ _ ⟨b9.trans bA, DA, O, acc, _, bA _ _ nO.1 nO.2 eO, nO, hacc, rfl⟩
            · exact hk _ _ ⟨b9, D9.less (by omega), O, acc, _, eO, nO, hacc, rfl⟩
        · -- way == 0
          obtain ⟨b9, D9, O, acc, x8, eO, nO, hacc, rfl⟩ := hJ
          refine gs_if (gvt_test (K := K) (gv_eqI (gv_var rfl (.int r4)) gv_int)) (fun e H' s' => ?_) (fun e H' s' => ?_)
          · refine ⟨.int (i : Int), rfl, _, 1, rfl, rfl, .int (nn : Int), rfl, _, _, rfl, rfl, (by show (0 : Int) < (nn : Int); omega), by show 1 ≤ sizeLine; decide, fun O2 nO2 => ?_⟩
            exact hk _ _ ⟨b9.trans (But.of (s'.trans (same_new nO2))), D9.same (s'.trans (same_new nO2)), O2, [((i : Int) + 1) % (nn : Int)], _, upd_same, D9.fresh (s'.free nO2), ⟨List.pairwise_singleton _ _, fun x hx => by rw [List.mem_singleton.mp hx]; exact ⟨Int.emod_nonneg _ (by omega), Int.emod_lt_of_pos _ (by omega)⟩⟩, rfl⟩
          · exact hk _ _ ⟨b9.trans (But.of s'), D9.same s', O, acc, _, s' _ _ eO, nO, hacc, rfl⟩
      · -- own
        refine ⟨.int (nn : Int), rfl, (nn : Int), rfl, by omega, by omega, fun O nO => ?_⟩
        have oO := D7.fresh nO
        refine lc_range (n := nn) (fun k H8 => But a c H7 H8 ∧ Deck H8 a c (m + 12 * (10 - i) - k) ∧ ∃ acc : List Int, H8 O = some (.lst (acc.map V.int)) ∧ Asc k acc)
          ⟨But.of (same_new nO), (D7.same (same_new nO)).less (by omega), [], upd_same, Asc.nil _⟩ (fun k H8 hk' hP => ?_) (fun H8 hP => ?_)
        · obtain ⟨b8, D8, acc, eO, hacc⟩ := hP
          have al := hacc.len
          rw [Int.zero_add]
          refine ⟨rfl, .ref a, rfl, a, c, m + 12 * (10 - i) - (k + 1), 5, rfl, D8.less (by omega), by decide, by decide, fun H9 r9 b9 D9 r9a r9b => ⟨.int (1 + r5), rfl, _, _, rfl, rfl, _, rfl, ite2 (fun e => ?_) (fun e => ?_)⟩⟩
          · refine ⟨.int (k : Int), rfl, _, b9 _ _ oO.1 oO.2 eO, by rw [List.length_map]; exact small1000 (by omega), fun b o h1 h2 e => ?_, Deck.upd' D9 oO, acc ++ [(k : Int)], by rw [upd_same, List.map_append]; rfl, ?_⟩
            · rw [upd_ne (ne_of_none e nO)]
              exact b9 _ _ h1 h2 (b8 _ _ h1 h2 e)
            · refine ⟨List.pairwise_append.mpr ⟨hacc.up, List.pairwise_singleton _ _, fun x hx y hy => ?_⟩, fun x hx => ?_⟩
              · rw [List.mem_singleton.mp hy]; exact (hacc.rng x hx).2
              · rcases List.mem_append.mp hx with h | h
                · have := hacc.rng x h; omega
                · rw [List.mem_singleton.mp h]; omega
          · exact ⟨b8.trans b9, D9, acc, b9 _ _ oO.1 oO.2 eO, hacc.up, fun x hx => by have := hacc.rng x hx; omega⟩
        · obtain ⟨b8, D8, acc, eO, hacc⟩ := hP
          exact hk _ _ ⟨b8, D8.less (by omega), O, acc, _, eO, oO, ⟨hacc.up, fun x hx => by have := hacc.rng x hx; omega⟩, rfl⟩
    · obtain ⟨b7, D7, hin, ⟨vs, pan, eF7, dvs, hpl, hpan⟩, x6, x7, x8, rfl⟩ := hP
      refine gs_ret (K := K) (gv_tupL (gv_var rfl (.lst (.inl (.inl eF7)) dvs))) fun v H8 s8 dv => q H8 v pan (b7.trans (But.of s8)) ((D7.same s8).less (by omega)) dv ?_ (by omega)
      refine ⟨by omega, by omega, fun l hl => ?_, fun l hl => ?_, fun j l hl => (hpan j l hl).2⟩
      · obtain ⟨j, hj⟩ := List.getElem?_of_mem hl
        exact (hpan j l hj).1.up
      · obtain ⟨j, hj⟩ := List.getElem?_of_mem hl
        intro x hx
        have := (hpan j l hj).1.rng x hx
        omega
end
end K57
namespace K57
open PySem PySem.Spec PyProof.Rows L2 Pr
def nAny : List Str := ["panel", "button", "others", "other"]
theorem scAny : FnScope nAny ["panel", "button", "others"] (defScope sAny) := ⟨rfl, rfl, rfl, by decide +kernel, rfl, by decide +kernel, by decide +kernel⟩
def nHeld : List Str := ["panel", "state", "held", "left", "button"]
theorem scHeld : FnScope nHeld ["panel", "state"] (defScope sHeld) := ⟨rfl, rfl, rfl, by decide +kernel, rfl, by decide +kernel, by decide +kernel⟩
section
variable {P : Program} {w : World} {K : PySem.W.Frag} {mg : Str → Option Value} {base : Heap}
def spAny (K : PySem.W.Frag) : Sp := fun vs H Q _ => ∃ (p o : Addr) (pan : List (List Int)) (b : Int) (os : List Int), vs = [.ref p, .int b, .ref o] ∧ PanT K H p pan ∧ Good pan ∧ 0 ≤ b ∧ b < (pan.length : Int) ∧ SqT K H o (os.map V.int) ∧
  ∀ H', Same H H' → Q (.bl (relB pan os b)) H'
theorem ok_any {f : Addr} {fd : FuncData} {k : Nat} (F : Fun K "releases_any" "releases_any" sAny f fd) (my : mg "any" = none) : FnOk P w K mg base CX0 (k + 1) f fd ["panel", "button", "others"] (spAny K) := by
  refine F.ok scAny (fun vs H Q E h => ?_) (fun cdv A outer s H vs Q E hr h => ?_)
  · obtain ⟨p, o, pan, b, os, rfl, _⟩ := h
    rfl
  · obtain ⟨p, o, pan, b, os, rfl, hp, hg, b0, b1, ho, q⟩ := h
    refine ⟨_, pss_one (ps_ret (pe_callB (cr_any rfl) (by rfl) my (by decide +kernel) (pa_cons
      (pe_lc (own := [("other", 3)]) (g := gName 3) (tt := tYes) rfl scAny.nd (pi_tup (pe_ix ix_tup (pv 0) (pv 1) (fun _ _ => rfl)))
        (blkOk_by (own := [("other", 3)]) (N := nAny) (sc := defScope sAny) (by decide +kernel)) (fun _ _ _ _ _ => pg_name (i := 3) scAny.nd rfl (Or.inl rfl)) (fun _ _ _ _ _ => pts_nil)
        (fun _ _ _ _ _ => pe_cmpR (show OpR _ _ (rIn K false) from op_in_seq) (pv 3) (pv 2) (by rfl))) pa_nil))), ?_⟩
    obtain ⟨qs, q', hq, ha, hr', _⟩ := panT_at hp b0 b1
    have hll : (pan.getD b.toNat []).length ≤ 10 := by
      have hbn : b.toNat < pan.length := by omega
      have hm : pan.getD b.toNat [] ∈ pan := by
        rw [List.getD_eq_getElem?_getD, List.getElem?_eq_getElem hbn]
        exact List.getElem_mem hbn
      have few := hg.few
      refine pw_length (n := 10) (lo := 0) (hg.up _ hm) fun x hx => ?_
      have := hg.rng _ hm x hx
      omega
    unfold relB at q
    generalize pan.getD b.toNat [] = l at hr' hll q
    refine ⟨.ref p, rfl, .int b, rfl, p, _, _, .ref q', rfl, rfl, hq, ha, q', rfl, ⟨_, hr'⟩, fun D nD => ?_⟩
    refine lc_tup (xs := l.map V.int) (fun i H3 => Same H H3 ∧ H3 D = some (.lst (((l.take i).map fun c => decide (c ∈ os)).map V.bl))) ⟨same_new nD, upd_same⟩ (fun i H3 _ hP => same_sqT hP.1 hr') (fun i x H3 hx hP => ?_) (fun H3 hP => ?_)
    · obtain ⟨s3, eD⟩ := hP
      obtain ⟨z, hz, rfl⟩ := int_get hx
      refine ⟨rfl, tyes (iteT ⟨.int z, rfl, .ref o, rfl, o, _, rfl, .inr (same_sqT s3 ho), rfl, flat_ints _, _, eD, ?_, ?_, ?_⟩)⟩
      · rw [List.length_map, List.length_map, List.length_take]; exact small1000 (by omega)
      · intro b' ob e
        rw [upd_ne (ne_of_none e nD)]
        exact s3 _ _ e
      · rw [upd_same, if_neg Bool.false_ne_true, inV_ints, List.take_add_one, hz, List.map_append, List.map_append]; rfl
    · obtain ⟨s3, eD⟩ := hP
      rw [List.length_map, List.take_length] at eD
      refine ⟨D, _, rfl, .inl (.inl eD), ?_⟩
      rw [List.any_map]
      exact q _ s3
def spHeld (K : PySem.W.Frag) : Sp := fun vs H Q _ => ∃ (p t : Addr) (pan : List (List Int)) (st : List Int), vs = [.ref p, .ref t] ∧ PanT K H p pan ∧ Good pan ∧ SqT K H t (st.map V.int) ∧ Asc pan.length st ∧
  ∀ (H' : Hp) (u : Addr) (hs : List Int), Same H H' → SqT K H' u (hs.map V.int) → IsHeld pan st hs → Q (.ref u) H'
theorem filt_take {f : Int → Bool} {l : List Int} {i : Nat} {z : Int} (hz : l[i]? = some z) : (l.take (i + 1)).filter f = (l.take i).filter f ++ (if f z = true then [z] else []) := by
  rw [List.take_add_one, hz, List.filter_append]
  congr 1
  by_cases e : f z = true
  · rw [if_pos e]; exact List.filter_cons_of_pos e
  · rw [if_neg e]; exact List.filter_cons_of_neg e
theorem ok_held {f fA : Addr} {fd fdA : FuncData} {k : Nat} (F : Fun K "held_buttons" "held_buttons" sHeld f fd) (FA : Fun K "releases_any" "releases_any" sAny fA fdA) (bA : Binds K fdA ["panel", "button", "others"] []) (gA : mg "releases_any" = some (.ref fA))
    (ml : mg "len" = none) (mt : mg "tuple" = none) (my : mg "any" = none) : FnOk P w K mg base CX0 (k + 2) f fd ["panel", "state"] (spHeld K) := by
  have GA : FnOk P w K mg base CX0 (k + 1) fA fdA ["panel", "button", "others"] (spAny K) := ok_any FA my
  refine F.ok scHeld (fun vs H Q E h => ?_) (fun cdv A outer s H vs Q E hr h => ?_)
  · obtain ⟨p, t, pan, st, rfl, _⟩ := h
    rfl
  · obtain ⟨p, t, pan, st, rfl, hp, hg, ht, hst, q⟩ := h
    refine ⟨_, pss_cons (ps_set (i := 2) scHeld.nd rfl (.inr rfl) (pv 1))
      (pss_cons (ps_setLc (i := 3) (own := [("button", 4)]) (g := gName 4) rfl scHeld.nd rfl rfl (sw_true rfl rfl rfl (by decide +kernel)) (pi_tup (pv 2))
        (blkOk_by (own := [("button", 4)]) (N := nHeld) (sc := defScope sHeld) (by decide +kernel)) (fun _ _ _ _ _ => pg_name (i := 4) scHeld.nd rfl (Or.inl rfl))
        (fun _ _ _ _ _ => pts_one (pt_val (pe_call GA hr (by rfl) gA FA.kp bA .nil pass0 (pa_cons (pv 0) (pa_cons (pv 4) (pa_cons (pv 2) pa_nil)))))) (fun _ _ _ _ _ => pv 4))
      (pss_cons (ps_while PassesOwn.never (pt_cmpR op_lt (pe_callB call_len_seq (by rfl) ml PySem.boot_len (pa_cons (pv 3) pa_nil)) (pe_callB call_len_seq (by rfl) ml PySem.boot_len (pa_cons (pv 2) pa_nil)) (nomark _))
        (pss_cons (ps_set (i := 2) scHeld.nd rfl (.inr rfl) (pe_callTy call_tupF (by rfl) mt (by decide +kernel) (pa_cons (pv 3) pa_nil)))
        (pss_one (ps_setLc (i := 3) (own := [("button", 4)]) (g := gName 4) rfl scHeld.nd rfl rfl (sw_true rfl rfl rfl (by decide +kernel)) (pi_tup (pv 2))
          (blkOk_by (own := [("button", 4)]) (N := nHeld) (sc := defScope sHeld) (by decide +kernel)) (fun _ _ _ _ _ => pg_name (i := 4) scHeld.nd rfl (Or.inl rfl))
          (fun _ _ _ _ _ => pts_one (pt_val (pe_call GA hr (by rfl) gA FA.kp bA .nil pass0 (pa_cons (pv 0) (pa_cons (pv 4) (pa_cons (pv 2) pa_nil)))))) (fun _ _ _ _ _ => pv 4)))))
      (pss_one (ps_ret (pv 2))))), ?_⟩
    have few := hg.few
    refine ⟨.ref t, rfl, ?_⟩
    refine ⟨.ref t, rfl, t, rfl, ⟨_, ht⟩, fun D nD => ?_⟩
    have slen := hst.len
    refine lc_tup (xs := st.map V.int) (fun i H3 => Same H H3 ∧ H3 D = some (.lst (((st.take i).filter (relB pan st)).map V.int))) ⟨same_new nD, upd_same⟩ (fun i H3 _ hP => same_sqT hP.1 ht) (fun i x H3 hx hP => ?_) (fun H3 hP => ?_)
    · obtain ⟨s3, eD⟩ := hP
      obtain ⟨z, hz, rfl⟩ := int_get hx
      have hzr := hst.rng z (List.mem_of_getElem? hz)
      have step := filt_take (f := relB pan st) hz
      have fl := List.length_filter_le (relB pan st) (st.take i)
      rw [List.length_take] at fl
      refine ⟨rfl, .ref p, rfl, .int z, rfl, .ref t, rfl, p, t, pan, z, st, rfl, hp.same s3, hg, hzr.1, hzr.2, same_sqT s3 ht, fun H4 s4 => ⟨_, rfl, ite2 (fun e => ?_) (fun e => ?_)⟩⟩
      · refine ⟨.int z, rfl, _, s4 _ _ eD, by rw [List.length_map]; exact small1000 (by omega), fun b o e' => ?_, ?_⟩
        · rw [upd_ne (ne_of_none e' nD)]
          exact s4 _ _ (s3 _ _ e')
        · rw [upd_same, step, if_pos e, List.map_append]; rfl
      · refine ⟨s3.trans s4, ?_⟩
        rw [step, if_neg e, List.append_nil]; exact s4 _ _ eD
    · obtain ⟨s3, eD⟩ := hP
      rw [List.length_map, List.take_length] at eD
      refine ⟨fun mm σ H4 => ∃ (hs : List Int) (u L : Addr) (x4 : Option V), mm = hs.length ∧ Same H H4 ∧ SqT K H4 u (hs.map V.int) ∧ H4 L = some (.lst ((hs.filter (relB pan hs)).map V.int)) ∧ Hold pan st hs ∧ σ = [some (.ref p), some (.ref t), some (.ref u), some (.ref L), x4],
        ⟨_, st, t, D, _, rfl, s3, same_sqT s3 ht, eD, ⟨hst.up, fun x h => h, fun C _ h x hx => h x hx⟩, rfl⟩, ?_⟩
      rintro mm σ H4 ⟨hs, u, L, x4, rfl, s4, hu, eL, hh, rfl⟩
      have hsr : ∀ x ∈ hs, 0 ≤ x ∧ x < (pan.length : Int) := fun x hx => hst.rng x (hh.sub x hx)
      have hsl : hs.length ≤ 10 := pw_length (n := 10) (lo := 0) hh.up fun x hx => by have := hsr x hx; omega
      refine ⟨.ref L, rfl, L, _, rfl, .inl (.inl (.inl eL)), .ref u, rfl, u, _, rfl, .inr hu, _, _, rfl, rfl, _, rfl, ite2 (fun e => ?_) (fun e => ?_)⟩
      · have e' : (hs.filter (relB pan hs)).length < hs.length := by
          have := of_decide_eq_true e
          rw [List.length_map, List.length_map] at this; omega
        have hstep := hh.step
        generalize hs.filter (relB pan hs) = gs at e' eL hstep
        refine ⟨_, fun σ' H' h => h, .ref L, rfl, L, _, rfl, .inl (.inl eL), fun u' o' nu' ho' => ?_⟩
        have su : Same H4 (upd H4 u' (.frz o' (.tup (gs.map V.int)))) := same_new nu'
        have hu' : SqT K (upd H4 u' (.frz o' (.tup (gs.map V.int)))) u' (gs.map V.int) := .inl (.inr ⟨o', upd_same⟩)
        refine gen_name (fun H5 => Same H4 H5 ∧ SqT K H5 u' (gs.map V.int)) ⟨su, hu'⟩ fun H5 ⟨s5, hu5⟩ => ?_
        have s05 := s4.trans s5
        refine ⟨.ref u', rfl, u', rfl, ⟨_, hu5⟩, fun D2 nD2 => ?_⟩
        refine lc_tup (xs := gs.map V.int) (fun i H6 => Same H5 H6 ∧ H6 D2 = some (.lst (((gs.take i).filter (relB pan gs)).map V.int))) ⟨same_new nD2, upd_same⟩ (fun i H6 _ hP => same_sqT hP.1 hu5) (fun i x H6 hx hP => ?_) (fun H6 hP => ?_)
        · obtain ⟨s6, eD2⟩ := hP
          obtain ⟨z, hz, rfl⟩ := int_get hx
          have hzr := hst.rng z (hstep.sub z (List.mem_of_getElem? hz))
          have step := filt_take (f := relB pan gs) hz
          have fl := List.length_filter_le (relB pan gs) (gs.take i)
          rw [List.length_take] at fl
          refine ⟨rfl, .ref p, rfl, .int z, rfl, .ref u', rfl, p, u', pan, z, gs, rfl, hp.same (s05.trans s6), hg, hzr.1, hzr.2, same_sqT s6 hu5, fun H7 s7 => ⟨_, rfl, ite2 (fun e => ?_) (fun e => ?_)⟩⟩
          · refine ⟨.int z, rfl, _, s7 _ _ eD2, by rw [List.length_map]; exact small1000 (by omega), fun b o e' => ?_, ?_⟩
            · rw [upd_ne (ne_of_none e' nD2)]
              exact s7 _ _ (s6 _ _ e')
            · rw [upd_same, step, if_pos e, List.map_append]; rfl
          · refine ⟨s6.trans s7, ?_⟩
            rw [step, if_neg e, List.append_nil]; exact s7 _ _ eD2
        · obtain ⟨s6, eD2⟩ := hP
          rw [List.length_map, List.take_length] at eD2
          exact ⟨gs.length, e', gs, u', D2, _, rfl, s05.trans s6, same_sqT s6 hu5, eD2, hstep, rfl⟩
      · have e' : ¬ (hs.filter (relB pan hs)).length < hs.length := fun z => e (decide_eq_true (by rw [List.length_map, List.length_map]; omega))
        exact ⟨.ref u, rfl, q H4 u hs s4 hu (hh.done e')⟩
end
end K57
namespace Pr
open PySem PySem.Spec PyProof.Rows L2
/-- what b releases -/
abbrev relM (pan : List (List Int)) (b : Int) : List Int := pan.getD b.toNat []
/-- which buttons may be pressed on the way to the goal -/
def PrOk (pan : List (List Int)) (goal hs G : List Int) (b : Int) : Prop := (b ∈ goal ∧ b ∉ hs) ∨ (b ∈ G ∧ ∀ x ∈ relM pan b, x ∉ hs)
section
variable {pan : List (List Int)} {goal hs G : List Int}
/-- a button of the goal that is not held releases no held one -/
theorem free_of (hh : IsHeld pan goal hs) {b : Int} (hb : b ∈ goal) (hn : b ∉ hs) : ∀ x ∈ relM pan b, x ∉ hs := fun x hx hxs => by
  refine hn (hh.most (b :: hs) ?_ ?_ b List.mem_cons_self)
  · intro y hy
    rcases List.mem_cons.mp hy with rfl | hy
    · exact ⟨x, hx, List.mem_cons_of_mem _ hxs⟩
    · obtain ⟨z, h1, h2⟩ := hh.closed y hy
      exact ⟨z, h1, List.mem_cons_of_mem _ h2⟩
  · intro y hy
    rcases List.mem_cons.mp hy with rfl | hy
    · exact hb
    · exact hh.sub y hy
theorem PrOk.free (hh : IsHeld pan goal hs) {b : Int} (h : PrOk pan goal hs G b) : ∀ x ∈ relM pan b, x ∉ hs := by
  rcases h with ⟨h1, h2⟩ | ⟨_, h2⟩
  · exact free_of hh h1 h2
  · exact h2
end
end Pr
namespace Pr
open PySem PySem.Spec PyProof.Rows L2
end Pr
namespace Pr
open PySem PySem.Spec PyProof.Rows L2
end Pr
namespace Pr
open PySem PySem.Spec PyProof.Rows L2
/-- n items of which P holds -/
def AllP (P : PyData → Prop) (n : Nat) (ds : List PyData) : Prop := ds.length = n ∧ ∀ d ∈ ds, P d
/-- a tuple of at most n items of which P holds -/
def TupP (P : PyData → Prop) (n : Nat) (d : PyData) : Prop := ∃ ds, d = .tuple ds ∧ ds.length ≤ n ∧ ∀ x ∈ ds, P x
theorem AllP.nil {P : PyData → Prop} : AllP P 0 [] := ⟨rfl, fun _ h => by cases h⟩
theorem AllP.cons {P : PyData → Prop} {n : Nat} {d : PyData} {ds : List PyData} (h : P d) (r : AllP P n ds) : AllP P (n + 1) (d :: ds) :=
  ⟨by rw [List.length_cons, r.1], fun x hx => by
    rcases List.mem_cons.mp hx with rfl | hx
    · exact h
    · exact r.2 x hx⟩
theorem AllP.append {P : PyData → Prop} {n m : Nat} {ds es : List PyData} (h : AllP P n ds) (r : AllP P m es) : AllP P (n + m) (ds ++ es) :=
  ⟨by rw [List.length_append, h.1, r.1], fun x hx => (List.mem_append.mp hx).elim (h.2 x) (r.2 x)⟩
theorem AllP.mono {P P' : PyData → Prop} {n : Nat} {ds : List PyData} (h : AllP P n ds) (f : ∀ d, P d → P' d) : AllP P' n ds := ⟨h.1, fun d hd => f d (h.2 d hd)⟩
theorem TupP.mono {P P' : PyData → Prop} {n m : Nat} {d : PyData} (h : TupP P n d) (f : ∀ d, P d → P' d) (hm : n ≤ m) : TupP P' m d :=
  let ⟨ds, e, l, q⟩ := h; ⟨ds, e, Nat.le_trans l hm, fun x hx => f x (q x hx)⟩
end Pr
namespace Pr
open PySem PySem.Spec PyProof.Rows L2
def isB : PyData → Bool
  | .bool _ => true
  | _ => false
theorem isB_kit {K : PySem.W.Frag} (d : PyData) : PySem.W.kitOne K (.type (tyD d)) (.type "bool") = some (isB d) := by
  cases d with
  | none => exact kit_ty (show kitB "NoneType" "bool" = some false by decide +kernel)
  | bool _ => exact kit_ty (show kitB "bool" "bool" = some true by decide +kernel)
  | int _ => exact kit_ty (show kitB "int" "bool" = some false by decide +kernel)
  | str _ => exact kit_ty (show kitB "str" "bool" = some false by decide +kernel)
  | list _ => exact kit_ty (show kitB "list" "bool" = some false by decide +kernel)
  | tuple _ => exact kit_ty (show kitB "tuple" "bool" = some false by decide +kernel)
  | dict _ => exact kit_ty (show kitB "dict" "bool" = some false by decide +kernel)
def isI : PyData → Bool
  | .bool _ => true
  | .int _ => true
  | _ => false
theorem isI_kit {K : PySem.W.Frag} (d : PyData) : PySem.W.kitOne K (.type (tyD d)) (.type "int") = some (isI d) := by
  cases d with
  | none => exact kit_ty (show kitB "NoneType" "int" = some false by decide +kernel)
  | bool _ => exact kit_ty (show kitB "bool" "int" = some true by decide +kernel)
  | int _ => exact kit_ty (show kitB "int" "int" = some true by decide +kernel)
  | str _ => exact kit_ty (show kitB "str" "int" = some false by decide +kernel)
  | list _ => exact kit_ty (show kitB "list" "int" = some false by decide +kernel)
  | tuple _ => exact kit_ty (show kitB "tuple" "int" = some false by decide +kernel)
  | dict _ => exact kit_ty (show kitB "dict" "int" = some false by decide +kernel)
def isT : PyData → Bool
  | .tuple _ => true
  | _ => false
theorem isT_kit {K : PySem.W.Frag} (d : PyData) : PySem.W.kitOne K (.type (tyD d)) (.type "tuple") = some (isT d) := by
  cases d with
  | none => exact kit_ty (show kitB "NoneType" "tuple" = some false by decide +kernel)
  | bool _ => exact kit_ty (show kitB "bool" "tuple" = some false by decide +kernel)
  | int _ => exact kit_ty (show kitB "int" "tuple" = some false by decide +kernel)
  | str _ => exact kit_ty (show kitB "str" "tuple" = some false by decide +kernel)
  | list _ => exact kit_ty (show kitB "list" "tuple" = some false by decide +kernel)
  | tuple _ => exact kit_ty (show kitB "tuple" "tuple" = some true by decide +kernel)
  | dict _ => exact kit_ty (show kitB "dict" "tuple" = some false by decide +kernel)
def isBtn (n : Int) : PyData → Bool
  | .int i => decide (0 ≤ i) && decide (i < n)
  | _ => false
def ascFrom (n : Int) : Int → List PyData → Bool
  | _, [] => true
  | b, .int i :: r => decide (0 ≤ i) && decide (i < n) && decide (b < i) && ascFrom n i r
  | _, _ :: _ => false
def btnT (n : Int) : PyData → Bool
  | .tuple ds => ascFrom n (-1) ds
  | _ => false
def dErr (k : PyData) (x : Str) : PyData := .tuple [k, .str x]
def hasInt (k : Int) : PyData → Bool
  | .tuple ds => ds.any fun d => match d with | .int i => decide (i = k) | _ => false
  | _ => false
def errFrom (n : Int) : Nat → List PyData → PyData
  | _, [] => .none
  | k, d :: r => if btnT n d then (if hasInt (k : Int) d then dErr (.int (k : Int)) "itself" else errFrom n (k + 1) r) else dErr (.int (k : Int)) "list"
def errD : PyData → PyData
  | .tuple ds => if 1 ≤ ds.length ∧ ds.length ≤ 10 then errFrom (ds.length : Int) 0 ds else dErr .none "panel"
  | _ => dErr .none "panel"
theorem ascFrom_ints {n : Int} : ∀ {b : Int} {ds : List PyData}, ascFrom n b ds = true → ∃ ns : List Int, ds = ns.map PyData.int ∧ ns.Pairwise (· < ·) ∧ ∀ x ∈ ns, b < x ∧ 0 ≤ x ∧ x < n
  | b, [], _ => ⟨[], rfl, List.Pairwise.nil, fun _ h => by cases h⟩
  | b, d :: r, h => by
    cases d with
    | int i =>
      simp only [ascFrom, Bool.and_eq_true, decide_eq_true_eq] at h
      obtain ⟨ns, rfl, h2, h3⟩ := ascFrom_ints h.2
      refine ⟨i :: ns, rfl, List.pairwise_cons.mpr ⟨fun x hx => (h3 x hx).1, h2⟩, fun x hx => ?_⟩
      rcases List.mem_cons.mp hx with rfl | hx
      · exact ⟨h.1.2, h.1.1⟩
      · have := h3 x hx; omega
    | none => simp [ascFrom] at h
    | bool _ => simp [ascFrom] at h
    | str _ => simp [ascFrom] at h
    | list _ => simp [ascFrom] at h
    | tuple _ => simp [ascFrom] at h
    | dict _ => simp [ascFrom] at h
theorem hasInt_ints {k : Int} (ns : List Int) : hasInt k (.tuple (ns.map PyData.int)) = decide (k ∈ ns) := by
  show (ns.map PyData.int).any _ = _
  rw [List.any_map, Bool.eq_iff_iff, List.any_eq_true, decide_eq_true_eq]
  constructor
  · rintro ⟨x, hx, e⟩
    have e' : x = k := by simpa using e
    rw [← e']; exact hx
  · intro h
    exact ⟨k, h, by simp⟩
theorem dqAll_of_ints {K : PySem.W.Frag} {N : Addr → Prop} {H : Hp} : ∀ {xs : List V} {ns : List Int}, DqAll K N H xs (ns.map PyData.int) → xs = ns.map V.int
  | _, [], h => by cases h; rfl
  | _, x :: r, h => by
    cases h with
    | cons h1 h2 => cases h1; rw [List.map_cons, dqAll_of_ints h2]
theorem errFrom_drop {n : Int} {ds : List PyData} {i : Nat} {d : PyData} (h : ds[i]? = some d) : errFrom n i (ds.drop i) = if btnT n d then (if hasInt (i : Int) d then dErr (.int (i : Int)) "itself" else errFrom n (i + 1) (ds.drop (i + 1))) else dErr (.int (i : Int)) "list" := by
  have hi := (List.getElem?_eq_some_iff.mp h).1
  have : ds.drop i = d :: ds.drop (i + 1) := by
    rw [List.drop_eq_getElem_cons hi, (List.getElem?_eq_some_iff.mp h).2]
  rw [this]; rfl
theorem eqv_intsL : ∀ (ns ms : List Int), PyData.eqvAll (ns.map PyData.int) (ms.map PyData.int) = decide (ns = ms)
  | [], [] => by simp [PyData.eqvAll]
  | [], _ :: _ => by simp [PyData.eqvAll]
  | _ :: _, [] => by simp [PyData.eqvAll]
  | x :: r, y :: t => by
    simp only [List.map_cons, PyData.eqvAll, PyData.eqv, eqv_intsL r t]
    by_cases h : x = y <;> by_cases h2 : r = t <;> simp [h, h2]
theorem canLay_ints : ∀ ns : List Int, PyData.canLayAll0 (ns.map PyData.int) = true ∧ PyData.depthAll (ns.map PyData.int) = 0
  | [] => ⟨by simp [PyData.canLayAll0], by simp [PyData.depthAll]⟩
  | x :: r => by
    obtain ⟨h1, h2⟩ := canLay_ints r
    exact ⟨by simp [PyData.canLayAll0, PyData.canLay0, h1], by simp [PyData.depthAll, PyData.depth, h2]⟩
end Pr
namespace Pr
open PySem PySem.Spec PyProof.Rows L2
theorem shp_ints (ns : List Int) : SeqAt.shaped (dInts ns) = true := by
  obtain ⟨h1, h2⟩ := canLay_ints ns
  simp [dInts, SeqAt.shaped, PyData.canLay0, PyData.depth, h1, h2]
theorem eqv_di (ns ms : List Int) : PyData.eqv (dInts ns) (dInts ms) = decide (ns = ms) := by
  unfold dInts
  simp only [PyData.eqv]
  exact eqv_intsL ns ms
theorem eqv_rowsA : ∀ (a b : List (List Int)), PyData.eqvAll (a.map dInts) (b.map dInts) = decide (a = b)
  | [], [] => by simp [PyData.eqvAll]
  | [], _ :: _ => by simp [PyData.eqvAll]
  | _ :: _, [] => by simp [PyData.eqvAll]
  | x :: r, y :: t => by
    simp only [List.map_cons, PyData.eqvAll, eqv_di, eqv_rowsA r t]
    by_cases h : x = y <;> by_cases h2 : r = t <;> simp [h, h2]
theorem eqv_rowsT (a b : List (List Int)) : PyData.eqv (.tuple (a.map dInts)) (.tuple (b.map dInts)) = decide (a = b) := by
  simp only [PyData.eqv]; exact eqv_rowsA a b
theorem lay_rows : ∀ a : List (List Int), PyData.canLayAll0 (a.map dInts) = true ∧ PyData.depthAll (a.map dInts) ≤ 1
  | [] => ⟨by simp [PyData.canLayAll0], by simp [PyData.depthAll]⟩
  | x :: r => by
    obtain ⟨h1, h2⟩ := lay_rows r
    obtain ⟨g1, g2⟩ := canLay_ints x
    refine ⟨by simp [PyData.canLayAll0, dInts, PyData.canLay0, h1, g1], ?_⟩
    simp only [List.map_cons, PyData.depthAll, dInts, PyData.depth, g2]
    omega
theorem shp_rowsT (a : List (List Int)) : SeqAt.shaped (.tuple (a.map dInts)) = true := by
  obtain ⟨h1, h2⟩ := lay_rows a
  simp only [SeqAt.shaped, PyData.canLay0, PyData.depth, h1, Bool.true_and]
  exact decide_eq_true (by omega)
def dNone : PyData → Bool
  | .none => true
  | _ => false
section
variable {K : PySem.W.Frag} {σ : L2.St} {H : Hp} {t tk ta tb : TE}
theorem gvi_enumL {α : Type} {δ : α → PyData} {as : List α} (h : Gv K t σ H (.list (as.map δ))) : GvI K Same (iEnum K (tCons t tNil)) σ H (as.zipIdx.map fun x => .tuple [.int (x.2 : Nat), δ x.1]) := fun H1 s Q q => h H1 s _ fun v H2 s2 d2 => by
  obtain ⟨a, xs, rfl, hq, hr⟩ := d2.lstI
  refine ⟨a, xs, rfl, hq, q _ H2 s2 ?_⟩
  have hl : xs.length = as.length := by rw [hr.length, List.length_map]
  rw [List.length_map, List.length_zipIdx, ← hl]
  refine walk_enum.mono (fun h e => e.seq hq) fun i h x h' hi e y => ?_
  obtain ⟨T, x1, x2, rfl, nT, rfl, e1, e2⟩ := y
  cases e1
  have hi' : i < as.length := by omega
  obtain ⟨v, hv, dv⟩ := hr.get i (δ as[i]) (by rw [List.getElem?_map, List.getElem?_eq_getElem hi']; rfl)
  replace e2 : xs[i]? = some x2 := e2
  rw [hv] at e2; cases e2
  have sT : Same h (upd h T (.tup [.int (i : Nat), x2])) := same_new nT
  refine ⟨sT, .tuple [.int (i : Nat), δ as[i]], ?_, .tup (.inl (.inl upd_same)) (.cons (.int _) (.cons ((dv.sm e).sm sT) .nil))⟩
  rw [List.getElem?_map, List.getElem?_zipIdx, List.getElem?_eq_getElem hi']
  simp
theorem set_three (σ : L2.St) (i j l : Nat) (v u x : V) : ((((((((σ.set l none).set j none).set i none).set i (some v)).set j (some u)).set l (some x)).set l none).set j none).set i none = ((σ.set l none).set j none).set i none := by
  refine List.ext_getElem? fun m => ?_
  simp only [List.getElem?_set, List.length_set]
  split <;> split <;> (try split) <;> simp_all
theorem gn_lc3 {wi : TI} {tt : TT} {te : TE} {i j l : Nat} {α : Type} {δ1 δ2 δ3 : α → PyData} {as : List α} {p : α → Bool} {f : α → PyData} (hI : GvI K Same wi σ H (as.map fun a => .tuple [δ1 a, δ2 a, δ3 a]))
    (hb : ∀ a v u x H1, a ∈ as → Same H H1 → Dp K H1 v (δ1 a) → Dp K H1 u (δ2 a) → Dp K H1 x (δ3 a) → GvT tt ((((((σ.set l none).set j none).set i none).set i (some v)).set j (some u)).set l (some x)) H1 (p a) ∧ (p a = true → Gv K te ((((((σ.set l none).set j none).set i none).set i (some v)).set j (some u)).set l (some x)) H1 (f a)))
    (hf : ∀ a ∈ as, lf (f a) = true) (hn : as.length ≤ 100000) (hij : i ≠ j) (hil : i ≠ l) (hjl : j ≠ l) : GvN K (tLc wi (gTup K 3 (gCons (gName i) (gCons (gName j) (gCons (gName l) gNil)))) tt te [i, j, l]) σ H ((as.filter p).map f) := by
  intro H0 s0 Q q
  refine hI H0 s0 _ fun J H1 s1 w D nD => ?_
  rw [List.length_map] at w
  refine lc_it w (LcP K H1 D fun k => ((as.take k).filter p).map f) ⟨fun b o hb e => by rw [upd_ne hb]; exact e, [], upd_same, .nil, Nat.zero_le _⟩ (fun k H2 _ hP b o e => hP.1 b o (ne_of_none e nD) e) (fun k x H2 H3 hk hP hY => ?_) (fun H2 hP => ?_)
  · obtain ⟨s2, acc, eD, hacc, la⟩ := hP
    obtain ⟨s3, d, hd, dx⟩ := hY
    rw [List.getElem?_map, List.getElem?_eq_getElem hk] at hd
    cases hd
    have sH : Same H H3 := (s0.trans s1).trans fun b o e => s3 _ _ (s2 b o (ne_of_none e nD) e)
    obtain ⟨T, xs, rfl, hT, hr⟩ := dx.tupI
    obtain ⟨v, u, x, rfl, dv, du, dx3⟩ := dpAll3 hr
    obtain ⟨g1, g2⟩ := hb as[k] v u x H3 (List.getElem_mem _) sH dv du dx3
    refine ⟨T, [v, u, x], rfl, hT, rfl, v, [u, x], rfl, u, [x], rfl, x, [], rfl, rfl, ?_, g1.at fun H4 s4 => ?_⟩
    · exact set_three _ _ _ _ _ _ _
    cases hp : p as[k] with
    | true =>
      rw [if_pos rfl]
      refine (g2 hp).sm s4 |>.at fun y H5 s5 dy => ⟨acc, s5 _ _ (s4 _ _ (s3 _ _ eD)), small5 (by omega), ?_⟩
      exact lcP_yes s2 ((s3.trans s4).trans s5) eD hacc la dy (by rw [fil_take hk, hp]; rfl) (lf_fil hf _)
    | false =>
      rw [if_neg Bool.false_ne_true]
      exact lcP_no s2 (s3.trans s4) eD hacc la (by rw [fil_take hk, hp]; exact List.append_nil _)
  · obtain ⟨s2, acc, eD, hacc, la⟩ := hP
    replace hacc : DpAll K H2 acc (((as.take as.length).filter p).map f) := hacc
    rw [List.take_length] at hacc
    exact q _ _ H2 (s1.trans fun b o e => s2 b o (ne_of_none e nD) e) (s1.free nD) eD hacc
theorem gn_repL1 {d : PyData} {k : Nat} (ha : GvL K ta σ H [d]) (hb : Gv K tb σ H (.int (k : Int))) (hk : k ≤ 1000) : GvN K (tOp rRep ta tb) σ H (List.replicate k d) := fun H1 s Q q =>
  ha H1 s _ fun a vs H2 s2 e dv => hb H2 (s.trans s2) _ fun y H3 s3 dy => by
    cases dy
    obtain ⟨v, rfl, dv1⟩ := dpAll1 dv
    refine ⟨a, (k : Int), [v], rfl, rfl, s3 _ _ e, by omega, by omega, by rw [Int.toNat_natCast]; show 1 * k ≤ _; exact Nat.le_of_lt (small1000 (by omega)), fun p np => ?_⟩
    have sp := same_new (o := .lst (List.replicate ((k : Nat) : Int).toNat [v]).flatten) np
    refine q p (List.replicate k v) _ ((s2.trans s3).trans sp) ((s2.trans s3).free np) ?_ ?_
    · rw [upd_same, Int.toNat_natCast, rep_flatA]
    · have : ∀ m, DpAll K (upd H3 p (.lst (List.replicate ((k : Nat) : Int).toNat [v]).flatten)) (List.replicate m v) (List.replicate m d) := fun m => by
        induction m with
        | zero => exact .nil
        | succ m ih => exact .cons ((dv1.sm s3).sm sp) ih
      exact this k
theorem gv_cutToG {ds : List PyData} {k : Nat} (h : Gv K t σ H (.tuple ds)) (hk : Gv K tk σ H (.int (k : Int))) (hl : k ≤ ds.length) : Gv K (tSl (rSlS K) t tNoPart (tPart tk)) σ H (.tuple (ds.take k)) := fun H1 s Q q => h H1 s _ fun v H2 s2 dv => hk H2 (s.trans s2) _ fun vk H3 s3 dk => by
  cases dk
  obtain ⟨a, xs, rfl, ha, hr⟩ := dv.tupI
  refine ⟨(k : Int), rfl, a, _, rfl, same_sqT s3 ha, fun p H4 s4 hp => q _ H4 ((s2.trans s3).trans s4) (.tup hp ?_)⟩
  have := cut_dp ((hr.sm s3).sm s4) none (some (k : Int))
  rw [HT.sIx_none, HT.sIx_nat, Nat.min_eq_left hl, List.drop_zero, Nat.sub_zero] at this
  exact this
theorem gv_cutFromG {ds : List PyData} {k : Nat} (h : Gv K t σ H (.tuple ds)) (hk : Gv K tk σ H (.int (k : Int))) (hl : k ≤ ds.length) : Gv K (tSl (rSlS K) t (tPart tk) tNoPart) σ H (.tuple (ds.drop k)) := fun H1 s Q q => h H1 s _ fun v H2 s2 dv => hk H2 (s.trans s2) _ fun vk H3 s3 dk => by
  cases dk
  obtain ⟨a, xs, rfl, ha, hr⟩ := dv.tupI
  refine ⟨(k : Int), rfl, a, _, rfl, same_sqT s3 ha, fun p H4 s4 hp => q _ H4 ((s2.trans s3).trans s4) (.tup hp ?_)⟩
  have := cut_dp ((hr.sm s3).sm s4) (some (k : Int)) none
  rw [HT.sIx_none, HT.sIx_nat, Nat.min_eq_left hl, List.take_of_length_le (by rw [List.length_drop]; omega)] at this
  exact this
theorem gv_intB {b : Bool} {r : List V → Hp → VK → Prop} (hr : r = fun xs H Q => (∃ i, xs = [.int i] ∧ Q (.int i) H) ∨ ∃ k, xs = [.bl k] ∧ Q (.int (if k then 1 else 0)) H) (h : Gv K t σ H (.bool b)) : Gv K (tCB r (tCons t tNil)) σ H (.int (if b then 1 else 0)) := by
  subst hr
  refine gv_cb (gva_cons h gva_nil) fun vs H1 Q s hd q => ?_
  obtain ⟨v, rfl, hv⟩ := dpAll1 hd
  cases hv
  exact .inr ⟨b, rfl, q _ _ (Same.refl _) (.int _)⟩
theorem gv_eqI1 {l m : List Int} (ha : Gv K ta σ H (dInts l)) (hb : Gv K tb σ H (dInts m)) : Gv K (tOp (rEqD K) ta tb) σ H (.bool (decide (l = m))) := (gv_eqD ha hb (shp_ints _) (shp_ints _)).to (by rw [eqv_di])
theorem gv_neI1 {l m : List Int} (ha : Gv K ta σ H (dInts l)) (hb : Gv K tb σ H (dInts m)) : Gv K (tOp (rNeD K) ta tb) σ H (.bool (!decide (l = m))) := (gv_neD ha hb (shp_ints _) (shp_ints _)).to (by rw [eqv_di])
theorem gv_notN {d : PyData} (h : Gv K t σ H d) {r : R2} (hr : r = (fun x y H Q => y = .non ∧ Q (.bl (!decide (x = .non))) H)) : Gv K (tOp r t (tC .non)) σ H (.bool (!dNone d)) := by
  subst hr
  refine gv_op2 h gv_non fun x y H1 Q s hx hy q => ?_
  cases hy
  refine ⟨rfl, q _ _ (Same.refl _) ?_⟩
  have : decide (x = V.non) = dNone d := by
    cases hx <;> simp [dNone]
  rw [this]; exact .bl _
end
end Pr
namespace Pr
open PySem PySem.Spec PyProof.Rows L2
def tlen : PyData → Bool
  | .tuple es => decide (es.length ≤ 60)
  | _ => true
def smlB : PyData → Bool
  | .tuple ds => ds.all tlen
  | _ => true
def lowB (d : PyData) : Bool := d.showable && decide (d.depth ≤ 3) && decide (d.shown.length ≤ 60) && tlen d && smlB d
/-- a small thing: at most three deep, at most sixty signs -/
def Low (d : PyData) : Prop := lowB d = true
theorem Low.len {d : PyData} (h : Low d) : tlen d = true := by
  simp only [Low, lowB, Bool.and_eq_true, decide_eq_true_eq] at h
  exact h.1.2
end Pr
namespace Pr
open PySem PySem.Spec PyProof.Rows L2
end Pr
namespace Pr
open PySem PySem.Spec PyProof.Rows L2
section
variable {X : Cx}
theorem pmk_own0 {C : Addr} {bmB : List Value} {B newId initId : String} {x : Str} {p pos : Pos} (F : ExcBaseFacts B newId initId bmB) (q : PySem.W.excIn X.K C bmB newId = true) (gC : X.mg x = some (.ref C)) (kC : PySem.W.keepIn X.K (.ref C) = true) (r : Raises X (.ref C)) (hg : Gl X x)
    (hdb : (x == ("__debug__" : Str)) = false := by decide) : PMk X (.Call (.Name x p) [] [] pos) (fun _ H Q => Q (.ref C) none H) := by
  intro pins s σ H Q I h
  refine wpAny_Call_Name_kw (ld_glob I hg gC ?_ hdb)
  refine PySem.W.callWith_K0 I.kIn kC ?_
  show wpAny _ _ (call (.ref C) []) _ _ _
  obtain ⟨bm, N, nm, qn, bs, hdct, sn, sub, ab, col, dd, k0, k1, k2, k3, k5, mN, hC, hN, hni, T⟩ := exc_obj I.kIn q
  refine wpAny_call_exc_subT F T hC hN hni (fun h' e hm => ?_) (by show 0 ≤ sizeLine; omega)
  exact mk_of I hm r h (I.hok.gone hm.new)
/-- what the top says of such a class -/
structure Ex0 (K : PySem.W.Frag) (mg : Str → Option Value) (nm : Str) (C : Addr) : Prop where
  q : PySem.W.excIn K C [.type "ValueError", .type "Exception", .type "BaseException", .type "object"] "ValueError.__new__" = true
  g : mg nm = some (.ref C)
  k : PySem.W.keepIn K (.ref C) = true
  s : PySem.W.subIn K (.ref C) (.type "BaseException") = some true
  t : PySem.W.typeIn K (.ref C) = some (.type "type")
theorem Ex0.made {nm : Str} {C : Addr} {p pos : Pos} (T : Ex0 X.K X.mg nm C) (hg : Gl X nm) (hdb : (nm == ("__debug__" : Str)) = false := by decide) : PMk X (.Call (.Name nm p) [] [] pos) (fun _ H Q => Q (.ref C) none H) :=
  pmk_own0 PySem.F.excBase_ValueError T.q T.g T.k (raises_own T.s T.t) hg hdb
end
theorem passX {X : Cx} : Passes (L2.CX X.prog X.w) X E0 := fun _ _ _ _ _ _ _ h => by
  obtain ⟨_, _, _, _, _, _, _, _, _, _, _, _, z⟩ := h
  exact z.elim
end Pr
namespace Pr
open PySem PySem.Spec PyProof.Rows L2
theorem madeF {H : Hp} {C a dx : Addr} {y : V} {fld : Str} (na : H a = none) (nd : (upd H a (exo a C none)) dx = none) (ne : dx ≠ a) :
    (upd (upd (upd H a (exo a C none)) dx (exd dx [(fld, y)])) a (exo a C (some dx))) a = some (exo a C (some dx)) ∧
    (upd (upd (upd H a (exo a C none)) dx (exd dx [(fld, y)])) a (exo a C (some dx))) dx = some (exd dx [(fld, y)]) ∧ H dx = none ∧
    Same H (upd (del (upd (upd (upd H a (exo a C none)) dx (exd dx [(fld, y)])) a (exo a C (some dx))) a) dx (.xd [(fld, y)])) := by
  have nd' : H dx = none := by rw [upd_ne ne] at nd; exact nd
  refine ⟨upd_same, by rw [upd_ne ne, upd_same], nd', fun b o e => ?_⟩
  rw [upd_ne (ne_of_none e nd'), del_ne (ne_of_none e na), upd_ne (ne_of_none e na), upd_ne (ne_of_none e nd'), upd_ne (ne_of_none e na)]
  exact e
end Pr
namespace Pr
open PySem PySem.Spec PyProof.Rows L2
section
variable {K : PySem.W.Frag} {H H' : Hp} {pan : List (List Int)}
theorem panT_dp {v : V} (h : Dp K H v (dPan pan)) : ∃ p, v = .ref p ∧ PanT K H p pan := by
  obtain ⟨p, xs, rfl, hq, hr⟩ := h.tupI
  have : ∀ (xs : List V) (pan : List (List Int)), DpAll K H xs (pan.map dInts) → ∃ qs : List Addr, xs = qs.map V.ref ∧ Paired (fun q l => SqT K H q (l.map V.int)) qs pan := by
    intro xs pan
    induction pan generalizing xs with
    | nil => intro h; cases h; exact ⟨[], rfl, .nil⟩
    | cons l pan ih =>
      intro h
      cases h with
      | cons h1 h2 =>
        obtain ⟨q, rfl, hq⟩ := h1.intsI
        obtain ⟨qs, rfl, hqs⟩ := ih _ h2
        exact ⟨q :: qs, rfl, .cons hq hqs⟩
  obtain ⟨qs, rfl, hqs⟩ := this xs pan hr
  exact ⟨p, rfl, qs, hq, hqs⟩
theorem dq_panT {N : Addr → Prop} {p : Addr} (h : PanT K H p pan) : Dq K N H (.ref p) (dPan pan) := by
  obtain ⟨qs, h1, h2⟩ := h
  refine .tup h1 ?_
  have : ∀ {qs : List Addr} {pan : List (List Int)}, Paired (fun q l => SqT K H q (l.map V.int)) qs pan → DqAll K N H (qs.map V.ref) (pan.map dInts) := fun h => by
    induction h with
    | nil => exact .nil
    | cons a b ih => exact .cons (dq_ints a) ih
  exact this h2
end
theorem asc_from {n : Int} : ∀ {l : List Int} {b : Int}, l.Pairwise (· < ·) → (∀ x ∈ l, b < x ∧ 0 ≤ x ∧ x < n) → ascFrom n b (l.map PyData.int) = true
  | [], _, _, _ => rfl
  | x :: l, b, up, h => by
    rw [List.pairwise_cons] at up
    have hx := h x List.mem_cons_self
    have ih := asc_from (n := n) (b := x) up.2 fun y hy => ⟨up.1 y hy, (h y (List.mem_cons_of_mem _ hy)).2⟩
    show (decide (0 ≤ x) && decide (x < n) && decide (b < x) && ascFrom n x (l.map PyData.int)) = true
    rw [ih, decide_eq_true hx.1, decide_eq_true hx.2.1, decide_eq_true hx.2.2]; rfl
theorem err_from {n : Int} : ∀ (pan : List (List Int)) (k : Nat), (∀ l ∈ pan, l.Pairwise (· < ·) ∧ ∀ x ∈ l, 0 ≤ x ∧ x < n) → (∀ (j : Nat) (l : List Int), pan[j]? = some l → ((k + j : Nat) : Int) ∉ l) → errFrom n k (pan.map dInts) = .none
  | [], _, _, _ => rfl
  | l :: pan, k, h1, h2 => by
    have a := h1 l List.mem_cons_self
    have b := h2 0 l rfl
    have ih := err_from pan (k + 1) (fun m hm => h1 m (List.mem_cons_of_mem _ hm)) fun j m hj => by
      have := h2 (j + 1) m hj
      rw [show k + 1 + j = k + (j + 1) by omega]; exact this
    show (if btnT n (dInts l) then (if hasInt (k : Int) (dInts l) then dErr (.int (k : Int)) "itself" else errFrom n (k + 1) (pan.map dInts)) else dErr (.int (k : Int)) "list") = .none
    have e1 : btnT n (dInts l) = true := asc_from a.1 fun x hx => ⟨by have := a.2 x hx; omega, a.2 x hx⟩
    have e2 : hasInt (k : Int) (dInts l) = false := by
      show ((l.map PyData.int).any fun d => match d with | .int i => decide (i = (k : Int)) | _ => false) = false
      rw [List.any_map, List.any_eq_false]
      intro x hx
      simp only [Function.comp, decide_eq_true_eq]
      rintro rfl
      exact b (by simpa using hx)
    rw [e1, e2, if_pos rfl, if_neg Bool.false_ne_true, ih]
theorem err_good {pan : List (List Int)} (g : Good pan) : errD (dPan pan) = .none := by
  show (if 1 ≤ (pan.map dInts).length ∧ (pan.map dInts).length ≤ 10 then errFrom ((pan.map dInts).length : Int) 0 (pan.map dInts) else dErr .none "panel") = .none
  rw [List.length_map, if_pos ⟨g.pos, g.few⟩]
  exact err_from pan 0 (fun l hl => ⟨g.up l hl, g.rng l hl⟩) fun j l hj => by rw [Nat.zero_add]; exact g.own j l hj
/-- all but the object at g stands as before -/
def ButO (g : Addr) (H H' : Hp) : Prop := ∀ b o, b ≠ g → H b = some o → H' b = some o
theorem ButO.refl (g : Addr) (H : Hp) : ButO g H H := fun _ _ _ e => e
theorem ButO.of {g : Addr} {H H' : Hp} (s : Same H H') : ButO g H H' := fun b o _ e => s b o e
theorem ButO.trans {g : Addr} {H H1 H2 : Hp} (x : ButO g H H1) (y : ButO g H1 H2) : ButO g H H2 := fun b o n e => y b o n (x b o n e)
theorem ButO.upd {g : Addr} {H : Hp} {o : HO} : ButO g H (upd H g o) := fun b o' n e => by rw [upd_ne n]; exact e
theorem ButO.kp {g C dx : Addr} {fs : List (Str × V)} {H H' : Hp} (h : H g = some (.ins C dx fs)) (b : ButO g H H') : Kp H H' :=
  ⟨fun p xs e => b _ _ (ne_of e h (by intro z; cases z)) e, fun p o u e => b _ _ (ne_of e h (by intro z; cases z)) e⟩
theorem ButO.deck {g C dx a c : Addr} {m : Nat} {fs : List (Str × V)} {H H' : Hp} (h : H g = some (.ins C dx fs)) (b : ButO g H H') (D : Deck H a c m) : Deck H' a c m := by
  obtain ⟨cs, k, h1, h2, h3⟩ := D
  exact ⟨cs, k, b _ _ (ne_of h1 h (by intro z; cases z)) h1, b _ _ (ne_of h2 h (by intro z; cases z)) h2, h3⟩
theorem PanT.kp {K : PySem.W.Frag} {H H' : Hp} {p : Addr} {pan : List (List Int)} (k : Kp H H') (h : PanT K H p pan) : PanT K H' p pan := by
  obtain ⟨p', e, h'⟩ := panT_dp (h.dp.kp k (lf_pan _))
  cases e; exact h'
end Pr
namespace K57
open PySem PySem.Spec PyProof.Rows L2 Pr
def wlM (pan : List (List Int)) (b : Int) (l : List Int) : List (List Int) := pan.zipIdx.map fun x => if (x.2 : Int) = b then l else x.1
theorem wl_set (pan : List (List Int)) {b : Int} (l : List Int) (h0 : 0 ≤ b) : wlM pan b l = pan.set b.toNat l := by
  refine List.ext_getElem? fun i => ?_
  unfold wlM
  rw [List.getElem?_map, List.getElem?_zipIdx, List.getElem?_set]
  by_cases hi : i < pan.length
  · rw [List.getElem?_eq_getElem hi]
    by_cases hb : b.toNat = i
    · rw [if_pos hb, if_pos (by omega)]
      simp only [Option.map_some, Nat.zero_add]
      rw [if_pos (by omega)]
    · rw [if_neg hb]
      simp only [Option.map_some, Nat.zero_add]
      rw [if_neg (by omega)]
  · rw [List.getElem?_eq_none (by omega)]
    by_cases hb : b.toNat = i
    · rw [if_pos hb, if_neg (by omega)]; rfl
    · rw [if_neg hb]; rfl
def liM (pan : List (List Int)) (one other : Int) : List (List Int) := if other ∈ pan.getD one.toNat [] then pan else pan.set one.toNat (srt (pan.getD one.toNat [] ++ [other]))
def unM (pan : List (List Int)) (one other : Int) : List (List Int) := if other ∈ pan.getD one.toNat [] then pan.set one.toNat ((pan.getD one.toNat []).filter fun x => !decide (x = other)) else pan
theorem list_few {pan : List (List Int)} (h : ∀ l ∈ pan, l.length ≤ 60) (i : Nat) : (pan.getD i []).length ≤ 60 := by
  rw [List.getD_eq_getElem?_getD]
  cases e : pan[i]? with
  | none => simp
  | some l => exact h l (List.mem_of_getElem? e)
def nWl : List Str := ["panel", "button", "released", "index", "row"]
theorem scWl : FnScope nWl ["panel", "button", "released"] (defScope sWl) := ⟨rfl, rfl, rfl, by decide +kernel, rfl, by decide +kernel, by decide +kernel⟩
section
variable {P : Program} {w : World} {K : PySem.W.Frag} {mg : Str → Option Value} {base : Heap}
def spWl (K : PySem.W.Frag) : Sp := spP K (fun x : List (List Int) × Int × List Int => [dPan x.1, .int x.2.1, dInts x.2.2]) (fun x => x.1.length ≤ 100 ∧ 0 ≤ x.2.1) (fun x => dPan (x.1.set x.2.1.toNat x.2.2))
theorem gv_Wl {σ : L2.St} {H : Hp} {t : TA} {E : XK} {pan : List (List Int)} {b : Int} {l : List Int} (h : GvA K t σ H [dPan pan, .int b, dInts l]) (hc : pan.length ≤ 100 ∧ 0 ≤ b) : Gv K (tCall (spWl K) [] E t) σ H (dPan (pan.set b.toNat l)) := gv_call (K := K) (δ := fun x : List (List Int) × Int × List Int => [dPan x.1, .int x.2.1, dInts x.2.2]) (C := fun x => x.1.length ≤ 100 ∧ 0 ≤ x.2.1) (f := fun x => dPan (x.1.set x.2.1.toNat x.2.2)) (pan, b, l) h hc
theorem ok_Wl  {f : Addr} {fd : FuncData} {k : Nat} (F : Fun K "with_list" "with_list" sWl f fd)
    (m_enumerate : mg "enumerate" = none) (m_tuple : mg "tuple" = none) : FnOk P w K mg base CX0 (k + 1) f fd ["panel", "button", "released"] (spWl K) := by
  refine F.ok scWl (fun vs H Q E h => ?_) (fun cdv A outer s H vs Q E hr h => ?_)
  · obtain ⟨_, hd, _⟩ := h
    exact hd.length
  · obtain ⟨⟨pan, b, l⟩, hd, hc, q⟩ := h
    obtain ⟨v1, v2, v3, rfl, d1, d2, d3⟩ := dpAll3 hd
    try dsimp only at hc
    try dsimp only at q
    try dsimp only at d1 d2 d3
    refine ⟨_, pss_one (ps_ret (pe_callTy (show CallR _ _ (rTupG K) from cr_tupG) (by rfl) m_tuple (by decide +kernel) (pa_cons (pe_lc (own := [("index", 3), ("row", 4)]) (g := gTup K 2 (gCons (gName 3) (gCons (gName 4) gNil))) (tt := tYes) rfl scWl.nd (pi_enumT (by rfl) m_enumerate (pa_cons (pv 0) pa_nil)) (blkOk_by (own := [("index", 3), ("row", 4)]) (N := nWl) (sc := defScope sWl) (by decide +kernel)) (fun _ _ _ _ _ => pg_tup rfl (pgs_cons (pg_name (i := 3) scWl.nd rfl (Or.inl rfl)) (pgs_cons (pg_name (i := 4) scWl.nd rfl (Or.inl rfl)) pgs_nil))) (fun _ _ _ _ _ => pts_nil) (fun _ _ _ _ _ => pe_ifExp (pt_cmpR op_eq (pv 3) (pv 1) (nomark _)) (pv 2) (pv 4))) pa_nil))), ?_⟩
    refine gs_ret ((gv_tupL (gv_lc2 (gvi_enumT (gv_var rfl d1)) (fun a v u H1 ha s dv du => ⟨gvt_yes, fun _ => gv_if (gvt_test (gv_eqI (gv_var rfl dv) (gv_var rfl (d2.sm s)))) (fun _ => gv_var rfl (d3.sm s)) (fun _ => gv_var rfl du)⟩) (fun a _ => ?_) ?_ (by decide))).to ?_) q
    · split
      · exact lf_ints _
      · exact lf_ints _
    · rw [List.length_zipIdx]; omega
    · rw [← wl_set _ _ hc.2]
      unfold dPan wlM
      rw [List.filter_eq_self.mpr (fun _ _ => rfl), List.map_map]
      congr 1
      refine List.map_congr_left fun a _ => ?_
      simp only [Function.comp, decide_eq_true_eq]
      split <;> rfl
end
def nLi : List Str := ["panel", "one", "other"]
theorem scLi : FnScope nLi ["panel", "one", "other"] (defScope sLi) := ⟨rfl, rfl, rfl, by decide +kernel, rfl, by decide +kernel, by decide +kernel⟩
section
variable {P : Program} {w : World} {K : PySem.W.Frag} {mg : Str → Option Value} {base : Heap}
def spLi (K : PySem.W.Frag) : Sp := spP K (fun x : List (List Int) × Int × Int => [dPan x.1, .int x.2.1, .int x.2.2]) (fun x => x.1.length ≤ 100 ∧ (∀ l ∈ x.1, l.length ≤ 60) ∧ 0 ≤ x.2.1 ∧ x.2.1 < (x.1.length : Int)) (fun x => dPan (liM x.1 x.2.1 x.2.2))
theorem gv_Li {σ : L2.St} {H : Hp} {t : TA} {E : XK} {pan : List (List Int)} {one : Int} {other : Int} (h : GvA K t σ H [dPan pan, .int one, .int other]) (hc : pan.length ≤ 100 ∧ (∀ l ∈ pan, l.length ≤ 60) ∧ 0 ≤ one ∧ one < (pan.length : Int)) : Gv K (tCall (spLi K) [] E t) σ H (dPan (liM pan one other)) := gv_call (K := K) (δ := fun x : List (List Int) × Int × Int => [dPan x.1, .int x.2.1, .int x.2.2]) (C := fun x => x.1.length ≤ 100 ∧ (∀ l ∈ x.1, l.length ≤ 60) ∧ 0 ≤ x.2.1 ∧ x.2.1 < (x.1.length : Int)) (f := fun x => dPan (liM x.1 x.2.1 x.2.2)) (pan, one, other) h hc
theorem ok_Li {fWl : Addr} {fdWl : FuncData} {f : Addr} {fd : FuncData} {k : Nat} (F : Fun K "linked" "linked" sLi f fd)
    (FWl : Fun K "with_list" "with_list" sWl fWl fdWl) (bWl : Binds K fdWl ["panel", "button", "released"] []) (gWl : mg "with_list" = some (.ref fWl))
    (m_enumerate : mg "enumerate" = none) (m_sorted : mg "sorted" = none) (m_tuple : mg "tuple" = none) : FnOk P w K mg base CX0 (k + 2) f fd ["panel", "one", "other"] (spLi K) := by
  have GWl : FnOk P w K mg base CX0 (k + 1) fWl fdWl ["panel", "button", "released"] (spWl K) := ok_Wl FWl m_enumerate m_tuple
  refine F.ok scLi (fun vs H Q E h => ?_) (fun cdv A outer s H vs Q E hr h => ?_)
  · obtain ⟨_, hd, _⟩ := h
    exact hd.length
  · obtain ⟨⟨pan, one, other⟩, hd, hc, q⟩ := h
    obtain ⟨v1, v2, v3, rfl, d1, d2, d3⟩ := dpAll3 hd
    try dsimp only at hc
    try dsimp only at q
    try dsimp only at d1 d2 d3
    refine ⟨_, pss_cons (ps_if (pt_cmpR (show OpR _ _ (rIn K false) from op_in_seq) (pv 2) (pe_ix (show IxR _ (rIxT K) from ix_tup) (pv 0) (pv 1) (fun _ _ => rfl)) (by rfl)) (pss_one (ps_ret (pv 0))) pss_nil)
      (pss_one (ps_ret (pe_call GWl (hr.mono (by omega)) (by rfl) gWl FWl.kp bWl .nil pass0 (pa_cons (pv 0) (pa_cons (pv 1) (pa_cons (pe_callTy (show CallR _ _ (rTupG K) from cr_tupG) (by rfl) m_tuple (by decide +kernel) (pa_cons (pe_callB (show CallR _ _ (rSorted K) from cr_sorted) (by rfl) m_sorted (by decide +kernel) (pa_cons (pe_lst (StX.pa_star (pe_ix (show IxR _ (rIxT K) from ix_tup) (pv 0) (pv 1) (fun _ _ => rfl)) (pa_cons (pv 2) pa_nil))) pa_nil)) pa_nil)) pa_nil)))))), ?_⟩
    obtain ⟨c1, c2, c3, c4⟩ := hc
    have hl := list_few c2 one.toNat
    refine gs_if1 (gvt_test (gv_inT (gv_var rfl d3) (gv_pan (gv_var rfl d1) (gv_var rfl d2) c3 c4))) (fun e H' s => ?_) (fun e H' s => ?_)
    · have e' : other ∈ pan.getD one.toNat [] := by simpa using e
      refine gs_ret (gv_var rfl (d1.sm s)) fun v H2 s2 dv => q v H2 (s.trans s2) ?_
      unfold liM; rw [if_pos e']; exact dv
    · have e' : other ∉ pan.getD one.toNat [] := by simpa using e
      refine gs_ret (gv_Wl (l := srt (pan.getD one.toNat [] ++ [other])) (gva_cons (gv_var rfl (d1.sm s)) (gva_cons (gv_var rfl (d2.sm s)) (gva_cons (gv_tupL (gv_sortL (l := pan.getD one.toNat [] ++ [other]) ((gv_lst (gva_starT (gv_pan (gv_var rfl (d1.sm s)) (gv_var rfl (d2.sm s)) c3 c4) (gva_cons (gv_var rfl (d3.sm s)) gva_nil)) ?_).to ?_) ?_)) gva_nil))) ⟨c1, c3⟩) fun v H2 s2 dv => q v H2 (s.trans s2) ?_
      · rw [List.length_append, List.length_map]; exact Nat.le_of_lt (small5 (by show _ + 1 ≤ _; omega))
      · rw [List.map_append]; rfl
      · rw [List.length_append]; show _ + 1 < 64; omega
      · unfold liM; rw [if_neg e']; exact dv
end
def nUn : List Str := ["panel", "one", "other", "button"]
theorem scUn : FnScope nUn ["panel", "one", "other"] (defScope sUn) := ⟨rfl, rfl, rfl, by decide +kernel, rfl, by decide +kernel, by decide +kernel⟩
section
variable {P : Program} {w : World} {K : PySem.W.Frag} {mg : Str → Option Value} {base : Heap}
def spUn (K : PySem.W.Frag) : Sp := spP K (fun x : List (List Int) × Int × Int => [dPan x.1, .int x.2.1, .int x.2.2]) (fun x => x.1.length ≤ 100 ∧ (∀ l ∈ x.1, l.length ≤ 60) ∧ 0 ≤ x.2.1 ∧ x.2.1 < (x.1.length : Int)) (fun x => dPan (unM x.1 x.2.1 x.2.2))
theorem gv_Un {σ : L2.St} {H : Hp} {t : TA} {E : XK} {pan : List (List Int)} {one : Int} {other : Int} (h : GvA K t σ H [dPan pan, .int one, .int other]) (hc : pan.length ≤ 100 ∧ (∀ l ∈ pan, l.length ≤ 60) ∧ 0 ≤ one ∧ one < (pan.length : Int)) : Gv K (tCall (spUn K) [] E t) σ H (dPan (unM pan one other)) := gv_call (K := K) (δ := fun x : List (List Int) × Int × Int => [dPan x.1, .int x.2.1, .int x.2.2]) (C := fun x => x.1.length ≤ 100 ∧ (∀ l ∈ x.1, l.length ≤ 60) ∧ 0 ≤ x.2.1 ∧ x.2.1 < (x.1.length : Int)) (f := fun x => dPan (unM x.1 x.2.1 x.2.2)) (pan, one, other) h hc
theorem ok_Un {fWl : Addr} {fdWl : FuncData} {f : Addr} {fd : FuncData} {k : Nat} (F : Fun K "unlinked" "unlinked" sUn f fd)
    (FWl : Fun K "with_list" "with_list" sWl fWl fdWl) (bWl : Binds K fdWl ["panel", "button", "released"] []) (gWl : mg "with_list" = some (.ref fWl))
    (m_enumerate : mg "enumerate" = none) (m_tuple : mg "tuple" = none) : FnOk P w K mg base CX0 (k + 2) f fd ["panel", "one", "other"] (spUn K) := by
  have GWl : FnOk P w K mg base CX0 (k + 1) fWl fdWl ["panel", "button", "released"] (spWl K) := ok_Wl FWl m_enumerate m_tuple
  refine F.ok scUn (fun vs H Q E h => ?_) (fun cdv A outer s H vs Q E hr h => ?_)
  · obtain ⟨_, hd, _⟩ := h
    exact hd.length
  · obtain ⟨⟨pan, one, other⟩, hd, hc, q⟩ := h
    obtain ⟨v1, v2, v3, rfl, d1, d2, d3⟩ := dpAll3 hd
    try dsimp only at hc
    try dsimp only at q
    try dsimp only at d1 d2 d3
    refine ⟨_, pss_cons (ps_if (pt_cmpR (show OpR _ _ (rIn K true) from op_notIn_seq) (pv 2) (pe_ix (show IxR _ (rIxT K) from ix_tup) (pv 0) (pv 1) (fun _ _ => rfl)) (by rfl)) (pss_one (ps_ret (pv 0))) pss_nil)
      (pss_one (ps_ret (pe_call GWl (hr.mono (by omega)) (by rfl) gWl FWl.kp bWl .nil pass0 (pa_cons (pv 0) (pa_cons (pv 1) (pa_cons (pe_callTy (show CallR _ _ (rTupG K) from cr_tupG) (by rfl) m_tuple (by decide +kernel) (pa_cons (pe_lc (own := [("button", 3)]) (g := gName 3) rfl scUn.nd (show PI _ _ _ (iTup K _) from pi_tup (pe_ix (show IxR _ (rIxT K) from ix_tup) (pv 0) (pv 1) (fun _ _ => rfl))) (blkOk_by (own := [("button", 3)]) (N := nUn) (sc := defScope sUn) (by decide +kernel)) (fun _ _ _ _ _ => pg_name (i := 3) scUn.nd rfl (Or.inl rfl)) (fun _ _ _ _ _ => pts_one (pt_cmpR op_ne (pv 3) (pv 2) (nomark _))) (fun _ _ _ _ _ => pv 3)) pa_nil)) pa_nil)))))), ?_⟩
    obtain ⟨c1, c2, c3, c4⟩ := hc
    have hl := list_few c2 one.toNat
    refine gs_if1 (gvt_test (gv_inT (gv_var rfl d3) (gv_pan (gv_var rfl d1) (gv_var rfl d2) c3 c4))) (fun e H' s => ?_) (fun e H' s => ?_)
    · have e' : other ∉ pan.getD one.toNat [] := by simpa using e
      refine gs_ret (gv_var rfl (d1.sm s)) fun v H2 s2 dv => q v H2 (s.trans s2) ?_
      unfold unM; rw [if_neg e']; exact dv
    · have e' : other ∈ pan.getD one.toNat [] := by simpa using e
      refine gs_ret (gv_Wl (gva_cons (gv_var rfl (d1.sm s)) (gva_cons (gv_var rfl (d2.sm s)) (gva_cons (gv_tupL (gv_lc (gvi_tup (gv_pan (gv_var rfl (d1.sm s)) (gv_var rfl (d2.sm s)) c3 c4))
        (fun a v H1 ha s1 dv => ⟨gvt_test (gv_neI (gv_var rfl dv) (gv_var rfl ((d3.sm s).sm s1))), fun _ => gv_var rfl dv⟩) (fun _ _ => rfl) (by omega))) gva_nil))) ⟨c1, c3⟩) fun v H2 s2 dv => q v H2 (s.trans s2) ?_
      unfold unM; rw [if_pos e']; exact dv
end
def nPress : List Str := ["panel", "state", "button", "released", "kept", "other"]
theorem scPress : FnScope nPress ["panel", "state", "button"] (defScope sPress) := ⟨rfl, rfl, rfl, by decide +kernel, rfl, by decide +kernel, by decide +kernel⟩
section
variable {P : Program} {w : World} {K : PySem.W.Frag} {mg : Str → Option Value} {base : Heap}
def spPress (K : PySem.W.Frag) : Sp := fun vs H Q _ => ∃ (pan : List (List Int)) (st : List Int) (b : Int), DpAll K H vs [dPan pan, dInts st, .int b] ∧ Asc pan.length st ∧ pan.length ≤ 10 ∧ 0 ≤ b ∧ b < (pan.length : Int) ∧
  ∀ H' t, Same H H' → H' t = some (.tup ((pressM pan st b).map V.int)) → Q (.ref t) H'
theorem ok_Press  {f : Addr} {fd : FuncData} {k : Nat} (F : Fun K "press_button" "press_button" sPress f fd)
    (m_sorted : mg "sorted" = none) (m_tuple : mg "tuple" = none) : FnOk P w K mg base CX0 (k + 1) f fd ["panel", "state", "button"] (spPress K) := by
  refine F.ok scPress (fun vs H Q E h => ?_) (fun cdv A outer s H vs Q E hr h => ?_)
  · obtain ⟨_, _, _, hd, _⟩ := h
    exact hd.length
  · obtain ⟨pan, st, b, hd, hst, few, b0, b1, q⟩ := h
    obtain ⟨v1, v2, v3, rfl, d1, d2, d3⟩ := dpAll3 hd
    have stl := hst.len
    refine ⟨_, pss_cons (ps_set (i := 3) scPress.nd rfl (.inr rfl) (pe_ix (show IxR _ (rIxT K) from ix_tup) (pv 0) (pv 2) (fun _ _ => rfl)))
      (pss_cons (ps_setLc (i := 4) (own := [("other", 5)]) (g := gName 5) rfl scPress.nd rfl rfl (sw_true rfl rfl rfl (by decide +kernel)) (show PI _ _ _ (iTup K _) from pi_tup (pv 1)) (blkOk_by (own := [("other", 5)]) (N := nPress) (sc := defScope sPress) (by decide +kernel)) (fun _ _ _ _ _ => pg_name (i := 5) scPress.nd rfl (Or.inl rfl)) (fun _ _ _ _ _ => pts_one (PW.pt (pw_and (pt_cmpR op_ne (pv 5) (pv 2) (nomark _)) (pw_and1 (pt_cmpR (show OpR _ _ (rIn K true) from op_notIn_seq) (pv 5) (pv 3) (by rfl)))))) (fun _ _ _ _ _ => pv 5))
      (pss_one (ps_ret (pe_callTy (show CallR _ _ (rTupG K) from cr_tupG) (by rfl) m_tuple (by decide +kernel) (pa_cons (pe_callB (show CallR _ _ (rSorted K) from cr_sorted) (by rfl) m_sorted (by decide +kernel) (pa_cons (pe_lst (StX.pa_star (pv 4) (pa_cons (pv 2) pa_nil))) pa_nil)) pa_nil))))), ?_⟩
    refine gs_set1 (gv_pan (gv_var rfl d1) (gv_var rfl d3) b0 b1) fun vr H1 s1 dr => ?_
    refine gs_set1 (gv_lc (p := fun x => decide (x ≠ b ∧ x ∉ pan.getD b.toNat [])) (f := PyData.int) (gvi_tup (gv_var rfl (d2.sm s1))) (fun x vx H2 hx s2 dx => ⟨(gvt_and (gvt_test (gv_neI (gv_var rfl dx) (gv_var rfl ((d3.sm s1).sm s2)))) (fun H3 s3 _ => gvt_test (gv_inT (neg := true) (gv_var rfl (dx.sm s3)) (gv_var rfl ((dr.sm s2).sm s3))))).to (by simp), fun _ => gv_var rfl dx⟩) (fun _ _ => rfl) (by omega)) fun vk H2 s2 dk => ?_
    refine (gu_tupL (gv_sortL (l := st.filter (fun x => decide (x ≠ b ∧ x ∉ pan.getD b.toNat [])) ++ [b]) ((gv_lst (gva_starL (gv_var rfl dk) (gva_cons (gv_var rfl ((d3.sm s1).sm s2)) gva_nil)) ?_).to ?_) ?_)).at fun t vs H3 s3 nt et dt => q H3 t ((s1.trans s2).trans s3) ?_
    · rw [List.length_append, List.length_map]
      have := List.length_filter_le (fun x => decide (x ≠ b ∧ x ∉ pan.getD b.toNat [])) st
      exact Nat.le_of_lt (small5 (by show _ + 1 ≤ _; omega))
    · rw [List.map_append]; rfl
    · rw [List.length_append]
      have := List.length_filter_le (fun x => decide (x ≠ b ∧ x ∉ pan.getD b.toNat [])) st
      show _ + 1 < 64; omega
    · rw [et, dpAll_intsV dt, press_sorted hst b0 b1 (srt_perm _) (srt_up _)]
end
theorem scBtn : FnScope ["value", "many"] ["value", "many"] (defScope sBtn) := ⟨rfl, rfl, rfl, by decide +kernel, rfl, by decide +kernel, by decide +kernel⟩
theorem scBtnT : FnScope ["value", "many", "before", "item"] ["value", "many"] (defScope sBtnT) := ⟨rfl, rfl, rfl, by decide +kernel, rfl, by decide +kernel, by decide +kernel⟩
theorem scPErr : FnScope ["value", "index", "item"] ["value"] (defScope sPErr) := ⟨rfl, rfl, rfl, by decide +kernel, rfl, by decide +kernel, by decide +kernel⟩
section
variable {P : Program} {w : World} {K : PySem.W.Frag} {mg : Str → Option Value} {base : Heap}
def spBtn (K : PySem.W.Frag) : Sp := fun vs H Q _ => ∃ (N : Addr → Prop) (v : V) (d : PyData) (n : Int), vs = [v, .int n] ∧ Dq K N H v d ∧ Q (.bl (isBtn n d)) H
theorem ok_btn {f : Addr} {fd : FuncData} {k : Nat} (F : Fun K "is_button" "is_button" sBtn f fd) (mi : mg "isinstance" = none) (mb : mg "bool" = none) (mn : mg "int" = none) : FnOk P w K mg base CX0 (k + 1) f fd ["value", "many"] (spBtn K) := by
  refine F.ok scBtn (fun vs H Q E h => ?_) (fun cdv A outer s H vs Q E hr h => ?_)
  · obtain ⟨N, v, d, n, rfl, _⟩ := h
    rfl
  · obtain ⟨N, v, d, n, rfl, hd, q⟩ := h
    refine ⟨_, pss_cons (ps_if (PW.pt (pw_or (pt_val (pe_callB call_isi (by rfl) mi (by decide +kernel) (pa_cons (pv 0) (pa_cons (pe_bltn (v := .ty "bool") (by rfl) mb (by decide +kernel) rfl) pa_nil))))
        (pw_or1 (pt_not (pt_val (pe_callB call_isi (by rfl) mi (by decide +kernel) (pa_cons (pv 0) (pa_cons (pe_bltn (v := .ty "int") (by rfl) mn (by decide +kernel) rfl) pa_nil))))))))
        (pss_one (ps_ret pe_bl)) pss_nil)
      (pss_one (ps_ret (pe_chain op_le op_lt pe_int (pv 0) (pv 1)))), ?_⟩
    refine ⟨v, rfl, v, .ty "bool", _, _, _, rfl, .ty "bool", hd.ty, isB_kit d, _, rfl, ?_⟩
    by_cases hb : ∃ b, d = .bool b
    · obtain ⟨b, rfl⟩ := hb
      exact iteT (iteT q)
    · have e1 : isB d = false := by
        cases d <;> first | rfl | exact absurd ⟨_, rfl⟩ hb
      rw [e1]
      refine iteF ⟨v, rfl, v, .ty "int", _, _, _, rfl, .ty "int", hd.ty, isI_kit d, _, rfl, ?_⟩
      by_cases hi : ∃ i, d = .int i
      · obtain ⟨i, rfl⟩ := hi
        cases hd
        refine iteF ⟨.int i, rfl, 0, i, rfl, rfl, _, rfl, ite2 (fun e => ?_) (fun e => ?_)⟩
        · refine ⟨.int n, rfl, i, n, rfl, rfl, ?_⟩
          have q' : Q (.bl (decide (0 ≤ i) && decide (i < n))) H := q
          rw [e, Bool.true_and] at q'
          exact q'
        · have q' : Q (.bl (decide (0 ≤ i) && decide (i < n))) H := q
          rw [(Bool.not_eq_true _).mp e, Bool.false_and] at q'
          exact q'
      · have e2 : isI d = false := by
          cases d <;> first | rfl | exact absurd ⟨_, rfl⟩ hi | exact absurd ⟨_, rfl⟩ hb
        rw [e2]
        have q' : Q (.bl false) H := by
          cases d <;> first | exact q | exact absurd ⟨_, rfl⟩ hi
        exact iteT q'
def spBtnT (K : PySem.W.Frag) : Sp := fun vs H Q _ => ∃ (N : Addr → Prop) (v : V) (d : PyData) (n : Int), vs = [v, .int n] ∧ Dq K N H v d ∧ Q (.bl (btnT n d)) H
theorem ok_btnT {f fB : Addr} {fd fdB : FuncData} {k : Nat} (F : Fun K "is_button_tuple" "is_button_tuple" sBtnT f fd) (FB : Fun K "is_button" "is_button" sBtn fB fdB) (bB : Binds K fdB ["value", "many"] []) (gB : mg "is_button" = some (.ref fB))
    (mi : mg "isinstance" = none) (mb : mg "bool" = none) (mn : mg "int" = none) (mt : mg "tuple" = none) : FnOk P w K mg base CX0 (k + 2) f fd ["value", "many"] (spBtnT K) := by
  have GB : FnOk P w K mg base CX0 (k + 1) fB fdB ["value", "many"] (spBtn K) := ok_btn FB mi mb mn
  refine F.ok scBtnT (fun vs H Q E h => ?_) (fun cdv A outer s H vs Q E hr h => ?_)
  · obtain ⟨N, v, d, n, rfl, _⟩ := h
    rfl
  · obtain ⟨N, v, d, n, rfl, hd, q⟩ := h
    refine ⟨_, pss_cons (ps_if (pt_not (pt_val (pe_callB call_isi (by rfl) mi (by decide +kernel) (pa_cons (pv 0) (pa_cons (pe_bltn (v := .ty "tuple") (by rfl) mt (by decide +kernel) rfl) pa_nil))))) (pss_one (ps_ret pe_bl)) pss_nil)
      (pss_cons (ps_set (i := 2) scBtnT.nd rfl (.inl rfl) (pe_un un_neg pe_int))
      (pss_cons (ps_for PassesOwn.never rfl (pi_tup (pv 0)) (pg_name (i := 3) scBtnT.nd rfl (.inl rfl))
        (pss_cons (ps_if (PW.pt (pw_or (pt_not (pt_val (pe_call GB hr (by rfl) gB FB.kp bB .nil pass0 (pa_cons (pv 3) (pa_cons (pv 1) pa_nil))))) (pw_or1 (pt_cmpR op_le (pv 3) (pv 2) (nomark _))))) (pss_one (ps_ret pe_bl)) pss_nil)
        (pss_one (ps_set (i := 2) scBtnT.nd rfl (.inl rfl) (pv 3)))))
      (pss_one (ps_ret pe_bl)))), ?_⟩
    refine ⟨v, rfl, v, .ty "tuple", _, _, _, rfl, .ty "tuple", hd.ty, isT_kit d, _, rfl, ?_⟩
    by_cases ht : ∃ ds, d = .tuple ds
    · obtain ⟨ds, rfl⟩ := ht
      cases hd with
      | @tup l xs _ hs ha =>
        have q' : Q (.bl (ascFrom n (-1) ds)) H := q
        refine iteF ⟨1, rfl, .ref l, rfl, l, rfl, ⟨_, hs⟩, ?_⟩
        refine for_tup (xs := xs) (fun i σ H' => H' = H ∧ ∃ b x3, σ = [some (.ref l), some (.int n), some (.int b), x3] ∧ ascFrom n (-1) ds = ascFrom n b (ds.drop i)) ⟨rfl, -1, none, rfl, rfl⟩ (fun i σ H' _ hP => by rw [hP.1]; exact hs) (fun i x σ H' hx hP => ?_) (fun σ H' hP => ?_)
        · obtain ⟨rfl, b, x3, rfl, ea⟩ := hP
          obtain ⟨di, hdi, hq⟩ := ha.get i x hx
          have hi := (List.getElem?_eq_some_iff.mp hdi).1
          have ed : ds.drop i = di :: ds.drop (i + 1) := by rw [List.drop_eq_getElem_cons hi, (List.getElem?_eq_some_iff.mp hdi).2]
          rw [ed] at ea
          refine ⟨x, rfl, .int n, rfl, N, x, di, n, rfl, hq, _, rfl, ?_⟩
          by_cases hb : isBtn n di = true
          · rw [hb]
            obtain ⟨j, rfl⟩ : ∃ j, di = .int j := by
              cases di <;> first | exact ⟨_, rfl⟩ | (simp [isBtn] at hb)
            cases hq
            have ea' : ascFrom n (-1) ds = (decide (0 ≤ j) && decide (j < n) && decide (b < j) && ascFrom n j (ds.drop (i + 1))) := ea
            have hb' : (decide (0 ≤ j) && decide (j < n)) = true := hb
            rw [hb', Bool.true_and] at ea'
            refine iteF ⟨.int j, rfl, .int b, rfl, j, b, rfl, rfl, _, rfl, ite2 (fun e => ?_) (fun e => ?_)⟩
            · have : ¬ b < j := by have := of_decide_eq_true e; omega
              rw [decide_eq_false this, Bool.false_and] at ea'
              rw [ea'] at q'
              exact q'
            · have : b < j := by
                have : ¬ j ≤ b := fun h => e (decide_eq_true h)
                omega
              rw [decide_eq_true this, Bool.true_and] at ea'
              exact ⟨.int j, rfl, rfl, j, _, rfl, ea'⟩
          · rw [(Bool.not_eq_true _).mp hb]
            have ef : ascFrom n (-1) ds = false := by
              rw [ea]
              cases di with
              | int j =>
                have hb' : (decide (0 ≤ j) && decide (j < n)) = false := (Bool.not_eq_true _).mp hb
                show (decide (0 ≤ j) && decide (j < n) && decide (b < j) && ascFrom n j (ds.drop (i + 1))) = false
                rw [hb', Bool.false_and, Bool.false_and]
              | _ => rfl
            rw [ef] at q'
            exact iteT q'
        · obtain ⟨rfl, b, x3, rfl, ea⟩ := hP
          rw [ha.length, List.drop_length] at ea
          rw [ea] at q'
          exact q'
    · have e1 : isT d = false := by
        cases d <;> first | rfl | exact absurd ⟨_, rfl⟩ ht
      rw [e1]
      have q' : Q (.bl false) H := by
        cases d <;> first | exact q | exact absurd ⟨_, rfl⟩ ht
      exact iteT q'
end
section
variable {P : Program} {w : World} {K : PySem.W.Frag} {mg : Str → Option Value} {base : Heap}
def spPErr (K : PySem.W.Frag) : Sp := fun vs H Q _ => ∃ (N : Addr → Prop) (v : V) (d : PyData), vs = [v] ∧ Dq K N H v d ∧ ∀ H' u, Same H H' → Dp K H' u (errD d) → Q u H'
theorem dp_err {H : Hp} {p : Addr} {v : V} {d : PyData} {x : Str} (hv : Dp K (upd H p (.tup [v, .str x])) v d) : Dp K (upd H p (.tup [v, .str x])) (.ref p) (dErr d x) := .tup (.inl (.inl upd_same)) (.cons hv (.cons (.str x) .nil))
theorem ok_perr {f fB fT : Addr} {fd fdB fdT : FuncData} {k : Nat} {tk : Tok} (F : Fun K "panel_error" "panel_error" sPErr f fd) (FB : Fun K "is_button" "is_button" sBtn fB fdB) (bB : Binds K fdB ["value", "many"] []) (gB : mg "is_button" = some (.ref fB))
    (FT' : Fun K "is_button_tuple" "is_button_tuple" sBtnT fT fdT) (bT : Binds K fdT ["value", "many"] []) (gT : mg "is_button_tuple" = some (.ref fT)) (mM : mg "MAX_BUTTONS" = some (.int 10 tk))
    (mi : mg "isinstance" = none) (mb : mg "bool" = none) (mn : mg "int" = none) (mt : mg "tuple" = none) (ml : mg "len" = none) (me : mg "enumerate" = none) : FnOk P w K mg base CX0 (k + 3) f fd ["value"] (spPErr K) := by
  have GT : FnOk P w K mg base CX0 (k + 2) fT fdT ["value", "many"] (spBtnT K) := ok_btnT FT' FB bB gB mi mb mn mt
  refine F.ok scPErr (fun vs H Q E h => ?_) (fun cdv A outer s H vs Q E hr h => ?_)
  · obtain ⟨N, v, d, rfl, _⟩ := h
    rfl
  · obtain ⟨N, v, d, rfl, hd, q⟩ := h
    refine ⟨_, pss_cons (ps_if (PW.pt (pw_or (pt_not (pt_val (pe_callB call_isi (by rfl) mi (by decide +kernel) (pa_cons (pv 0) (pa_cons (pe_bltn (v := .ty "tuple") (by rfl) mt (by decide +kernel) rfl) pa_nil)))))
        (pw_or1 (pt_not (pt_chain op_le op_le pe_int (pe_callB call_len_seq (by rfl) ml PySem.boot_len (pa_cons (pv 0) pa_nil)) (pe_glob (v := .int 10) rfl mM ⟨_, rfl⟩))))))
        (pss_one (ps_ret (pe_tup (pa_cons pe_non (pa_cons pe_str pa_nil))))) pss_nil)
      (pss_cons (ps_for PassesOwn.never rfl (pi_enumT (by rfl) me (pa_cons (pv 0) pa_nil)) (pg_tup rfl (pgs_cons (pg_name (i := 1) scPErr.nd rfl (.inl rfl)) (pgs_cons (pg_name (i := 2) scPErr.nd rfl (.inl rfl)) pgs_nil)))
        (pss_cons (ps_if (pt_not (pt_val (pe_call GT hr (by rfl) gT FT'.kp bT .nil pass0 (pa_cons (pv 2) (pa_cons (pe_callB call_len_seq (by rfl) ml PySem.boot_len (pa_cons (pv 0) pa_nil)) pa_nil)))))
          (pss_one (ps_ret (pe_tup (pa_cons (pv 1) (pa_cons pe_str pa_nil))))) pss_nil)
        (pss_one (ps_if (pt_cmpR op_in_seq (pv 1) (pv 2) (by rfl)) (pss_one (ps_ret (pe_tup (pa_cons (pv 1) (pa_cons pe_str pa_nil))))) pss_nil))))
      (pss_one (ps_ret pe_non))), ?_⟩
    have bad : errD d = dErr .none "panel" → ∀ p, H p = none → Q (.ref p) (upd H p (.tup [.non, .str "panel"])) := fun e p np => by
      refine q _ _ (same_new np) ?_
      rw [e]
      exact dp_err .non
    refine ⟨v, rfl, v, .ty "tuple", _, _, _, rfl, .ty "tuple", hd.ty, isT_kit d, _, rfl, ?_⟩
    by_cases ht : ∃ ds, d = .tuple ds
    · obtain ⟨ds, rfl⟩ := ht
      cases hd with
      | @tup l xs _ hs ha =>
        have hl := ha.length
        refine iteF ⟨.ref l, rfl, l, xs, rfl, .inr hs, 1, (xs.length : Int), rfl, rfl, _, rfl, ?_⟩
        by_cases h1 : (1 : Int) ≤ (xs.length : Int)
        · rw [decide_eq_true h1]
          refine iteT ⟨(xs.length : Int), 10, rfl, rfl, _, rfl, ?_⟩
          by_cases h2 : (xs.length : Int) ≤ 10
          · rw [decide_eq_true h2]
            refine iteF ⟨.ref l, rfl, l, xs, rfl, hs, ?_⟩
            have ed : errD (.tuple ds) = errFrom (ds.length : Int) 0 ds := if_pos ⟨by omega, by omega⟩
            rw [ed] at q
            refine for_it (walk_enumT (xs := xs)) (fun i σ H' => Same H H' ∧ ∃ x1 x2, σ = [some (.ref l), x1, x2] ∧ errFrom (ds.length : Int) 0 ds = errFrom (ds.length : Int) i (ds.drop i)) ⟨Same.refl _, none, none, rfl, rfl⟩ (fun i σ H' _ hP => same_sqT hP.1 hs) (fun i x σ H3 H4 hi hP hY => ?_) (fun σ H' hP => ?_)
            · obtain ⟨s3, x1, x2, rfl, ea⟩ := hP
              obtain ⟨T, y1, y2, rfl, nT, rfl, e1, e2⟩ := hY
              cases e1
              replace e2 : xs[i]? = some y2 := e2
              have sT : Same H3 (upd H3 T (.tup [.int (i : Nat), y2])) := same_new nT
              obtain ⟨di, hdi, hq⟩ := ha.get i y2 e2
              rw [errFrom_drop hdi] at ea
              have s4 := s3.trans sT
              have hq4 := Dq.same s4 di y2 hq
              refine ⟨T, _, rfl, .inl (.inl upd_same), rfl, _, _, rfl, _, _, rfl, rfl, ?_⟩
              refine ⟨y2, rfl, .ref l, rfl, l, xs, rfl, .inr (same_sqT s4 hs), N, y2, di, (xs.length : Int), rfl, hq4, _, rfl, ?_⟩
              rw [hl]
              by_cases hb : btnT (ds.length : Int) di = true
              · rw [hb] at ea ⊢
                rw [if_pos rfl] at ea
                obtain ⟨es, rfl⟩ : ∃ es, di = .tuple es := by
                  cases di <;> first | exact ⟨_, rfl⟩ | (simp [btnT] at hb)
                obtain ⟨ns, rfl, up, rg⟩ := ascFrom_ints (show ascFrom (ds.length : Int) (-1) es = true from hb)
                rw [hasInt_ints] at ea
                cases hq4 with
                | @tup l2 zs _ hs2 ha2 =>
                  obtain rfl := dqAll_of_ints ha2
                  refine iteF ⟨.int (i : Int), rfl, .ref l2, rfl, l2, _, rfl, .inr hs2, rfl, flat_ints ns, _, rfl, ?_⟩
                  rw [if_neg Bool.false_ne_true, inV_ints]
                  refine ite2 (fun e => ?_) (fun e => ?_)
                  · rw [e, if_pos rfl] at ea
                    refine ⟨.int (i : Int), rfl, by show 2 ≤ sizeLine; decide, fun p np => q _ _ (s4.trans (same_new np)) ?_⟩
                    rw [ea]
                    exact dp_err (.int _)
                  · rw [if_neg e] at ea
                    exact ⟨s4, _, _, rfl, ea⟩
              · rw [(Bool.not_eq_true _).mp hb] at ea ⊢
                rw [if_neg Bool.false_ne_true] at ea
                refine iteT ⟨.int (i : Int), rfl, by show 2 ≤ sizeLine; decide, fun p np => q _ _ (s4.trans (same_new np)) ?_⟩
                rw [ea]
                exact dp_err (.int _)
            · obtain ⟨s3, x1, x2, rfl, ea⟩ := hP
              rw [hl, List.drop_length] at ea
              refine q _ _ s3 ?_
              rw [ea]
              exact .non
          · rw [decide_eq_false h2]
            exact iteT ⟨by show 2 ≤ sizeLine; decide, bad (if_neg (by omega))⟩
        · rw [decide_eq_false h1]
          refine iteF ⟨_, rfl, ?_⟩
          exact iteT ⟨by show 2 ≤ sizeLine; decide, bad (if_neg (by omega))⟩
    · have e1 : isT d = false := by
        cases d <;> first | rfl | exact absurd ⟨_, rfl⟩ ht
      rw [e1]
      refine iteT (iteT ⟨by show 2 ≤ sizeLine; decide, bad ?_⟩)
      cases d <;> first | rfl | exact absurd ⟨_, rfl⟩ ht
end
def nChkP : List Str := ["value", "error"]
theorem scChkP : FnScope nChkP ["value"] (defScope sChkP) := ⟨rfl, rfl, rfl, by decide +kernel, rfl, by decide +kernel, by decide +kernel⟩
section
variable {P : Program} {w : World} {K : PySem.W.Frag} {mg : Str → Option Value} {base : Heap}
def spChkP (K : PySem.W.Frag) : Sp := fun vs H Q _ => ∃ (p : Addr) (pan : List (List Int)), vs = [.ref p] ∧ PanT K H p pan ∧ Good pan ∧ ∀ H', Same H H' → Q .non H'
theorem ok_ChkP {fBtn : Addr} {fdBtn : FuncData} {fBtnT : Addr} {fdBtnT : FuncData} {fPErr : Addr} {fdPErr : FuncData} {f : Addr} {fd : FuncData} {k : Nat} (F : Fun K "check_panel" "check_panel" sChkP f fd)
    (FBtn : Fun K "is_button" "is_button" sBtn fBtn fdBtn) (bBtn : Binds K fdBtn ["value", "many"] []) (gBtn : mg "is_button" = some (.ref fBtn))
    (FBtnT : Fun K "is_button_tuple" "is_button_tuple" sBtnT fBtnT fdBtnT) (bBtnT : Binds K fdBtnT ["value", "many"] []) (gBtnT : mg "is_button_tuple" = some (.ref fBtnT))
    (FPErr : Fun K "panel_error" "panel_error" sPErr fPErr fdPErr) (bPErr : Binds K fdPErr ["value"] []) (gPErr : mg "panel_error" = some (.ref fPErr))
    (m_bool : mg "bool" = none) (m_enumerate : mg "enumerate" = none) (m_int : mg "int" = none) (m_isinstance : mg "isinstance" = none) (m_len : mg "len" = none) (m_tuple : mg "tuple" = none) {tk : Tok} (y_MAX : mg "MAX_BUTTONS" = some (.int 10 tk)) : FnOk P w K mg base CX0 (k + 4) f fd ["value"] (spChkP K) := by
  have GPErr : FnOk P w K mg base CX0 (k + 3) fPErr fdPErr ["value"] (spPErr K) := ok_perr FPErr FBtn bBtn gBtn FBtnT bBtnT gBtnT y_MAX m_isinstance m_bool m_int m_tuple m_len m_enumerate
  refine F.ok scChkP (fun vs H Q E h => ?_) (fun cdv A outer s H vs Q E hr h => ?_)
  · obtain ⟨p, pan, rfl, _⟩ := h
    rfl
  · obtain ⟨p, pan, rfl, hp, hg, q⟩ := h
    refine ⟨_, pss_cons (ps_set (i := 1) scChkP.nd rfl (.inl rfl) (pe_call GPErr (hr.mono (by omega)) (by rfl) gPErr FPErr.kp bPErr .nil pass0 (pa_cons (pv 0) pa_nil)))
      (pss_one (ps_if (pt_cmpR op_notN (pv 1) pe_non (by rfl)) (pss_one ps_never) pss_nil)), ?_⟩
    refine ⟨.ref p, rfl, fun _ => False, .ref p, dPan pan, rfl, dq_panT hp, fun H1 u s1 du => ?_⟩
    rw [err_good hg] at du
    cases du
    refine gs_noN (gvt_test (K := K) (gv_notN (gv_var rfl .non) rfl)) rfl fun H2 s2 => q H2 (s1.trans s2)
end
def nChkS : List Str := ["panel", "value"]
theorem scChkS : FnScope nChkS ["panel", "value"] (defScope sChkS) := ⟨rfl, rfl, rfl, by decide +kernel, rfl, by decide +kernel, by decide +kernel⟩
section
variable {P : Program} {w : World} {K : PySem.W.Frag} {mg : Str → Option Value} {base : Heap}
def spChkS (K : PySem.W.Frag) : Sp := fun vs H Q _ => ∃ (p l : Addr) (pan : List (List Int)) (st : List Int), vs = [.ref p, .ref l] ∧ PanT K H p pan ∧ SqT K H l (st.map V.int) ∧ Asc pan.length st ∧ ∀ H', Same H H' → Q .non H'
theorem ok_ChkS {fBtn : Addr} {fdBtn : FuncData} {fBtnT : Addr} {fdBtnT : FuncData} {f : Addr} {fd : FuncData} {k : Nat} (F : Fun K "check_state" "check_state" sChkS f fd)
    (FBtn : Fun K "is_button" "is_button" sBtn fBtn fdBtn) (bBtn : Binds K fdBtn ["value", "many"] []) (gBtn : mg "is_button" = some (.ref fBtn))
    (FBtnT : Fun K "is_button_tuple" "is_button_tuple" sBtnT fBtnT fdBtnT) (bBtnT : Binds K fdBtnT ["value", "many"] []) (gBtnT : mg "is_button_tuple" = some (.ref fBtnT))
    (m_bool : mg "bool" = none) (m_int : mg "int" = none) (m_isinstance : mg "isinstance" = none) (m_len : mg "len" = none) (m_tuple : mg "tuple" = none) : FnOk P w K mg base CX0 (k + 3) f fd ["panel", "value"] (spChkS K) := by
  have GBtnT : FnOk P w K mg base CX0 (k + 2) fBtnT fdBtnT ["value", "many"] (spBtnT K) := ok_btnT FBtnT FBtn bBtn gBtn m_isinstance m_bool m_int m_tuple
  refine F.ok scChkS (fun vs H Q E h => ?_) (fun cdv A outer s H vs Q E hr h => ?_)
  · obtain ⟨p, l, pan, st, rfl, _⟩ := h
    rfl
  · obtain ⟨p, l, pan, st, rfl, hp, hl, hst, q⟩ := h
    refine ⟨_, pss_one (ps_if (pt_not (pt_val (pe_call GBtnT (hr.mono (by omega)) (by rfl) gBtnT FBtnT.kp bBtnT .nil pass0 (pa_cons (pv 1) (pa_cons (pe_callB (show CallR _ _ (rLenG K) from cr_lenG) (by rfl) m_len PySem.boot_len (pa_cons (pv 0) pa_nil)) pa_nil))))) (pss_one ps_never) pss_nil), ?_⟩
    have hlp : (pan.map dInts).length = pan.length := List.length_map _
    refine ⟨.ref l, rfl, (gv_lenT (K := K) (gv_var rfl hp.dp)).at fun vn H1 s1 dn => ?_⟩
    cases dn
    rw [hlp]
    refine ⟨fun _ => False, .ref l, dInts st, (pan.length : Int), rfl, dq_ints (same_sqT s1 hl), ⟨_, rfl, ?_⟩⟩
    have e : btnT (pan.length : Int) (dInts st) = true := asc_from hst.up fun x hx => ⟨by have := hst.rng x hx; omega, hst.rng x hx⟩
    rw [e]
    exact iteF (q H1 s1)
end
def nChkB : List Str := ["panel", "value"]
theorem scChkB : FnScope nChkB ["panel", "value"] (defScope sChkB) := ⟨rfl, rfl, rfl, by decide +kernel, rfl, by decide +kernel, by decide +kernel⟩
section
variable {P : Program} {w : World} {K : PySem.W.Frag} {mg : Str → Option Value} {base : Heap}
def spChkB (K : PySem.W.Frag) : Sp := fun vs H Q _ => ∃ (p : Addr) (pan : List (List Int)) (b : Int), vs = [.ref p, .int b] ∧ PanT K H p pan ∧ 0 ≤ b ∧ b < (pan.length : Int) ∧ ∀ H', Same H H' → Q .non H'
theorem ok_ChkB {fBtn : Addr} {fdBtn : FuncData} {f : Addr} {fd : FuncData} {k : Nat} (F : Fun K "check_button" "check_button" sChkB f fd)
    (FBtn : Fun K "is_button" "is_button" sBtn fBtn fdBtn) (bBtn : Binds K fdBtn ["value", "many"] []) (gBtn : mg "is_button" = some (.ref fBtn))
    (m_bool : mg "bool" = none) (m_int : mg "int" = none) (m_isinstance : mg "isinstance" = none) (m_len : mg "len" = none) : FnOk P w K mg base CX0 (k + 2) f fd ["panel", "value"] (spChkB K) := by
  have GBtn : FnOk P w K mg base CX0 (k + 1) fBtn fdBtn ["value", "many"] (spBtn K) := ok_btn FBtn m_isinstance m_bool m_int
  refine F.ok scChkB (fun vs H Q E h => ?_) (fun cdv A outer s H vs Q E hr h => ?_)
  · obtain ⟨p, pan, b, rfl, _⟩ := h
    rfl
  · obtain ⟨p, pan, b, rfl, hp, b0, b1, q⟩ := h
    refine ⟨_, pss_one (ps_if (pt_not (pt_val (pe_call GBtn (hr.mono (by omega)) (by rfl) gBtn FBtn.kp bBtn .nil pass0 (pa_cons (pv 1) (pa_cons (pe_callB (show CallR _ _ (rLenG K) from cr_lenG) (by rfl) m_len PySem.boot_len (pa_cons (pv 0) pa_nil)) pa_nil))))) (pss_one ps_never) pss_nil), ?_⟩
    have hlp : (pan.map dInts).length = pan.length := List.length_map _
    refine ⟨.int b, rfl, (gv_lenT (K := K) (gv_var rfl hp.dp)).at fun vn H1 s1 dn => ?_⟩
    cases dn
    rw [hlp]
    refine ⟨fun _ => False, .int b, .int b, (pan.length : Int), rfl, .int b, ⟨_, rfl, ?_⟩⟩
    have e : isBtn (pan.length : Int) (.int b) = true := by simp [isBtn, b0, b1]
    rw [e]
    exact iteF (q H1 s1)
end
end K57
namespace K57
open PySem PySem.Spec PyProof.Rows L2 Pr
abbrev sInitD : Stmt := inClass (topS 43) 1
abbrev sShow : Stmt := inClass (topS 43) 2
abbrev sFree : Stmt := inClass (topS 43) 3
abbrev sRoom : Stmt := inClass (topS 43) 4
abbrev sLink0 : Stmt := inClass (topS 43) 5
abbrev sAdd : Stmt := inClass (topS 43) 6
abbrev sChg : Stmt := inClass (topS 43) 7
abbrev sPressD : Stmt := inClass (topS 43) 8
abbrev sLink : Stmt := inClass (topS 43) 9
abbrev sUnlink : Stmt := inClass (topS 43) 10
abbrev sState : Stmt := inClass (topS 43) 16
abbrev sEdits : Stmt := inClass (topS 43) 19
abbrev sLenD : Stmt := inClass (topS 43) 21
abbrev sStrD : Stmt := inClass (topS 43) 22
def fD1 (pa : Addr) : List (Str × V) := [("past", V.ref pa), ("watched", V.bl false)]
def fldsD (pa p l h : Addr) : List (Str × V) := [("past", V.ref pa), ("watched", V.bl false), ("panel", V.ref p), ("latched", V.ref l), ("held", V.ref h)]
theorem look_past (pa p l h : Addr) : (fldsD pa p l h).lookup ("past" : Str) = some (.ref pa) := by rfl
theorem look_watched (pa p l h : Addr) : (fldsD pa p l h).lookup ("watched" : Str) = some (.bl false) := by rfl
theorem look_panel (pa p l h : Addr) : (fldsD pa p l h).lookup ("panel" : Str) = some (.ref p) := by rfl
theorem look_latched (pa p l h : Addr) : (fldsD pa p l h).lookup ("latched" : Str) = some (.ref l) := by rfl
theorem look_held (pa p l h : Addr) : (fldsD pa p l h).lookup ("held" : Str) = some (.ref h) := by rfl
end K57
namespace Pr
open PySem PySem.Spec PyProof.Rows L2
theorem seq_hide {t u : TS} {D : Ends} {σ : L2.St} {H : Hp} (h : ∀ u' : TS, (∀ D σ H, u D σ H → u' D σ H) → tSeq t u' D σ H) : tSeq t u D σ H := h u fun _ _ _ z => z
theorem next_of {D : Ends} {σ : L2.St} {H : Hp} (h : D.nx σ H) : tNext D σ H := h
end Pr
namespace K57
open PySem PySem.Spec PyProof.Rows L2 Pr
theorem put_a (pa p l h : Addr) : putF "held" (.ref h) (putF "latched" (.ref l) (putF "panel" (.ref p) (fD1 pa))) = fldsD pa p l h := by rfl
theorem put_b (pa p0 l0 h0 p l h : Addr) : putF "held" (.ref h) (putF "latched" (.ref l) (putF "panel" (.ref p) (fldsD pa p0 l0 h0))) = fldsD pa p l h := by rfl
theorem put_p (pa pa' p l h : Addr) : putF "past" (.ref pa') (fldsD pa p l h) = fldsD pa' p l h := by rfl
theorem put_0 (pa : Addr) : putF "watched" (.bl false) (putF "past" (.ref pa) []) = fD1 pa := by rfl
structure TxtD (K : PySem.W.Frag) (mg : Str → Option Value) (C : Addr) : Prop where
  cl : Cls K C
  nA : NoAttr K C "past"
  nW : NoAttr K C "watched"
  nP : NoAttr K C "panel"
  nL : NoAttr K C "latched"
  nH : NoAttr K C "held"
  con : ∃ u, Con K C "MOST_EDITS" (.int 60) u
  g : mg "Desk" = some (.ref C)
def dEnt (x : PyData × List (List Int) × List Int) : PyData := .tuple [x.1, dPan x.2.1, dInts x.2.2]
def dPast (past : List (PyData × List (List Int) × List Int)) : PyData := .tuple (past.map dEnt)
/-- a part of the past: the edit, and the panel and the state before it -/
def EntAt (K : PySem.W.Frag) (H : Hp) (x : V) (y : PyData × List (List Int) × List Int) : Prop := ∃ (a p l : Addr) (v : V), x = .ref a ∧ SqT K H a [v, .ref p, .ref l] ∧ Dp K H v y.1 ∧ PanT K H p y.2.1 ∧ H l = some (.tup (y.2.2.map V.int))
def PastAt (K : PySem.W.Frag) (H : Hp) (pa : Addr) (past : List (PyData × List (List Int) × List Int)) : Prop := ∃ xs, SqT K H pa xs ∧ Paired (EntAt K H) xs past
section
variable {K : PySem.W.Frag} {H H' : Hp} {pa : Addr} {past : List (PyData × List (List Int) × List Int)}
theorem EntAt.sm {x : V} {y : PyData × List (List Int) × List Int} (h : EntAt K H x y) (s : Same H H') : EntAt K H' x y := by
  obtain ⟨a, p, l, v, rfl, h1, h2, h3, h4⟩ := h
  exact ⟨a, p, l, v, rfl, same_sqT s h1, h2.sm s, h3.same s, s _ _ h4⟩
theorem EntAt.kp {x : V} {y : PyData × List (List Int) × List Int} (h : EntAt K H x y) (k : Kp H H') (hl : lf y.1 = true) : EntAt K H' x y := by
  obtain ⟨a, p, l, v, rfl, h1, h2, h3, h4⟩ := h
  exact ⟨a, p, l, v, rfl, sqT_kp k h1, h2.kp k hl, h3.kp k, k.1 _ _ h4⟩
theorem EntAt.dp {x : V} {y : PyData × List (List Int) × List Int} (h : EntAt K H x y) : Dp K H x (dEnt y) := by
  obtain ⟨a, p, l, v, rfl, h1, h2, h3, h4⟩ := h
  exact .tup h1 (.cons h2 (.cons h3.dp (.cons (dp_ints (.inl (.inl h4))) .nil)))
theorem ents_sm (s : Same H H') : ∀ {xs : List V} {past : List (PyData × List (List Int) × List Int)}, Paired (EntAt K H) xs past → Paired (EntAt K H') xs past
  | _, _, .nil => .nil
  | _, _, .cons h t => .cons (h.sm s) (ents_sm s t)
theorem ents_kp (k : Kp H H') : ∀ {xs : List V} {past : List (PyData × List (List Int) × List Int)}, (∀ x ∈ past, lf x.1 = true ∧ Good x.2.1 ∧ Asc x.2.1.length x.2.2) → Paired (EntAt K H) xs past → Paired (EntAt K H') xs past
  | _, _, _, .nil => .nil
  | _, _, e, .cons h t => .cons (h.kp k (e _ List.mem_cons_self).1) (ents_kp k (fun x hx => e x (List.mem_cons_of_mem _ hx)) t)
theorem ents_dp : ∀ {xs : List V} {past : List (PyData × List (List Int) × List Int)}, Paired (EntAt K H) xs past → DpAll K H xs (past.map dEnt)
  | _, _, .nil => .nil
  | _, _, .cons h t => .cons h.dp (ents_dp t)
theorem prApp {α β : Type} {R : α → β → Prop} : ∀ {xs : List α} {ys : List β} {us : List α} {vs : List β}, Paired R xs ys → Paired R us vs → Paired R (xs ++ us) (ys ++ vs)
  | _, _, _, _, .nil, h => h
  | _, _, _, _, .cons a b, h => .cons a (prApp b h)
theorem prGet {α β : Type} {R : α → β → Prop} : ∀ {xs : List α} {ys : List β} {i : Nat} {y : β}, Paired R xs ys → ys[i]? = some y → ∃ x, xs[i]? = some x ∧ R x y
  | _, _, i, y, .nil, e => by simp at e
  | x :: xs, z :: ys, 0, y, .cons a b, e => by cases e; exact ⟨x, rfl, a⟩
  | x :: xs, z :: ys, i + 1, y, .cons a b, e => prGet (i := i) b e
theorem prSplit {α β : Type} {R : α → β → Prop} : ∀ {xs : List α} {ys : List β} {y : β}, Paired R xs (ys ++ [y]) → ∃ us u, xs = us ++ [u] ∧ Paired R us ys ∧ R u y
  | _, [], y, .cons a .nil => ⟨[], _, rfl, .nil, a⟩
  | _, z :: ys, y, .cons a b => by
    obtain ⟨us, u, rfl, h1, h2⟩ := prSplit b
    exact ⟨_ :: us, u, rfl, .cons a h1, h2⟩
theorem PastAt.sm (h : PastAt K H pa past) (s : Same H H') : PastAt K H' pa past := by
  obtain ⟨xs, h1, h2⟩ := h
  exact ⟨xs, same_sqT s h1, ents_sm s h2⟩
theorem PastAt.kp (h : PastAt K H pa past) (k : Kp H H') (e : ∀ x ∈ past, lf x.1 = true ∧ Good x.2.1 ∧ Asc x.2.1.length x.2.2) : PastAt K H' pa past := by
  obtain ⟨xs, h1, h2⟩ := h
  exact ⟨xs, sqT_kp k h1, ents_kp k e h2⟩
theorem PastAt.dp (h : PastAt K H pa past) : Dp K H (.ref pa) (dPast past) := by
  obtain ⟨xs, h1, h2⟩ := h
  exact .tup h1 (ents_dp h2)
end
theorem cut_last (xs : List V) (x : V) : cutV (xs ++ [x]) none (some (-1)) = xs := by
  unfold cutV
  have e : HT.sIx (xs ++ [x]).length (xs ++ [x]).length (some (-1)) = xs.length := by
    show (if (-1 : Int) < 0 then ((-1 : Int) + ((xs ++ [x]).length : Int)).toNat else min (-1 : Int).toNat (xs ++ [x]).length) = _
    rw [if_pos (by decide), List.length_append]
    show ((-1 : Int) + ((xs.length + 1 : Nat) : Int)).toNat = _
    omega
  rw [e, HT.sIx_none, List.drop_zero, Nat.sub_zero, List.take_left]
theorem at_last {l : List V} {v : V} : atI (l ++ [v]) (-1) = some v := by
  have e : ixN (l ++ [v]).length (-1) = some l.length := by
    unfold ixN
    rw [List.length_append]
    show (if (0 : Int) ≤ -1 then _ else _) = _
    rw [if_neg (by decide)]
    simp
    omega
  unfold atI
  rw [e]
  show (l ++ [v])[l.length]? = some v
  simp
theorem at_nat {l : List V} {v : V} {i : Nat} (h : l[i]? = some v) : atI l (i : Int) = some v := by
  have hi := (List.getElem?_eq_some_iff.mp h).1
  have e : ixN l.length (i : Int) = some i := by
    unfold ixN
    rw [if_pos (by omega), if_pos (by omega), Int.toNat_natCast]
  unfold atI
  rw [e]
  exact h
/-- a desk stands at t -/
structure DeskAt (K : PySem.W.Frag) (C : Addr) (H : Hp) (t : Addr) (pan : List (List Int)) (st : List Int) (past : List (PyData × List (List Int) × List Int)) : Prop where
  ob : ∃ dx pa p l h hs, H t = some (.ins C dx (fldsD pa p l h)) ∧ PastAt K H pa past ∧ PanT K H p pan ∧ H l = some (.tup (st.map V.int)) ∧ SqT K H h (hs.map V.int) ∧ IsHeld pan st hs
  good : Good pan
  asc : Asc pan.length st
  lfe : ∀ x ∈ past, lf x.1 = true ∧ Good x.2.1 ∧ Asc x.2.1.length x.2.2
section
variable {K : PySem.W.Frag} {C : Addr} {H H' : Hp} {t : Addr} {pan : List (List Int)} {st : List Int} {past : List (PyData × List (List Int) × List Int)}
theorem DeskAt.same (h : DeskAt K C H t pan st past) (s : Same H H') : DeskAt K C H' t pan st past := by
  obtain ⟨⟨dx, pa, p, l, hh, hs, h1, h2, h3, h4, h5, h6⟩, g, a, e⟩ := h
  exact ⟨⟨dx, pa, p, l, hh, hs, s _ _ h1, h2.sm s, h3.same s, s _ _ h4, same_sqT s h5, h6⟩, g, a, e⟩
theorem DeskAt.but {a c : Addr} {m : Nat} (h : DeskAt K C H t pan st past) (D : Deck H a c m) (b : But a c H H') : DeskAt K C H' t pan st past := by
  obtain ⟨⟨dx, pa, p, l, hh, hs, h1, h2, h3, h4, h5, h6⟩, g, as, e⟩ := h
  have k := Kp.but D b
  have q := D.apart h1 (fun _ => by intro z; cases z)
  exact ⟨⟨dx, pa, p, l, hh, hs, b _ _ q.1 q.2 h1, h2.kp k e, h3.kp k, k.1 _ _ h4, sqT_kp k h5, h6⟩, g, as, e⟩
end
def nShow : List Str := ["self", "panel", "latched"]
theorem scShow : FnScope nShow ["self", "panel", "latched"] (defScope sShow) := ⟨rfl, rfl, rfl, by decide +kernel, rfl, by decide +kernel, by decide +kernel⟩
section
variable {P : Program} {w : World} {K : PySem.W.Frag} {mg : Str → Option Value} {base : Heap}
def spShow (K : PySem.W.Frag) (C : Addr) : Sp := fun vs H Q _ => ∃ (t p l dx pa : Addr) (fs : List (Str × V)) (pan : List (List Int)) (st : List Int), vs = [.ref t, .ref p, .ref l] ∧ H t = some (.ins C dx fs) ∧ (fs = fD1 pa ∨ ∃ p0 l0 h0, fs = fldsD pa p0 l0 h0) ∧ PanT K H p pan ∧ Good pan ∧ SqT K H l (st.map V.int) ∧ Asc pan.length st ∧
  ∀ H' h hs, ButO t H H' → H' t = some (.ins C dx (fldsD pa p l h)) → SqT K H' h (hs.map V.int) → IsHeld pan st hs → Q .non H'
theorem ok_Show {fAny : Addr} {fdAny : FuncData} {fHeld : Addr} {fdHeld : FuncData} {C f : Addr} {fd : FuncData} {k : Nat} (F : Fun K "show" "Desk.show" sShow f fd) (T : TxtD K mg C)
    (FAny : Fun K "releases_any" "releases_any" sAny fAny fdAny) (bAny : Binds K fdAny ["panel", "button", "others"] []) (gAny : mg "releases_any" = some (.ref fAny))
    (FHeld : Fun K "held_buttons" "held_buttons" sHeld fHeld fdHeld) (bHeld : Binds K fdHeld ["panel", "state"] []) (gHeld : mg "held_buttons" = some (.ref fHeld))
    (m_any : mg "any" = none) (m_len : mg "len" = none) (m_tuple : mg "tuple" = none) : FnOk P w K mg base CX0 (k + 3) f fd ["self", "panel", "latched"] (spShow K C) := by
  have GHeld : FnOk P w K mg base CX0 (k + 2) fHeld fdHeld ["panel", "state"] (spHeld K) := ok_held FHeld FAny bAny gAny m_len m_tuple m_any
  refine F.ok scShow (fun vs H Q E h => ?_) (fun cdv A outer s H vs Q E hr h => ?_)
  · obtain ⟨t, p, l, dx, pa, fs, pan, st, rfl, _⟩ := h
    rfl
  · obtain ⟨t, p, l, dx, pa, fs, pan, st, rfl, ht, hfs, hp, hg, hl, hst, q⟩ := h
    refine ⟨_, pss_cons (ps_fld (pv 0) (pv 1) rfl)
      (pss_cons (ps_fld (pv 0) (pv 2) rfl)
      (pss_one (ps_fld (pv 0) (pe_call GHeld (hr.mono (by omega)) (by rfl) gHeld FHeld.kp bHeld .nil pass0 (pa_cons (pv 1) (pa_cons (pv 2) pa_nil))) rfl))), ?_⟩
    have fl : fs.length ≤ 5 := by
      rcases hfs with rfl | ⟨p0, l0, h0, rfl⟩
      · show 2 ≤ 5; decide
      · exact Nat.le_refl 5
    have pl : ∀ (f : Str) (v : V) (l : List (Str × V)), (putF f v l).length ≤ l.length + 1 := fun f v l => by
      induction l with
      | nil => exact Nat.le_refl _
      | cons x r ih =>
        show (if x.1 = f then (x.1, v) :: r else x :: putF f v r).length ≤ _
        split
        · exact Nat.le_succ _
        · exact Nat.succ_le_succ ih
    refine ⟨.ref p, rfl, .ref t, rfl, t, C, dx, fs, rfl, ht, T.cl, T.nP, by omega, ?_⟩
    have k1 := ButO.upd (g := t) (H := H) (o := .ins C dx (putF "panel" (.ref p) fs))
    refine ⟨.ref l, rfl, .ref t, rfl, t, C, dx, _, rfl, upd_same, T.cl, T.nL, by have := pl "panel" (.ref p) fs; omega, ?_⟩
    have k2 := ButO.upd (g := t) (H := upd H t (.ins C dx (putF "panel" (.ref p) fs))) (o := .ins C dx (putF "latched" (.ref l) (putF "panel" (.ref p) fs)))
    have k12 := k1.trans k2
    refine ⟨.ref p, rfl, .ref l, rfl, p, l, pan, st, rfl, hp.kp (k12.kp ht), hg, sqT_kp (k12.kp ht) hl, hst, fun H3 h hs s3 hh ish => ?_⟩
    have e3 := s3 _ _ (upd_same (a := t) (o := .ins C dx (putF "latched" (.ref l) (putF "panel" (.ref p) fs))))
    refine ⟨.ref t, rfl, t, C, dx, _, rfl, e3, T.cl, T.nH, by have := pl "panel" (.ref p) fs; have := pl "latched" (.ref l) (putF "panel" (.ref p) fs); omega, ?_⟩
    have k4 := ButO.upd (g := t) (H := H3) (o := .ins C dx (putF "held" (.ref h) (putF "latched" (.ref l) (putF "panel" (.ref p) fs))))
    refine q _ h hs ((k12.trans (ButO.of s3)).trans k4) ?_ (sqT_kp (k4.kp e3) hh) ish
    rcases hfs with rfl | ⟨p0, l0, h0, rfl⟩
    · rw [put_a, upd_same]
    · rw [put_b, upd_same]
end
def nInitD : List Str := ["self", "panel", "state"]
theorem scInitD : FnScope nInitD ["self", "panel", "state"] (defScope sInitD) := ⟨rfl, rfl, rfl, by decide +kernel, rfl, by decide +kernel, by decide +kernel⟩
section
variable {P : Program} {w : World} {K : PySem.W.Frag} {mg : Str → Option Value} {base : Heap}
def spInitD (K : PySem.W.Frag) (C : Addr) : Sp := fun vs H Q _ => ∃ (t p l dx : Addr) (pan : List (List Int)) (st : List Int), vs = [.ref t, .ref p, .ref l] ∧ H t = some (.ins C dx []) ∧ PanT K H p pan ∧ Good pan ∧ H l = some (.tup (st.map V.int)) ∧ Asc pan.length st ∧
  ∀ H', ButO t H H' → DeskAt K C H' t pan st [] → Q .non H'
theorem ok_InitD {fBtn : Addr} {fdBtn : FuncData} {fBtnT : Addr} {fdBtnT : FuncData} {fPErr : Addr} {fdPErr : FuncData} {fAny : Addr} {fdAny : FuncData} {fHeld : Addr} {fdHeld : FuncData} {fChkP : Addr} {fdChkP : FuncData} {fChkS : Addr} {fdChkS : FuncData} {C f : Addr} {fd : FuncData} {k : Nat} {tk : Tok} (F : Fun K "__init__" "Desk.__init__" sInitD f fd) (T : TxtD K mg C)
    (FBtn : Fun K "is_button" "is_button" sBtn fBtn fdBtn) (bBtn : Binds K fdBtn ["value", "many"] []) (gBtn : mg "is_button" = some (.ref fBtn))
    (FBtnT : Fun K "is_button_tuple" "is_button_tuple" sBtnT fBtnT fdBtnT) (bBtnT : Binds K fdBtnT ["value", "many"] []) (gBtnT : mg "is_button_tuple" = some (.ref fBtnT))
    (FPErr : Fun K "panel_error" "panel_error" sPErr fPErr fdPErr) (bPErr : Binds K fdPErr ["value"] []) (gPErr : mg "panel_error" = some (.ref fPErr))
    (FAny : Fun K "releases_any" "releases_any" sAny fAny fdAny) (bAny : Binds K fdAny ["panel", "button", "others"] []) (gAny : mg "releases_any" = some (.ref fAny))
    (FHeld : Fun K "held_buttons" "held_buttons" sHeld fHeld fdHeld) (bHeld : Binds K fdHeld ["panel", "state"] []) (gHeld : mg "held_buttons" = some (.ref fHeld))
    (FChkP : Fun K "check_panel" "check_panel" sChkP fChkP fdChkP) (bChkP : Binds K fdChkP ["value"] []) (gChkP : mg "check_panel" = some (.ref fChkP))
    (FChkS : Fun K "check_state" "check_state" sChkS fChkS fdChkS) (bChkS : Binds K fdChkS ["panel", "value"] []) (gChkS : mg "check_state" = some (.ref fChkS))
    {fShow : Addr} {fdShow : FuncData} (FShow : Fun K "show" "Desk.show" sShow fShow fdShow) (bShow : Binds K fdShow ["self", "panel", "latched"] []) (hShow : Meth K C "show" fShow)
    (m_any : mg "any" = none) (m_bool : mg "bool" = none) (m_enumerate : mg "enumerate" = none) (m_int : mg "int" = none) (m_isinstance : mg "isinstance" = none) (m_len : mg "len" = none) (m_tuple : mg "tuple" = none) (y_MAX : mg "MAX_BUTTONS" = some (.int 10 tk)) : FnOk P w K mg base CX0 (k + 5) f fd ["self", "panel", "state"] (spInitD K C) := by
  have GChkP : FnOk P w K mg base CX0 (k + 4) fChkP fdChkP ["value"] (spChkP K) := ok_ChkP FChkP FBtn bBtn gBtn FBtnT bBtnT gBtnT FPErr bPErr gPErr m_bool m_enumerate m_int m_isinstance m_len m_tuple y_MAX
  have GChkS : FnOk P w K mg base CX0 (k + 3) fChkS fdChkS ["panel", "value"] (spChkS K) := ok_ChkS FChkS FBtn bBtn gBtn FBtnT bBtnT gBtnT m_bool m_int m_isinstance m_len m_tuple
  have GShow : FnOk P w K mg base CX0 (k + 3) fShow fdShow ["self", "panel", "latched"] (spShow K C) := ok_Show FShow T FAny bAny gAny FHeld bHeld gHeld  m_any m_len m_tuple
  refine F.ok scInitD (fun vs H Q E h => ?_) (fun cdv A outer s H vs Q E hr h => ?_)
  · obtain ⟨t, p, l, dx, pan, st, rfl, _⟩ := h
    rfl
  · obtain ⟨t, p, l, dx, pan, st, rfl, ht, hp, hg, hl, hst, q⟩ := h
    refine ⟨_, pss_cons (ps_expr (pe_call GChkP (hr.mono (by omega)) (by rfl) gChkP FChkP.kp bChkP .nil pass0 (pa_cons (pv 1) pa_nil)))
      (pss_cons (ps_expr (pe_call GChkS (hr.mono (by omega)) (by rfl) gChkS FChkS.kp bChkS .nil pass0 (pa_cons (pv 1) (pa_cons (pv 2) pa_nil))))
      (pss_cons (ps_fld (pv 0) (pe_tup pa_nil) rfl)
      (pss_cons (ps_fld (pv 0) pe_bl rfl)
      (pss_one (ps_expr (pe_meth (pv 0) T.cl hShow GShow (hr.mono (by omega)) bShow .nil pass0 (pa_cons (pv 1) (pa_cons (pv 2) pa_nil)))))))), ?_⟩
    refine ⟨.ref p, rfl, p, pan, rfl, hp, hg, fun H1 s1 => ?_⟩
    refine ⟨.ref p, rfl, .ref l, rfl, p, l, pan, st, rfl, hp.same s1, .inl (.inl (s1 _ _ hl)), hst, fun H2 s2 => ?_⟩
    have s12 := s1.trans s2
    have e2 := s12 _ _ ht
    refine ⟨Nat.zero_le _, fun pa npa => ?_⟩
    have sp := same_new (o := .tup []) npa
    refine ⟨.ref t, rfl, t, C, dx, _, rfl, sp _ _ e2, T.cl, T.nA, by show 0 < 1000; decide, ?_⟩
    have k3 := ButO.upd (g := t) (H := upd H2 pa (.tup [])) (o := .ins C dx (putF "past" (.ref pa) []))
    refine ⟨.ref t, rfl, t, C, dx, _, rfl, upd_same, T.cl, T.nW, by show 1 < 1000; decide, ?_⟩
    rw [put_0]
    have k4 := ButO.upd (g := t) (H := upd (upd H2 pa (.tup [])) t (.ins C dx (putF "past" (.ref pa) []))) (o := .ins C dx (fD1 pa))
    have kk := (k3.trans k4).kp (sp _ _ e2)
    have sH := s12.trans sp
    have pt : pa ≠ t := fun z => by rw [z, e2] at npa; cases npa
    refine ⟨.ref t, rfl, t, dx, _, rfl, upd_same, by rfl, .ref p, rfl, .ref l, rfl, t, p, l, dx, pa, fD1 pa, pan, st, rfl, upd_same, .inl rfl, (hp.same sH).kp kk, hg, .inl (.inl (kk.1 _ _ (sH _ _ hl))), hst, fun H5 h hs k5 e5 hh ish => ?_⟩
    have kAll := ((ButO.of sH).trans (k3.trans k4)).trans k5
    have kp5 := kk.trans (k5.kp upd_same)
    refine q H5 kAll ⟨⟨dx, pa, p, l, h, hs, e5, ⟨[], .inl (.inl (kp5.1 _ _ upd_same)), .nil⟩, (hp.same sH).kp kp5, kp5.1 _ _ (sH _ _ hl), hh, ish⟩, hg, hst, fun x hx => by cases hx⟩
end
end K57
namespace K57
open PySem PySem.Spec PyProof.Rows L2 Pr
section
variable {K : PySem.W.Frag} {C : Addr} {H H' : Hp} {t : Addr} {pan : List (List Int)} {st : List Int} {past : List (PyData × List (List Int) × List Int)} {σ : L2.St} {mg : Str → Option Value} {i : Nat}
theorem gv_past (T : TxtD K mg C) (hi : σ[i]? = some (some (.ref t))) (h : DeskAt K C H t pan st past) : Gv K (tFld K (tVar i) "past") σ H (dPast past) := fun H1 s Q q => by
  obtain ⟨⟨dx, pa, p, l, hh, hs, h1, h2, _⟩, _⟩ := h.same s
  exact ⟨.ref t, hi, t, C, dx, _, .ref pa, rfl, h1, T.cl, T.nA, look_past _ _ _ _, q _ H1 (Same.refl _) h2.dp⟩
theorem gv_panel (T : TxtD K mg C) (hi : σ[i]? = some (some (.ref t))) (h : DeskAt K C H t pan st past) : Gv K (tFld K (tVar i) "panel") σ H (dPan pan) := fun H1 s Q q => by
  obtain ⟨⟨dx, pa, p, l, hh, hs, h1, h2, h3, _⟩, _⟩ := h.same s
  exact ⟨.ref t, hi, t, C, dx, _, .ref p, rfl, h1, T.cl, T.nP, look_panel _ _ _ _, q _ H1 (Same.refl _) h3.dp⟩
theorem gv_latched (T : TxtD K mg C) (hi : σ[i]? = some (some (.ref t))) (h : DeskAt K C H t pan st past) : Gv K (tFld K (tVar i) "latched") σ H (dInts st) := fun H1 s Q q => by
  obtain ⟨⟨dx, pa, p, l, hh, hs, h1, h2, h3, h4, _⟩, _⟩ := h.same s
  exact ⟨.ref t, hi, t, C, dx, _, .ref l, rfl, h1, T.cl, T.nL, look_latched _ _ _ _, q _ H1 (Same.refl _) (dp_ints (.inl (.inl h4)))⟩
theorem gv_most (T : TxtD K mg C) (hi : σ[i]? = some (some (.ref t))) (h : DeskAt K C H t pan st past) : Gv K (tCon K (tVar i) "MOST_EDITS") σ H (.int 60) := fun H1 s Q q => by
  obtain ⟨⟨dx, pa, p, l, hh, hs, h1, _⟩, _⟩ := h.same s
  obtain ⟨u, hu⟩ := T.con
  exact ⟨.ref t, hi, t, C, dx, _, .int 60, u, rfl, h1, T.cl, hu, by rfl, q _ H1 (Same.refl _) (.int _)⟩
end
def InP2 (pan : List (List Int)) (one other : Int) : Prop := 0 ≤ one ∧ one < (pan.length : Int) ∧ 0 ≤ other ∧ other < (pan.length : Int) ∧ one ≠ other
def nFree : List Str := ["self"]
theorem scFree : FnScope nFree ["self"] (defScope sFree) := ⟨rfl, rfl, rfl, by decide +kernel, rfl, by decide +kernel, by decide +kernel⟩
section
variable {P : Program} {w : World} {K : PySem.W.Frag} {mg : Str → Option Value} {base : Heap}
def spFree (K : PySem.W.Frag) (C : Addr) : Sp := fun vs H Q _ => ∃ (t : Addr) (pan : List (List Int)) (st : List Int) (past : List (PyData × List (List Int) × List Int)), vs = [.ref t] ∧ DeskAt K C H t pan st past ∧ ∀ H', Same H H' → Q .non H'
theorem ok_Free  {C f : Addr} {fd : FuncData} {k : Nat} (F : Fun K "check_free" "Desk.check_free" sFree f fd) (T : TxtD K mg C)
     : FnOk P w K mg base CX0 (k + 1) f fd ["self"] (spFree K C) := by
  refine F.ok scFree (fun vs H Q E h => ?_) (fun cdv A outer s H vs Q E hr h => ?_)
  · obtain ⟨t, pan, st, past, rfl, _⟩ := h
    rfl
  · obtain ⟨t, pan, st, past, rfl, hD, q⟩ := h
    have hD' := hD
    obtain ⟨⟨dx, pa, p, l, hh, hs, h1, h2, h3, h4, h5, h6⟩, hg, hst, lfe⟩ := hD'
    refine ⟨_, pss_one (ps_if (pt_val (pe_fld (pv 0) rfl)) (pss_one ps_never) pss_nil), ?_⟩
    exact ⟨.ref t, rfl, t, C, dx, _, .bl false, rfl, h1, T.cl, T.nW, look_watched _ _ _ _, false, rfl, iteF (q H (Same.refl _))⟩
end
def nRoom : List Str := ["self"]
theorem scRoom : FnScope nRoom ["self"] (defScope sRoom) := ⟨rfl, rfl, rfl, by decide +kernel, rfl, by decide +kernel, by decide +kernel⟩
section
variable {P : Program} {w : World} {K : PySem.W.Frag} {mg : Str → Option Value} {base : Heap}
def spRoom (K : PySem.W.Frag) (C : Addr) : Sp := fun vs H Q _ => ∃ (t : Addr) (pan : List (List Int)) (st : List Int) (past : List (PyData × List (List Int) × List Int)), vs = [.ref t] ∧ DeskAt K C H t pan st past ∧ past.length < 60 ∧ ∀ H', Same H H' → Q .non H'
theorem ok_Room  {C f : Addr} {fd : FuncData} {k : Nat} (F : Fun K "check_room" "Desk.check_room" sRoom f fd) (T : TxtD K mg C)
    {fFree : Addr} {fdFree : FuncData} (FFree : Fun K "check_free" "Desk.check_free" sFree fFree fdFree) (bFree : Binds K fdFree ["self"] []) (hFree : Meth K C "check_free" fFree)
    (m_len : mg "len" = none) : FnOk P w K mg base CX0 (k + 2) f fd ["self"] (spRoom K C) := by
  have GFree : FnOk P w K mg base CX0 (k + 1) fFree fdFree ["self"] (spFree K C) := ok_Free FFree T   
  refine F.ok scRoom (fun vs H Q E h => ?_) (fun cdv A outer s H vs Q E hr h => ?_)
  · obtain ⟨t, pan, st, past, rfl, _⟩ := h
    rfl
  · obtain ⟨t, pan, st, past, rfl, hD, few, q⟩ := h
    have hD' := hD
    obtain ⟨⟨dx, pa, p, l, hh, hs, h1, h2, h3, h4, h5, h6⟩, hg, hst, lfe⟩ := hD'
    refine ⟨_, pss_cons (ps_expr (pe_meth0 (pv 0) T.cl hFree GFree (hr.mono (by omega)) bFree .nil pass0))
      (pss_one (ps_if (pt_cmpR op_ge (pe_callB (show CallR _ _ (rLenG K) from cr_lenG) (by rfl) m_len PySem.boot_len (pa_cons (pe_fld (pv 0) rfl) pa_nil)) (pe_con (pv 0) rfl) (nomark _)) (pss_one ps_never) pss_nil)), ?_⟩
    refine ⟨.ref t, rfl, t, dx, _, rfl, h1, by rfl, t, pan, st, past, rfl, hD, fun H1 s1 => ?_⟩
    refine gs_noN (b := decide ((60 : Int) ≤ ((past.map dEnt).length : Int))) (gvt_test (K := K) (gv_I0 (gv_lenT (gv_past T rfl (hD.same s1))) (gv_most T rfl (hD.same s1)) fun _ => .bl _)) (by rw [List.length_map]; exact decide_eq_false (by omega)) fun H2 s2 => q H2 (s1.trans s2)
end
def nLink0 : List Str := ["self", "one", "other"]
theorem scLink0 : FnScope nLink0 ["self", "one", "other"] (defScope sLink0) := ⟨rfl, rfl, rfl, by decide +kernel, rfl, by decide +kernel, by decide +kernel⟩
section
variable {P : Program} {w : World} {K : PySem.W.Frag} {mg : Str → Option Value} {base : Heap}
def spLink0 (K : PySem.W.Frag) (C : Addr) : Sp := fun vs H Q _ => ∃ (t : Addr) (pan : List (List Int)) (st : List Int) (past : List (PyData × List (List Int) × List Int)) (one other : Int), vs = [.ref t, .int one, .int other] ∧ DeskAt K C H t pan st past ∧ past.length < 60 ∧ InP2 pan one other ∧ ∀ H', Same H H' → Q .non H'
theorem ok_Link0 {fBtn : Addr} {fdBtn : FuncData} {fChkB : Addr} {fdChkB : FuncData} {C f : Addr} {fd : FuncData} {k : Nat} (F : Fun K "check_link" "Desk.check_link" sLink0 f fd) (T : TxtD K mg C)
    (FBtn : Fun K "is_button" "is_button" sBtn fBtn fdBtn) (bBtn : Binds K fdBtn ["value", "many"] []) (gBtn : mg "is_button" = some (.ref fBtn))
    (FChkB : Fun K "check_button" "check_button" sChkB fChkB fdChkB) (bChkB : Binds K fdChkB ["panel", "value"] []) (gChkB : mg "check_button" = some (.ref fChkB))
    {fFree : Addr} {fdFree : FuncData} (FFree : Fun K "check_free" "Desk.check_free" sFree fFree fdFree) (bFree : Binds K fdFree ["self"] []) (hFree : Meth K C "check_free" fFree)
    {fRoom : Addr} {fdRoom : FuncData} (FRoom : Fun K "check_room" "Desk.check_room" sRoom fRoom fdRoom) (bRoom : Binds K fdRoom ["self"] []) (hRoom : Meth K C "check_room" fRoom)
    (m_bool : mg "bool" = none) (m_int : mg "int" = none) (m_isinstance : mg "isinstance" = none) (m_len : mg "len" = none) : FnOk P w K mg base CX0 (k + 3) f fd ["self", "one", "other"] (spLink0 K C) := by
  have GChkB : FnOk P w K mg base CX0 (k + 2) fChkB fdChkB ["panel", "value"] (spChkB K) := ok_ChkB FChkB FBtn bBtn gBtn m_bool m_int m_isinstance m_len
  have GRoom : FnOk P w K mg base CX0 (k + 2) fRoom fdRoom ["self"] (spRoom K C) := ok_Room FRoom T  FFree bFree hFree m_len
  refine F.ok scLink0 (fun vs H Q E h => ?_) (fun cdv A outer s H vs Q E hr h => ?_)
  · obtain ⟨t, pan, st, past, one, other, rfl, _⟩ := h
    rfl
  · obtain ⟨t, pan, st, past, one, other, rfl, hD, few, ⟨o0, o1, u0, u1, ne⟩, q⟩ := h
    have hD' := hD
    obtain ⟨⟨dx, pa, p, l, hh, hs, h1, h2, h3, h4, h5, h6⟩, hg, hst, lfe⟩ := hD'
    refine ⟨_, pss_cons (ps_expr (pe_meth0 (pv 0) T.cl hRoom GRoom (hr.mono (by omega)) bRoom .nil pass0))
      (pss_cons (ps_expr (pe_call GChkB (hr.mono (by omega)) (by rfl) gChkB FChkB.kp bChkB .nil pass0 (pa_cons (pe_fld (pv 0) rfl) (pa_cons (pv 1) pa_nil))))
      (pss_cons (ps_expr (pe_call GChkB (hr.mono (by omega)) (by rfl) gChkB FChkB.kp bChkB .nil pass0 (pa_cons (pe_fld (pv 0) rfl) (pa_cons (pv 2) pa_nil))))
      (pss_one (ps_if (pt_cmpR op_eq (pv 1) (pv 2) (nomark _)) (pss_one ps_never) pss_nil)))), ?_⟩
    refine ⟨.ref t, rfl, t, dx, _, rfl, h1, by rfl, t, pan, st, past, rfl, hD, few, fun H1 s1 => ?_⟩
    refine ⟨.ref t, rfl, t, C, dx, _, .ref p, rfl, s1 _ _ h1, T.cl, T.nP, look_panel _ _ _ _, .int one, rfl, p, pan, one, rfl, h3.same s1, o0, o1, fun H2 s2 => ?_⟩
    have s12 := s1.trans s2
    refine ⟨.ref t, rfl, t, C, dx, _, .ref p, rfl, s12 _ _ h1, T.cl, T.nP, look_panel _ _ _ _, .int other, rfl, p, pan, other, rfl, h3.same s12, u0, u1, fun H3 s3 => ?_⟩
    refine gs_noN (gvt_test (K := K) (gv_eqI (gv_var rfl (.int one)) (gv_var rfl (.int other)))) (decide_eq_false ne) fun H4 s4 => q H4 (s12.trans (s3.trans s4))
end
def nAdd : List Str := ["self", "edit", "panel", "latched"]
theorem scAdd : FnScope nAdd ["self", "edit", "panel", "latched"] (defScope sAdd) := ⟨rfl, rfl, rfl, by decide +kernel, rfl, by decide +kernel, by decide +kernel⟩
section
variable {P : Program} {w : World} {K : PySem.W.Frag} {mg : Str → Option Value} {base : Heap}
def spAdd (K : PySem.W.Frag) (C : Addr) : Sp := fun vs H Q _ => ∃ (t : Addr) (pan : List (List Int)) (st : List Int) (past : List (PyData × List (List Int) × List Int)) (ve : V) (de : PyData) (p' l' : Addr) (pan' : List (List Int)) (st' : List Int), vs = [.ref t, ve, .ref p', .ref l'] ∧ DeskAt K C H t pan st past ∧ past.length ≤ 60 ∧ Dp K H ve de ∧ lf de = true ∧ PanT K H p' pan' ∧ Good pan' ∧ H l' = some (.tup (st'.map V.int)) ∧ Asc pan'.length st' ∧
  ∀ H', ButO t H H' → DeskAt K C H' t pan' st' (past ++ [(de, pan, st)]) → Q (.int ((past.length + 1 : Nat) : Int)) H'
theorem ok_Add {fAny : Addr} {fdAny : FuncData} {fHeld : Addr} {fdHeld : FuncData} {C f : Addr} {fd : FuncData} {k : Nat} (F : Fun K "add_edit" "Desk.add_edit" sAdd f fd) (T : TxtD K mg C)
    (FAny : Fun K "releases_any" "releases_any" sAny fAny fdAny) (bAny : Binds K fdAny ["panel", "button", "others"] []) (gAny : mg "releases_any" = some (.ref fAny))
    (FHeld : Fun K "held_buttons" "held_buttons" sHeld fHeld fdHeld) (bHeld : Binds K fdHeld ["panel", "state"] []) (gHeld : mg "held_buttons" = some (.ref fHeld))
    {fShow : Addr} {fdShow : FuncData} (FShow : Fun K "show" "Desk.show" sShow fShow fdShow) (bShow : Binds K fdShow ["self", "panel", "latched"] []) (hShow : Meth K C "show" fShow)
    (m_any : mg "any" = none) (m_len : mg "len" = none) (m_tuple : mg "tuple" = none) : FnOk P w K mg base CX0 (k + 4) f fd ["self", "edit", "panel", "latched"] (spAdd K C) := by
  have GShow : FnOk P w K mg base CX0 (k + 3) fShow fdShow ["self", "panel", "latched"] (spShow K C) := ok_Show FShow T FAny bAny gAny FHeld bHeld gHeld  m_any m_len m_tuple
  refine F.ok scAdd (fun vs H Q E h => ?_) (fun cdv A outer s H vs Q E hr h => ?_)
  · obtain ⟨t, pan, st, past, ve, de, p', l', pan', st', rfl, _⟩ := h
    rfl
  · obtain ⟨t, pan, st, past, ve, de, p', l', pan', st', rfl, hD, few, dve, lde, hp', hg', hl', hst', q⟩ := h
    have hD' := hD
    obtain ⟨⟨dx, pa, p, l, hh, hs, h1, h2, h3, h4, h5, h6⟩, hg, hst, lfe⟩ := hD'
    refine ⟨_, pss_cons (ps_fld (pv 0) (pe_tup (StX.pa_star (pe_fld (pv 0) rfl) (pa_cons (pe_tup (pa_cons (pv 1) (pa_cons (pe_fld (pv 0) rfl) (pa_cons (pe_fld (pv 0) rfl) pa_nil)))) pa_nil))) rfl)
      (pss_cons (ps_expr (pe_meth (pv 0) T.cl hShow GShow (hr.mono (by omega)) bShow .nil pass0 (pa_cons (pv 2) (pa_cons (pv 3) pa_nil))))
      (pss_one (ps_ret (pe_callB (show CallR _ _ (rLenG K) from cr_lenG) (by rfl) m_len PySem.boot_len (pa_cons (pe_fld (pv 0) rfl) pa_nil))))), ?_⟩
    refine seq_hide fun u1 hu1 => ?_
    obtain ⟨xs, hpa, hxs⟩ := h2
    have xl : xs.length ≤ 60 := by rw [hxs.length]; exact few
    refine ⟨.ref t, rfl, t, C, dx, _, .ref pa, rfl, h1, T.cl, T.nA, look_past _ _ _ _, pa, xs, rfl, .inl hpa, ve, rfl, .ref t, rfl, t, C, dx, _, .ref p, rfl, h1, T.cl, T.nP, look_panel _ _ _ _, .ref t, rfl, t, C, dx, _, .ref l, rfl, h1, T.cl, T.nL, look_latched _ _ _ _, by show 3 ≤ sizeLine; decide, fun Te nTe => ⟨?_, fun pa' npa => ?_⟩⟩
    · rw [List.length_append]; exact Nat.le_of_lt (small5 (by show _ + 1 ≤ _; omega))
    have sTe := same_new (o := .tup [ve, .ref p, .ref l]) nTe
    have spa := same_new (o := .tup (xs ++ [.ref Te])) npa
    have s1 := sTe.trans spa
    have eTe := spa _ _ (upd_same (a := Te) (H := H) (o := .tup [ve, .ref p, .ref l]))
    have epa : (upd (upd H Te (.tup [ve, .ref p, .ref l])) pa' (.tup (xs ++ [.ref Te]))) pa' = some (.tup (xs ++ [.ref Te])) := upd_same
    generalize upd (upd H Te (.tup [ve, .ref p, .ref l])) pa' (.tup (xs ++ [.ref Te])) = H1 at s1 eTe epa ⊢
    have e1 := s1 _ _ h1
    refine ⟨.ref t, rfl, t, C, dx, _, rfl, e1, T.cl, T.nA, by show 5 < 1000; decide, ?_⟩
    refine hu1 _ _ _ (seq_hide fun u2 hu2 => ?_)
    rw [put_p]
    have k2 := ButO.upd (g := t) (H := H1) (o := .ins C dx (fldsD pa' p l hh))
    have kp2 := k2.kp e1
    have hP1 : PastAt K H1 pa' (past ++ [(de, pan, st)]) := ⟨_, .inl (.inl epa), prApp (ents_sm s1 hxs) (.cons ⟨Te, p, l, ve, rfl, .inl (.inl eTe), dve.sm s1, h3.same s1, s1 _ _ h4⟩ .nil)⟩
    refine ⟨.ref t, rfl, t, dx, _, rfl, upd_same, by rfl, .ref p', rfl, .ref l', rfl, t, p', l', dx, pa', fldsD pa' p l hh, pan', st', rfl, upd_same, .inr ⟨_, _, _, rfl⟩, (hp'.same s1).kp kp2, hg', .inl (.inl (kp2.1 _ _ (s1 _ _ hl'))), hst', fun H3 h hs' k3 e3 hh' ish => ?_⟩
    have kp3 := kp2.trans (k3.kp upd_same)
    have lfe' : ∀ x ∈ past ++ [(de, pan, st)], lf x.1 = true ∧ Good x.2.1 ∧ Asc x.2.1.length x.2.2 := fun x hx => by
      rcases List.mem_append.mp hx with h | h
      · exact lfe x h
      · rw [List.mem_singleton.mp h]; exact ⟨lde, hg, hst⟩
    have hN : DeskAt K C H3 t pan' st' (past ++ [(de, pan, st)]) := ⟨⟨dx, pa', p', l', h, hs', e3, hP1.kp kp3 lfe', (hp'.same s1).kp kp3, kp3.1 _ _ (s1 _ _ hl'), hh', ish⟩, hg', hst', lfe'⟩
    refine hu2 _ _ _ ?_
    refine gs_ret (K := K) (gv_lenT (gv_past T rfl hN)) fun v H4 s4 dv4 => ?_
    cases dv4
    rw [List.length_map, List.length_append]
    exact q H4 (((ButO.of s1).trans k2).trans (k3.trans (ButO.of s4))) (hN.same s4)
end
def nChg : List Str := ["self", "edit", "panel"]
theorem scChg : FnScope nChg ["self", "edit", "panel"] (defScope sChg) := ⟨rfl, rfl, rfl, by decide +kernel, rfl, by decide +kernel, by decide +kernel⟩
section
variable {P : Program} {w : World} {K : PySem.W.Frag} {mg : Str → Option Value} {base : Heap}
def spChg (K : PySem.W.Frag) (C : Addr) : Sp := fun vs H Q _ => ∃ (t : Addr) (pan : List (List Int)) (st : List Int) (past : List (PyData × List (List Int) × List Int)) (ve : V) (de : PyData) (p' : Addr) (pan' : List (List Int)), vs = [.ref t, ve, .ref p'] ∧ DeskAt K C H t pan st past ∧ past.length ≤ 60 ∧ Dp K H ve de ∧ lf de = true ∧ PanT K H p' pan' ∧ Good pan' ∧ pan'.length = pan.length ∧ pan' ≠ pan ∧
  ∀ H', ButO t H H' → DeskAt K C H' t pan' st (past ++ [(de, pan, st)]) → Q (.int ((past.length + 1 : Nat) : Int)) H'
theorem ok_Chg {fAny : Addr} {fdAny : FuncData} {fHeld : Addr} {fdHeld : FuncData} {C f : Addr} {fd : FuncData} {k : Nat} (F : Fun K "change_panel" "Desk.change_panel" sChg f fd) (T : TxtD K mg C)
    (FAny : Fun K "releases_any" "releases_any" sAny fAny fdAny) (bAny : Binds K fdAny ["panel", "button", "others"] []) (gAny : mg "releases_any" = some (.ref fAny))
    (FHeld : Fun K "held_buttons" "held_buttons" sHeld fHeld fdHeld) (bHeld : Binds K fdHeld ["panel", "state"] []) (gHeld : mg "held_buttons" = some (.ref fHeld))
    {fShow : Addr} {fdShow : FuncData} (FShow : Fun K "show" "Desk.show" sShow fShow fdShow) (bShow : Binds K fdShow ["self", "panel", "latched"] []) (hShow : Meth K C "show" fShow)
    {fAdd : Addr} {fdAdd : FuncData} (FAdd : Fun K "add_edit" "Desk.add_edit" sAdd fAdd fdAdd) (bAdd : Binds K fdAdd ["self", "edit", "panel", "latched"] []) (hAdd : Meth K C "add_edit" fAdd)
    (m_any : mg "any" = none) (m_len : mg "len" = none) (m_tuple : mg "tuple" = none) : FnOk P w K mg base CX0 (k + 5) f fd ["self", "edit", "panel"] (spChg K C) := by
  have GAdd : FnOk P w K mg base CX0 (k + 4) fAdd fdAdd ["self", "edit", "panel", "latched"] (spAdd K C) := ok_Add FAdd T FAny bAny gAny FHeld bHeld gHeld FShow bShow hShow m_any m_len m_tuple
  refine F.ok scChg (fun vs H Q E h => ?_) (fun cdv A outer s H vs Q E hr h => ?_)
  · obtain ⟨t, pan, st, past, ve, de, p', pan', rfl, _⟩ := h
    rfl
  · obtain ⟨t, pan, st, past, ve, de, p', pan', rfl, hD, few, dve, lde, hp', hg', hpl, hne, q⟩ := h
    have hD' := hD
    obtain ⟨⟨dx, pa, p, l, hh, hs, h1, h2, h3, h4, h5, h6⟩, hg, hst, lfe⟩ := hD'
    refine ⟨_, pss_cons (ps_if (pt_cmpR (show OpR _ _ (rEqD K) from op_eqD hr.units) (pv 2) (pe_fld (pv 0) rfl) (nomark _)) (pss_one ps_never) pss_nil)
      (pss_one (ps_ret (pe_meth (pv 0) T.cl hAdd GAdd (hr.mono (by omega)) bAdd .nil pass0 (pa_cons (pv 1) (pa_cons (pv 2) (pa_cons (pe_fld (pv 0) rfl) pa_nil)))))), ?_⟩
    refine gs_no (gvt_test (K := K) (gv_eqD (gv_var rfl hp'.dp) (gv_panel T rfl hD) (shp_rowsT _) (shp_rowsT _))) ((eqv_rowsT _ _).trans (decide_eq_false hne)) fun H1 s1 => ?_
    refine ⟨.ref t, rfl, t, dx, _, rfl, s1 _ _ h1, by rfl, ve, rfl, .ref p', rfl, .ref t, rfl, t, C, dx, _, .ref l, rfl, s1 _ _ h1, T.cl, T.nL, look_latched _ _ _ _, t, pan, st, past, ve, de, p', l, pan', st, rfl, hD.same s1, few, dve.sm s1, lde, hp'.same s1, hg', s1 _ _ h4, by rw [hpl]; exact hst, fun H2 k2 hN => q H2 ((ButO.of s1).trans k2) hN⟩
end
def nPressD : List Str := ["self", "button", "latched"]
theorem scPressD : FnScope nPressD ["self", "button"] (defScope sPressD) := ⟨rfl, rfl, rfl, by decide +kernel, rfl, by decide +kernel, by decide +kernel⟩
section
variable {P : Program} {w : World} {K : PySem.W.Frag} {mg : Str → Option Value} {base : Heap}
def spPressD (K : PySem.W.Frag) (C : Addr) : Sp := fun vs H Q _ => ∃ (t : Addr) (pan : List (List Int)) (st : List Int) (past : List (PyData × List (List Int) × List Int)) (b : Int), vs = [.ref t, .int b] ∧ DeskAt K C H t pan st past ∧ past.length < 60 ∧ 0 ≤ b ∧ b < (pan.length : Int) ∧
  ∀ H', ButO t H H' → DeskAt K C H' t pan (pressM pan st b) (past ++ [(.tuple [.str "press", .int b], pan, st)]) → Q (.int ((past.length + 1 : Nat) : Int)) H'
theorem ok_PressD {fBtn : Addr} {fdBtn : FuncData} {fPress : Addr} {fdPress : FuncData} {fAny : Addr} {fdAny : FuncData} {fHeld : Addr} {fdHeld : FuncData} {fChkB : Addr} {fdChkB : FuncData} {C f : Addr} {fd : FuncData} {k : Nat} (F : Fun K "press" "Desk.press" sPressD f fd) (T : TxtD K mg C)
    (FBtn : Fun K "is_button" "is_button" sBtn fBtn fdBtn) (bBtn : Binds K fdBtn ["value", "many"] []) (gBtn : mg "is_button" = some (.ref fBtn))
    (FPress : Fun K "press_button" "press_button" sPress fPress fdPress) (bPress : Binds K fdPress ["panel", "state", "button"] []) (gPress : mg "press_button" = some (.ref fPress))
    (FAny : Fun K "releases_any" "releases_any" sAny fAny fdAny) (bAny : Binds K fdAny ["panel", "button", "others"] []) (gAny : mg "releases_any" = some (.ref fAny))
    (FHeld : Fun K "held_buttons" "held_buttons" sHeld fHeld fdHeld) (bHeld : Binds K fdHeld ["panel", "state"] []) (gHeld : mg "held_buttons" = some (.ref fHeld))
    (FChkB : Fun K "check_button" "check_button" sChkB fChkB fdChkB) (bChkB : Binds K fdChkB ["panel", "value"] []) (gChkB : mg "check_button" = some (.ref fChkB))
    {fFree : Addr} {fdFree : FuncData} (FFree : Fun K "check_free" "Desk.check_free" sFree fFree fdFree) (bFree : Binds K fdFree ["self"] []) (hFree : Meth K C "check_free" fFree)
    {fRoom : Addr} {fdRoom : FuncData} (FRoom : Fun K "check_room" "Desk.check_room" sRoom fRoom fdRoom) (bRoom : Binds K fdRoom ["self"] []) (hRoom : Meth K C "check_room" fRoom)
    {fShow : Addr} {fdShow : FuncData} (FShow : Fun K "show" "Desk.show" sShow fShow fdShow) (bShow : Binds K fdShow ["self", "panel", "latched"] []) (hShow : Meth K C "show" fShow)
    {fAdd : Addr} {fdAdd : FuncData} (FAdd : Fun K "add_edit" "Desk.add_edit" sAdd fAdd fdAdd) (bAdd : Binds K fdAdd ["self", "edit", "panel", "latched"] []) (hAdd : Meth K C "add_edit" fAdd)
    (m_any : mg "any" = none) (m_bool : mg "bool" = none) (m_int : mg "int" = none) (m_isinstance : mg "isinstance" = none) (m_len : mg "len" = none) (m_sorted : mg "sorted" = none) (m_tuple : mg "tuple" = none) : FnOk P w K mg base CX0 (k + 5) f fd ["self", "button"] (spPressD K C) := by
  have GChkB : FnOk P w K mg base CX0 (k + 2) fChkB fdChkB ["panel", "value"] (spChkB K) := ok_ChkB FChkB FBtn bBtn gBtn m_bool m_int m_isinstance m_len
  have GPress : FnOk P w K mg base CX0 (k + 1) fPress fdPress ["panel", "state", "button"] (spPress K) := ok_Press FPress m_sorted m_tuple
  have GRoom : FnOk P w K mg base CX0 (k + 2) fRoom fdRoom ["self"] (spRoom K C) := ok_Room FRoom T  FFree bFree hFree m_len
  have GAdd : FnOk P w K mg base CX0 (k + 4) fAdd fdAdd ["self", "edit", "panel", "latched"] (spAdd K C) := ok_Add FAdd T FAny bAny gAny FHeld bHeld gHeld FShow bShow hShow m_any m_len m_tuple
  refine F.ok scPressD (fun vs H Q E h => ?_) (fun cdv A outer s H vs Q E hr h => ?_)
  · obtain ⟨t, pan, st, past, b, rfl, _⟩ := h
    rfl
  · obtain ⟨t, pan, st, past, b, rfl, hD, few, b0, b1, q⟩ := h
    have hD' := hD
    obtain ⟨⟨dx, pa, p, l, hh, hs, h1, h2, h3, h4, h5, h6⟩, hg, hst, lfe⟩ := hD'
    refine ⟨_, pss_cons (ps_expr (pe_meth0 (pv 0) T.cl hRoom GRoom (hr.mono (by omega)) bRoom .nil pass0))
      (pss_cons (ps_expr (pe_call GChkB (hr.mono (by omega)) (by rfl) gChkB FChkB.kp bChkB .nil pass0 (pa_cons (pe_fld (pv 0) rfl) (pa_cons (pv 1) pa_nil))))
      (pss_cons (ps_set (i := 2) scPressD.nd rfl (.inl rfl) (pe_call GPress (hr.mono (by omega)) (by rfl) gPress FPress.kp bPress .nil pass0 (pa_cons (pe_fld (pv 0) rfl) (pa_cons (pe_fld (pv 0) rfl) (pa_cons (pv 1) pa_nil)))))
      (pss_one (ps_ret (pe_meth (pv 0) T.cl hAdd GAdd (hr.mono (by omega)) bAdd .nil pass0 (pa_cons (pe_tup (pa_cons pe_str (pa_cons (pv 1) pa_nil))) (pa_cons (pe_fld (pv 0) rfl) (pa_cons (pv 2) pa_nil)))))))), ?_⟩
    refine seq_hide fun u1 hu1 => ?_
    refine ⟨.ref t, rfl, t, dx, _, rfl, h1, by rfl, t, pan, st, past, rfl, hD, few, fun H1 s1 => ?_⟩
    refine hu1 _ _ _ (seq_hide fun u2 hu2 => ?_)
    refine ⟨.ref t, rfl, t, C, dx, _, .ref p, rfl, s1 _ _ h1, T.cl, T.nP, look_panel _ _ _ _, .int b, rfl, p, pan, b, rfl, h3.same s1, b0, b1, fun H2 s2 => ?_⟩
    refine hu2 _ _ _ (seq_hide fun u3 hu3 => ?_)
    have s12 := s1.trans s2
    have e2 := s12 _ _ h1
    refine ⟨.ref t, rfl, t, C, dx, _, .ref p, rfl, e2, T.cl, T.nP, look_panel _ _ _ _, .ref t, rfl, t, C, dx, _, .ref l, rfl, e2, T.cl, T.nL, look_latched _ _ _ _, .int b, rfl, pan, st, b, .cons (h3.same s12).dp (.cons (dp_ints (.inl (.inl (s12 _ _ h4)))) (.cons (.int _) .nil)), hst, hg.few, b0, b1, fun H3 l' s3 el => ?_⟩
    refine hu3 _ _ _ ?_
    have s13 := s12.trans s3
    have e3 := s13 _ _ h1
    refine ⟨.ref t, rfl, t, dx, _, rfl, e3, by rfl, .int b, rfl, by show 2 ≤ sizeLine; decide, fun Te nTe => ?_⟩
    have sTe := same_new (o := .tup [.str "press", .int b]) nTe
    have s14 := s13.trans sTe
    refine ⟨.ref t, rfl, t, C, dx, _, .ref p, rfl, s14 _ _ h1, T.cl, T.nP, look_panel _ _ _ _, .ref l', rfl, t, pan, st, past, .ref Te, _, p, l', pan, pressM pan st b, rfl, hD.same s14, by omega, .tup (.inl (.inl upd_same)) (.cons (.str _) (.cons (.int _) .nil)), rfl, h3.same s14, hg, sTe _ _ el, pressM_asc _ _ _, fun H5 k5 hN => q H5 ((ButO.of s14).trans k5) hN⟩
end
end K57
namespace Pr
open PySem PySem.Spec PyProof.Rows L2
theorem srt_mem {l : List Int} {x : Int} : x ∈ srt l ↔ x ∈ l := (srt_perm l).mem_iff
theorem srt_asc {l : List Int} (nd : l.Nodup) : (srt l).Pairwise (· < ·) := by
  have nd' : (srt l).Nodup := (srt_perm l).nodup_iff.mpr nd
  exact (List.Pairwise.and (srt_up l) nd').imp fun {a b} h => by have := h.1; have := h.2; omega
end Pr
namespace K57
open PySem PySem.Spec PyProof.Rows L2 Pr
theorem set_mem {pan : List (List Int)} {i : Nat} {x l : List Int} (h : l ∈ pan.set i x) : l = x ∨ l ∈ pan := by
  rcases List.mem_or_eq_of_mem_set h with h | h
  · exact .inr h
  · exact .inl h
theorem good_set {pan : List (List Int)} (g : Good pan) {i : Nat} {x : List Int} (hi : i < pan.length) (up : x.Pairwise (· < ·)) (rng : ∀ y ∈ x, 0 ≤ y ∧ y < (pan.length : Int)) (own : (i : Int) ∉ x) : Good (pan.set i x) := by
  have hl : (pan.set i x).length = pan.length := List.length_set
  refine ⟨by rw [hl]; exact g.pos, by rw [hl]; exact g.few, fun l h => ?_, fun l h => ?_, fun j l h => ?_⟩
  · rcases set_mem h with rfl | h
    · exact up
    · exact g.up l h
  · rw [hl]
    rcases set_mem h with rfl | h
    · exact rng
    · exact g.rng l h
  · rw [List.getElem?_set] at h
    by_cases e : i = j
    · rw [if_pos e, if_pos hi] at h
      cases h
      rw [← e]; exact own
    · rw [if_neg e] at h
      exact g.own j l h
theorem rel_mem {pan : List (List Int)} {i : Nat} (hi : i < pan.length) : pan.getD i [] ∈ pan := by
  rw [List.getD_eq_getElem?_getD, List.getElem?_eq_getElem hi]; exact List.getElem_mem hi
theorem good_li {pan : List (List Int)} (g : Good pan) {one other : Int} (h : InP2 pan one other) (hn : other ∉ pan.getD one.toNat []) : Good (liM pan one other) ∧ (liM pan one other).length = pan.length ∧ liM pan one other ≠ pan := by
  obtain ⟨o0, o1, u0, u1, ne⟩ := h
  have hi : one.toNat < pan.length := by omega
  have e : liM pan one other = pan.set one.toNat (srt (pan.getD one.toNat [] ++ [other])) := by unfold liM; rw [if_neg hn]
  have hm := rel_mem hi
  have up := g.up _ hm
  rw [e]
  have nd : (pan.getD one.toNat [] ++ [other]).Nodup := by
    rw [List.nodup_append]
    refine ⟨up.imp fun {a b} h => by omega, by simp, fun x hx y hy z => ?_⟩
    rw [List.mem_singleton.mp hy] at z
    exact hn (z ▸ hx)
  have mem : ∀ x, x ∈ srt (pan.getD one.toNat [] ++ [other]) ↔ x ∈ pan.getD one.toNat [] ∨ x = other := fun x => by rw [srt_mem, List.mem_append, List.mem_singleton]
  refine ⟨good_set g hi (srt_asc nd) (fun y hy => ?_) (fun h => ?_), List.length_set, fun z => ?_⟩
  · rcases (mem y).mp hy with h | rfl
    · exact g.rng _ hm y h
    · exact ⟨u0, u1⟩
  · rcases (mem _).mp h with h | h
    · exact g.own' (b := one) o0 o1 (by rwa [show ((one.toNat : Nat) : Int) = one by omega] at h)
    · omega
  · have : (pan.set one.toNat (srt (pan.getD one.toNat [] ++ [other]))).getD one.toNat [] = pan.getD one.toNat [] := by rw [z]
    rw [List.getD_eq_getElem?_getD, List.getElem?_set, if_pos rfl, if_pos hi] at this
    replace this : srt (pan.getD one.toNat [] ++ [other]) = pan.getD one.toNat [] := this
    exact hn (by rw [← this]; exact (mem other).mpr (.inr rfl))
theorem good_un {pan : List (List Int)} (g : Good pan) {one other : Int} (h : InP2 pan one other) (hn : other ∈ pan.getD one.toNat []) : Good (unM pan one other) ∧ (unM pan one other).length = pan.length ∧ unM pan one other ≠ pan := by
  obtain ⟨o0, o1, u0, u1, ne⟩ := h
  have hi : one.toNat < pan.length := by omega
  have e : unM pan one other = pan.set one.toNat ((pan.getD one.toNat []).filter fun x => !decide (x = other)) := by unfold unM; rw [if_pos hn]
  have hm := rel_mem hi
  rw [e]
  refine ⟨good_set g hi ((g.up _ hm).filter _) (fun y hy => g.rng _ hm y (List.mem_filter.mp hy).1) (fun h => ?_), List.length_set, fun z => ?_⟩
  · exact g.own' (b := one) o0 o1 (by have := (List.mem_filter.mp h).1; rwa [show ((one.toNat : Nat) : Int) = one by omega] at this)
  · have : (pan.set one.toNat ((pan.getD one.toNat []).filter fun x => !decide (x = other))).getD one.toNat [] = pan.getD one.toNat [] := by rw [z]
    rw [List.getD_eq_getElem?_getD, List.getElem?_set, if_pos rfl, if_pos hi] at this
    replace this : (pan.getD one.toNat []).filter (fun x => !decide (x = other)) = pan.getD one.toNat [] := this
    rw [← this] at hn
    simpa using (List.mem_filter.mp hn).2
theorem pan_ok {pan : List (List Int)} (g : Good pan) : pan.length ≤ 100 ∧ ∀ l ∈ pan, l.length ≤ 60 := ⟨by have := g.few; omega, fun l hl => by
  have := pw_length (n := 10) (lo := 0) (g.up l hl) fun x hx => by have := g.rng l hl x hx; have := g.few; omega
  omega⟩
def dLk (w : Str) (one other : Int) : PyData := .tuple [.str w, .int one, .int other]
def nLink : List Str := ["self", "one", "other"]
theorem scLink : FnScope nLink ["self", "one", "other"] (defScope sLink) := ⟨rfl, rfl, rfl, by decide +kernel, rfl, by decide +kernel, by decide +kernel⟩
section
variable {P : Program} {w : World} {K : PySem.W.Frag} {mg : Str → Option Value} {base : Heap}
def spLink (K : PySem.W.Frag) (C : Addr) : Sp := fun vs H Q _ => ∃ (t : Addr) (pan : List (List Int)) (st : List Int) (past : List (PyData × List (List Int) × List Int)) (one other : Int), vs = [.ref t, .int one, .int other] ∧ DeskAt K C H t pan st past ∧ past.length < 60 ∧ InP2 pan one other ∧ other ∉ pan.getD one.toNat [] ∧
  ∀ H', ButO t H H' → DeskAt K C H' t (liM pan one other) st (past ++ [(dLk "link" one other, pan, st)]) → Q (.int ((past.length + 1 : Nat) : Int)) H'
theorem ok_Link {fWl : Addr} {fdWl : FuncData} {fLi : Addr} {fdLi : FuncData} {fBtn : Addr} {fdBtn : FuncData} {fAny : Addr} {fdAny : FuncData} {fHeld : Addr} {fdHeld : FuncData} {fChkB : Addr} {fdChkB : FuncData} {C f : Addr} {fd : FuncData} {k : Nat} (F : Fun K "link" "Desk.link" sLink f fd) (T : TxtD K mg C)
    (FWl : Fun K "with_list" "with_list" sWl fWl fdWl) (bWl : Binds K fdWl ["panel", "button", "released"] []) (gWl : mg "with_list" = some (.ref fWl))
    (FLi : Fun K "linked" "linked" sLi fLi fdLi) (bLi : Binds K fdLi ["panel", "one", "other"] []) (gLi : mg "linked" = some (.ref fLi))
    (FBtn : Fun K "is_button" "is_button" sBtn fBtn fdBtn) (bBtn : Binds K fdBtn ["value", "many"] []) (gBtn : mg "is_button" = some (.ref fBtn))
    (FAny : Fun K "releases_any" "releases_any" sAny fAny fdAny) (bAny : Binds K fdAny ["panel", "button", "others"] []) (gAny : mg "releases_any" = some (.ref fAny))
    (FHeld : Fun K "held_buttons" "held_buttons" sHeld fHeld fdHeld) (bHeld : Binds K fdHeld ["panel", "state"] []) (gHeld : mg "held_buttons" = some (.ref fHeld))
    (FChkB : Fun K "check_button" "check_button" sChkB fChkB fdChkB) (bChkB : Binds K fdChkB ["panel", "value"] []) (gChkB : mg "check_button" = some (.ref fChkB))
    {fFree : Addr} {fdFree : FuncData} (FFree : Fun K "check_free" "Desk.check_free" sFree fFree fdFree) (bFree : Binds K fdFree ["self"] []) (hFree : Meth K C "check_free" fFree)
    {fRoom : Addr} {fdRoom : FuncData} (FRoom : Fun K "check_room" "Desk.check_room" sRoom fRoom fdRoom) (bRoom : Binds K fdRoom ["self"] []) (hRoom : Meth K C "check_room" fRoom)
    {fLink0 : Addr} {fdLink0 : FuncData} (FLink0 : Fun K "check_link" "Desk.check_link" sLink0 fLink0 fdLink0) (bLink0 : Binds K fdLink0 ["self", "one", "other"] []) (hLink0 : Meth K C "check_link" fLink0)
    {fShow : Addr} {fdShow : FuncData} (FShow : Fun K "show" "Desk.show" sShow fShow fdShow) (bShow : Binds K fdShow ["self", "panel", "latched"] []) (hShow : Meth K C "show" fShow)
    {fAdd : Addr} {fdAdd : FuncData} (FAdd : Fun K "add_edit" "Desk.add_edit" sAdd fAdd fdAdd) (bAdd : Binds K fdAdd ["self", "edit", "panel", "latched"] []) (hAdd : Meth K C "add_edit" fAdd)
    {fChg : Addr} {fdChg : FuncData} (FChg : Fun K "change_panel" "Desk.change_panel" sChg fChg fdChg) (bChg : Binds K fdChg ["self", "edit", "panel"] []) (hChg : Meth K C "change_panel" fChg)
    (m_any : mg "any" = none) (m_bool : mg "bool" = none) (m_enumerate : mg "enumerate" = none) (m_int : mg "int" = none) (m_isinstance : mg "isinstance" = none) (m_len : mg "len" = none) (m_sorted : mg "sorted" = none) (m_tuple : mg "tuple" = none) : FnOk P w K mg base CX0 (k + 6) f fd ["self", "one", "other"] (spLink K C) := by
  have GLi : FnOk P w K mg base CX0 (k + 2) fLi fdLi ["panel", "one", "other"] (spLi K) := ok_Li FLi FWl bWl gWl m_enumerate m_sorted m_tuple
  have GLink0 : FnOk P w K mg base CX0 (k + 3) fLink0 fdLink0 ["self", "one", "other"] (spLink0 K C) := ok_Link0 FLink0 T FBtn bBtn gBtn FChkB bChkB gChkB FFree bFree hFree FRoom bRoom hRoom m_bool m_int m_isinstance m_len
  have GChg : FnOk P w K mg base CX0 (k + 5) fChg fdChg ["self", "edit", "panel"] (spChg K C) := ok_Chg FChg T FAny bAny gAny FHeld bHeld gHeld FShow bShow hShow FAdd bAdd hAdd m_any m_len m_tuple
  refine F.ok scLink (fun vs H Q E h => ?_) (fun cdv A outer s H vs Q E hr h => ?_)
  · obtain ⟨t, pan, st, past, one, other, rfl, _⟩ := h
    rfl
  · obtain ⟨t, pan, st, past, one, other, rfl, hD, few, hI, hn, q⟩ := h
    have hD' := hD
    obtain ⟨⟨dx, pa, p, l, hh, hs, h1, h2, h3, h4, h5, h6⟩, hg, hst, lfe⟩ := hD'
    refine ⟨_, pss_cons (ps_expr (pe_meth (pv 0) T.cl hLink0 GLink0 (hr.mono (by omega)) bLink0 .nil pass0 (pa_cons (pv 1) (pa_cons (pv 2) pa_nil))))
      (pss_one (ps_ret (pe_meth (pv 0) T.cl hChg GChg (hr.mono (by omega)) bChg .nil pass0 (pa_cons (pe_tup (pa_cons pe_str (pa_cons (pv 1) (pa_cons (pv 2) pa_nil)))) (pa_cons (pe_call GLi (hr.mono (by omega)) (by rfl) gLi FLi.kp bLi .nil pass0 (pa_cons (pe_fld (pv 0) rfl) (pa_cons (pv 1) (pa_cons (pv 2) pa_nil)))) pa_nil))))), ?_⟩
    refine ⟨.ref t, rfl, t, dx, _, rfl, h1, by rfl, .int one, rfl, .int other, rfl, t, pan, st, past, one, other, rfl, hD, few, hI, fun H1 s1 => ?_⟩
    obtain ⟨g', l', n'⟩ := good_li hg hI hn
    have e1 := s1 _ _ h1
    refine ⟨.ref t, rfl, t, dx, _, rfl, e1, by rfl, .int one, rfl, .int other, rfl, by show 3 ≤ sizeLine; decide, fun Te nTe => ?_⟩
    have sTe := same_new (o := .tup [.str "link", .int one, .int other]) nTe
    have hD2 := (hD.same s1).same sTe
    refine (gv_Li (K := K) (gva_cons (gv_panel (i := 0) T rfl hD2) (gva_cons (gv_var (i := 1) rfl (.int one)) (gva_cons (gv_var (i := 2) rfl (.int other)) gva_nil))) ⟨(pan_ok hg).1, (pan_ok hg).2, hI.1, hI.2.1⟩).at fun v H3 s3 dv => ?_
    obtain ⟨p', rfl, hp'⟩ := panT_dp dv
    have s13 := (s1.trans sTe).trans s3
    exact ⟨t, pan, st, past, .ref Te, dLk "link" one other, p', _, rfl, hD.same s13, by omega, .tup (.inl (.inl (s3 _ _ upd_same))) (.cons (.str _) (.cons (.int _) (.cons (.int _) .nil))), rfl, hp', g', l', n', fun H4 k4 hN => q H4 ((ButO.of s13).trans k4) hN⟩
end
def nUnlink : List Str := ["self", "one", "other"]
theorem scUnlink : FnScope nUnlink ["self", "one", "other"] (defScope sUnlink) := ⟨rfl, rfl, rfl, by decide +kernel, rfl, by decide +kernel, by decide +kernel⟩
section
variable {P : Program} {w : World} {K : PySem.W.Frag} {mg : Str → Option Value} {base : Heap}
def spUnlink (K : PySem.W.Frag) (C : Addr) : Sp := fun vs H Q _ => ∃ (t : Addr) (pan : List (List Int)) (st : List Int) (past : List (PyData × List (List Int) × List Int)) (one other : Int), vs = [.ref t, .int one, .int other] ∧ DeskAt K C H t pan st past ∧ past.length < 60 ∧ InP2 pan one other ∧ other ∈ pan.getD one.toNat [] ∧
  ∀ H', ButO t H H' → DeskAt K C H' t (unM pan one other) st (past ++ [(dLk "unlink" one other, pan, st)]) → Q (.int ((past.length + 1 : Nat) : Int)) H'
theorem ok_Unlink {fWl : Addr} {fdWl : FuncData} {fUn : Addr} {fdUn : FuncData} {fBtn : Addr} {fdBtn : FuncData} {fAny : Addr} {fdAny : FuncData} {fHeld : Addr} {fdHeld : FuncData} {fChkB : Addr} {fdChkB : FuncData} {C f : Addr} {fd : FuncData} {k : Nat} (F : Fun K "unlink" "Desk.unlink" sUnlink f fd) (T : TxtD K mg C)
    (FWl : Fun K "with_list" "with_list" sWl fWl fdWl) (bWl : Binds K fdWl ["panel", "button", "released"] []) (gWl : mg "with_list" = some (.ref fWl))
    (FUn : Fun K "unlinked" "unlinked" sUn fUn fdUn) (bUn : Binds K fdUn ["panel", "one", "other"] []) (gUn : mg "unlinked" = some (.ref fUn))
    (FBtn : Fun K "is_button" "is_button" sBtn fBtn fdBtn) (bBtn : Binds K fdBtn ["value", "many"] []) (gBtn : mg "is_button" = some (.ref fBtn))
    (FAny : Fun K "releases_any" "releases_any" sAny fAny fdAny) (bAny : Binds K fdAny ["panel", "button", "others"] []) (gAny : mg "releases_any" = some (.ref fAny))
    (FHeld : Fun K "held_buttons" "held_buttons" sHeld fHeld fdHeld) (bHeld : Binds K fdHeld ["panel", "state"] []) (gHeld : mg "held_buttons" = some (.ref fHeld))
    (FChkB : Fun K "check_button" "check_button" sChkB fChkB fdChkB) (bChkB : Binds K fdChkB ["panel", "value"] []) (gChkB : mg "check_button" = some (.ref fChkB))
    {fFree : Addr} {fdFree : FuncData} (FFree : Fun K "check_free" "Desk.check_free" sFree fFree fdFree) (bFree : Binds K fdFree ["self"] []) (hFree : Meth K C "check_free" fFree)
    {fRoom : Addr} {fdRoom : FuncData} (FRoom : Fun K "check_room" "Desk.check_room" sRoom fRoom fdRoom) (bRoom : Binds K fdRoom ["self"] []) (hRoom : Meth K C "check_room" fRoom)
    {fLink0 : Addr} {fdLink0 : FuncData} (FLink0 : Fun K "check_link" "Desk.check_link" sLink0 fLink0 fdLink0) (bLink0 : Binds K fdLink0 ["self", "one", "other"] []) (hLink0 : Meth K C "check_link" fLink0)
    {fShow : Addr} {fdShow : FuncData} (FShow : Fun K "show" "Desk.show" sShow fShow fdShow) (bShow : Binds K fdShow ["self", "panel", "latched"] []) (hShow : Meth K C "show" fShow)
    {fAdd : Addr} {fdAdd : FuncData} (FAdd : Fun K "add_edit" "Desk.add_edit" sAdd fAdd fdAdd) (bAdd : Binds K fdAdd ["self", "edit", "panel", "latched"] []) (hAdd : Meth K C "add_edit" fAdd)
    {fChg : Addr} {fdChg : FuncData} (FChg : Fun K "change_panel" "Desk.change_panel" sChg fChg fdChg) (bChg : Binds K fdChg ["self", "edit", "panel"] []) (hChg : Meth K C "change_panel" fChg)
    (m_any : mg "any" = none) (m_bool : mg "bool" = none) (m_enumerate : mg "enumerate" = none) (m_int : mg "int" = none) (m_isinstance : mg "isinstance" = none) (m_len : mg "len" = none) (m_tuple : mg "tuple" = none) : FnOk P w K mg base CX0 (k + 6) f fd ["self", "one", "other"] (spUnlink K C) := by
  have GUn : FnOk P w K mg base CX0 (k + 2) fUn fdUn ["panel", "one", "other"] (spUn K) := ok_Un FUn FWl bWl gWl m_enumerate m_tuple
  have GLink0 : FnOk P w K mg base CX0 (k + 3) fLink0 fdLink0 ["self", "one", "other"] (spLink0 K C) := ok_Link0 FLink0 T FBtn bBtn gBtn FChkB bChkB gChkB FFree bFree hFree FRoom bRoom hRoom m_bool m_int m_isinstance m_len
  have GChg : FnOk P w K mg base CX0 (k + 5) fChg fdChg ["self", "edit", "panel"] (spChg K C) := ok_Chg FChg T FAny bAny gAny FHeld bHeld gHeld FShow bShow hShow FAdd bAdd hAdd m_any m_len m_tuple
  refine F.ok scUnlink (fun vs H Q E h => ?_) (fun cdv A outer s H vs Q E hr h => ?_)
  · obtain ⟨t, pan, st, past, one, other, rfl, _⟩ := h
    rfl
  · obtain ⟨t, pan, st, past, one, other, rfl, hD, few, hI, hn, q⟩ := h
    have hD' := hD
    obtain ⟨⟨dx, pa, p, l, hh, hs, h1, h2, h3, h4, h5, h6⟩, hg, hst, lfe⟩ := hD'
    refine ⟨_, pss_cons (ps_expr (pe_meth (pv 0) T.cl hLink0 GLink0 (hr.mono (by omega)) bLink0 .nil pass0 (pa_cons (pv 1) (pa_cons (pv 2) pa_nil))))
      (pss_one (ps_ret (pe_meth (pv 0) T.cl hChg GChg (hr.mono (by omega)) bChg .nil pass0 (pa_cons (pe_tup (pa_cons pe_str (pa_cons (pv 1) (pa_cons (pv 2) pa_nil)))) (pa_cons (pe_call GUn (hr.mono (by omega)) (by rfl) gUn FUn.kp bUn .nil pass0 (pa_cons (pe_fld (pv 0) rfl) (pa_cons (pv 1) (pa_cons (pv 2) pa_nil)))) pa_nil))))), ?_⟩
    refine ⟨.ref t, rfl, t, dx, _, rfl, h1, by rfl, .int one, rfl, .int other, rfl, t, pan, st, past, one, other, rfl, hD, few, hI, fun H1 s1 => ?_⟩
    obtain ⟨g', l', n'⟩ := good_un hg hI hn
    have e1 := s1 _ _ h1
    refine ⟨.ref t, rfl, t, dx, _, rfl, e1, by rfl, .int one, rfl, .int other, rfl, by show 3 ≤ sizeLine; decide, fun Te nTe => ?_⟩
    have sTe := same_new (o := .tup [.str "unlink", .int one, .int other]) nTe
    have hD2 := (hD.same s1).same sTe
    refine (gv_Un (K := K) (gva_cons (gv_panel (i := 0) T rfl hD2) (gva_cons (gv_var (i := 1) rfl (.int one)) (gva_cons (gv_var (i := 2) rfl (.int other)) gva_nil))) ⟨(pan_ok hg).1, (pan_ok hg).2, hI.1, hI.2.1⟩).at fun v H3 s3 dv => ?_
    obtain ⟨p', rfl, hp'⟩ := panT_dp dv
    have s13 := (s1.trans sTe).trans s3
    exact ⟨t, pan, st, past, .ref Te, dLk "unlink" one other, p', _, rfl, hD.same s13, by omega, .tup (.inl (.inl (s3 _ _ upd_same))) (.cons (.str _) (.cons (.int _) (.cons (.int _) .nil))), rfl, hp', g', l', n', fun H4 k4 hN => q H4 ((ButO.of s13).trans k4) hN⟩
end
def nEdits : List Str := ["self", "edit", "panel", "latched"]
theorem scEdits : FnScope nEdits ["self"] (defScope sEdits) := ⟨rfl, rfl, rfl, by decide +kernel, rfl, by decide +kernel, by decide +kernel⟩
section
variable {P : Program} {w : World} {K : PySem.W.Frag} {mg : Str → Option Value} {base : Heap}
def spEdits (K : PySem.W.Frag) (C : Addr) : Sp := fun vs H Q _ => ∃ (t : Addr) (pan : List (List Int)) (st : List Int) (past : List (PyData × List (List Int) × List Int)), vs = [.ref t] ∧ DeskAt K C H t pan st past ∧ past.length ≤ 1000 ∧ ∀ H' v, Same H H' → Dp K H' v (.tuple (past.map (·.1))) → Q v H'
theorem ok_Edits  {C f : Addr} {fd : FuncData} {k : Nat} (F : Fun K "edits" "Desk.edits" sEdits f fd) (T : TxtD K mg C)
    (m_tuple : mg "tuple" = none) : FnOk P w K mg base CX0 (k + 1) f fd ["self"] (spEdits K C) := by
  refine F.ok scEdits (fun vs H Q E h => ?_) (fun cdv A outer s H vs Q E hr h => ?_)
  · obtain ⟨t, pan, st, past, rfl, _⟩ := h
    rfl
  · obtain ⟨t, pan, st, past, rfl, hD, few, q⟩ := h
    have hD' := hD
    obtain ⟨⟨dx, pa, p, l, hh, hs, h1, h2, h3, h4, h5, h6⟩, hg, hst, lfe⟩ := hD'
    refine ⟨_, pss_one (ps_ret (pe_callTy (show CallR _ _ (rTupG K) from cr_tupG) (by rfl) m_tuple (by decide +kernel) (pa_cons (pe_lc (own := [("edit", 1), ("panel", 2), ("latched", 3)]) (g := gTup K 3 (gCons (gName 1) (gCons (gName 2) (gCons (gName 3) gNil)))) (tt := tYes) rfl scEdits.nd (show PI _ _ _ (iTup K _) from pi_tup (pe_fld (pv 0) rfl)) (blkOk_by (own := [("edit", 1), ("panel", 2), ("latched", 3)]) (N := nEdits) (sc := defScope sEdits) (by decide +kernel)) (fun _ _ _ _ _ => pg_tup rfl (pgs_cons (pg_name (i := 1) scEdits.nd rfl (Or.inl rfl)) (pgs_cons (pg_name (i := 2) scEdits.nd rfl (Or.inl rfl)) (pgs_cons (pg_name (i := 3) scEdits.nd rfl (Or.inl rfl)) pgs_nil)))) (fun _ _ _ _ _ => pts_nil) (fun _ _ _ _ _ => pv 1)) pa_nil))), ?_⟩
    refine gs_ret (K := K) (gv_tupL ((gn_lc3 (δ1 := fun x : PyData × List (List Int) × List Int => x.1) (δ2 := fun x => dPan x.2.1) (δ3 := fun x => dInts x.2.2) (as := past) (p := fun _ => true) (f := fun x => x.1) (gvi_tup (gv_past T rfl hD)) (fun x v u w H1 hx s1 dv du dw => ⟨gvt_yes, fun _ => gv_var rfl dv⟩) (fun x hx => (lfe x hx).1) (by omega) (by decide) (by decide) (by decide)).gv)) fun v H1 s1 dv => q H1 v s1 ?_
    rwa [List.filter_eq_self.mpr (fun _ _ => rfl)] at dv
end
def nLenD : List Str := ["self"]
theorem scLenD : FnScope nLenD ["self"] (defScope sLenD) := ⟨rfl, rfl, rfl, by decide +kernel, rfl, by decide +kernel, by decide +kernel⟩
section
variable {P : Program} {w : World} {K : PySem.W.Frag} {mg : Str → Option Value} {base : Heap}
def spLenD (K : PySem.W.Frag) (C : Addr) : Sp := fun vs H Q _ => ∃ (t : Addr) (pan : List (List Int)) (st : List Int) (past : List (PyData × List (List Int) × List Int)), vs = [.ref t] ∧ DeskAt K C H t pan st past ∧ ∀ H', Same H H' → Q (.int (past.length : Nat)) H'
theorem ok_LenD  {C f : Addr} {fd : FuncData} {k : Nat} (F : Fun K "__len__" "Desk.__len__" sLenD f fd) (T : TxtD K mg C)
    (m_len : mg "len" = none) : FnOk P w K mg base CX0 (k + 1) f fd ["self"] (spLenD K C) := by
  refine F.ok scLenD (fun vs H Q E h => ?_) (fun cdv A outer s H vs Q E hr h => ?_)
  · obtain ⟨t, pan, st, past, rfl, _⟩ := h
    rfl
  · obtain ⟨t, pan, st, past, rfl, hD, q⟩ := h
    have hD' := hD
    obtain ⟨⟨dx, pa, p, l, hh, hs, h1, h2, h3, h4, h5, h6⟩, hg, hst, lfe⟩ := hD'
    refine ⟨_, pss_one (ps_ret (pe_callB (show CallR _ _ (rLenG K) from cr_lenG) (by rfl) m_len PySem.boot_len (pa_cons (pe_fld (pv 0) rfl) pa_nil))), ?_⟩
    refine gs_ret (K := K) (gv_lenT (gv_past T rfl hD)) fun v H1 s1 dv => ?_
    cases dv
    rw [List.length_map]
    exact q H1 s1
end
theorem len_num (n : Nat) (h : n ≤ 1000) : ((toString (n : Int) : Str)).length ≤ 10 := by
  have : ∀ n < 1001, ((toString ((n : Nat) : Int) : Str)).length ≤ 10 := by decide +kernel
  exact this n (by omega)
theorem log_num (n : Nat) (h : n ≤ 1000) : ((n : Int)).natAbs.log2 < 1920 := by
  have : ∀ n < 1001, (((n : Nat) : Int)).natAbs.log2 < 1920 := by decide +kernel
  exact this n (by omega)
def txtD (a b c : Nat) : Str := ((((((Str.empty ++ (toString (a : Int) : Str)) ++ (" buttons, " : Str)) ++ (toString (b : Int) : Str)) ++ (" latched, " : Str)) ++ (toString (c : Int) : Str)) ++ (" edits" : Str))
def nStrD : List Str := ["self"]
theorem scStrD : FnScope nStrD ["self"] (defScope sStrD) := ⟨rfl, rfl, rfl, by decide +kernel, rfl, by decide +kernel, by decide +kernel⟩
section
variable {P : Program} {w : World} {K : PySem.W.Frag} {mg : Str → Option Value} {base : Heap}
def spStrD (K : PySem.W.Frag) (C : Addr) : Sp := fun vs H Q _ => ∃ (t : Addr) (pan : List (List Int)) (st : List Int) (past : List (PyData × List (List Int) × List Int)), vs = [.ref t] ∧ DeskAt K C H t pan st past ∧ past.length ≤ 1000 ∧ ∀ H', Same H H' → Q (.str (txtD pan.length st.length past.length)) H'
theorem ok_StrD  {C f : Addr} {fd : FuncData} {k : Nat} (F : Fun K "__str__" "Desk.__str__" sStrD f fd) (T : TxtD K mg C)
    (m_len : mg "len" = none) : FnOk P w K mg base CX0 (k + 1) f fd ["self"] (spStrD K C) := by
  refine F.ok scStrD (fun vs H Q E h => ?_) (fun cdv A outer s H vs Q E hr h => ?_)
  · obtain ⟨t, pan, st, past, rfl, _⟩ := h
    rfl
  · obtain ⟨t, pan, st, past, rfl, hD, few, q⟩ := h
    have hD' := hD
    obtain ⟨⟨dx, pa, p, l, hh, hs, h1, h2, h3, h4, h5, h6⟩, hg, hst, lfe⟩ := hD'
    refine ⟨_, pss_one (ps_ret (pe_joined (.cons (pe_fmt (pe_callB (show CallR _ _ (rLenG K) from cr_lenG) (by rfl) m_len PySem.boot_len (pa_cons (pe_fld (pv 0) rfl) pa_nil))) (.cons pe_str (.cons (pe_fmt (pe_callB (show CallR _ _ (rLenG K) from cr_lenG) (by rfl) m_len PySem.boot_len (pa_cons (pe_fld (pv 0) rfl) pa_nil))) (.cons pe_str (.cons (pe_fmt (pe_callB (show CallR _ _ (rLenG K) from cr_lenG) (by rfl) m_len PySem.boot_len (pa_cons (pe_fld (pv 0) rfl) pa_nil))) (.cons pe_str .nil)))))))), ?_⟩
    have f1 := hg.few
    have f2 := hst.len
    have n1 := len_num pan.length (by omega)
    have n2 := len_num st.length (by omega)
    have n3 := len_num past.length few
    have sz : ∀ {n : Nat}, n ≤ 1000 → n ≤ sizeLine := fun h => Nat.le_of_lt (small1000 h)
    refine (gv_lenT (K := K) (gv_panel (i := 0) T rfl hD)).at fun v1 H1 s1 d1 => ?_
    cases d1
    rw [List.length_map]
    refine .inr ⟨_, rfl, log_num _ (by omega), _, rfl, ?_, _, rfl, ?_, ?_⟩
    · rw [Str.length_append]; exact sz (by show 0 + _ ≤ _; omega)
    · rw [Str.length_append, Str.length_append]; exact sz (by show 0 + _ + 10 ≤ _; omega)
    refine (gv_lenT (K := K) (gv_latched (i := 0) T rfl (hD.same s1))).at fun v2 H2 s2 d2 => ?_
    cases d2
    rw [List.length_map]
    refine .inr ⟨_, rfl, log_num _ (by omega), _, rfl, ?_, _, rfl, ?_, ?_⟩
    · simp only [Str.length_append]; exact sz (by show 0 + _ + 10 + _ ≤ _; omega)
    · simp only [Str.length_append]; exact sz (by show 0 + _ + 10 + _ + 10 ≤ _; omega)
    refine (gv_lenT (K := K) (gv_past (i := 0) T rfl ((hD.same s1).same s2))).at fun v3 H3 s3 d3 => ?_
    cases d3
    rw [List.length_map]
    refine .inr ⟨_, rfl, log_num _ few, _, rfl, ?_, _, rfl, ?_, ?_⟩
    · simp only [Str.length_append]; exact sz (by show 0 + _ + 10 + _ + 10 + _ ≤ _; omega)
    · simp only [Str.length_append]; exact sz (by show 0 + _ + 10 + _ + 10 + _ + 6 ≤ _; omega)
    exact q H3 ((s1.trans s2).trans s3)
end
end K57
namespace Pr
open PySem PySem.Spec PyProof.Rows L2
section
variable {X : Cx} {C f : Addr} {fd : FuncData} {k : Nat} {sp : Sp}
theorem run_in {A' : Around} {pins : List (Addr × Obj)} {σ : L2.St} {H : Hp} {s : Shared} {Q : VK} {a : Addr} {E : XK} (fr : A'.frames = X.A.frames) (F : FnOk X.prog X.w X.K X.mg X.base CX0 k f fd ["self"] sp) (hr : Room k A') (hb : Binds X.K fd ["self"] []) (J : Inv X pins σ H s) (h : sp [.ref a] H Q E) :
    wpAny (model X.prog X.w) A' (call (.ref f) [.ref a]) (EP X pins σ Q) X.xe s := by
  have e := J.env0
  have e0 : Env0 X.prog X.w X.K X.mg X.base A' X.stack s H := ⟨by rw [fr]; exact e.frames, e.mod, e.bs, e.bsz, e.funs, e.frf, e.hok, e.bare⟩
  have bd := hb s [.ref a] J.kIn rfl
  refine wpAny_call (codeAny_mono (F.run A' X.stack s H ⟨[.ref a], []⟩ [.ref a] [.ref a] Q E hr e0 (by simpa using bd) (.cons rfl .nil) h) fun r s' hq => ?_)
  cases r with
  | error er => exact hq.elim
  | ok fl =>
    cases fl with
    | ret u => exact J.after hq
    | next => exact hq.elim
    | brk => exact hq.elim
    | cont => exact hq.elim
def rStrO (C : Addr) (sp : Sp) : List V → Hp → VK → Prop := fun xs H Q => ∃ a dx fs, xs = [.ref a] ∧ H a = some (.ins C dx fs) ∧ sp [.ref a] H (fun v H' => ∃ y, v = .str y ∧ Q (.str y) H') (fun _ _ _ => False)
theorem cr_strO (F : FnOk X.prog X.w X.K X.mg X.base CX0 k f fd ["self"] sp) (hr : Room (k + 2) X.A) (hb : Binds X.K fd ["self"] []) (hs : PySem.W.findIn X.K (.ref C) "__str__" = some (some (.ref f))) (hf : PySem.W.isFn X.K (.ref f) = true) : CallR X (.type "str") (rStrO C sp) := by
  intro pins s σ H xs us Q J r h
  obtain ⟨a, dx, fs, rfl, ha, h⟩ := h
  rw [Vals.ref1 r]
  obtain ⟨mA, O, _⟩ := ins_get J.hok ha
  obtain ⟨od, O, _⟩ := O.look
  refine PySem.W.kso_call (Room.in1 (Room.in1 hr)).units0 J.kIn O hs hf (wpAny_mono (run_in rfl F (Room.in1 (Room.in1 hr)) hb J h) (fun v s' z => ?_) fun _ _ z => z)
  obtain ⟨x, H', J', rx, y, rfl, q⟩ := z
  obtain ⟨t, rfl⟩ := rx
  exact ⟨.str y, H', J', ⟨t, rfl⟩, q⟩
def rLenO (C : Addr) (sp : Sp) : List V → Hp → VK → Prop := fun xs H Q => ∃ a dx fs, xs = [.ref a] ∧ H a = some (.ins C dx fs) ∧ sp [.ref a] H (fun v H' => ∃ n : Int, v = .int n ∧ 0 ≤ n ∧ n < 2 ^ 63 ∧ Q (.int n) H') (fun _ _ _ => False)
theorem cr_lenO (F : FnOk X.prog X.w X.K X.mg X.base CX0 k f fd ["self"] sp) (hr : Room (k + 1) X.A) (hb : Binds X.K fd ["self"] []) (hs : PySem.W.findIn X.K (.ref C) "__len__" = some (some (.ref f))) (hf : PySem.W.isFn X.K (.ref f) = true) : CallR X (.builtin "len") (rLenO C sp) := by
  intro pins s σ H xs us Q J r h
  obtain ⟨a, dx, fs, rfl, ha, h⟩ := h
  rw [Vals.ref1 r]
  obtain ⟨mA, O, _⟩ := ins_get J.hok ha
  obtain ⟨od, O, _⟩ := O.look
  obtain ⟨m, hF⟩ := J.fr
  refine PySem.W.len_K hF J.ok.mod.kin O hs hf (wpAny_mono (run_in rfl F (Room.in1 hr) hb J h) (fun v s' z => ?_) fun _ _ z => z)
  obtain ⟨x, H', J', rx, n, rfl, n0, n1, q⟩ := z
  obtain ⟨t, rfl⟩ := rx
  exact ⟨⟨n0, n1⟩, .int n, H', J'.tok _, ⟨_, rfl⟩, q⟩
end
end Pr
namespace Pr
open PySem PySem.Spec PyProof.Rows L2
/-- a method with one keyword-only parameter (and what stands before it), given by its name -/
theorem kb_one {K : PySem.W.Frag} {x qual : Str} {params : Arguments} {body : List Stmt} {scope : Scope} {kws : List (Str × V)} {f : Addr} {fd : FuncData} {ps : List Str} (F : FunD K x qual params body scope [] kws f fd) (n : Nat) (kw : Str) (hk : kws ≠ [])
    (h : ∀ (D : Addr) (doc pm : Value) (an : Option Addr) (cdv ct : Value) (us : List Value) (v : Value), us.length = n → bindArgs (PySem.W.fnOf x qual params body scope .none (.ref D) doc pm an cdv ct) ⟨us, [(kw, v)]⟩ = pure (ps.zip (us ++ [v]))) :
    KBn K fd ps n [kw] (fun us ws => us ++ ws) (fun vs zs => vs ++ zs) := by
  obtain ⟨mv, hb⟩ := F.kbinds0 n [kw] [] (fun us _ ws => us ++ ws) (ps := ps) hk (fun q hq => by cases hq) (fun r1 _ r3 => r1.append r3) (fun D doc pm an cdv ct us mv ws h1 h2 h3 => by
    match ws, h3 with
    | [v], _ => exact h D doc pm an cdv ct us v h1)
  exact hb
end Pr
namespace Pr
open PySem PySem.Spec PyProof.Rows L2
end Pr
namespace Pr
open PySem PySem.Spec PyProof.Rows L2
end Pr
namespace Pr
open PySem PySem.Spec PyProof.Rows L2 PySem.Builtin PySem.Builtin.ObjectAttr
abbrev leT : List Value := [.type "LookupError", .type "Exception", .type "BaseException", .type "object"]
theorem le_pass (self : Value) : refuseLoop self "__setattr__" leT = pure () := by kernel_rfl
/-- what the written part says of such a class -/
structure OelC (K : PySem.W.Frag) (C : Addr) : Prop where
  cls : ∃ nm q N bs sn sub ab col dd k0 k1 k2 k3 k5, K.lookup C = some (excClassObj nm q C N bs leT true sn sub ab col dd k0 k1 k2 k3 k5 "LookupError.__new__")
  sa : PySem.W.findIn K (.ref C) "__setattr__" = some (some (.builtin "object.__setattr__"))
  exC : PySem.W.subIn K (.ref C) (.type "BaseException") = some true
  tyC : PySem.W.typeIn K (.ref C) = some (.type "type")
  kC : PySem.W.keepIn K (.ref C) = true
section
variable {prog : Program} {w : World} {A : Around} {R : Result → Shared → Prop} {hp : Heap} {gs : Array GenState} {dn : Drawn} {tc : Nat} {os : OsState}
/-- self.nm = v, the first one, over the machine's heap -/
theorem osaL {K : W.Frag} {nm : Str} {tk : Tok} {v : Value} {x C : Addr} {fv : Array Value} {cd : ClassData} (kin : K.In hp) (at_ : hp.get? x = some { cls := .ref C, data := .fields fv }) (hcd : W.clsIn K C = some cd) (hmro : cd.mro = .ref C :: leT) (hdict : cd.hasDict = true) (free : W.findIn K (.ref C) nm = some none)
    (q : ∀ h' tk' dx, (∀ b o, b ≠ x → hp.get? b = some o → h'.get? b = some o) → hp.objs.size ≤ dx → dx ≠ x → h'.get? x = some { cls := .ref C, dict := some dx, data := .fields fv } → h'.Ns1 dx (fun y => if y = nm then some v else none) → R (.ok (.ret .none)) ⟨h', gs, dn, tk', os⟩) :
    codeAny (model prog w) A (.call (.builtin "object.__setattr__") ⟨[.ref x, .str nm tk, v], []⟩) R ⟨hp, gs, dn, tc, os⟩ := by
  have inst : W.InstAt hp x { cls := .ref C, data := .fields fv } C none := ⟨at_, rfl, rfl, trivial⟩
  have far : x ≠ hp.objs.size := Nat.ne_of_lt (Heap.lt_size at_)
  have isObj : W.Looks (model prog w) hp (isInstance (.ref x) (.type "object")) true := inst.type.andThen (W.looks_mroIn kin (by unfold W.mroIn; rw [hcd, Option.bind_some, hmro]; rfl))
  refine codeAny_call_builtin F.store_object.slot.plain F.store_object.entry (@W.check_slot (model prog w) _ _ ⟨hp, gs, dn, tc, os⟩ "object.__setattr__" "object" "__setattr__" (.ref x) [.str nm tk, v] [] _ F.store_object.kind F.store_object.split isObj (F.store_object.args (.ref x) (.str nm tk) v) ?_)
  have mroL : W.Looks (model prog w) hp (mroOf (.ref C)) cd.mro := (W.looks_clsIn kin hcd).andThen .now
  have clsL : W.Looks (model prog w) hp (classData C) cd := W.looks_clsIn kin hcd
  rw [W.osa_eq, refuse_eq]
  refine wpAny_bind (wpAny_bind (inst.type.at (wpAny_bind (mroL.at ?_))))
  rw [hmro, refuseLoop_ref, le_pass]
  refine wpAny_pure (wpAny_bind (inst.type.at (wpAny_bind ((W.looks_findIn kin free).at (wpAny_bind ((W.Looks.now (M := model prog w) : W.Looks _ hp (storeTaker? none) none).at ?_))))))
  show wpAny _ _ (storeInOwnDict (.ref x) (.ref C) (.str nm tk) nm v false) _ _ _
  obtain ⟨n1, n2, n3, n4, n5, n6, n7, n8, n9, n10, n11⟩ := cd
  dsimp only at hdict
  subst hdict
  unfold storeInOwnDict ownDictForStores
  repeat (first | with_reducible refine PySem.HandSPX.store_in_new ?_ ?_ | with_reducible refine wpAny_loadPart_at at_ ?_ | with_reducible refine clsL.at ?_ | wp_step)
  · refine ⟨_, #[], _, (Heap.get?_update_ne _ _ _ _ far.symm).trans (Heap.get?_push_at rfl rfl), rfl, fun e he => ?_, fun _ => rfl⟩
    exact absurd he (by simp)
  · intro h' tk' hN sm
    refine q h' tk' hp.objs.size (fun b o nb hb => ?_) (Nat.le_refl _) far.symm ?_ hN
    · rw [sm.2 b (Nat.ne_of_lt (Heap.lt_size hb)), Heap.get?_update_ne _ _ _ _ nb]
      exact Heap.get?_push_of_some _ hb
    · rw [sm.2 x far]
      exact Heap.get?_update_self _ (Heap.get?_push_of_some _ at_) rfl
end
section
variable {X : Cx} {pins : List (Addr × Obj)} {σ : L2.St} {H : Hp} {s : Shared} {a C : Addr} {f : Str} {y : V} {u : Value} {Q : Unit → Shared → Prop} {E : Value → Shared → Prop} {A : Around}
theorem ostL (T : OelC X.K C) (J : Inv X pins σ H s) (e : H a = some (exo a C none)) (hno : PySem.W.findIn X.K (.ref C) f = some none) (ry : RelV y u)
    (h : ∀ dx s', H dx = none → dx ≠ a → Inv X pins σ (upd (upd H dx (exd dx [(f, y)])) a (exo a C (some dx))) s' → Q () s') : wpAny (model X.prog X.w) A (setAttr (.ref a) f u) Q E s := by
  obtain ⟨nm, q, N, bs, sn, sub, ab, col, dd, k0, k1, k2, k3, k5, hC⟩ := T.cls
  have hcl : PySem.W.clsIn X.K C = some { name := nm, bases := bs, mro := .ref C :: leT, ns := N, qualname := q, hasDict := true, slotNames := sn, subclasses := sub, abstract := ab, collection := col, hasDel := false } := by
    unfold PySem.W.clsIn
    rw [hC]
  obtain ⟨tA, ho⟩ := exo_at J.hok e
  obtain ⟨hp, g, d, t, os⟩ := s
  refine PySem.W.set_plain J.kIn (ox := { cls := .ref C, dict := none, data := .fields #[.ref tA, .none, .none, .none, .bool false, .none] }) (od := none) ⟨ho, rfl, rfl, trivial⟩ T.sa (osaL J.kIn ho hcl rfl rfl hno fun h' tk' dx kp dn dne hx hn => ?_)
  have hnd : H dx = none := J.hok.fresh dn
  have ofd : ∀ {b : Addr} {o : Obj}, hp.get? b = some o → b ≠ dx := fun {b o} q => Nat.ne_of_lt (Nat.lt_of_lt_of_le (Heap.lt_size q) dn)
  have ofa : ∀ {b : Addr}, H b = none → b ≠ a := fun {b} n z => by rw [z, e] at n; cases n
  have stay : Un X.fs [] H (upd (upd H dx (exd dx [(f, y)])) a (exo a C (some dx))) hp h' :=
    { keep := fun b o q n _ _ => kp b o (ofa n) q
      slot := fun b o q n _ _ => ⟨o.slots, kp b o (ofa n) q⟩
      free := fun b o q n _ => by
        rw [upd_ne (ofa n), upd_ne (ofd q)]
        exact n
      there := fun b o q _ => by
        by_cases hb : b = a
        · rw [hb]; exact ⟨_, hx⟩
        · exact ⟨o, kp b o hb q⟩
      tups := fun b xs q => by
        rw [upd_ne (at_ne e q exo_tup), upd_ne (ne_of_none q hnd)]
        exact q
      frzs := fun b o v q => by
        rw [upd_ne (at_ne e q exo_frz), upd_ne (ne_of_none q hnd)]
        exact q
      tbls := fun b ps q => ⟨#[], by
        rw [upd_ne (at_ne e q exo_tbl), upd_ne (ne_of_none q hnd), q]
        simp⟩ }
  refine h dx _ hnd dne (J.un (t' := tk') stay fun b o q => ?_)
  by_cases hb : b = a
  · cases hb
    rw [upd_same] at q
    cases q; exact exo_ok hx
  · rw [upd_ne hb] at q
    by_cases hd : b = dx
    · cases hd
      rw [upd_same] at q
      cases q; exact exd_ok hn (relO_put (fs := []) ry fun _ => True.intro)
    · rw [upd_ne hd] at q
      refine (J.hok b o q).stay (fun c v hc z => kp c v (fun eq => ?_) z) (fun c hc => ?_) (fun c xs hc => ?_)
      · rcases hc with hc | hc
        · exact hb (hc ▸ eq)
        · exact at_ne e hc exo_own eq
      · rw [upd_ne (at_ne e hc exo_own), upd_ne (ne_of_none hc hnd)]
        exact hc
      · rw [upd_ne (at_ne e hc exo_tup), upd_ne (ne_of_none hc hnd)]
        exact hc
end
/-- self.f = e, the first one -/
def tOstL (K : PySem.W.Frag) (f : Str) (to te : TE) : TS := fun D σ H => te σ H fun y H1 => to σ H1 fun x H2 => ∃ a C : Addr, x = .ref a ∧ OelC K C ∧ PySem.W.findIn K (.ref C) f = some none ∧ H2 a = some (exo a C none) ∧
  ∀ dx, H2 dx = none → dx ≠ a → D.nx σ (upd (upd H2 dx (exd dx [(f, y)])) a (exo a C (some dx)))
section
variable {X : Cx} {o e : Expr} {es : List Expr} {to te : TE} {ta : TA} {f : Str} {p p' pos : Pos}
theorem ps_ostL (ho : PE X o to) (he : PE X e te) (hs : swapsWith e (some (.Attribute o f p')) pos.line X.env = pure false := by rfl) : PS X (.Assign [.Attribute o f p'] e pos) (tOstL X.K f to te) := by
  refine ⟨fun pins s σ H D J h => plainObj_wpAny_Assign_Attribute (thn (he.run pins s σ H _ J h) fun v s1 ⟨y, H1, J1, r1, q1⟩ => thn (ho.run pins s1 σ H1 _ J1 q1) fun u s2 ⟨x, H2, J2, r2, a, C, ex, T, hno, ea, q⟩ => ?_) hs⟩
  cases ex
  obtain rfl : u = Value.ref a := r2
  exact ostL T J2 ea hno r1 fun dx s' n ne J => ⟨σ, _, J, q dx n ne⟩
theorem pmk_oel {CX : CXT} {x : Str} {C fI : Addr} {k : Nat} {fd : FuncData} {ps : List Str} {sp : Sp} (T : OelC X.K C) (iC : PySem.W.findIn X.K (.ref C) "__init__" = some (some (.ref fI))) (tI : PySem.W.typeIn X.K (.ref fI) = some (.type "function"))
    (F1 : FnOk X.prog X.w X.K X.mg X.base CX k fI fd ps sp) (hr : Room (k + 1) X.A) (hb : Binds X.K fd ps []) (hx : Passes CX X (fun _ _ _ => False)) (hg : Gl X x) (hm : X.mg x = some (.ref C)) (ha : PA X (e :: es) ta)
    (hdb : (x == ("__debug__" : Str)) = false := by decide) (hse : starEach (e :: es) X.env = (false, eval e X.env) :: starEach es X.env := by rfl) (hsp : (backTo pos (starEach es X.env)).any (·.1) = false := by rfl) :
    PMk X (.Call (.Name x p) (e :: es) [] pos) (tMkO C sp [] ta) := by
  intro pins s σ H Q J h
  obtain ⟨nm, q, N, bs, sn, sub, ab, col, dd, k0, k1, k2, k3, k5, hC⟩ := T.cls
  refine wpAny_Call_Name_kw (ld_glob J hg hm (PySem.W.callWith_K (h₀ := X.base) J.ok.mod.kin T.kC (thn (ha.run pos pins s σ H _ J h) fun us s1 ⟨vs, H1, J1, r1, hz, q1⟩ => ⟨J1.kIn, ?_⟩) hse hsp) hdb)
  show wpAny _ _ (call (.ref C) us) _ _ _
  obtain ⟨hp, g, dr, tk, os⟩ := s1
  have le1 : hp.objs.size ≤ hp.objs.size + 1 := Nat.le_succ _
  have hq := q1 (hp.objs.size + 1) (J1.hok.fresh le1)
  rw [List.append_nil] at hq
  have old : ∀ b o, hp.get? b = some o → ((hp.push (PySem.W.kdv_tup us)).push (PySem.HandSPX.excO C hp.objs.size)).get? b = some o := fun b o z => Heap.get?_push_of_some _ (Heap.get?_push_of_some _ z)
  have new : ((hp.push (PySem.W.kdv_tup us)).push (PySem.HandSPX.excO C hp.objs.size)).get? (hp.objs.size + 1) = some (PySem.HandSPX.excO C hp.objs.size) := by heap_get
  have J2 : Inv X pins σ (upd H1 (hp.objs.size + 1) (exo (hp.objs.size + 1) C none)) ⟨(hp.push (PySem.W.kdv_tup us)).push (PySem.HandSPX.excO C hp.objs.size), g, dr, tk, os⟩ := J1.laid (t' := tk) old le1 (exo_ok new)
  have r2 : Vals (V.ref (hp.objs.size + 1) :: vs) (Value.ref (hp.objs.size + 1) :: us) := .cons rfl r1
  have hln : (Value.ref (hp.objs.size + 1) :: us).length = ps.length := by rw [← r2.length]; exact F1.len _ _ _ _ hq
  have hus : us.length ≤ sizeLine := by
    have := Paired.length r1
    rw [sizeLine_eq]; omega
  have hbd := hb _ (Value.ref (hp.objs.size + 1) :: us) J2.kIn (by rw [List.append_nil]; exact hln)
  rw [List.append_nil] at hbd
  refine wpAny_call (PySem.HandSPX.call_own F.excBase_LookupError (fun _ => rfl) (J1.kIn _ _ hC) (PySem.W.looks_findIn J1.kIn iC) (fun self => PySem.W.bind_fn J1.kIn self tI) hus (codeAny_mono (F1.run _ X.stack _ _ ⟨Value.ref (hp.objs.size + 1) :: us, []⟩ (Value.ref (hp.objs.size + 1) :: us) _ _ (fun _ _ _ => False) (hr.make C us []) (J2.env0.make C us []) hbd r2 hq) fun rs s' hE => ?_))
  cases rs with
  | error er => exact hx pins σ _ _ er s' J2 hE
  | ok fl =>
    cases fl with
    | ret u =>
      obtain ⟨v, H2, o2, bare, un2, hok2, rv, ev, d, fs, ea, ed, hd1, q2⟩ := hE
      cases ev
      obtain ⟨h2, g2, d2, t2, os'⟩ := s'
      exact ⟨rv, mk_end (raises_own T.exC T.tyC) J1 le1 old un2 hok2 o2 bare ea ed hd1 q2⟩
    | next => exact hE.elim
    | brk => exact hE.elim
    | cont => exact hE.elim
end
/-- what the top says of such a class with one field, and of its __init__ -/
structure ExL (K : PySem.W.Frag) (mg : Str → Option Value) (nm fld qn : Str) (sI : Stmt) (C fI : Addr) (fdI : FuncData) : Prop where
  oex : OelC K C
  iC : PySem.W.findIn K (.ref C) "__init__" = some (some (.ref fI))
  tI : PySem.W.typeIn K (.ref fI) = some (.type "function")
  noN : PySem.W.findIn K (.ref C) fld = some none
  g : mg nm = some (.ref C)
  FI : Fun K "__init__" qn sI fI fdI
  bI : Binds K fdI ["self", fld] []
def spIL (K : PySem.W.Frag) (C : Addr) (fld : Str) : Sp := fun vs H Q _ => ∃ (e : Addr) (y : V), vs = [.ref e, y] ∧ OelC K C ∧ PySem.W.findIn K (.ref C) fld = some none ∧ H e = some (exo e C none) ∧
  ∀ dx, H dx = none → dx ≠ e → Q .non (upd (upd H dx (exd dx [(fld, y)])) e (exo e C (some dx)))
theorem rzL {K : PySem.W.Frag} {mg : Str → Option Value} {nm fld qn : Str} {sI : Stmt} {C fI : Addr} {fdI : FuncData} (T : ExL K mg nm fld qn sI C fI fdI) {Hx : Hp} {y : V} {E : XK} (q : ∀ H' dd, Same Hx H' → H' dd = some (.xd [(fld, y)]) → E (.ref C) (some dd) H') :
    [y].length ≤ 1000 ∧ ∀ a, Hx a = none → spIL K C fld (.ref a :: ([y] ++ [])) (upd Hx a (exo a C none))
        (fun v H2 => v = .non ∧ ∃ (d : Addr) (fs : List (Str × V)), H2 a = some (exo a C (some d)) ∧ H2 d = some (exd d fs) ∧ Hx d = none ∧ E (.ref C) (some d) (upd (del H2 a) d (.xd fs))) (fun _ _ _ => False) := by
  refine ⟨by show 1 ≤ 1000; decide, fun a na => ⟨a, y, rfl, T.oex, T.noN, upd_same, fun dx nd ne => ⟨rfl, dx, [(fld, y)], ?_⟩⟩⟩
  obtain ⟨m1, m2, m3, m4⟩ := madeF (y := y) (fld := fld) na nd ne
  exact ⟨m1, m2, m3, q _ dx m4 upd_same⟩
end Pr
namespace K57
open PySem PySem.Spec PyProof.Rows L2 Pr
theorem DeskAt.kpAt {K : PySem.W.Frag} {C : Addr} {H H' : Hp} {t : Addr} {pan : List (List Int)} {st : List Int} {past : List (PyData × List (List Int) × List Int)} (h : DeskAt K C H t pan st past) (k : Kp H H') (e : H' t = H t) : DeskAt K C H' t pan st past := by
  obtain ⟨⟨dx, pa, p, l, hh, hs, h1, h2, h3, h4, h5, h6⟩, g, as, e'⟩ := h
  exact ⟨⟨dx, pa, p, l, hh, hs, e.trans h1, h2.kp k e', h3.kp k, k.1 _ _ h4, sqT_kp k h5, h6⟩, g, as, e'⟩
abbrev sInitV : Stmt := inClass (topS 17) 0
theorem scInitV : FnScope ["self", "value"] ["self", "value"] (defScope sInitV) := ⟨rfl, rfl, rfl, by decide +kernel, rfl, by decide +kernel, by decide +kernel⟩
section
variable {P : Program} {w : World} {K : PySem.W.Frag} {mg : Str → Option Value} {base : Heap}
theorem ok_initV {f C : Addr} {fd : FuncData} {k : Nat} (F : Fun K "__init__" "NoVersion.__init__" sInitV f fd) : FnOk P w K mg base CX0 (k + 1) f fd ["self", "value"] (spIL K C "value") := by
  refine F.ok scInitV (fun vs H Q E h => ?_) (fun cdv A outer s H vs Q E hr h => ?_)
  · obtain ⟨e, y, rfl, _⟩ := h
    rfl
  · obtain ⟨e, y, rfl, T, hno, he, q⟩ := h
    refine ⟨_, pss_one (ps_ostL (pv 0) (pv 1)), ?_⟩
    exact ⟨y, rfl, .ref e, rfl, e, C, rfl, T, hno, he, q⟩
end
abbrev sUndo : Stmt := inClass (topS 43) 11
def nUndo : List Str := ["self", "edit", "panel", "latched"]
theorem scUndo : FnScope nUndo ["self"] (defScope sUndo) := ⟨rfl, rfl, rfl, by decide +kernel, rfl, by decide +kernel, by decide +kernel⟩
section
variable {P : Program} {w : World} {K : PySem.W.Frag} {mg : Str → Option Value} {base : Heap}
def spUndo (K : PySem.W.Frag) (C CU : Addr) : Sp := fun vs H Q E => ∃ (t : Addr) (pan : List (List Int)) (st : List Int) (past : List (PyData × List (List Int) × List Int)), vs = [.ref t] ∧ DeskAt K C H t pan st past ∧
  (∀ past' y, past = past' ++ [y] → ∀ H', ButO t H H' → DeskAt K C H' t y.2.1 y.2.2 past' → Q (.int (past'.length : Nat)) H') ∧ (past = [] → ∀ H', Same H H' → E (.ref CU) none H')
theorem ok_Undo {fAny : Addr} {fdAny : FuncData} {fHeld : Addr} {fdHeld : FuncData} {C CU f : Addr} {fd : FuncData} {k : Nat} (F : Fun K "undo" "Desk.undo" sUndo f fd) (T : TxtD K mg C) (T_NothingToUndo : Ex0 K mg "NothingToUndo" CU)
    (FAny : Fun K "releases_any" "releases_any" sAny fAny fdAny) (bAny : Binds K fdAny ["panel", "button", "others"] []) (gAny : mg "releases_any" = some (.ref fAny))
    (FHeld : Fun K "held_buttons" "held_buttons" sHeld fHeld fdHeld) (bHeld : Binds K fdHeld ["panel", "state"] []) (gHeld : mg "held_buttons" = some (.ref fHeld))
    {fFree : Addr} {fdFree : FuncData} (FFree : Fun K "check_free" "Desk.check_free" sFree fFree fdFree) (bFree : Binds K fdFree ["self"] []) (hFree : Meth K C "check_free" fFree)
    {fShow : Addr} {fdShow : FuncData} (FShow : Fun K "show" "Desk.show" sShow fShow fdShow) (bShow : Binds K fdShow ["self", "panel", "latched"] []) (hShow : Meth K C "show" fShow)
    (m_any : mg "any" = none) (m_len : mg "len" = none) (m_tuple : mg "tuple" = none) : FnOk P w K mg base (L2.CX P w) (k + 4) f fd ["self"] (spUndo K C CU) := by
  have GFree : FnOk P w K mg base CX0 (k + 1) fFree fdFree ["self"] (spFree K C) := ok_Free FFree T   
  have GShow : FnOk P w K mg base CX0 (k + 3) fShow fdShow ["self", "panel", "latched"] (spShow K C) := ok_Show FShow T FAny bAny gAny FHeld bHeld gHeld  m_any m_len m_tuple
  refine F.okX scUndo (fun vs H Q E h => ?_) (fun cdv A outer s H vs Q E hr h => ?_)
  · obtain ⟨t, pan, st, past, rfl, _⟩ := h
    rfl
  · obtain ⟨t, pan, st, past, rfl, hD, q1, q2⟩ := h
    refine ⟨_, pss_cons (ps_expr (pe_meth0 (pv 0) T.cl hFree GFree (hr.mono (by omega)) bFree .nil pass0))
      (pss_cons (ps_if (pt_not (pt_truth (pe_fld (pv 0) rfl) (fun _ => rfl))) (pss_one (ps_raise rfl (takes_of rfl rfl rfl rfl) (T_NothingToUndo.made (by rfl)))) pss_nil)
      (pss_cons (ps_asg (pe_ix (show IxR _ (rIxT K) from ix_tup) (pe_fld (pv 0) rfl) (pe_un un_neg pe_int) (fun _ _ => rfl)) (pg_tup rfl (pgs_cons (pg_name (i := 1) scUndo.nd rfl (Or.inl rfl)) (pgs_cons (pg_name (i := 2) scUndo.nd rfl (Or.inl rfl)) (pgs_cons (pg_name (i := 3) scUndo.nd rfl (Or.inl rfl)) pgs_nil)))))
      (pss_cons (ps_fld (pv 0) (pe_slice (show SlR _ (rSlS K) from sl_tupS) (pe_fld (pv 0) rfl) po_none (po_some (pe_un un_neg pe_int))) rfl)
      (pss_cons (ps_expr (pe_meth (pv 0) T.cl hShow GShow (hr.mono (by omega)) bShow .nil pass0 (pa_cons (pv 2) (pa_cons (pv 3) pa_nil))))
      (pss_one (ps_ret (pe_callB (show CallR _ _ (rLenG K) from cr_lenG) (by rfl) m_len PySem.boot_len (pa_cons (pe_fld (pv 0) rfl) pa_nil)))))))), ?_⟩
    refine seq_hide fun u1 hu1 => ?_
    have hD' := hD
    obtain ⟨⟨dx, pa, p, l, hh, hs, h1, h2, h3, h4, h5, h6⟩, hg, hst, lfe⟩ := hD'
    refine ⟨.ref t, rfl, t, dx, _, rfl, h1, by rfl, t, pan, st, past, rfl, hD, fun H1 s1 => ?_⟩
    refine hu1 _ _ _ (seq_hide fun u2 hu2 => ?_)
    have e1 := s1 _ _ h1
    obtain ⟨xs, hpa, hxs⟩ := h2.sm s1
    refine ⟨.ref t, rfl, t, C, dx, _, .ref pa, rfl, e1, T.cl, T.nA, look_past _ _ _ _, _, .inr (.inl ⟨xs, hpa, rfl⟩), ?_⟩
    rcases List.eq_nil_or_concat past with rfl | ⟨past', y, rfl⟩
    · cases hxs
      exact iteT (q2 rfl H1 s1)
    · rw [List.concat_eq_append] at *
      obtain ⟨us, u, rfl, hus, ⟨au, pu, lu, vu, rfl, hau, dvu, hpu, elu⟩⟩ := prSplit hxs
      have nz : (!(!(us ++ [V.ref au]).isEmpty)) = false := by cases us <;> rfl
      rw [nz]
      refine iteF (next_of ?_)
      dsimp only
      refine hu2 _ _ _ (seq_hide fun u3 hu3 => ?_)
      refine ⟨.ref t, rfl, t, C, dx, _, .ref pa, rfl, e1, T.cl, T.nA, look_past _ _ _ _, 1, rfl, pa, _, _, .ref au, rfl, rfl, hpa, at_last, ?_⟩
      refine ⟨au, _, rfl, hau, rfl, vu, [.ref pu, .ref lu], rfl, .ref pu, [.ref lu], rfl, .ref lu, [], rfl, rfl, ?_⟩
      refine hu3 _ _ _ (seq_hide fun u4 hu4 => ?_)
      refine ⟨.ref t, rfl, t, C, dx, _, .ref pa, rfl, e1, T.cl, T.nA, look_past _ _ _ _, 1, rfl, -1, rfl, pa, _, rfl, hpa, fun pb H2 s2 hpb => ?_⟩
      rw [cut_last] at hpb
      have e2 := s2 _ _ e1
      refine ⟨.ref t, rfl, t, C, dx, _, rfl, e2, T.cl, T.nA, by show 5 < 1000; decide, ?_⟩
      refine hu4 _ _ _ (seq_hide fun u5 hu5 => ?_)
      rw [put_p]
      have k3 := ButO.upd (g := t) (H := H2) (o := .ins C dx (fldsD pb p l hh))
      have kp3 := k3.kp e2
      have hy := lfe y (List.mem_append_right _ List.mem_cons_self)
      refine ⟨.ref t, rfl, t, dx, _, rfl, upd_same, by rfl, .ref pu, rfl, .ref lu, rfl, t, pu, lu, dx, pb, fldsD pb p l hh, y.2.1, y.2.2, rfl, upd_same, .inr ⟨_, _, _, rfl⟩, (hpu.same s2).kp kp3, hy.2.1, .inl (.inl (kp3.1 _ _ (s2 _ _ elu))), hy.2.2, fun H4 h' hs' k4 e4 hh' ish => ?_⟩
      have kp4 := kp3.trans (k4.kp upd_same)
      have lfe' : ∀ x ∈ past', lf x.1 = true ∧ Good x.2.1 ∧ Asc x.2.1.length x.2.2 := fun x hx => lfe x (List.mem_append_left _ hx)
      have hN : DeskAt K C H4 t y.2.1 y.2.2 past' := ⟨⟨dx, pb, pu, lu, h', hs', e4, PastAt.kp ⟨us, hpb, ents_sm s2 hus⟩ kp4 lfe', (hpu.same s2).kp kp4, kp4.1 _ _ (s2 _ _ elu), hh', ish⟩, hy.2.1, hy.2.2, lfe'⟩
      refine hu5 _ _ _ ?_
      refine gs_ret (K := K) (gv_lenT (gv_past T rfl hN)) fun v H5 s5 dv5 => ?_
      cases dv5
      rw [List.length_map]
      exact q1 past' y rfl H5 (((ButO.of (s1.trans s2)).trans k3).trans (k4.trans (ButO.of s5))) (hN.same s5)
end
/-- what a version is: the present state, one before an edit, or none -/
def verM (pan : List (List Int)) (st : List Int) (past : List (PyData × List (List Int) × List Int)) : PyData → Option (List (List Int) × List Int)
  | .none => some (pan, st)
  | .int i => if 0 ≤ i ∧ i ≤ (past.length : Int) then (past.map (·.2) ++ [(pan, st)])[i.toNat]? else none
  | _ => none
theorem verM_int (pan : List (List Int)) (st : List Int) (past : List (PyData × List (List Int) × List Int)) (i : Int) : verM pan st past (.int i) = if 0 ≤ i ∧ i ≤ (past.length : Int) then (past.map (·.2) ++ [(pan, st)])[i.toNat]? else none := rfl
theorem verM_now {pan : List (List Int)} {st : List Int} {past : List (PyData × List (List Int) × List Int)} : verM pan st past (.int (past.length : Int)) = some (pan, st) := by
  rw [verM_int, if_pos ⟨by omega, by omega⟩, Int.toNat_natCast, List.getElem?_append_right (by rw [List.length_map]; omega), List.length_map, Nat.sub_self]; rfl
theorem verM_at {pan : List (List Int)} {st : List Int} {past : List (PyData × List (List Int) × List Int)} {j : Nat} {y : PyData × List (List Int) × List Int} (h : past[j]? = some y) : verM pan st past (.int (j : Int)) = some y.2 := by
  have hj := (List.getElem?_eq_some_iff.mp h).1
  rw [verM_int, if_pos ⟨by omega, by omega⟩, Int.toNat_natCast, List.getElem?_append_left (by rw [List.length_map]; exact hj), List.getElem?_map, h]; rfl
theorem verM_no {pan : List (List Int)} {st : List Int} {past : List (PyData × List (List Int) × List Int)} {d : PyData} (hn : d ≠ .none) : isBtn ((past.length : Int) + 1) d = false → verM pan st past d = none := by
  cases d with
  | none => exact absurd rfl hn
  | int i =>
    intro h
    rw [verM_int, if_neg]
    rintro ⟨h1, h2⟩
    have : isBtn ((past.length : Int) + 1) (.int i) = true := by simp [isBtn, h1]; omega
    rw [this] at h; cases h
  | _ => intro _; rfl
theorem btn_int {n : Int} {d : PyData} (h : isBtn n d = true) : ∃ i : Int, d = .int i ∧ 0 ≤ i ∧ i < n := by
  cases d with
  | int i => exact ⟨i, rfl, by simpa [isBtn] using h⟩
  | _ => cases h
theorem dq_non {K : PySem.W.Frag} {N : Addr → Prop} {H : Hp} {v : V} {d : PyData} (h : Dq K N H v d) : decide (v = .non) = true ↔ d = .none := by
  cases h <;> simp
def nIsV : List Str := ["value", "latest"]
theorem scIsV : FnScope nIsV ["value", "latest"] (defScope sIsV) := ⟨rfl, rfl, rfl, by decide +kernel, rfl, by decide +kernel, by decide +kernel⟩
section
variable {P : Program} {w : World} {K : PySem.W.Frag} {mg : Str → Option Value} {base : Heap}
def spIsV (K : PySem.W.Frag) : Sp := fun vs H Q _ => ∃ (N : Addr → Prop) (v : V) (d : PyData) (n : Int), vs = [v, .int n] ∧ Dq K N H v d ∧ Q (.bl (isBtn (n + 1) d)) H
theorem ok_IsV {fBtn : Addr} {fdBtn : FuncData} {f : Addr} {fd : FuncData} {k : Nat} (F : Fun K "is_version" "is_version" sIsV f fd)
    (FBtn : Fun K "is_button" "is_button" sBtn fBtn fdBtn) (bBtn : Binds K fdBtn ["value", "many"] []) (gBtn : mg "is_button" = some (.ref fBtn))
    (m_bool : mg "bool" = none) (m_int : mg "int" = none) (m_isinstance : mg "isinstance" = none) : FnOk P w K mg base CX0 (k + 2) f fd ["value", "latest"] (spIsV K) := by
  have GBtn : FnOk P w K mg base CX0 (k + 1) fBtn fdBtn ["value", "many"] (spBtn K) := ok_btn FBtn m_isinstance m_bool m_int
  refine F.ok scIsV (fun vs H Q E h => ?_) (fun cdv A outer s H vs Q E hr h => ?_)
  · obtain ⟨N, v, d, n, rfl, _⟩ := h
    rfl
  · obtain ⟨N, v, d, n, rfl, hd, q⟩ := h
    refine ⟨_, pss_one (ps_ret (pe_call GBtn (hr.mono (by omega)) (by rfl) gBtn FBtn.kp bBtn .nil pass0 (pa_cons (pv 0) (pa_cons (pe_op op_add (pv 1) pe_int) pa_nil)))), ?_⟩
    exact ⟨v, rfl, .int n, rfl, n, 1, rfl, rfl, N, v, d, n + 1, rfl, hd, q⟩
end
def nState : List Str := ["self", "version", "edit", "panel", "latched"]
theorem scState : FnScope nState ["self", "version"] (defScope sState) := ⟨rfl, rfl, rfl, by decide +kernel, rfl, by decide +kernel, by decide +kernel⟩
section
variable {P : Program} {w : World} {K : PySem.W.Frag} {mg : Str → Option Value} {base : Heap}
def spState (K : PySem.W.Frag) (C CV : Addr) : Sp := fun vs H Q E => ∃ (N : Addr → Prop) (t : Addr) (v : V) (d : PyData) (pan : List (List Int)) (st : List Int) (past : List (PyData × List (List Int) × List Int)), vs = [.ref t, v] ∧ DeskAt K C H t pan st past ∧ Dq K N H v d ∧
  (∀ y, verM pan st past d = some y → ∀ H' u p l, Same H H' → H' u = some (.tup [.ref p, .ref l]) → PanT K H' p y.1 → H' l = some (.tup (y.2.map V.int)) → Good y.1 → Asc y.1.length y.2 → Q (.ref u) H') ∧
  (verM pan st past d = none → ∀ H' dd, Same H H' → H' dd = some (.xd [("value", v)]) → E (.ref CV) (some dd) H')
theorem ok_State {fBtn : Addr} {fdBtn : FuncData} {fIsV : Addr} {fdIsV : FuncData} {C CV f fIV : Addr} {fd fdIV : FuncData} {k : Nat} (F : FunD K "state" "Desk.state" (defArgs sState) (defBody sState) (defScope sState) [] [("version", .non)] f fd) (T : TxtD K mg C) (TV : ExL K mg "NoVersion" "value" "NoVersion.__init__" sInitV CV fIV fdIV)
    (FBtn : Fun K "is_button" "is_button" sBtn fBtn fdBtn) (bBtn : Binds K fdBtn ["value", "many"] []) (gBtn : mg "is_button" = some (.ref fBtn))
    (FIsV : Fun K "is_version" "is_version" sIsV fIsV fdIsV) (bIsV : Binds K fdIsV ["value", "latest"] []) (gIsV : mg "is_version" = some (.ref fIsV))
    (m_bool : mg "bool" = none) (m_int : mg "int" = none) (m_isinstance : mg "isinstance" = none) (m_len : mg "len" = none) : FnOk P w K mg base (L2.CX P w) (k + 3) f fd ["self", "version"] (spState K C CV) := by
  have GIsV : FnOk P w K mg base CX0 (k + 2) fIsV fdIsV ["value", "latest"] (spIsV K) := ok_IsV FIsV FBtn bBtn gBtn m_bool m_int m_isinstance
  have GV : FnOk P w K mg base CX0 (k + 1) fIV fdIV ["self", "value"] (spIL K CV "value") := ok_initV TV.FI
  refine F.ok (CX := L2.CX P w) scState (fun vs H Q E h => ?_) (fun cdv A outer s H vs Q E hr h => ?_)
  · obtain ⟨N, t, v, d, pan, st, past, rfl, _⟩ := h
    rfl
  · obtain ⟨N, t, v, d, pan, st, past, rfl, hD, hd, q1, q2⟩ := h
    refine ⟨_, pss_cons (ps_if (pt_cmpR op_isN (pv 1) pe_non (by rfl)) (pss_one (ps_ret (pe_tup (pa_cons (pe_fld (pv 0) rfl) (pa_cons (pe_fld (pv 0) rfl) pa_nil))))) pss_nil)
      (pss_cons (ps_if (pt_not (pt_val (pe_call GIsV (hr.mono (by omega)) (by rfl) gIsV FIsV.kp bIsV .nil pass0 (pa_cons (pv 1) (pa_cons (pe_callB (show CallR _ _ (rLenG K) from cr_lenG) (by rfl) m_len PySem.boot_len (pa_cons (pe_fld (pv 0) rfl) pa_nil)) pa_nil))))) (pss_one (ps_raise rfl (takes_of rfl rfl rfl rfl) (pmk_oel TV.oex TV.iC TV.tI GV (hr.mono (by omega)) TV.bI pass0 (by rfl) TV.g (pa_cons (pv 1) pa_nil)))) pss_nil)
      (pss_cons (ps_if (pt_cmpR op_eq (pv 1) (pe_callB (show CallR _ _ (rLenG K) from cr_lenG) (by rfl) m_len PySem.boot_len (pa_cons (pe_fld (pv 0) rfl) pa_nil)) (nomark _)) (pss_one (ps_ret (pe_tup (pa_cons (pe_fld (pv 0) rfl) (pa_cons (pe_fld (pv 0) rfl) pa_nil))))) pss_nil)
      (pss_cons (ps_asg (pe_ix (show IxR _ (rIxT K) from ix_tup) (pe_fld (pv 0) rfl) (pv 1) (fun _ _ => rfl)) (pg_tup rfl (pgs_cons (pg_name (i := 2) scState.nd rfl (Or.inl rfl)) (pgs_cons (pg_name (i := 3) scState.nd rfl (Or.inl rfl)) (pgs_cons (pg_name (i := 4) scState.nd rfl (Or.inl rfl)) pgs_nil)))))
      (pss_one (ps_ret (pe_tup (pa_cons (pv 3) (pa_cons (pv 4) pa_nil)))))))), ?_⟩
    refine seq_hide fun u1 hu1 => ?_
    have hD0 := hD
    obtain ⟨⟨dx, pa, p, l, hh, hs, h1, h2, h3, h4, h5, h6⟩, hg, hst, lfe⟩ := hD0
    have now : ∀ {D : Ends} (H1 : Hp) (x2 x3 x4 : Option V), Same H H1 → D.rt = Q → verM pan st past d = some (pan, st) → tRet (tTup (tCons (tFld K (tVar 0) "panel") (tCons (tFld K (tVar 0) "latched") tNil))) D [some (.ref t), some v, x2, x3, x4] H1 := fun {D} H1 x2 x3 x4 s1 eD ev => by
      refine ⟨.ref t, rfl, t, C, dx, _, .ref p, rfl, s1 _ _ h1, T.cl, T.nP, look_panel _ _ _ _, .ref t, rfl, t, C, dx, _, .ref l, rfl, s1 _ _ h1, T.cl, T.nL, look_latched _ _ _ _, by show 2 ≤ sizeLine; decide, fun u nu => ?_⟩
      have su := same_new (o := .tup [.ref p, .ref l]) nu
      have sA := s1.trans su
      rw [eD]
      exact q1 (pan, st) ev _ u p l sA upd_same (h3.same sA) (sA _ _ h4) hg hst
    refine ⟨v, rfl, rfl, _, rfl, ?_⟩
    by_cases dn : d = .none
    · rw [(dq_non hd).mpr dn]
      subst dn
      exact iteT (now H none none none (Same.refl _) rfl rfl)
    · rw [show decide (v = .non) = false from by cases e : decide (v = .non) with | false => rfl | true => exact absurd ((dq_non hd).mp e) dn]
      refine iteF (next_of ?_)
      dsimp only
      refine hu1 _ _ _ (seq_hide fun u2 hu2 => ?_)
      refine ⟨v, rfl, (gv_lenT (K := K) (gv_past (i := 0) T rfl hD)).at fun vn H1 s1 dv => ?_⟩
      cases dv
      rw [List.length_map]
      refine ⟨N, v, d, (past.length : Int), rfl, Dq.same s1 _ _ hd, ⟨_, rfl, ?_⟩⟩
      cases eb : isBtn ((past.length : Int) + 1) d with
      | false => exact iteT ⟨v, rfl, rzL TV fun H2 dd s2 ed => q2 (verM_no dn eb) H2 dd (s1.trans s2) ed⟩
      | true =>
        refine iteF (next_of ?_)
        dsimp only
        refine hu2 _ _ _ (seq_hide fun u3 hu3 => ?_)
        obtain ⟨i, rfl, i0, i1⟩ := btn_int eb
        cases hd
        obtain ⟨j, rfl⟩ : ∃ j : Nat, i = (j : Int) := ⟨i.toNat, by omega⟩
        refine gs_if1 (gvt_test (K := K) (gv_eqI (gv_var rfl (.int (j : Int))) ((gv_lenT (gv_past (i := 0) T rfl (hD.same s1))).to (by rw [List.length_map])))) (fun e H2 s2 => ?_) (fun e H2 s2 => ?_)
        · have ej : (j : Int) = (past.length : Int) := of_decide_eq_true e
          have s12 := s1.trans s2
          exact now H2 none none none s12 rfl (by rw [ej]; exact verM_now)
        · refine hu3 _ _ _ ?_
          have ej : ¬ (j : Int) = (past.length : Int) := of_decide_eq_false e
          have s12 := s1.trans s2
          have e2 := s12 _ _ h1
          obtain ⟨xs, hpa, hxs⟩ := h2.sm s12
          obtain ⟨y, hy⟩ : ∃ y, past[j]? = some y := ⟨_, List.getElem?_eq_getElem (by omega)⟩
          obtain ⟨x, hx, ⟨au, pu, lu, vu, rfl, hau, dvu, hpu, elu⟩⟩ := prGet hxs hy
          refine ⟨.ref t, rfl, t, C, dx, _, .ref pa, rfl, e2, T.cl, T.nA, look_past _ _ _ _, .int (j : Int), rfl, pa, _, _, .ref au, rfl, rfl, hpa, at_nat hx, ?_⟩
          refine ⟨au, _, rfl, hau, rfl, vu, [.ref pu, .ref lu], rfl, .ref pu, [.ref lu], rfl, .ref lu, [], rfl, rfl, ?_⟩
          refine ⟨.ref pu, rfl, .ref lu, rfl, by show 2 ≤ sizeLine; decide, fun u nu => ?_⟩
          have su := same_new (o := .tup [.ref pu, .ref lu]) nu
          have hyy := lfe y (List.mem_of_getElem? hy)
          exact q1 y.2 (verM_at hy) _ u pu lu (s12.trans su) upd_same (hpu.same su) (su _ _ elu) hyy.2.1 hyy.2.2
end
end K57
namespace K57
open PySem PySem.Spec PyProof.Rows L2 Pr
def rStrI : List V → Hp → VK → Prop := fun xs H Q => ∃ i, xs = [.int i] ∧ i.natAbs.log2 < 1920 ∧ Q (.str (toString i)) H
section
variable {K : PySem.W.Frag} {C : Addr} {H H' : Hp} {t : Addr} {pan : List (List Int)} {st : List Int} {past : List (PyData × List (List Int) × List Int)} {σ : L2.St} {i : Nat} {E : XK} {te : TE}
theorem DeskAt.at {P : Prop} (h : DeskAt K C H t pan st past) (q : ∀ dx fs, H t = some (.ins C dx fs) → (∀ m : Str, m ∉ (["past", "watched", "panel", "latched", "held"] : List Str) → fs.lookup m = none) → P) : P := by
  obtain ⟨⟨dx, pa, p, l, hh, hs, h1, h2, h3, h4, _⟩, _⟩ := h
  refine q dx _ h1 fun m hm => ?_
  simp only [List.mem_cons, List.mem_nil_iff, or_false, not_or] at hm
  obtain ⟨n1, n2, n3, n4, n5⟩ := hm
  unfold fldsD
  simp only [List.lookup_cons, List.lookup_nil]
  have : ∀ {a b : Str}, a ≠ b → (a == b) = false := fun h => by simpa using h
  rw [this n1, this n2, this n3, this n4, this n5]
theorem gva_at {ta : TA} {ds : List PyData} {Q : List V → Hp → Prop} (h : GvA K ta σ H ds) (q : ∀ ws H', Same H H' → DpAll K H' ws ds → Q ws H') : ta σ H Q := h H (Same.refl _) Q q
theorem gv_StateD {CV : Addr} (hi : σ[i]? = some (some (.ref t))) (h : DeskAt K C H t pan st past) : Gv K (tMeth C "state" (spState K C CV) [.non] E (tVar i) tNil) σ H (.tuple [dPan pan, dInts st]) := fun H1 s Q q => by
  have hD := h.same s
  exact hD.at fun dx fs e l => ⟨.ref t, hi, t, dx, fs, rfl, e, l _ (by decide +kernel), fun _ => False, t, .non, .none, pan, st, past, rfl, hD, .non, fun y ey H2 u p l s2 eu hp el _ _ => by
    cases ey
    exact q _ H2 s2 (.tup (.inl (.inl eu)) (.cons hp.dp (.cons (dp_ints (.inl (.inl el))) .nil))), (fun z => by cases z)⟩
theorem gv_held {mg : Str → Option Value} {hs : List Int} (T : TxtD K mg C) (hi : σ[i]? = some (some (.ref t))) (h : DeskAt K C H t pan st past) (ih : IsHeld pan st hs) : Gv K (tFld K (tVar i) "held") σ H (dInts hs) := fun H1 s Q q => by
  obtain ⟨⟨dx, pa, p, l, hh, hs', h1, h2, h3, h4, h5, h6⟩, _⟩ := h.same s
  obtain rfl := ih.uniq h6
  exact ⟨.ref t, hi, t, C, dx, _, .ref hh, rfl, h1, T.cl, T.nH, look_held _ _ _ _, q _ H1 (Same.refl _) (dp_ints h5)⟩
theorem gv_EditsD (hi : σ[i]? = some (some (.ref t))) (h : DeskAt K C H t pan st past) (few : past.length ≤ 1000) : Gv K (tMeth C "edits" (spEdits K C) [] E (tVar i) tNil) σ H (.tuple (past.map (·.1))) := fun H1 s Q q => by
  have hD := h.same s
  exact hD.at fun dx fs e l => ⟨.ref t, hi, t, dx, fs, rfl, e, l _ (by decide +kernel), t, pan, st, past, rfl, hD, few, fun H2 v s2 dv => q v H2 s2 dv⟩
theorem gv_lenD (hi : σ[i]? = some (some (.ref t))) (h : DeskAt K C H t pan st past) (few : past.length ≤ 1000) : Gv K (tCB (rLenO C (spLenD K C)) (tCons (tVar i) tNil)) σ H (.int (past.length : Nat)) := fun H1 s Q q => by
  have hD := h.same s
  exact hD.at fun dx fs e l => ⟨.ref t, hi, t, dx, fs, rfl, e, t, pan, st, past, rfl, hD, fun H2 s2 => ⟨_, rfl, by omega, by omega, q _ H2 s2 (.int _)⟩⟩
theorem gv_strD (hi : σ[i]? = some (some (.ref t))) (h : DeskAt K C H t pan st past) (few : past.length ≤ 1000) : Gv K (tCB (rStrO C (spStrD K C)) (tCons (tVar i) tNil)) σ H (.str (txtD pan.length st.length past.length)) := fun H1 s Q q => by
  have hD := h.same s
  exact hD.at fun dx fs e l => ⟨.ref t, hi, t, dx, fs, rfl, e, t, pan, st, past, rfl, hD, few, fun H2 s2 => ⟨_, rfl, q _ H2 s2 (.str _)⟩⟩
theorem gv_strI {n : Nat} (h : Gv K te σ H (.int (n : Int))) (hn : n ≤ 1000) : Gv K (tCB rStrI (tCons te tNil)) σ H (.str (toString (n : Int))) := gv_cb (gva_cons h gva_nil) fun vs H1 Q s hd' q => by
  obtain ⟨v, rfl, hv⟩ := dpAll1 hd'
  cases hv
  exact ⟨_, rfl, log_num n hn, q _ _ (Same.refl _) (.str _)⟩
theorem dpAll_strI : ∀ {vs : List V} {l : List Str}, DpAll K H vs (l.map PyData.str) → vs = l.map V.str
  | [], [], _ => rfl
  | _, _ :: _, h => by
    cases h with
    | cons h1 h2 =>
      cases h1
      rw [dpAll_strI h2]; rfl
theorem gv_join1 {td tl : TE} {a : Str} {ys : List Str} (h1 : Gv K td σ H (.str a)) (h2 : Gv K tl σ H (.list (ys.map PyData.str))) (hl : (ys.map (·.length)).sum + ys.length * a.length ≤ 16777216) :
    Gv K (tM1 (fun x xs H Q => ∃ a p, ∃ ys : List Str, x = .str a ∧ xs = [.ref p] ∧ (SqL K H p (ys.map V.str) ∨ SqT K H p (ys.map V.str)) ∧
      (ys.map (·.length)).sum + ys.length * a.length ≤ 16777216 ∧ Q (.str (Txt.join a ys)) H) td tl) σ H (.str (Txt.join a ys)) := fun H1 s Q q => h1 H1 s _ fun v H2 s2 d2 => by
  cases d2
  refine ⟨⟨_, rfl⟩, h2 H2 (s.trans s2) _ fun w H3 s3 d3 => ?_⟩
  obtain ⟨p, xs, rfl, hp, hr⟩ := d3.lstI
  rw [dpAll_strI hr] at hp
  exact ⟨_, p, ys, rfl, rfl, .inl hp, hl, q _ H3 (s2.trans s3) (.str _)⟩
end
theorem txt_is (a b c : Nat) : txtD a b c = Txt.join (" " : Str) [(toString (a : Int) : Str), "buttons,", (toString (b : Int) : Str), "latched,", (toString (c : Int) : Str), "edits"] := by
  have e1 : (" buttons, " : Str) = (" " : Str) ++ (("buttons," : Str) ++ (" " : Str)) := by decide +kernel
  have e2 : (" latched, " : Str) = (" " : Str) ++ (("latched," : Str) ++ (" " : Str)) := by decide +kernel
  have e3 : (" edits" : Str) = (" " : Str) ++ ("edits" : Str) := by decide +kernel
  have j : Txt.join (" " : Str) [(toString (a : Int) : Str), "buttons,", (toString (b : Int) : Str), "latched,", (toString (c : Int) : Str), "edits"] = (toString (a : Int) : Str) ++ " " ++ (("buttons," : Str) ++ " " ++ ((toString (b : Int) : Str) ++ " " ++ (("latched," : Str) ++ " " ++ ((toString (c : Int) : Str) ++ " " ++ ("edits" : Str))))) := (TL.join_eq _ _).trans rfl
  rw [j]
  unfold txtD
  rw [e1, e2, e3]
  simp only [Str.empty_append, Str.append_assoc]
def nState0 : List Str := ["_law_deck_here", "_law_n", "_law_way", "_law_one"]
theorem scState0 : FnScope nState0 ["_law_deck_here", "_law_n"] (defScope sState0) := ⟨rfl, rfl, rfl, by decide +kernel, rfl, by decide +kernel, by decide +kernel⟩
section
variable {P : Program} {w : World} {K : PySem.W.Frag} {mg : Str → Option Value} {base : Heap}
def spState0 (K : PySem.W.Frag) : Sp := fun vs H Q _ => ∃ (a c : Addr) (m n : Nat), vs = [.ref a, .int (n : Int)] ∧ Deck H a c (m + 20) ∧ n ≤ 10 ∧ ∀ H' t st, But a c H H' → Deck H' a c m → H' t = some (.tup (st.map V.int)) → Asc n st → Q (.ref t) H'
theorem ok_State0 {fDraw : Addr} {fdDraw : FuncData} {f : Addr} {fd : FuncData} {k : Nat} (F : Fun K "_law_state" "_law_state" sState0 f fd)
    (FDraw : Fun K "_law_draw" "_law_draw" sDraw fDraw fdDraw) (bDraw : Binds K fdDraw ["_law_deck_here", "_law_many"] []) (gDraw : mg "_law_draw" = some (.ref fDraw))
    (m_len : mg "len" = none) (m_range : mg "range" = none) (m_tuple : mg "tuple" = none) : FnOk P w K mg base CX0 (k + 2) f fd ["_law_deck_here", "_law_n"] (spState0 K) := by
  have GDraw : FnOk P w K mg base CX0 (k + 1) fDraw fdDraw ["_law_deck_here", "_law_many"] spDraw := ok_draw FDraw m_len
  refine F.ok scState0 (fun vs H Q E h => ?_) (fun cdv A outer s H vs Q E hr h => ?_)
  · obtain ⟨a, c, m, n, rfl, _⟩ := h
    rfl
  · obtain ⟨a, c, m, n, rfl, hD, hn, q⟩ := h
    refine ⟨_, pss_cons (ps_set (i := 2) scState0.nd rfl (.inl rfl) (pe_call GDraw (hr.mono (by omega)) (by rfl) gDraw FDraw.kp bDraw .nil pass0 (pa_cons (pv 0) (pa_cons pe_int pa_nil))))
      (pss_cons (ps_if (pt_cmpR op_lt (pv 2) pe_int (nomark _)) (pss_one (ps_ret (pe_ix (show IxR _ (rIxL K) from ix_list) (pe_lst (pa_cons (pe_tup pa_nil) (pa_cons (pe_tupRg rfl (by rfl) m_tuple (prg_1 (by rfl) m_range (pv 1))) pa_nil))) (pv 2) (fun _ _ => rfl)))) pss_nil)
      (pss_one (ps_ret (pe_callTy (show CallR _ _ (rTupG K) from cr_tupG) (by rfl) m_tuple (by decide +kernel) (pa_cons (pe_lc (own := [("_law_one", 3)]) (g := gName 3) rfl scState0.nd (pi_range1 (by rfl) m_range (pa_cons (pv 1) pa_nil)) (blkOk_by (own := [("_law_one", 3)]) (N := nState0) (sc := defScope sState0) (by decide +kernel)) (fun _ _ _ _ _ => pg_name (i := 3) scState0.nd rfl (Or.inl rfl)) (fun _ _ _ _ _ => pts_one (pt_cmpR op_eq (pe_call GDraw (hr.mono (by omega)) (by rfl) gDraw FDraw.kp bDraw .nil pass0 (pa_cons (pv 0) (pa_cons pe_int pa_nil))) pe_int (nomark _))) (fun _ _ _ _ _ => pv 3)) pa_nil))))), ?_⟩
    refine ⟨.ref a, rfl, a, c, m + 19, 5, rfl, hD.less (by omega), by decide, by decide, fun H1 r b1 D1 r0 r1 => ?_⟩
    refine gs_if1 (gvt_test (K := K) (gv_I0 (f := .bool (decide (r < 2))) (gv_var rfl (.int r)) gv_int fun _ => .bl _)) (fun e H2 s2 => ?_) (fun e H2 s2 => ?_)
    · have hr2 : r < 2 := of_decide_eq_true e
      refine ⟨Nat.zero_le _, fun t0 nt0 => ?_⟩
      have s3 := same_new (o := .tup []) nt0
      refine (gu_tupRg (K := K) (n := n) (gv_var rfl (.int (n : Int))) (by omega)).at fun t1 vs1 H4 s4 nt1 e1 dv1 => ?_
      rw [dpAll_intsV dv1] at e1
      refine ⟨by show 2 ≤ sizeLine; decide, fun L nL => ?_⟩
      have s5 := same_new (o := .lst [.ref t0, .ref t1]) nL
      have sA := (s2.trans (s3.trans s4)).trans s5
      obtain rfl | rfl : r = 0 ∨ r = 1 := by omega
      · exact ⟨_, rfl, L, _, _, .ref t0, rfl, rfl, .inl (.inl upd_same), rfl, q _ t0 [] (b1.trans (But.of sA)) ((D1.same sA).less (by omega)) (s5 _ _ (s4 _ _ upd_same)) (Asc.nil _)⟩
      · exact ⟨_, rfl, L, _, _, .ref t1, rfl, rfl, .inl (.inl upd_same), rfl, q _ t1 (intL n) (b1.trans (But.of sA)) ((D1.same sA).less (by omega)) (s5 _ _ e1) (by have := Asc.filter n (fun _ => true); rwa [List.filter_eq_self.mpr (fun _ _ => rfl)] at this)⟩
    · refine ⟨.int (n : Int), rfl, (n : Int), rfl, by omega, by omega, fun O nO => ?_⟩
      have D2 := D1.same s2
      have oO := D2.fresh nO
      refine lc_range (n := n) (fun k H7 => But a c H2 H7 ∧ Deck H7 a c (m + 19 - k) ∧ ∃ acc : List Int, H7 O = some (.lst (acc.map V.int)) ∧ Asc k acc)
        ⟨But.of (same_new nO), (D2.same (same_new nO)).less (by omega), [], upd_same, Asc.nil _⟩ (fun k H8 hk' hP => ?_) (fun H8 hP => ?_)
      · obtain ⟨b8, D8, acc, eO, hacc⟩ := hP
        have al := hacc.len
        rw [Int.zero_add]
        refine ⟨rfl, .ref a, rfl, a, c, m + 19 - (k + 1), 2, rfl, D8.less (by omega), by decide, by decide, fun H9 r9 b9 D9 r9a r9b => ⟨rfl, _, rfl, ite2 (fun e => ?_) (fun e => ?_)⟩⟩
        · refine ⟨.int (k : Int), rfl, _, b9 _ _ oO.1 oO.2 eO, by rw [List.length_map]; exact small1000 (by omega), fun b o h1 h2 e => ?_, Deck.upd' D9 oO, acc ++ [(k : Int)], by rw [upd_same, List.map_append]; rfl, ?_⟩
          · rw [upd_ne (ne_of_none e nO)]
            exact b9 _ _ h1 h2 (b8 _ _ h1 h2 e)
          · refine ⟨List.pairwise_append.mpr ⟨hacc.up, List.pairwise_singleton _ _, fun x hx y hy => ?_⟩, fun x hx => ?_⟩
            · rw [List.mem_singleton.mp hy]; exact (hacc.rng x hx).2
            · rcases List.mem_append.mp hx with h | h
              · have := hacc.rng x h; omega
              · rw [List.mem_singleton.mp h]; omega
        · exact ⟨b8.trans b9, D9, acc, b9 _ _ oO.1 oO.2 eO, hacc.up, fun x hx => by have := hacc.rng x hx; omega⟩
      · obtain ⟨b8, D8, acc, eO, hacc⟩ := hP
        refine (gu_tupL (K := K) (t := fun _ H Q => Q (.ref O) H) (σ := []) (H := H8) (ds := acc.map PyData.int) (fun H9 s9 Q q => q _ H9 (Same.refl _) (.lst (.inl (.inl (s9 _ _ eO))) (dpAll_ints acc)))).at fun t vs H9 s9 nt et dt => q H9 t acc (((b1.trans (But.of s2)).trans b8).trans (But.of s9)) ((D8.same s9).less (by omega)) (by rw [et, dpAll_intsV dt]) hacc
end
def nPressed : List Str := ["_law_panel_here", "_law_state_here", "_law_button", "_law_left", "_law_one"]
theorem scPressed : FnScope nPressed ["_law_panel_here", "_law_state_here", "_law_button"] (defScope sPressed) := ⟨rfl, rfl, rfl, by decide +kernel, rfl, by decide +kernel, by decide +kernel⟩
section
variable {P : Program} {w : World} {K : PySem.W.Frag} {mg : Str → Option Value} {base : Heap}
def spPressed (K : PySem.W.Frag) : Sp := fun vs H Q _ => ∃ (pan : List (List Int)) (st : List Int) (b : Int), DpAll K H vs [dPan pan, dInts st, .int b] ∧ Asc pan.length st ∧ pan.length ≤ 10 ∧ 0 ≤ b ∧ b < (pan.length : Int) ∧
  ∀ H' t, Same H H' → H' t = some (.tup ((pressM pan st b).map V.int)) → Q (.ref t) H'
theorem ok_Pressed  {f : Addr} {fd : FuncData} {k : Nat} (F : Fun K "_law_pressed" "_law_pressed" sPressed f fd)
    (m_sorted : mg "sorted" = none) (m_tuple : mg "tuple" = none) : FnOk P w K mg base CX0 (k + 1) f fd ["_law_panel_here", "_law_state_here", "_law_button"] (spPressed K) := by
  refine F.ok scPressed (fun vs H Q E h => ?_) (fun cdv A outer s H vs Q E hr h => ?_)
  · obtain ⟨_, _, _, hd, _⟩ := h
    exact hd.length
  · obtain ⟨pan, st, b, hd, hst, few, b0, b1, q⟩ := h
    obtain ⟨v1, v2, v3, rfl, d1, d2, d3⟩ := dpAll3 hd
    have stl := hst.len
    refine ⟨_, pss_cons (ps_setLc (i := 3) (own := [("_law_one", 4)]) (g := gName 4) rfl scPressed.nd rfl rfl (sw_true rfl rfl rfl (by decide +kernel)) (show PI _ _ _ (iTup K _) from pi_tup (pv 1)) (blkOk_by (own := [("_law_one", 4)]) (N := nPressed) (sc := defScope sPressed) (by decide +kernel)) (fun _ _ _ _ _ => pg_name (i := 4) scPressed.nd rfl (Or.inl rfl)) (fun _ _ _ _ _ => pts_one (PW.pt (pw_and (pt_cmpR (show OpR _ _ (rIn K true) from op_notIn_seq) (pv 4) (pe_ix (show IxR _ (rIxT K) from ix_tup) (pv 0) (pv 2) (fun _ _ => rfl)) (by rfl)) (pw_and1 (pt_cmpR op_ne (pv 4) (pv 2) (nomark _)))))) (fun _ _ _ _ _ => pv 4))
      (pss_one (ps_ret (pe_callTy (show CallR _ _ (rTupG K) from cr_tupG) (by rfl) m_tuple (by decide +kernel) (pa_cons (pe_callB (show CallR _ _ (rSorted K) from cr_sorted) (by rfl) m_sorted (by decide +kernel) (pa_cons (pe_op op_cat (pv 3) (pe_lst (pa_cons (pv 2) pa_nil))) pa_nil)) pa_nil)))), ?_⟩
    refine gs_setL (K := K) (gl_lc (δ := PyData.int) (as := st) (p := fun x => !decide (x ∈ pan.getD b.toNat []) && !decide (x = b)) (f := PyData.int) (gvi_tup (gv_var rfl d2)) (fun x vx H2 hx s2 dx => ⟨gvt_and (gvt_test (gv_inT (neg := true) (gv_var rfl dx) (gv_pan (gv_var rfl (d1.sm s2)) (gv_var rfl (d3.sm s2)) b0 b1))) (fun H3 s3 _ => gvt_test (gv_neI (gv_var rfl (dx.sm s3)) (gv_var rfl ((d3.sm s2).sm s3)))), fun _ => gv_var rfl dx⟩) (fun _ _ => rfl) (by omega)) fun a vs H1 s1 ea da => ?_
    have fl := List.length_filter_le (fun x => !decide (x ∈ pan.getD b.toNat []) && !decide (x = b)) st
    refine (gu_tupL (K := K) (gv_sortL (l := st.filter (fun x => !decide (x ∈ pan.getD b.toNat []) && !decide (x = b)) ++ [b]) ((gn_cat (gl_var rfl ea da) (gl_lst (gva_cons (gv_var rfl (d3.sm s1)) gva_nil)) ?_).gv.to ?_) ?_)).at fun t vs2 H2 s2 nt et dt => q H2 t (s1.trans s2) ?_
    · rw [List.length_map]; show _ + 1 ≤ _; omega
    · rw [List.map_append]; rfl
    · rw [List.length_append]; show _ + 1 < 64; omega
    · rw [et, dpAll_intsV dt, press_sorted hst b0 b1 ?_ (srt_up _)]
      refine (srt_perm _).trans ?_
      refine List.Perm.append_right _ (List.Perm.of_eq (List.filter_congr fun x _ => ?_))
      by_cases h1 : x ∈ pan.getD b.toNat [] <;> by_cases h2 : x = b <;> simp [h1, h2]
end
def nChanged : List Str := ["_law_panel_here", "_law_one", "_law_other", "_law_is_link", "_law_own", "_law_at"]
theorem scChanged : FnScope nChanged ["_law_panel_here", "_law_one", "_law_other", "_law_is_link"] (defScope sChanged) := ⟨rfl, rfl, rfl, by decide +kernel, rfl, by decide +kernel, by decide +kernel⟩
section
variable {P : Program} {w : World} {K : PySem.W.Frag} {mg : Str → Option Value} {base : Heap}
def spChanged (K : PySem.W.Frag) : Sp := spP K (fun x : List (List Int) × Int × Int × Bool => [dPan x.1, .int x.2.1, .int x.2.2.1, .bool x.2.2.2]) (fun x => Good x.1 ∧ InP2 x.1 x.2.1 x.2.2.1 ∧ (x.2.2.2 = true → x.2.2.1 ∉ x.1.getD x.2.1.toNat []) ∧ (x.2.2.2 = false → x.2.2.1 ∈ x.1.getD x.2.1.toNat [])) (fun x => dPan (if x.2.2.2 then liM x.1 x.2.1 x.2.2.1 else unM x.1 x.2.1 x.2.2.1))
theorem gv_Changed {σ : L2.St} {H : Hp} {t : TA} {E : XK} {pan : List (List Int)} {one : Int} {other : Int} {fl : Bool} (h : GvA K t σ H [dPan pan, .int one, .int other, .bool fl]) (hc : Good pan ∧ InP2 pan one other ∧ (fl = true → other ∉ pan.getD one.toNat []) ∧ (fl = false → other ∈ pan.getD one.toNat [])) : Gv K (tCall (spChanged K) [] E t) σ H (dPan (if fl then liM pan one other else unM pan one other)) := gv_call (K := K) (δ := fun x : List (List Int) × Int × Int × Bool => [dPan x.1, .int x.2.1, .int x.2.2.1, .bool x.2.2.2]) (C := fun x => Good x.1 ∧ InP2 x.1 x.2.1 x.2.2.1 ∧ (x.2.2.2 = true → x.2.2.1 ∉ x.1.getD x.2.1.toNat []) ∧ (x.2.2.2 = false → x.2.2.1 ∈ x.1.getD x.2.1.toNat [])) (f := fun x => dPan (if x.2.2.2 then liM x.1 x.2.1 x.2.2.1 else unM x.1 x.2.1 x.2.2.1)) (pan, one, other, fl) h hc
theorem ok_Changed  {f : Addr} {fd : FuncData} {k : Nat} (F : Fun K "_law_changed" "_law_changed" sChanged f fd)
    (m_int : mg "int" = none) (m_sorted : mg "sorted" = none) (m_tuple : mg "tuple" = none) : FnOk P w K mg base CX0 (k + 1) f fd ["_law_panel_here", "_law_one", "_law_other", "_law_is_link"] (spChanged K) := by
  refine F.ok scChanged (fun vs H Q E h => ?_) (fun cdv A outer s H vs Q E hr h => ?_)
  · obtain ⟨_, hd, _⟩ := h
    exact hd.length
  · obtain ⟨⟨pan, one, other, fl⟩, hd, hc, q⟩ := h
    obtain ⟨v1, v2, v3, v4, rfl, d1, d2, d3, d4⟩ := dpAll4 hd
    try dsimp only at hc
    try dsimp only at q
    try dsimp only at d1 d2 d3 d4
    refine ⟨_, pss_cons (ps_set (i := 4) scChanged.nd rfl (.inl rfl) (pe_op op_cat (pe_lc (own := [("_law_at", 5)]) (g := gName 5) rfl scChanged.nd (show PI _ _ _ (iTup K _) from pi_tup (pe_ix (show IxR _ (rIxT K) from ix_tup) (pv 0) (pv 1) (fun _ _ => rfl))) (blkOk_by (own := [("_law_at", 5)]) (N := nChanged) (sc := defScope sChanged) (by decide +kernel)) (fun _ _ _ _ _ => pg_name (i := 5) scChanged.nd rfl (Or.inl rfl)) (fun _ _ _ _ _ => pts_one (pt_cmpR op_ne (pv 5) (pv 2) (nomark _))) (fun _ _ _ _ _ => pv 5)) (pe_op op_rep (pe_lst (pa_cons (pv 2) pa_nil)) (pe_callTy call_int1 (by rfl) m_int (by decide +kernel) (pa_cons (pv 3) pa_nil)))))
      (pss_one (ps_ret (pe_op (show OpR _ _ (rCatS K) from op_catS) (pe_op (show OpR _ _ (rCatS K) from op_catS) (pe_slice (show SlR _ (rSlS K) from sl_tupS) (pv 0) po_none (po_some (pv 1))) (pe_tup (pa_cons (pe_callTy (show CallR _ _ (rTupG K) from cr_tupG) (by rfl) m_tuple (by decide +kernel) (pa_cons (pe_callB (show CallR _ _ (rSorted K) from cr_sorted) (by rfl) m_sorted (by decide +kernel) (pa_cons (pv 4) pa_nil)) pa_nil)) pa_nil))) (pe_slice (show SlR _ (rSlS K) from sl_tupS) (pv 0) (po_some (pe_op op_add (pv 1) pe_int)) po_none)))), ?_⟩
    obtain ⟨hg, hI, hf1, hf2⟩ := hc
    obtain ⟨o0, o1, u0, u1, ne⟩ := hI
    have hi : one.toNat < pan.length := by omega
    have ok := pan_ok hg
    have hrl := ok.2 _ (rel_mem hi)
    have gone : one = ((one.toNat : Nat) : Int) := by omega
    have hlp : (pan.map dInts).length = pan.length := List.length_map _
    have fl60 := List.length_filter_le (fun x => !decide (x = other)) (pan.getD one.toNat [])
    refine gs_setN (K := K) (gn_cat (gl_lc (δ := PyData.int) (as := pan.getD one.toNat []) (p := fun x => !decide (x = other)) (f := PyData.int) (gvi_tup (gv_pan (gv_var rfl d1) (gv_var rfl d2) o0 o1)) (fun x vx H2 hx s2 dx => ⟨gvt_test (gv_neI (gv_var rfl dx) (gv_var rfl (d3.sm s2))), fun _ => gv_var rfl dx⟩) (fun _ _ => rfl) (by omega)) (gn_repL1 (k := if fl then 1 else 0) (gl_lst (gva_cons (gv_var rfl d3) gva_nil)) ((gv_intB rfl (gv_var rfl d4)).to (by cases fl <;> rfl)) (by split <;> omega)).gl (by rw [List.length_map, List.length_replicate]; split <;> omega)) fun a vs H1 s1 na ea da => ?_
    have eown : ((pan.getD one.toNat []).filter fun x => !decide (x = other)).map PyData.int ++ List.replicate (if fl then 1 else 0) (.int other) = (((pan.getD one.toNat []).filter fun x => !decide (x = other)) ++ (if fl then [other] else [])).map PyData.int := by
      rw [List.map_append]; cases fl <;> rfl
    rw [eown] at da
    have e2 : (if fl then liM pan one other else unM pan one other) = pan.take one.toNat ++ ([srt (((pan.getD one.toNat []).filter fun x => !decide (x = other)) ++ (if fl then [other] else []))] ++ pan.drop (one.toNat + 1)) := by
      have hset : ∀ x, pan.take one.toNat ++ ([x] ++ pan.drop (one.toNat + 1)) = pan.set one.toNat x := fun x => by rw [List.set_eq_take_append_cons_drop, if_pos hi]; rfl
      rw [hset]
      cases fl with
      | true =>
        have hn := hf1 rfl
        rw [if_pos rfl, if_pos rfl]
        unfold liM
        rw [if_neg hn, List.filter_eq_self.mpr fun x hx => by simp; rintro rfl; exact hn hx]
      | false =>
        have hn := hf2 rfl
        rw [if_neg Bool.false_ne_true, if_neg Bool.false_ne_true]
        unfold unM
        rw [if_pos hn, List.append_nil, srt_self ((hg.up _ (rel_mem hi)).filter _)]
    refine gs_ret (K := K) ((gv_catT (gv_catT (gv_cutToG (k := one.toNat) (gv_var rfl (d1.sm s1)) ((gv_var rfl (d2.sm s1)).to (by rw [← gone])) (by rw [hlp]; omega)) (gv_tup (gva_cons (gv_tupL (gv_sortL (l := ((pan.getD one.toNat []).filter fun x => !decide (x = other)) ++ (if fl then [other] else [])) (gv_var rfl (.lst (.inl (.inl ea)) da)) (by rw [List.length_append]; have hk : (if fl = true then [other] else ([] : List Int)).length ≤ 1 := (by cases fl <;> simp); omega))) gva_nil)) (by rw [List.length_take, hlp]; show _ + 1 ≤ _; omega)) (gv_cutFromG (k := one.toNat + 1) (gv_var rfl (d1.sm s1)) ((gv_add (gv_var rfl (d2.sm s1)) gv_int).to (by rw [gone]; rfl)) (by rw [hlp]; omega)) (by rw [List.length_append, List.length_take, List.length_drop, hlp]; show _ + 1 + _ ≤ _; omega)).to ?_) fun v H2 s2 dv => q v H2 (s1.trans s2) dv
    rw [e2]
    unfold dPan
    rw [List.map_append, List.map_append, ← List.map_take, ← List.map_drop, List.append_assoc]
    rfl
end
end K57
namespace K57
open PySem PySem.Spec PyProof.Rows L2 Pr
/-- an edit that can be done -/
inductive Ed (pan : List (List Int)) : PyData → List (List Int) → (List Int → List Int) → Prop
  | press {b : Int} (h0 : 0 ≤ b) (h1 : b < (pan.length : Int)) : Ed pan (.tuple [.str "press", .int b]) pan (fun st => pressM pan st b)
  | link {one other : Int} (h : InP2 pan one other) (hn : other ∉ pan.getD one.toNat []) : Ed pan (dLk "link" one other) (liM pan one other) (fun st => st)
  | unlink {one other : Int} (h : InP2 pan one other) (hn : other ∈ pan.getD one.toNat []) : Ed pan (dLk "unlink" one other) (unM pan one other) (fun st => st)
theorem Ed.lf {pan pan' : List (List Int)} {d : PyData} {f : List Int → List Int} (h : Ed pan d pan' f) : lf d = true := by cases h <;> rfl
theorem Ed.good {pan pan' : List (List Int)} {d : PyData} {f : List Int → List Int} (h : Ed pan d pan' f) (g : Good pan) : Good pan' ∧ pan'.length = pan.length := by
  cases h with
  | press _ _ => exact ⟨g, rfl⟩
  | link h hn => exact ⟨(good_li g h hn).1, (good_li g h hn).2.1⟩
  | unlink h hn => exact ⟨(good_un g h hn).1, (good_un g h hn).2.1⟩
theorem Ed.asc {pan pan' : List (List Int)} {d : PyData} {f : List Int → List Int} (h : Ed pan d pan' f) (g : Good pan) {st : List Int} (hst : Asc pan.length st) : Asc pan'.length (f st) := by
  cases h with
  | press _ _ => exact pressM_asc _ _ _
  | link h hn => rw [(good_li g h hn).2.1]; exact hst
  | unlink h hn => rw [(good_un g h hn).2.1]; exact hst
/-- what the law keeps: a list of the panel and the state -/
def dPS (pan : List (List Int)) (st : List Int) : PyData := .list [dPan pan, dInts st]
def nAfter : List Str := ["_law_state_here", "_law_edit_here", "_law_panel_here", "_law_latched"]
theorem scAfter : FnScope nAfter ["_law_state_here", "_law_edit_here"] (defScope sAfter) := ⟨rfl, rfl, rfl, by decide +kernel, rfl, by decide +kernel, by decide +kernel⟩
section
variable {P : Program} {w : World} {K : PySem.W.Frag} {mg : Str → Option Value} {base : Heap}
def spAfter (K : PySem.W.Frag) : Sp := fun vs H Q _ => ∃ (a l : Addr) (vp e : V) (pan pan' : List (List Int)) (st : List Int) (d : PyData) (f : List Int → List Int), vs = [.ref a, e] ∧ H a = some (.lst [vp, .ref l]) ∧ Dp K H vp (dPan pan) ∧ H l = some (.tup (st.map V.int)) ∧ Dp K H e d ∧ Good pan ∧ Asc pan.length st ∧ Ed pan d pan' f ∧
  ∀ H' a p l', Same H H' → H a = none → H' a = some (.lst [p, .ref l']) → Dp K H' p (dPan pan') → H' l' = some (.tup ((f st).map V.int)) → Q (.ref a) H'
theorem ok_After {fPressed : Addr} {fdPressed : FuncData} {fChanged : Addr} {fdChanged : FuncData} {f : Addr} {fd : FuncData} {k : Nat} (F : Fun K "_law_after" "_law_after" sAfter f fd)
    (FPressed : Fun K "_law_pressed" "_law_pressed" sPressed fPressed fdPressed) (bPressed : Binds K fdPressed ["_law_panel_here", "_law_state_here", "_law_button"] []) (gPressed : mg "_law_pressed" = some (.ref fPressed))
    (FChanged : Fun K "_law_changed" "_law_changed" sChanged fChanged fdChanged) (bChanged : Binds K fdChanged ["_law_panel_here", "_law_one", "_law_other", "_law_is_link"] []) (gChanged : mg "_law_changed" = some (.ref fChanged))
    (m_int : mg "int" = none) (m_sorted : mg "sorted" = none) (m_tuple : mg "tuple" = none) : FnOk P w K mg base CX0 (k + 2) f fd ["_law_state_here", "_law_edit_here"] (spAfter K) := by
  have GPressed : FnOk P w K mg base CX0 (k + 1) fPressed fdPressed ["_law_panel_here", "_law_state_here", "_law_button"] (spPressed K) := ok_Pressed FPressed m_sorted m_tuple
  have GChanged : FnOk P w K mg base CX0 (k + 1) fChanged fdChanged ["_law_panel_here", "_law_one", "_law_other", "_law_is_link"] (spChanged K) := ok_Changed FChanged m_int m_sorted m_tuple
  refine F.ok scAfter (fun vs H Q E h => ?_) (fun cdv A outer s H vs Q E hr h => ?_)
  · obtain ⟨a, l, vp, e, pan, pan', st, d, f, rfl, _⟩ := h
    rfl
  · obtain ⟨a, l, vp, e, pan, pan', st, d, f, rfl, ea, dp, el, de, hg, hst, hE, q⟩ := h
    refine ⟨_, pss_cons (ps_asg (pv 0) (pg_unl rfl (pgs_cons (pg_name (i := 2) scAfter.nd rfl (Or.inl rfl)) (pgs_cons (pg_name (i := 3) scAfter.nd rfl (Or.inl rfl)) pgs_nil))))
      (pss_cons (ps_if (pt_cmpR op_eq (pe_ix (show IxR _ (rIxT K) from ix_tup) (pv 1) pe_int (fun _ _ => rfl)) pe_str (nomark _)) (pss_one (ps_ret (pe_lst (pa_cons (pv 2) (pa_cons (pe_call GPressed (hr.mono (by omega)) (by rfl) gPressed FPressed.kp bPressed .nil pass0 (pa_cons (pv 2) (pa_cons (pv 3) (pa_cons (pe_ix (show IxR _ (rIxT K) from ix_tup) (pv 1) pe_int (fun _ _ => rfl)) pa_nil)))) pa_nil))))) pss_nil)
      (pss_one (ps_ret (pe_lst (pa_cons (pe_call GChanged (hr.mono (by omega)) (by rfl) gChanged FChanged.kp bChanged .nil pass0 (pa_cons (pv 2) (pa_cons (pe_ix (show IxR _ (rIxT K) from ix_tup) (pv 1) pe_int (fun _ _ => rfl)) (pa_cons (pe_ix (show IxR _ (rIxT K) from ix_tup) (pv 1) pe_int (fun _ _ => rfl)) (pa_cons (pe_cmpR op_eq (pe_ix (show IxR _ (rIxT K) from ix_tup) (pv 1) pe_int (fun _ _ => rfl)) pe_str (nomark _)) pa_nil))))) (pa_cons (pv 3) pa_nil)))))), ?_⟩
    have dl : Dp K H (.ref l) (dInts st) := dp_ints (.inl (.inl el))
    refine ⟨.ref a, rfl, a, _, rfl, .inl (.inl ea), rfl, vp, [.ref l], rfl, .ref l, [], rfl, rfl, ?_⟩
    cases hE with
    | press h0 h1 =>
      refine gs_if1 (gvt_test (K := K) (gv_eqS (gv_ixT (j := 0) (gv_var rfl de) gv_int rfl rfl) gv_str)) (fun _ H1 s1 => ?_) (fun z => by simp at z)
      refine ⟨vp, rfl, vp, rfl, .ref l, rfl, (gv_ixT (K := K) (j := 1) (d := .int _) (gv_var rfl (de.sm s1)) gv_int rfl rfl).at fun w H2 s2 dw => ?_⟩
      cases dw
      have s12 := s1.trans s2
      refine ⟨pan, st, _, .cons (dp.sm s12) (.cons (dl.sm s12) (.cons (.int _) .nil)), hst, hg.few, h0, h1, fun H3 t s3 et => ⟨by show 2 ≤ sizeLine; decide, fun b nb => ?_⟩⟩
      have s4 := same_new (o := .lst [vp, .ref t]) nb
      have sA := (s12.trans s3).trans s4
      exact q _ b vp t sA ((s12.trans s3).free nb) upd_same (dp.sm sA) (s4 _ _ et)
    | link h hn =>
      refine gs_no (gvt_test (K := K) (gv_eqS (gv_ixT (j := 0) (gv_var rfl de) gv_int rfl rfl) gv_str)) (by decide +kernel) fun H1 s1 => ?_
      refine (gv_Changed (K := K) (fl := true) (gva_cons (gv_var rfl (dp.sm s1)) (gva_cons (gv_ixT (j := 1) (gv_var rfl (de.sm s1)) gv_int rfl rfl) (gva_cons (gv_ixT (j := 2) (gv_var rfl (de.sm s1)) gv_int rfl rfl) (gva_cons ((gv_eqS (gv_ixT (j := 0) (gv_var rfl (de.sm s1)) gv_int rfl rfl) gv_str).to (by rw [decide_eq_true rfl])) gva_nil)))) ⟨hg, h, fun _ => hn, (fun z => by cases z)⟩).at fun vq H2 s2 dq => ⟨.ref l, rfl, by show 2 ≤ sizeLine; decide, fun b nb => ?_⟩
      have s4 := same_new (o := .lst [vq, .ref l]) nb
      have sA := (s1.trans s2).trans s4
      exact q _ b vq l sA ((s1.trans s2).free nb) upd_same (dq.sm s4) (sA _ _ el)
    | unlink h hn =>
      refine gs_no (gvt_test (K := K) (gv_eqS (gv_ixT (j := 0) (gv_var rfl de) gv_int rfl rfl) gv_str)) (by decide +kernel) fun H1 s1 => ?_
      refine (gv_Changed (K := K) (fl := false) (gva_cons (gv_var rfl (dp.sm s1)) (gva_cons (gv_ixT (j := 1) (gv_var rfl (de.sm s1)) gv_int rfl rfl) (gva_cons (gv_ixT (j := 2) (gv_var rfl (de.sm s1)) gv_int rfl rfl) (gva_cons ((gv_eqS (gv_ixT (j := 0) (gv_var rfl (de.sm s1)) gv_int rfl rfl) gv_str).to (by rw [decide_eq_false (by decide +kernel)])) gva_nil)))) ⟨hg, h, (fun z => by cases z), fun _ => hn⟩).at fun vq H2 s2 dq => ⟨.ref l, rfl, by show 2 ≤ sizeLine; decide, fun b nb => ?_⟩
      have s4 := same_new (o := .lst [vq, .ref l]) nb
      have sA := (s1.trans s2).trans s4
      exact q _ b vq l sA ((s1.trans s2).free nb) upd_same (dq.sm s4) (sA _ _ el)
end
def nEdit : List Str := ["_law_deck_here", "_law_state_here", "_law_panel_here", "_law_latched", "_law_n", "_law_one", "_law_other"]
theorem scEdit : FnScope nEdit ["_law_deck_here", "_law_state_here"] (defScope sEdit) := ⟨rfl, rfl, rfl, by decide +kernel, rfl, by decide +kernel, by decide +kernel⟩
section
variable {P : Program} {w : World} {K : PySem.W.Frag} {mg : Str → Option Value} {base : Heap}
def spEdit (K : PySem.W.Frag) : Sp := fun vs H Q _ => ∃ (a c b : Addr) (m : Nat) (pan : List (List Int)) (st : List Int) (ws : List V), vs = [.ref a, .ref b] ∧ Deck H a c (m + 10) ∧ b ≠ a ∧ b ≠ c ∧ H b = some (.lst ws) ∧ DpAll K H ws [dPan pan, dInts st] ∧ Good pan ∧
  ∀ H' v d pan' f, But a c H H' → Deck H' a c m → Dp K H' v d → Ed pan d pan' f → Q v H'
theorem ok_Edit {fDraw : Addr} {fdDraw : FuncData} {f : Addr} {fd : FuncData} {k : Nat} (F : Fun K "_law_edit" "_law_edit" sEdit f fd)
    (FDraw : Fun K "_law_draw" "_law_draw" sDraw fDraw fdDraw) (bDraw : Binds K fdDraw ["_law_deck_here", "_law_many"] []) (gDraw : mg "_law_draw" = some (.ref fDraw))
    (m_int : mg "int" = none) (m_len : mg "len" = none) : FnOk P w K mg base CX0 (k + 2) f fd ["_law_deck_here", "_law_state_here"] (spEdit K) := by
  have GDraw : FnOk P w K mg base CX0 (k + 1) fDraw fdDraw ["_law_deck_here", "_law_many"] spDraw := ok_draw FDraw m_len
  refine F.ok scEdit (fun vs H Q E h => ?_) (fun cdv A outer s H vs Q E hr h => ?_)
  · obtain ⟨a, c, b, m, pan, st, ws, rfl, _⟩ := h
    rfl
  · obtain ⟨a, c, b, m, pan, st, ws, rfl, hD, ba, bc, eb, dw, hg, q⟩ := h
    refine ⟨_, pss_cons (ps_asg (pv 1) (pg_unl rfl (pgs_cons (pg_name (i := 2) scEdit.nd rfl (Or.inl rfl)) (pgs_cons (pg_name (i := 3) scEdit.nd rfl (Or.inl rfl)) pgs_nil))))
      (pss_cons (ps_set (i := 4) scEdit.nd rfl (.inl rfl) (pe_callB (show CallR _ _ (rLenG K) from cr_lenG) (by rfl) m_len PySem.boot_len (pa_cons (pv 2) pa_nil)))
      (pss_cons (ps_par (i := 5) (j := 6) rfl scEdit.nd rfl rfl (by decide) rfl rfl (pa_cons (pe_call GDraw (hr.mono (by omega)) (by rfl) gDraw FDraw.kp bDraw .nil pass0 (pa_cons (pv 0) (pa_cons (pv 4) pa_nil))) (pa_cons (pe_call GDraw (hr.mono (by omega)) (by rfl) gDraw FDraw.kp bDraw .nil pass0 (pa_cons (pv 0) (pa_cons (pv 4) pa_nil))) pa_nil)) (by rfl))
      (pss_cons (ps_if (PW.pt (pw_or (pt_cmpR op_gt (pe_call GDraw (hr.mono (by omega)) (by rfl) gDraw FDraw.kp bDraw .nil pass0 (pa_cons (pv 0) (pa_cons pe_int pa_nil))) pe_int (nomark _)) (pw_or1 (pt_cmpR op_eq (pv 5) (pv 6) (nomark _))))) (pss_one (ps_ret (pe_tup (pa_cons pe_str (pa_cons (pv 5) pa_nil))))) pss_nil)
      (pss_one (ps_ret (pe_tup (pa_cons (pe_ix (show IxR _ (rIxL K) from ix_list) (pe_lst (pa_cons pe_str (pa_cons pe_str pa_nil))) (pe_callTy call_int1 (by rfl) m_int (by decide +kernel) (pa_cons (pe_cmpR (show OpR _ _ (rIn K false) from op_in_seq) (pv 6) (pe_ix (show IxR _ (rIxT K) from ix_tup) (pv 2) (pv 5) (fun _ _ => rfl)) (by rfl)) pa_nil)) (fun _ _ => rfl)) (pa_cons (pv 5) (pa_cons (pv 6) pa_nil))))))))), ?_⟩
    obtain ⟨vp, vl, rfl, dp, dl⟩ := dpAll2 dw
    have few := hg.few
    have pos := hg.pos
    have hlp : (pan.map dInts).length = pan.length := List.length_map _
    refine ⟨.ref b, rfl, b, _, rfl, .inl (.inl eb), rfl, vp, [vl], rfl, vl, [], rfl, rfl, ?_⟩
    refine gs_set1 (K := K) (gv_lenT (gv_var rfl dp)) fun vn H1 s1 dn => ?_
    cases dn
    rw [hlp]
    refine ⟨.ref a, rfl, .int (pan.length : Int), rfl, a, c, m + 9, (pan.length : Int), rfl, (hD.same s1).less (by omega), by omega, by omega, fun H2 one b2 D2 o0 o1 => ?_⟩
    refine ⟨.ref a, rfl, .int (pan.length : Int), rfl, a, c, m + 8, (pan.length : Int), rfl, D2.less (by omega), by omega, by omega, fun H3 other b3 D3 u0 u1 => ⟨_, _, rfl, ?_⟩⟩
    have B3 : But a c H H3 := ((But.of s1).trans b2).trans b3
    have k3 : Kp H H3 := ((Kp.of s1).trans (Kp.but (hD.same s1) b2)).trans (Kp.but D2 b3)
    refine ⟨.ref a, rfl, a, c, m + 7, 3, rfl, D3.less (by omega), by decide, by decide, fun H4 r b4 D4 r0 r1 => ?_⟩
    have B4 := B3.trans b4
    have k4 := k3.trans (Kp.but D3 b4)
    have dp4 := dp.kp k4 (lf_pan _)
    have pr : Q = Q → ∀ H', Same H4 H' → tRet (tTup (tCons (tC (.str "press")) (tCons (tVar 5) tNil))) { nx := fun _ H' => Q .non H', rt := Q } [some (.ref a), some (.ref b), some vp, some vl, some (.int (pan.length : Int)), some (.int one), some (.int other)] H' := fun _ H' s' => gs_ret (K := K) (gv_tup (gva_cons gv_str (gva_cons (gv_var rfl (.int one)) gva_nil))) fun v H5 s5 dv => q H5 v _ _ _ (B4.trans (But.of (s'.trans s5))) ((D4.same (s'.trans s5)).less (by omega)) dv (.press o0 o1)
    refine ⟨_, _, rfl, rfl, _, rfl, ite2 (fun e => ?_) (fun e => ?_)⟩
    · exact iteT (pr rfl H4 (Same.refl _))
    · refine (gvt_test (K := K) (gv_eqI (gv_var rfl (.int one)) (gv_var rfl (.int other)))).at fun H5 s5 => ?_
      by_cases eq : one = other
      · rw [decide_eq_true eq]
        exact iteT (pr rfl H5 s5)
      · rw [decide_eq_false eq]
        refine iteF ?_
        have dp5 := dp4.sm s5
        have hI : InP2 pan one other := ⟨o0, o1, u0, u1, eq⟩
        by_cases hm : other ∈ pan.getD one.toNat []
        · refine gs_ret (K := K) (gv_tup (gva_cons (gv_ixL (j := 1) (d := .str "unlink") (gv_lst (gva_cons gv_str (gva_cons gv_str gva_nil))) ((gv_intB rfl (gv_inT (neg := false) (gv_var rfl (.int other)) (gv_pan (gv_var rfl dp5) (gv_var rfl (.int one)) o0 o1))).to (by rw [if_neg Bool.false_ne_true, decide_eq_true hm]; rfl)) rfl rfl) (gva_cons (gv_var rfl (.int one)) (gva_cons (gv_var rfl (.int other)) gva_nil)))) fun v H6 s6 dv => q H6 v _ _ _ (B4.trans (But.of (s5.trans s6))) ((D4.same (s5.trans s6)).less (by omega)) dv (.unlink hI hm)
        · refine gs_ret (K := K) (gv_tup (gva_cons (gv_ixL (j := 0) (d := .str "link") (gv_lst (gva_cons gv_str (gva_cons gv_str gva_nil))) ((gv_intB rfl (gv_inT (neg := false) (gv_var rfl (.int other)) (gv_pan (gv_var rfl dp5) (gv_var rfl (.int one)) o0 o1))).to (by rw [if_neg Bool.false_ne_true, decide_eq_false hm]; rfl)) rfl rfl) (gva_cons (gv_var rfl (.int one)) (gva_cons (gv_var rfl (.int other)) gva_nil)))) fun v H6 s6 dv => q H6 v _ _ _ (B4.trans (But.of (s5.trans s6))) ((D4.same (s5.trans s6)).less (by omega)) dv (.link hI hm)
end
end K57
namespace Pr
open PySem PySem.Spec PyProof.Rows L2
theorem tyx_tup {K : PySem.W.Frag} {H : Hp} {a : Addr} {xs : List V} (h : SqT K H a xs) : TyX K H (.ref a) (.type "tuple") := by
  rcases h with (h | ⟨o, h⟩) | ⟨o, its, n, h, hc, _⟩
  · exact .base (.tup h)
  · exact .fTuple h
  · exact .kTuple h hc
theorem tyx_lst {K : PySem.W.Frag} {H : Hp} {a : Addr} {xs : List V} (h : SqL K H a xs) : TyX K H (.ref a) (.type "list") := by
  rcases h with (h | ⟨o, h⟩) | ⟨o, its, n, h, hc, _⟩
  · exact .base (.lst h)
  · exact .base (.frz h)
  · exact .kList h hc
def tFin (t tf : TS) : TS := fun D σ H => t { nx := fun σ1 H1 => tf D σ1 H1, rt := fun _ _ => False } σ H
section
variable {X : Cx} {body : List Stmt} {f₀ : Stmt} {fs : List Stmt} {pos : Pos} {t tf tfs : TS} {tb : WX → TS} {Wout : WX}
theorem fin_next {D : Ends} {pins : List (Addr × Obj)} {s : Shared} {σ : L2.St} {H : Hp} {E : Value → Shared → Prop} (hf : PSs X.nox (f₀ :: fs) tf) (I : Inv X pins σ H s) (h : tf D σ H) :
    wpAny (model X.prog X.w) X.A (execs (f₀ :: fs) X.env) (fun g s' => match g with
      | .next => SP X pins D .next s'
      | g => SP X pins D g s') E s := by
  refine wpAny_mono (hf.run pins s σ H D (I.wish _) h) (fun g s1 q => ?_) fun _ _ z => False.elim z
  have q' : SP X pins D g s1 := q.unwish
  cases g <;> exact q'
theorem ps_fin (hb : PSs X.nox body t) (hf : PSs X.nox (f₀ :: fs) tf) : PS X (.Try body [] [] (f₀ :: fs) pos) (tFin t tf) := by
  refine ⟨fun pins s σ H D I h => ?_⟩
  refine wpAny_Try_finally (wpAny_mono (hb.run pins s σ H _ (I.wish _) h) (fun g s1 q => ?_) fun _ _ z => False.elim z)
  cases g with
  | next =>
    obtain ⟨σ1, H1, I1, q1⟩ := q
    exact wpAny_execs_nil (fin_next hf I1.unwish q1)
  | ret u => obtain ⟨_, _, _, _, _, z⟩ := q; exact False.elim z
  | brk => obtain ⟨_, _, _, z⟩ := q; exact False.elim z
  | cont => obtain ⟨_, _, _, z⟩ := q; exact False.elim z
end
end Pr
namespace K57
open PySem PySem.Spec PyProof.Rows L2 Pr
abbrev sDoEdit : Stmt := inClass (topS 43) 14
abbrev sDoBatch : Stmt := inClass (topS 43) 13
abbrev sAttempt : Stmt := inClass (topS 43) 12
/-- edits that can be done one after another: what they lead to, and what they add to the past -/
inductive Eds : List (List Int) → List Int → List PyData → List (List Int) → List Int → List (PyData × List (List Int) × List Int) → Prop
  | nil {pan : List (List Int)} {st : List Int} : Eds pan st [] pan st []
  | cons {pan pan1 pan' : List (List Int)} {st st' : List Int} {d : PyData} {ds : List PyData} {f : List Int → List Int} {xs : List (PyData × List (List Int) × List Int)} (h : Ed pan d pan1 f) (t : Eds pan1 (f st) ds pan' st' xs) : Eds pan st (d :: ds) pan' st' ((d, pan, st) :: xs)
theorem Eds.lf {pan pan' : List (List Int)} {st st' : List Int} {ds : List PyData} {xs : List (PyData × List (List Int) × List Int)} (h : Eds pan st ds pan' st' xs) : ∀ d ∈ ds, Pr.lf d = true := by
  induction h with
  | nil => intro d hd; cases hd
  | cons h t ih =>
    intro d hd
    rcases List.mem_cons.mp hd with rfl | hd
    · exact h.lf
    · exact ih d hd
theorem Eds.len {pan pan' : List (List Int)} {st st' : List Int} {ds : List PyData} {xs : List (PyData × List (List Int) × List Int)} (h : Eds pan st ds pan' st' xs) : xs.length = ds.length := by
  induction h with
  | nil => rfl
  | cons h t ih => rw [List.length_cons, List.length_cons, ih]
theorem Eds.ed {pan pan' : List (List Int)} {st st' : List Int} {ds : List PyData} {xs : List (PyData × List (List Int) × List Int)} (h : Eds pan st ds pan' st' xs) : ∀ d ∈ ds, ∃ p p' f, Ed p d p' f := by
  induction h with
  | nil => intro d hd; cases hd
  | cons h t ih =>
    intro d hd
    rcases List.mem_cons.mp hd with rfl | hd
    · exact ⟨_, _, _, h⟩
    · exact ih d hd
theorem dp_dq {K : PySem.W.Frag} {H : Hp} {v : V} {pan pan' : List (List Int)} {d : PyData} {f : List Int → List Int} (h : Ed pan d pan' f) (dv : Dp K H v d) : ∃ (a : Addr) (w : Str) (xs : List V) (ds : List PyData), v = .ref a ∧ SqT K H a (.str w :: xs) ∧ d = .tuple (.str w :: ds) ∧ xs.length = ds.length ∧ ((w = "press" ∧ ds.length = 1) ∨ (w = "link" ∧ ds.length = 2) ∨ (w = "unlink" ∧ ds.length = 2)) := by
  cases h with
  | press _ _ =>
    obtain ⟨a, xs, rfl, hq, hr⟩ := dv.tupI
    obtain ⟨v1, v2, rfl, d1, d2⟩ := dpAll2 hr
    cases d1
    exact ⟨a, "press", [v2], _, rfl, hq, rfl, rfl, .inl ⟨rfl, rfl⟩⟩
  | link _ _ =>
    obtain ⟨a, xs, rfl, hq, hr⟩ := Dp.tupI (show Dp K H v (.tuple _) from dv)
    obtain ⟨v1, v2, v3, rfl, d1, d2, d3⟩ := dpAll3 hr
    cases d1
    exact ⟨a, "link", [v2, v3], _, rfl, hq, rfl, rfl, .inr (.inl ⟨rfl, rfl⟩)⟩
  | unlink _ _ =>
    obtain ⟨a, xs, rfl, hq, hr⟩ := Dp.tupI (show Dp K H v (.tuple _) from dv)
    obtain ⟨v1, v2, v3, rfl, d1, d2, d3⟩ := dpAll3 hr
    cases d1
    exact ⟨a, "unlink", [v2, v3], _, rfl, hq, rfl, rfl, .inr (.inr ⟨rfl, rfl⟩)⟩
theorem at_zero {v : V} {xs : List V} : atI (v :: xs) 0 = some v := atI_nat (xs := v :: xs) (j := 0) rfl
/-- the dict of the module: how many values each edit takes -/
structure KVal (K : PySem.W.Frag) (w : World) (mg : Str → Option Value) (dV : Addr) : Prop where
  g : mg "VALUES" = some (.ref dV)
  kd : ∃ es n, KDict K w dV es n
  v1 : ∃ t, PySem.W.nsIn K dV "press" = some (some (.int 1 t))
  v2 : ∃ t, PySem.W.nsIn K dV "link" = some (some (.int 2 t))
  v3 : ∃ t, PySem.W.nsIn K dV "unlink" = some (some (.int 2 t))
theorem KVal.at {K : PySem.W.Frag} {w : World} {mg : Str → Option Value} {dV : Addr} (V : KVal K w mg dV) {x : Str} {n : Nat} (h : (x = "press" ∧ n = 1) ∨ (x = "link" ∧ n = 2) ∨ (x = "unlink" ∧ n = 2)) : ∃ t, PySem.W.nsIn K dV x = some (some (.int (n : Int) t)) := by
  rcases h with ⟨rfl, rfl⟩ | ⟨rfl, rfl⟩ | ⟨rfl, rfl⟩
  · exact V.v1
  · exact V.v2
  · exact V.v3
def nIsE : List Str := ["value"]
theorem scIsE : FnScope nIsE ["value"] (defScope sIsE) := ⟨rfl, rfl, rfl, by decide +kernel, rfl, by decide +kernel, by decide +kernel⟩
section
variable {P : Program} {w : World} {K : PySem.W.Frag} {mg : Str → Option Value} {base : Heap}
def spIsE (K : PySem.W.Frag) : Sp := fun vs H Q _ => ∃ (v : V) (d : PyData) (pan pan' : List (List Int)) (f : List Int → List Int), vs = [v] ∧ Dp K H v d ∧ Ed pan d pan' f ∧ Q (.bl true) H
theorem ok_IsE {f dV : Addr} {fd : FuncData} {k : Nat} (F : Fun K "is_edit" "is_edit" sIsE f fd) (m_isinstance : mg "isinstance" = none) (m_len : mg "len" = none) (m_str : mg "str" = none) (m_tuple : mg "tuple" = none) (VA : KVal K w mg dV) : FnOk P w K mg base CX0 (k + 1) f fd ["value"] (spIsE K) := by
  obtain ⟨es, n, KD_VALUES⟩ := VA.kd
  have y_VALUES := VA.g
  refine F.ok scIsE (fun vs H Q E h => ?_) (fun cdv A outer s H vs Q E hr h => ?_)
  · obtain ⟨v, d, pan, pan', f, rfl, _⟩ := h
    rfl
  · obtain ⟨v, d, pan, pan', f, rfl, dv, hE, q⟩ := h
    refine ⟨_, pss_cons (ps_if (PW.pt (pw_or (pt_not (pt_val (pe_callB (show CallR _ _ (rIsi K) from call_isi) (by rfl) m_isinstance (by decide +kernel) (pa_cons (pv 0) (pa_cons (pe_bltn (v := .ty "tuple") (by rfl) m_tuple (by decide +kernel) rfl) pa_nil))))) (pw_or (pt_cmpR op_eq (pe_callB (show CallR _ _ (rLenG K) from cr_lenG) (by rfl) m_len PySem.boot_len (pa_cons (pv 0) pa_nil)) pe_int (nomark _)) (pw_or1 (pt_not (pt_val (pe_callB (show CallR _ _ (rIsi K) from call_isi) (by rfl) m_isinstance (by decide +kernel) (pa_cons (pe_ix (show IxR _ (rIxT K) from ix_tup) (pv 0) pe_int (fun _ _ => rfl)) (pa_cons (pe_bltn (v := .ty "str") (by rfl) m_str (by decide +kernel) rfl) pa_nil))))))))) (pss_one (ps_ret pe_bl)) pss_nil)
      (pss_one (ps_ret (pe_and (pe_cmpR (op_in_kd KD_VALUES) (pe_ix (show IxR _ (rIxT K) from ix_tup) (pv 0) pe_int (fun _ _ => rfl)) (pe_glob (v := .ref dV) (by rfl) y_VALUES rfl) (by rfl)) (pe_one (pe_cmpR op_eq (pe_callB (show CallR _ _ (rLenG K) from cr_lenG) (by rfl) m_len PySem.boot_len (pa_cons (pv 0) pa_nil)) (pe_op op_add pe_int (pe_ix ix_kdict (pe_glob (v := .ref dV) (by rfl) y_VALUES rfl) (pe_ix (show IxR _ (rIxT K) from ix_tup) (pv 0) pe_int (fun _ _ => rfl)) (fun _ _ => rfl))) (nomark _)))))), ?_⟩
    obtain ⟨a, x, xs, ds, rfl, hq, rfl, hl, hw⟩ := dp_dq hE dv
    have hz : (V.str x :: xs).length ≤ 3 := by
      rw [List.length_cons, hl]; rcases hw with h | h | h <;> omega
    obtain ⟨tk, hns⟩ := VA.at (x := x) (n := ds.length) hw
    have ty : TyX K H (.ref a) (.type "tuple") := tyx_tup hq
    refine ⟨.ref a, rfl, .ref a, .ty "tuple", _, _, _, rfl, .ty "tuple", ty, kit_ty (a := "tuple") (b := "tuple") (r := true) (by decide +kernel), _, rfl, iteF ?_⟩
    refine ⟨.ref a, rfl, a, _, rfl, .inr hq, rfl, _, rfl, ?_⟩
    rw [show decide (V.int ((V.str x :: xs).length : Nat) = V.int 0) = false from decide_eq_false (by rw [List.length_cons]; intro z; injection z with z; omega)]
    refine iteF ?_
    refine ⟨.ref a, rfl, a, _, 0, .str x, rfl, rfl, hq, at_zero, .str x, .ty "str", _, _, _, rfl, .ty "str", .base (.str x), kit_ty (a := "str") (b := "str") (r := true) (by decide +kernel), _, rfl, iteF ?_⟩
    refine ⟨.ref a, rfl, a, _, 0, .str x, rfl, rfl, hq, at_zero, x, _, rfl, rfl, hns, true, rfl, iteT ?_⟩
    refine ⟨.ref a, rfl, a, _, rfl, .inr hq, .ref a, rfl, a, _, 0, .str x, rfl, rfl, hq, at_zero, dV, x, .int (ds.length : Int), rfl, rfl, ⟨es, n, _, KD_VALUES.at_, KD_VALUES.lit, hns, ⟨tk, rfl⟩⟩, 1, _, rfl, rfl, rfl, ?_⟩
    rw [show decide (V.int ((V.str x :: xs).length : Nat) = V.int (1 + (ds.length : Int))) = true from decide_eq_true (by rw [List.length_cons, hl]; congr 1; omega)]
    exact q
end
def nCopy : List Str := ["value", "index", "item"]
theorem scCopy : FnScope nCopy ["value"] (defScope sCopy) := ⟨rfl, rfl, rfl, by decide +kernel, rfl, by decide +kernel, by decide +kernel⟩
section
variable {P : Program} {w : World} {K : PySem.W.Frag} {mg : Str → Option Value} {base : Heap}
def spCopy (K : PySem.W.Frag) : Sp := fun vs H Q _ => ∃ (v : V) (ds : List PyData) (pan pan' : List (List Int)) (st st' : List Int) (xs : List (PyData × List (List Int) × List Int)), vs = [v] ∧ Dp K H v (.list ds) ∧ Eds pan st ds pan' st' xs ∧ ds.length ≤ 20 ∧ ∀ H' u, Same H H' → Dp K H' u (.tuple ds) → Q u H'
theorem ok_Copy {fIsE : Addr} {fdIsE : FuncData} {f : Addr} {fd : FuncData} {k : Nat} (F : Fun K "copied_batch" "copied_batch" sCopy f fd)
    (FIsE : Fun K "is_edit" "is_edit" sIsE fIsE fdIsE) (bIsE : Binds K fdIsE ["value"] []) (gIsE : mg "is_edit" = some (.ref fIsE))
    (m_enumerate : mg "enumerate" = none) (m_isinstance : mg "isinstance" = none) (m_len : mg "len" = none) (m_list : mg "list" = none) (m_str : mg "str" = none) (m_tuple : mg "tuple" = none) {dV : Addr} {tkB : Tok} (VA : KVal K w mg dV) (y_BATCH : mg "BATCH" = some (.int 20 tkB)) : FnOk P w K mg base CX0 (k + 2) f fd ["value"] (spCopy K) := by
  have GIsE : FnOk P w K mg base CX0 (k + 1) fIsE fdIsE ["value"] (spIsE K) := ok_IsE FIsE m_isinstance m_len m_str m_tuple VA
  refine F.ok scCopy (fun vs H Q E h => ?_) (fun cdv A outer s H vs Q E hr h => ?_)
  · obtain ⟨v, ds, pan, pan', st, st', xs, rfl, _⟩ := h
    rfl
  · obtain ⟨v, ds, pan, pan', st, st', xs, rfl, dv, hE, few, q⟩ := h
    refine ⟨_, pss_cons (ps_if (PW.pt (pw_or (pt_not (pt_val (pe_callB call_isiT (by rfl) m_isinstance (by decide +kernel) (pa_cons (pv 0) (pa_cons (pe_tup (pa_cons (pe_bltn (v := .ty "list") (by rfl) m_list (by decide +kernel) rfl) (pa_cons (pe_bltn (v := .ty "tuple") (by rfl) m_tuple (by decide +kernel) rfl) pa_nil))) pa_nil))))) (pw_or1 (pt_cmpR op_gt (pe_callB (show CallR _ _ (rLenG K) from cr_lenG) (by rfl) m_len PySem.boot_len (pa_cons (pv 0) pa_nil)) (pe_glob (v := .int 20) (by rfl) y_BATCH ⟨_, rfl⟩) (nomark _))))) (pss_one ps_never) pss_nil)
      (pss_cons (ps_for PassesOwn.never rfl (pi_enum (by rfl) m_enumerate (pa_cons (pv 0) pa_nil)) (pg_tup rfl (pgs_cons (pg_name (i := 1) scCopy.nd rfl (Or.inl rfl)) (pgs_cons (pg_name (i := 2) scCopy.nd rfl (Or.inl rfl)) pgs_nil))) (pss_one (ps_if (pt_not (pt_val (pe_call GIsE (hr.mono (by omega)) (by rfl) gIsE FIsE.kp bIsE .nil pass0 (pa_cons (pv 2) pa_nil)))) (pss_one ps_never) pss_nil)))
      (pss_one (ps_ret (pe_callTy (show CallR _ _ (rTupG K) from cr_tupG) (by rfl) m_tuple (by decide +kernel) (pa_cons (pv 0) pa_nil))))), ?_⟩
    obtain ⟨a, ws, rfl, hq, hr'⟩ := dv.lstI
    have wl : ws.length = ds.length := hr'.length
    refine ⟨.ref a, rfl, by show 2 ≤ sizeLine; decide, fun tp ntp => ?_⟩
    have s1 := same_new (o := .tup [.ty "list", .ty "tuple"]) ntp
    refine ⟨.ref a, tp, _, _, [.type "list", .type "tuple"], true, rfl, upd_same, .cons (.ty _) (.cons (.ty _) .nil), tyx_lst (s1.seq hq), kitAny_cons (b := true) (kit_ty (by decide +kernel)) (fun z => by cases z) (fun _ => rfl), true, rfl, iteF ?_⟩
    generalize upd H tp (.tup [.ty "list", .ty "tuple"]) = H1 at s1 ⊢
    refine ⟨.ref a, rfl, a, _, rfl, .inl (s1.seq hq), (ws.length : Int), 20, rfl, rfl, _, rfl, ?_⟩
    rw [show decide ((20 : Int) < (ws.length : Int)) = false from decide_eq_false (by omega)]
    refine iteF ?_
    have dv1 := dv.sm s1
    refine gs_each2 (K := K) (R := Same) (δ1 := fun x : PyData × Nat => .int (x.2 : Nat)) (δ2 := fun x : PyData × Nat => x.1) (as := ds.zipIdx) (gvi_enumL (δ := fun x => x) (as := ds) (gv_var rfl (by rw [List.map_id']; exact dv1))) (fun Ha k σ' H' => Same Ha H' ∧ ∃ x1 x2, σ' = [some (.ref a), x1, x2]) (fun Ha sa => ⟨Same.refl _, _, _, rfl⟩) (fun Ha k σ' H' sa hP => hP.1) (fun Ha k x vi vx σ' H3 H4 sa hx hP s4 di dx => ?_) (fun Ha σ' H3 sa hP => ?_)
    · obtain ⟨s3, x1, x2, rfl⟩ := hP
      have hm : x.1 ∈ ds := (List.mem_zipIdx' (List.mem_of_getElem? hx)).2 ▸ List.getElem_mem _
      obtain ⟨p1, p2, f, he⟩ := hE.ed x.1 hm
      refine ⟨vx, rfl, vx, x.1, p1, p2, f, rfl, dx, he, true, rfl, iteF ?_⟩
      exact ⟨s3.trans s4, _, _, rfl⟩
    · obtain ⟨s3, x1, x2, rfl⟩ := hP
      exact gs_ret (K := K) (gv_tupL (gv_var rfl (dv1.sm (sa.trans s3)))) fun u H4 s4 du => q H4 u ((s1.trans (sa.trans s3)).trans s4) du
end
def nDoEdit : List Str := ["self", "index", "edit", "reason"]
theorem scDoEdit : FnScope nDoEdit ["self", "index", "edit"] (defScope sDoEdit) := ⟨rfl, rfl, rfl, by decide +kernel, rfl, by decide +kernel, by decide +kernel⟩
section
variable {P : Program} {w : World} {K : PySem.W.Frag} {mg : Str → Option Value} {base : Heap}
def spDoEdit (K : PySem.W.Frag) (C : Addr) : Sp := fun vs H Q _ => ∃ (t : Addr) (i : Int) (pan pan' : List (List Int)) (st : List Int) (past : List (PyData × List (List Int) × List Int)) (v : V) (d : PyData) (f : List Int → List Int), vs = [.ref t, .int i, v] ∧ DeskAt K C H t pan st past ∧ past.length < 60 ∧ Dp K H v d ∧ Ed pan d pan' f ∧
  ∀ H', ButO t H H' → DeskAt K C H' t pan' (f st) (past ++ [(d, pan, st)]) → Q .non H'
theorem ok_DoEdit {fWl : Addr} {fdWl : FuncData} {fLi : Addr} {fdLi : FuncData} {fUn : Addr} {fdUn : FuncData} {fBtn : Addr} {fdBtn : FuncData} {fPress : Addr} {fdPress : FuncData} {fAny : Addr} {fdAny : FuncData} {fHeld : Addr} {fdHeld : FuncData} {fChkB : Addr} {fdChkB : FuncData} {C f : Addr} {fd : FuncData} {k : Nat} (F : Fun K "do_edit" "Desk.do_edit" sDoEdit f fd) (T : TxtD K mg C)
    (FWl : Fun K "with_list" "with_list" sWl fWl fdWl) (bWl : Binds K fdWl ["panel", "button", "released"] []) (gWl : mg "with_list" = some (.ref fWl))
    (FLi : Fun K "linked" "linked" sLi fLi fdLi) (bLi : Binds K fdLi ["panel", "one", "other"] []) (gLi : mg "linked" = some (.ref fLi))
    (FUn : Fun K "unlinked" "unlinked" sUn fUn fdUn) (bUn : Binds K fdUn ["panel", "one", "other"] []) (gUn : mg "unlinked" = some (.ref fUn))
    (FBtn : Fun K "is_button" "is_button" sBtn fBtn fdBtn) (bBtn : Binds K fdBtn ["value", "many"] []) (gBtn : mg "is_button" = some (.ref fBtn))
    (FPress : Fun K "press_button" "press_button" sPress fPress fdPress) (bPress : Binds K fdPress ["panel", "state", "button"] []) (gPress : mg "press_button" = some (.ref fPress))
    (FAny : Fun K "releases_any" "releases_any" sAny fAny fdAny) (bAny : Binds K fdAny ["panel", "button", "others"] []) (gAny : mg "releases_any" = some (.ref fAny))
    (FHeld : Fun K "held_buttons" "held_buttons" sHeld fHeld fdHeld) (bHeld : Binds K fdHeld ["panel", "state"] []) (gHeld : mg "held_buttons" = some (.ref fHeld))
    (FChkB : Fun K "check_button" "check_button" sChkB fChkB fdChkB) (bChkB : Binds K fdChkB ["panel", "value"] []) (gChkB : mg "check_button" = some (.ref fChkB))
    {fFree : Addr} {fdFree : FuncData} (FFree : Fun K "check_free" "Desk.check_free" sFree fFree fdFree) (bFree : Binds K fdFree ["self"] []) (hFree : Meth K C "check_free" fFree)
    {fRoom : Addr} {fdRoom : FuncData} (FRoom : Fun K "check_room" "Desk.check_room" sRoom fRoom fdRoom) (bRoom : Binds K fdRoom ["self"] []) (hRoom : Meth K C "check_room" fRoom)
    {fShow : Addr} {fdShow : FuncData} (FShow : Fun K "show" "Desk.show" sShow fShow fdShow) (bShow : Binds K fdShow ["self", "panel", "latched"] []) (hShow : Meth K C "show" fShow)
    {fAdd : Addr} {fdAdd : FuncData} (FAdd : Fun K "add_edit" "Desk.add_edit" sAdd fAdd fdAdd) (bAdd : Binds K fdAdd ["self", "edit", "panel", "latched"] []) (hAdd : Meth K C "add_edit" fAdd)
    {fPressD : Addr} {fdPressD : FuncData} (FPressD : Fun K "press" "Desk.press" sPressD fPressD fdPressD) (bPressD : Binds K fdPressD ["self", "button"] []) (hPressD : Meth K C "press" fPressD)
    {fLink0 : Addr} {fdLink0 : FuncData} (FLink0 : Fun K "check_link" "Desk.check_link" sLink0 fLink0 fdLink0) (bLink0 : Binds K fdLink0 ["self", "one", "other"] []) (hLink0 : Meth K C "check_link" fLink0)
    {fChg : Addr} {fdChg : FuncData} (FChg : Fun K "change_panel" "Desk.change_panel" sChg fChg fdChg) (bChg : Binds K fdChg ["self", "edit", "panel"] []) (hChg : Meth K C "change_panel" fChg)
    {fLink : Addr} {fdLink : FuncData} (FLink : Fun K "link" "Desk.link" sLink fLink fdLink) (bLink : Binds K fdLink ["self", "one", "other"] []) (hLink : Meth K C "link" fLink)
    {fUnlink : Addr} {fdUnlink : FuncData} (FUnlink : Fun K "unlink" "Desk.unlink" sUnlink fUnlink fdUnlink) (bUnlink : Binds K fdUnlink ["self", "one", "other"] []) (hUnlink : Meth K C "unlink" fUnlink)
    (m_any : mg "any" = none) (m_bool : mg "bool" = none) (m_enumerate : mg "enumerate" = none) (m_int : mg "int" = none) (m_isinstance : mg "isinstance" = none) (m_len : mg "len" = none) (m_sorted : mg "sorted" = none) (m_tuple : mg "tuple" = none) : FnOk P w K mg base CX0 (k + 7) f fd ["self", "index", "edit"] (spDoEdit K C) := by
  have GPressD : FnOk P w K mg base CX0 (k + 5) fPressD fdPressD ["self", "button"] (spPressD K C) := ok_PressD FPressD T FBtn bBtn gBtn FPress bPress gPress FAny bAny gAny FHeld bHeld gHeld FChkB bChkB gChkB FFree bFree hFree FRoom bRoom hRoom FShow bShow hShow FAdd bAdd hAdd m_any m_bool m_int m_isinstance m_len m_sorted m_tuple
  have GLink : FnOk P w K mg base CX0 (k + 6) fLink fdLink ["self", "one", "other"] (spLink K C) := ok_Link FLink T FWl bWl gWl FLi bLi gLi FBtn bBtn gBtn FAny bAny gAny FHeld bHeld gHeld FChkB bChkB gChkB FFree bFree hFree FRoom bRoom hRoom FLink0 bLink0 hLink0 FShow bShow hShow FAdd bAdd hAdd FChg bChg hChg m_any m_bool m_enumerate m_int m_isinstance m_len m_sorted m_tuple
  have GUnlink : FnOk P w K mg base CX0 (k + 6) fUnlink fdUnlink ["self", "one", "other"] (spUnlink K C) := ok_Unlink FUnlink T FWl bWl gWl FUn bUn gUn FBtn bBtn gBtn FAny bAny gAny FHeld bHeld gHeld FChkB bChkB gChkB FFree bFree hFree FRoom bRoom hRoom FLink0 bLink0 hLink0 FShow bShow hShow FAdd bAdd hAdd FChg bChg hChg m_any m_bool m_enumerate m_int m_isinstance m_len m_tuple
  refine F.ok scDoEdit (fun vs H Q E h => ?_) (fun cdv A outer s H vs Q E hr h => ?_)
  · obtain ⟨t, i, pan, pan', st, past, v, d, f, rfl, _⟩ := h
    rfl
  · obtain ⟨t, i, pan, pan', st, past, v, d, f, rfl, hD, few, dv, hE, q⟩ := h
    refine ⟨_, pss_one (ps_try_thru0 (pss_one (ps_if (pt_cmpR op_eq (pe_ix (show IxR _ (rIxT K) from ix_tup) (pv 2) pe_int (fun _ _ => rfl)) pe_str (nomark _)) (pss_one (ps_expr (pe_meth (pv 0) T.cl hPressD GPressD (hr.mono (by omega)) bPressD .nil pass0 (pa_cons (pe_ix (show IxR _ (rIxT K) from ix_tup) (pv 2) pe_int (fun _ _ => rfl)) pa_nil)))) (pss_one (ps_if (pt_cmpR op_eq (pe_ix (show IxR _ (rIxT K) from ix_tup) (pv 2) pe_int (fun _ _ => rfl)) pe_str (nomark _)) (pss_one (ps_expr (pe_meth (pv 0) T.cl hLink GLink (hr.mono (by omega)) bLink .nil pass0 (pa_cons (pe_ix (show IxR _ (rIxT K) from ix_tup) (pv 2) pe_int (fun _ _ => rfl)) (pa_cons (pe_ix (show IxR _ (rIxT K) from ix_tup) (pv 2) pe_int (fun _ _ => rfl)) pa_nil))))) (pss_one (ps_expr (pe_meth (pv 0) T.cl hUnlink GUnlink (hr.mono (by omega)) bUnlink .nil pass0 (pa_cons (pe_ix (show IxR _ (rIxT K) from ix_tup) (pv 2) pe_int (fun _ _ => rfl)) (pa_cons (pe_ix (show IxR _ (rIxT K) from ix_tup) (pv 2) pe_int (fun _ _ => rfl)) pa_nil)))))))))), ?_⟩
    cases hE with
    | press h0 h1 =>
      refine gs_if (gvt_test (K := K) (gv_eqS (gv_ixT (j := 0) (gv_var rfl dv) gv_int rfl rfl) gv_str)) (fun _ H1 s1 => ?_) (fun z => by simp at z)
      have hD1 := hD.same s1
      refine hD1.at fun dx fs e l => ⟨.ref t, rfl, t, dx, fs, rfl, e, l _ (by decide +kernel), ?_⟩
      refine (gv_ixT (K := K) (j := 1) (d := .int _) (gv_var rfl (dv.sm s1)) gv_int rfl rfl).at fun w H2 s2 dw => ?_
      cases dw
      exact ⟨t, pan, st, past, _, rfl, hD1.same s2, few, h0, h1, fun H3 k3 hN => q H3 ((ButO.of (s1.trans s2)).trans k3) hN⟩
    | link h hn =>
      refine gs_if (gvt_test (K := K) (gv_eqS (gv_ixT (j := 0) (gv_var rfl dv) gv_int rfl rfl) gv_str)) (fun z => absurd z (by decide +kernel)) (fun _ H0 s0 => ?_)
      refine gs_if (gvt_test (K := K) (gv_eqS (gv_ixT (j := 0) (gv_var rfl (dv.sm s0)) gv_int rfl rfl) gv_str)) (fun _ H1 s1 => ?_) (fun z => by simp at z)
      have s01 := s0.trans s1
      have hD1 := hD.same s01
      refine hD1.at fun dx fs e l => ⟨.ref t, rfl, t, dx, fs, rfl, e, l _ (by decide +kernel), ?_⟩
      refine gva_at (gva_cons (K := K) (gv_ixT (j := 1) (d := .int _) (gv_var rfl (dv.sm s01)) gv_int rfl rfl) (gva_cons (gv_ixT (j := 2) (d := .int _) (gv_var rfl (dv.sm s01)) gv_int rfl rfl) gva_nil)) fun ws H2 s2 dw => ?_
      obtain ⟨w1, w2, rfl, dw1, dw2⟩ := dpAll2 dw
      cases dw1
      cases dw2
      exact ⟨t, pan, st, past, _, _, rfl, hD1.same s2, few, h, hn, fun H3 k3 hN => q H3 ((ButO.of (s01.trans s2)).trans k3) hN⟩
    | unlink h hn =>
      refine gs_if (gvt_test (K := K) (gv_eqS (gv_ixT (j := 0) (gv_var rfl dv) gv_int rfl rfl) gv_str)) (fun z => absurd z (by decide +kernel)) (fun _ H0 s0 => ?_)
      refine gs_if (gvt_test (K := K) (gv_eqS (gv_ixT (j := 0) (gv_var rfl (dv.sm s0)) gv_int rfl rfl) gv_str)) (fun z => absurd z (by decide +kernel)) (fun _ H1 s1 => ?_)
      have s01 := s0.trans s1
      have hD1 := hD.same s01
      refine hD1.at fun dx fs e l => ⟨.ref t, rfl, t, dx, fs, rfl, e, l _ (by decide +kernel), ?_⟩
      refine gva_at (gva_cons (K := K) (gv_ixT (j := 1) (d := .int _) (gv_var rfl (dv.sm s01)) gv_int rfl rfl) (gva_cons (gv_ixT (j := 2) (d := .int _) (gv_var rfl (dv.sm s01)) gv_int rfl rfl) gva_nil)) fun ws H2 s2 dw => ?_
      obtain ⟨w1, w2, rfl, dw1, dw2⟩ := dpAll2 dw
      cases dw1
      cases dw2
      exact ⟨t, pan, st, past, _, _, rfl, hD1.same s2, few, h, hn, fun H3 k3 hN => q H3 ((ButO.of (s01.trans s2)).trans k3) hN⟩
end
end K57
namespace Pr
open PySem PySem.Spec PyProof.Rows L2
section
variable {K : PySem.W.Frag} {σ : L2.St} {H : Hp} {d : PyData} {i j : Nat} {S : Addr} {xs : List V} {v : V}
theorem gv_ixLc {k : Nat} (hi : σ[i]? = some (some (.ref S))) (e : H S = some (.lst xs)) (hx : xs[k]? = some v) (dv : Dp K H v d) : Gv K (tOp (rIxL K) (tVar i) (tC (.int (k : Int)))) σ H d := fun H1 s Q q =>
  ⟨.ref S, hi, S, xs, (k : Int), v, rfl, rfl, .inl (.inl (s _ _ e)), atI_nat hx, q _ H1 (Same.refl _) (dv.sm s)⟩
end
end Pr
namespace Pr
open PySem PySem.Spec PyProof.Rows L2 LamX
def LtK (a b : List Int) : Prop := a.length < b.length ∨ (a.length = b.length ∧ a < b)
instance (a b : List Int) : Decidable (LtK a b) := inferInstanceAs (Decidable (_ ∨ _))
theorem LtK.trans {a b c : List Int} (h : LtK a b) (g : LtK b c) : LtK a c := by
  rcases h with h | ⟨e, h⟩ <;> rcases g with g | ⟨e', g⟩
  · exact .inl (Nat.lt_trans h g)
  · exact .inl (e' ▸ h)
  · exact .inl (e ▸ g)
  · exact .inr ⟨e.trans e', List.lt_trans h g⟩
theorem deck_extN {H H' : Hp} {a c : Addr} {m : Nat} (e : ExtN H H') (h : Deck H a c m) : Deck H' a c m := by
  obtain ⟨cs, k, e1, e2, e3⟩ := h
  exact ⟨cs, k, e _ _ e1 (fun _ z => by cases z), e _ _ e2 (fun _ z => by cases z), e3⟩
end Pr
namespace Pr
open PySem PySem.Spec PyProof.Rows L2 LamX NdefX
/-- the lambda F (its words but the body) stands at f, untracked; its cells hold ws; none is a frame -/
structure LamAt (F : NF) (body : Expr) (f : Addr) (fr : List Str) (ws : List (Option V)) (outer : List Env) (s : Shared) (H : Hp) : Prop where
  fn : ∃ pm ctv, s.heap.get? f = some (PySem.W.kla_obj "<lambda>" F.qual F.params body F.scope F.cl pm F.c ctv)
  un : H f = none
  nf : f ∉ frs outer
  cells : CellsAt F.cl fr ws s.heap H
  nc : ∀ y c, F.cl.lookup y = some c → c ∉ frs outer
section
variable {X : Cx} {pins : List (Addr × Obj)} {σ : L2.St} {H : Hp} {s : Shared} {F : NF} {body : Expr} {f : Addr} {fr : List Str} {ws : List (Option V)}
theorem stk_old (I : Inv X pins σ H s) {b : Addr} {o : Obj} (e : X.s_0.heap.get? b = some o) (n : b ∉ X.fs) : b ∉ frs X.stack := fun z => by
  rcases List.mem_cons.mp (I.stkSub b z) with h | h
  · have h1 := Heap.lt_size e
    have h2 := I.ok.above
    rw [h] at h1
    exact Nat.lt_irrefl _ (Nat.lt_of_lt_of_le h1 h2)
  · exact n h
/-- what stood at a def's beginning stands at any place of it, also for what it calls -/
theorem LamAt.later (I : Inv X pins σ H s) (hx : X.ex = []) (L : LamAt F body f fr ws X.outer X.s_0 X.H_0) : LamAt F body f fr ws X.stack s H := by
  obtain ⟨pm, ctv, hf⟩ := L.fn
  have nx : ∀ b, b ∉ X.ex := fun b z => by rw [hx] at z; cases z
  refine ⟨⟨pm, ctv, I.base.keep f _ hf L.un L.nf (nx f)⟩, I.base.free f _ hf L.un (nx f), stk_old I hf L.nf, L.cells.later (fun y c e => L.nc y c e) (fun y c e => nx c) I, fun y c e => ?_⟩
  obtain ⟨n, v, o, ho, hd⟩ := L.cells.all y c e
  exact stk_old I ho (L.nc y c e)
end
structure LOk (P : Program) (w : World) (K : PySem.W.Frag) (mg : Str → Option Value) (base : Heap) (CX : CXT) (k : Nat) (F : NF) (body : Expr) (ps fr : List Str) (sp : List (Option V) → Sp) : Prop where
  len : ∀ ws vs H Q E, sp ws vs H Q E → vs.length = ps.length
  run : ∀ (f : Addr) (A : Around) (outer : List Env) (s : Shared) (H : Hp) (us : List Value) (vs : List V) (ws : List (Option V)) (Q : VK) (E : XK), Room k A → Env0 P w K mg base A outer s H → LamAt F body f fr ws outer s H → H F.c = some (CodeO F.c F.qual) →
    Vals vs us → sp ws vs H Q E → codeAny (model P w) A (.call (.ref f) ⟨us, []⟩) (CR CX outer P w H s Q E) s
section
variable {CX : CXT} {P : Program} {w : World} {K : PySem.W.Frag} {mg : Str → Option Value} {base : Heap} {N ps fr : List Str} {F : NF} {body : Expr} {f : Addr} {k j : Nat} {sp sp' : List (Option V) → Sp}
theorem LOk.mono (o : LOk P w K mg base CX j F body ps fr sp) (h : j ≤ k) : LOk P w K mg base CX k F body ps fr sp := ⟨o.len, fun f A outer s H us vs ws Q E hr => o.run f A outer s H us vs ws Q E (hr.mono h)⟩
theorem lok_of (S : NScope N ps fr F.scope) (hb : ∀ (pm ctv : Value) (us : List Value), us.length = ps.length → bindArgs (PySem.W.kla_fn "<lambda>" F.qual F.params body F.scope F.cl pm (.ref F.c) ctv) ⟨us, []⟩ = pure (ps.zip us)) (len : ∀ ws vs H Q E, sp ws vs H Q E → vs.length = ps.length)
    (hbody : ∀ (f : Addr) (A : Around) (outer : List Env) (s : Shared) (H : Hp) (vs : List V) (ws : List (Option V)) (Q : VK) (E : XK), Room k (A.deeper (envF F f s.heap.objs.size)) → H F.c = some (CodeO F.c F.qual) → ws.length = fr.length → sp ws vs H Q E →
      ∃ t, PE (ncx CX P w K mg base N F f A outer s H E) body t ∧ t (startF N vs ws) H Q) :
    LOk P w K mg base CX (k + 1) F body ps fr sp := by
  refine ⟨len, fun f A outer s H us vs ws Q E hr e0 hL hc r hsp => ?_⟩
  have hl := len _ _ _ _ _ hsp
  have lim : s.heap.NoLimit := e0.mod.nolimit.keeps fun b o e => (e0.bs b o e).1
  obtain ⟨pm, ctv, ho⟩ := hL.fn
  refine PySem.W.kla_callFunE hr.depth ho rfl S.co S.gen rfl (codeO_at e0.hok hc) ?_
  rw [hb pm ctv us (by rw [← r.length]; exact hl)]
  refine wpAny_pure (wpAny_newFunctionEnv S.nocell (fun ⟨n, _⟩ hy => S.par n (List.of_mem_zip hy).1) (fun h₁ hns hsb => ⟨lim.fresh _ hsb, ?_⟩) S.kind)
  show codeAny _ _ (.expr body (envF F f s.heap.objs.size)) _ _
  have kp : ∀ b o, s.heap.get? b = some o → h₁.get? b = some o := fun b o e => hsb.extBut b o (Nat.ne_of_lt (Heap.lt_size e)) (Heap.get?_push_of_some _ e)
  obtain ⟨t, ht, hq⟩ := hbody f A outer s H vs ws Q E (hr.deeper _) hc hL.cells.len hsp
  have I : Inv (ncx CX P w K mg base N F f A outer s H E) [] (startF N vs ws) H { s with heap := h₁, toks := s.toks + (ps.zip us).length } := inv_startN S hr.hd e0 hl r hL.cells hns kp
  refine PySem.W.kla_codeExpr (wpAny_mono (ht.run [] _ (startF N vs ws) H Q I hq) (fun v s' hq => ?_) fun e s' hq => hq)
  obtain ⟨w', H', J', rv, q⟩ := hq
  exact ⟨w', H', J'.os, J'.bare, J'.base, J'.hok, rv, q⟩
end
abbrev SPhi := List Env → Shared → Hp → Prop
structure FnOkS (P : Program) (w : World) (K : PySem.W.Frag) (mg : Str → Option Value) (base : Heap) (CX : CXT) (k : Nat) (f : Addr) (fd : FuncData) (ps : List Str) (Φ : SPhi) (sp : Sp) : Prop where
  len : ∀ vs H Q E, sp vs H Q E → vs.length = ps.length
  run : ∀ (A : Around) (outer : List Env) (s : Shared) (H : Hp) (args : Args) (us : List Value) (vs : List V) (Q : VK) (E : XK), Room k A → Env0 P w K mg base A outer s H → Φ outer s H → BindsTo s fd args (ps.zip us) → Vals vs us → sp vs H Q E →
    codeAny (model P w) A (.call (.ref f) args) (CR CX outer P w H s Q E) s
section
variable {CX : CXT} {P : Program} {w : World} {K : PySem.W.Frag} {mg : Str → Option Value} {base : Heap} {k : Nat} {f : Addr} {sp : Sp} {Φ : SPhi} {N ps : List Str}
theorem fn_ofS {name qual : Str} {params : Arguments} {body : List Stmt} {scope : Scope} {dV kV doc pm cdv ct oc : Value} {an od : Option Addr}
    {osl : Array (Option Value)} (lk : K.lookup f = some ⟨oc, od, .func (PySem.W.fnOf name qual params body scope dV kV doc pm an cdv ct), osl⟩) (hcd : PySem.W.codeIn K cdv qual = true) (S : FnScope N ps scope)
    (len : ∀ vs H Q E, sp vs H Q E → vs.length = ps.length)
    (hbody : ∀ (A : Around) (outer : List Env) (s : Shared) (H : Hp) (vs : List V) (Q : VK) (E : XK), Room k (A.deeper (envOfC qual scope s.heap.objs.size f cdv)) → Φ outer s H → sp vs H Q E →
      ∃ t, PSs (cxOf CX P w K mg base N qual scope f cdv A outer s H E) body t ∧ t { nx := fun _ H' => Q .non H', rt := Q } (L2.start N vs) H) :
    FnOkS P w K mg base CX (k + 1) f (PySem.W.fnOf name qual params body scope dV kV doc pm an cdv ct) ps Φ sp := by
  refine ⟨len, fun A outer s H args us vs Q E hr e0 hΦ hb r hsp => ?_⟩
  have hl := len _ _ _ _ hsp
  refine run_ofS (N := N) (ps := ps) (us := us) (vs := vs) lk hcd S hr e0 hb r hl fun hr' => hbody A outer s H vs Q E hr' hΦ hsp
theorem fun_okS {x qual : Str} {st : Stmt} {fd : FuncData} (F : Fun K x qual st f fd) (S : FnScope N ps (defScope st)) (len : ∀ vs H Q E, sp vs H Q E → vs.length = ps.length)
    (hbody : ∀ (cdv : Value) (A : Around) (outer : List Env) (s : Shared) (H : Hp) (vs : List V) (Q : VK) (E : XK), Room k (A.deeper (envOfC qual (defScope st) s.heap.objs.size f cdv)) → Φ outer s H → sp vs H Q E →
      ∃ t, PSs (cxOf CX P w K mg base N qual (defScope st) f cdv A outer s H E) (defBody st) t ∧ t { nx := fun _ H' => Q .non H', rt := Q } (L2.start N vs) H) : FnOkS P w K mg base CX (k + 1) f fd ps Φ sp := by
  obtain ⟨oc, od, kV, doc, pm, an, cdv, ct, osl, rfl, lk, hcd⟩ := F.ex
  exact fn_ofS lk hcd S len fun A outer s H vs Q E hr hΦ hsp => hbody cdv A outer s H vs Q E hr hΦ hsp
theorem fun_okS0 {x qual : Str} {st : Stmt} {fd : FuncData} (F : Fun K x qual st f fd) (S : FnScope N ps (defScope st)) (len : ∀ vs H Q E, sp vs H Q E → vs.length = ps.length)
    (hbody : ∀ (cdv : Value) (A : Around) (outer : List Env) (s : Shared) (H : Hp) (vs : List V) (Q : VK) (E : XK), Room k (A.deeper (envOfC qual (defScope st) s.heap.objs.size f cdv)) → Φ outer s H → sp vs H Q E →
      ∃ t, PSs (cxOf CX0 P w K mg base N qual (defScope st) f cdv A outer s H E).nox (defBody st) t ∧ t { nx := fun _ H' => Q .non H', rt := Q } (L2.start N vs) H) : FnOkS P w K mg base CX0 (k + 1) f fd ps Φ sp :=
  fun_okS F S len fun cdv A outer s H vs Q E hr hΦ hsp => let ⟨t, h, q⟩ := hbody cdv A outer s H vs Q E hr hΦ hsp; ⟨t, h.nox, q⟩
theorem funD_okS {x qual : Str} {params : Arguments} {body : List Stmt} {scope : Scope} {dvs : List V} {kws : List (Str × V)} {fd : FuncData} (F : FunD K x qual params body scope dvs kws f fd) (S : FnScope N ps scope) (len : ∀ vs H Q E, sp vs H Q E → vs.length = ps.length)
    (hbody : ∀ (cdv : Value) (A : Around) (outer : List Env) (s : Shared) (H : Hp) (vs : List V) (Q : VK) (E : XK), Room k (A.deeper (envOfC qual scope s.heap.objs.size f cdv)) → Φ outer s H → sp vs H Q E →
      ∃ t, PSs (cxOf CX P w K mg base N qual scope f cdv A outer s H E) body t ∧ t { nx := fun _ H' => Q .non H', rt := Q } (L2.start N vs) H) : FnOkS P w K mg base CX (k + 1) f fd ps Φ sp := by
  obtain ⟨oc, od, dV, kV, doc, pm, an, cdv, ct, osl, rfl, lk, hcd, _, _⟩ := F.ex
  exact fn_ofS lk hcd S len fun A outer s H vs Q E hr hΦ hsp => hbody cdv A outer s H vs Q E hr hΦ hsp
theorem FnOkS.mono {j : Nat} {fd : FuncData} (F : FnOkS P w K mg base CX j f fd ps Φ sp) (h : j ≤ k) : FnOkS P w K mg base CX k f fd ps Φ sp := ⟨F.len, fun A outer s H args us vs Q E hr => F.run A outer s H args us vs Q E (hr.mono h)⟩
end
section
variable {X : Cx} {CX : CXT} {pins : List (Addr × Obj)} {σ : L2.St} {H : Hp} {s : Shared} {Q : VK} {k n : Nat} {f C : Addr} {fd : FuncData} {ps ks : List Str} {sp : Sp} {Φ : SPhi} {E : XK} {us zs : List Value} {vs ws : List V}
theorem run_fnS (F : FnOkS X.prog X.w X.K X.mg X.base CX k f fd ps Φ sp) (hr : Room k X.A) (hb : Binds X.K fd ps []) (hx : Passes CX X E) (I : Inv X pins σ H s) (hΦ : Φ X.stack s H) (r : Vals vs us) (q : sp vs H Q E) :
    wpAny (model X.prog X.w) X.A (call (.ref f) us) (EP X pins σ Q) X.xe s := by
  have hl : us.length = ps.length := by rw [← r.length]; exact F.len _ _ _ _ q
  refine wpAny_call (codeAny_mono (F.run X.A X.stack s H ⟨us, []⟩ us vs Q E hr I.env0 hΦ (by have := hb s us I.kIn (by simpa using hl); simpa using this) r q) fun r s' hq => ?_)
  cases r with
  | error e => exact hx pins σ H s e s' I hq
  | ok fl =>
    cases fl with
    | ret u => exact I.after hq
    | next => exact False.elim hq
    | brk => exact False.elim hq
    | cont => exact False.elim hq
end
section
variable {X : Cx} {CX : CXT} {k n : Nat} {f C : Addr} {fd : FuncData} {ps ks : List Str} {sp : Sp} {Φ : SPhi} {E : XK} {m : Str} {p pos apos : Pos} {e o : Expr} {es : List Expr} {ta : TE} {t : TA}
/-- o.m(e, ..): the method asks something of the state -/
theorem pe_methS {pl : Sem Bool} (he : PE X o ta) (c : Cls X.K C) (hm : Meth X.K C m f) (F : FnOkS X.prog X.w X.K X.mg X.base CX k f fd ps Φ sp) (hr : Room k X.A) (hb : Binds X.K fd ps []) (hx : Passes CX X E) (hΦ : ∀ pins σ H s, Inv X pins σ H s → Φ X.stack s H) (ha : PA X (e :: es) t)
    (hst : starEach (e :: es) X.env = (false, eval e X.env) :: starEach es X.env := by rfl) (hpl : (backTo pos (starEach es X.env)).any (·.1) = false := by rfl)
    (ht : eval (.Call (.Attribute o m apos) (e :: es) [] pos) X.env = (do
      let ov ← eval o X.env
      standAt apos.atName
      let (f, first) ← holding [ov] (getMethod ov m pl)
      callWith pos f first (backTo pos (starEach (e :: es) X.env)) (backToKw pos (keywordEach [] X.env))) := by rfl) :
    PE X (.Call (.Attribute o m apos) (e :: es) [] pos) (tMeth C m sp [] E ta t) := by
  refine ⟨fun pins s σ H Q I h => ?_⟩
  refine PySem.W.methodCall_KW (pl := pl) (thn (he.run pins s σ H _ I h) fun u s1 ⟨x, H1, I1, rx, a, dx, fs, ex, ea, l, q⟩ => ?_) ht
  subst ex
  obtain rfl : u = Value.ref a := rx
  refine getmeth_ok I1 ea c hm l ?_
  refine PySem.W.callWith_K (first := [.ref a]) (h₀ := X.base) I.ok.mod.kin hm.kp (thn (ha.run pos pins s1 σ H1 _ I1 q) fun us s2 ⟨vs, H2, I2, r, q2⟩ => ⟨I2.kIn, ?_⟩) hst hpl
  exact run_fnS (us := .ref a :: us) (vs := .ref a :: vs) F hr hb hx I2 (hΦ _ _ _ _ I2) (.cons rfl r) (by simpa using q2)
/-- x(e, ..), x a name that holds a lambda -/
def tCallL (F : NF) (f : Addr) (i : Nat) (ws : List (Option V)) (sp : List (Option V) → Sp) (E : XK) (t : TA) : TE := fun σ H Q => σ[i]? = some (some (.ref f)) ∧ t σ H fun vs H1 => H1 F.c = some (CodeO F.c F.qual) ∧ sp ws vs H1 Q E
theorem pe_callL1 {F : NF} {body : Expr} {fr : List Str} {ws : List (Option V)} {spw : List (Option V) → Sp} {i j : Nat} {x : Str} (Fn : LOk X.prog X.w X.K X.mg X.base CX k F body ps fr spw) (hr : Room j X.A) (hk : k ≤ j) (hx : Passes CX X E) (hΦ : ∀ pins σ H s, Inv X pins σ H s → LamAt F body f fr ws X.stack s H)
    (hN : X.N[i]? = some x) (hv : Vis X.env.scope x) (ha : PA X (e :: es) t)
    (hd : (x == ("__debug__" : Str)) = false := by decide) (hcd : (x == ("__classdict__" : Str)) = false := by decide)
    (he : starEach (e :: es) X.env = (false, eval e X.env) :: starEach es X.env := by rfl) (hpl : (backTo pos (starEach es X.env)).any (·.1) = false := by rfl) :
    PE X (.Call (.Name x p) (e :: es) [] pos) (tCallL F f i ws spw E t) := by
  refine ⟨fun pins s σ H Q I h => ?_⟩
  obtain ⟨hs, ht⟩ := h
  refine wpAny_Call_Name_kw (thn ((pe_var (pos := p) hN hv hd hcd).run pins s σ H (fun v H1 => v = .ref f ∧ H1 = H) I ⟨.ref f, hs, rfl, rfl⟩) fun u s1 ⟨v, H1, I1, r1, q1⟩ => ?_)
  obtain ⟨ev, eH⟩ := q1
  subst ev
  rw [eH] at I1
  obtain rfl : u = Value.ref f := r1
  have fnAt : ∀ {σ : L2.St} {H : Hp} {s : Shared}, Inv X pins σ H s → PySem.W.FnAt f s.heap := fun I => by
    obtain ⟨pm, ctv, ho⟩ := (hΦ _ _ _ _ I).fn
    exact ⟨_, _, _, _, ho⟩
  refine PySem.W.callWith_F (first := []) (fnAt I1) (thn (ha.run pos pins s1 σ H _ I1 ht) fun us s2 ⟨vs, H2, I2, r, h2, q⟩ => ⟨fnAt I2, ?_⟩) he hpl
  show wpAny _ _ (call (.ref f) us) _ _ _
  refine wpAny_call (codeAny_mono (Fn.run f X.A X.stack s2 H2 us vs ws Q E (hr.mono hk) I2.env0 (hΦ _ _ _ _ I2) h2 r q) fun r s' hq => ?_)
  cases r with
  | error e => exact hx pins σ H2 s2 e s' I2 hq
  | ok fl =>
    cases fl with
    | ret u => exact I2.after hq
    | next => exact False.elim hq
    | brk => exact False.elim hq
    | cont => exact False.elim hq
end
end Pr
namespace K57
open PySem PySem.Spec PyProof.Rows L2 Pr
open NdefX LamX
abbrev sAccBy : Stmt := inClass (topS 43) 15
def rBoolB : List V → Hp → VK → Prop := fun xs H Q => ∃ k, xs = [.bl k] ∧ Q (.bl k) H
theorem cr_boolB {X : Cx} : CallR X (.type "bool") rBoolB := fun pins s σ H xs us Q I rv h => call_bool1 pins s σ H xs us Q I rv (.inr h)
def fldsW (pa p l h : Addr) : List (Str × V) := [("past", V.ref pa), ("watched", V.bl true), ("panel", V.ref p), ("latched", V.ref l), ("held", V.ref h)]
theorem put_w1 (pa p l h : Addr) : putF "watched" (.bl true) (fldsD pa p l h) = fldsW pa p l h := by rfl
theorem put_w0 (pa p l h : Addr) : putF "watched" (.bl false) (fldsW pa p l h) = fldsD pa p l h := by rfl
/-- what the lambda promises is the more the less is wished -/
def MonoL (ws : List (Option V)) (wsp : List (Option V) → Sp) : Prop := ∀ vs H (Q Q' : VK), (∀ v H', Q v H' → Q' v H') → wsp ws vs H Q E0 → wsp ws vs H Q' E0
/-- the code object of the lambda F -/
abbrev CoAt (F : NF) (H : Hp) : Prop := H F.c = some (CodeO F.c F.qual)
theorem CoAt.ne {F : NF} {H : Hp} {C t dx : Addr} {fs : List (Str × V)} (h : CoAt F H) (e : H t = some (.ins C dx fs)) : F.c ≠ t := ne_of h e (by intro z; unfold CodeO at z; cases z)
theorem CoAt.butO {F : NF} {H H' : Hp} {C t dx : Addr} {fs : List (Str × V)} (h : CoAt F H) (e : H t = some (.ins C dx fs)) (b : ButO t H H') : CoAt F H' := b _ _ (h.ne e) h
theorem CoAt.same {F : NF} {H H' : Hp} (h : CoAt F H) (s : Same H H') : CoAt F H' := s _ _ h
def nAccBy : List Str := ["self", "watch"]
theorem scAccBy : FnScope nAccBy ["self", "watch"] (defScope sAccBy) := ⟨rfl, rfl, rfl, by decide +kernel, rfl, by decide +kernel, by decide +kernel⟩
section
variable {P : Program} {w : World} {K : PySem.W.Frag} {mg : Str → Option Value} {base : Heap}
def spAcc (C : Addr) (F : NF) (f : Addr) (ws : List (Option V)) (wsp : List (Option V) → Sp) : Sp := fun vs H Q _ => ∃ (t pa p l hh dx : Addr), vs = [.ref t, .ref f] ∧ H t = some (.ins C dx (fldsD pa p l hh)) ∧ CoAt F H ∧
  wsp ws [.ref t] (upd H t (.ins C dx (fldsW pa p l hh))) (fun v H2 => ∃ b, v = .bl b ∧ H2 t = some (.ins C dx (fldsW pa p l hh)) ∧ Q (.bl b) (upd H2 t (.ins C dx (fldsD pa p l hh)))) E0
theorem ok_AccBy {C f fl : Addr} {fd : FuncData} {k : Nat} {Fl : NF} {body : Expr} {fr : List Str} {ws : List (Option V)} {wsp : List (Option V) → Sp} (F : Fun K "accepted_by" "Desk.accepted_by" sAccBy f fd) (T : TxtD K mg C) (LK : LOk P w K mg base CX0 k Fl body ["_law_one"] fr wsp) (MW : MonoL ws wsp) (m_bool : mg "bool" = none) :
    FnOkS P w K mg base CX0 (k + 1) f fd ["self", "watch"] (LamAt Fl body fl fr ws) (spAcc C Fl fl ws wsp) := by
  refine fun_okS F scAccBy (fun vs H Q E h => ?_) (fun cdv A outer s H vs Q E hr hΦ h => ?_)
  · obtain ⟨t, pa, p, l, hh, dx, rfl, _⟩ := h
    rfl
  · obtain ⟨t, pa, p, l, hh, dx, rfl, e, hc, q⟩ := h
    refine ⟨_, pss_cons (ps_fld (pv 0) pe_bl rfl)
      (pss_one (ps_retFin (pe_callTy (show CallR _ _ rBoolB from cr_boolB) (by rfl) m_bool (by decide +kernel) (pa_cons (pe_callL1 (x := "watch") (i := 1) LK hr (Nat.le_refl _) pass0 (fun _ _ _ _ I => hΦ.later I rfl) rfl (.inl rfl) (pa_cons (pv 0) pa_nil)) pa_nil)) (pss_one (ps_fld (pv 0) pe_bl rfl)))), ?_⟩
    refine ⟨.ref t, rfl, t, C, dx, _, rfl, e, T.cl, T.nW, by show 5 < 1000; decide, ?_⟩
    rw [put_w1]
    have hc1 : CoAt Fl (upd H t (.ins C dx (fldsW pa p l hh))) := by unfold CoAt; rw [upd_ne (hc.ne e)]; exact hc
    refine ⟨rfl, .ref t, rfl, hc1, MW _ _ _ _ (fun v H2 ⟨b, ev, e2, q2⟩ => ?_) q⟩
    subst ev
    refine ⟨b, rfl, .ref t, rfl, t, C, dx, _, rfl, e2, T.cl, T.nW, by show 5 < 1000; decide, ?_⟩
    rw [put_w0]
    exact q2
end
end K57
namespace K57
open PySem PySem.Spec PyProof.Rows L2 Pr
open NdefX LamX
theorem Ed.det {pan p p' : List (List Int)} {d : PyData} {f f' : List Int → List Int} (h : Ed pan d p f) (h' : Ed pan d p' f') : p = p' ∧ f = f' := by
  have hx : ∀ {d d' : PyData}, Ed pan d p f → Ed pan d' p' f' → d = d' → p = p' ∧ f = f' := by
    intro d d' h h' e
    have ne : ∀ {a b : Str} {x y : List PyData}, a ≠ b → PyData.tuple (.str a :: x) = .tuple (.str b :: y) → False := fun n z => by
      injection z with z
      injection z with z _
      injection z with z
      exact n z
    cases h with
    | press _ _ =>
      cases h' with
      | press _ _ =>
        injection e with e
        injection e with _ e
        injection e with e _
        injection e with e
        subst e
        exact ⟨rfl, rfl⟩
      | link _ _ => exact (ne (by decide +kernel) e).elim
      | unlink _ _ => exact (ne (by decide +kernel) e).elim
    | link _ _ =>
      cases h' with
      | press _ _ => exact (ne (by decide +kernel) e).elim
      | link _ _ =>
        unfold dLk at e
        injection e with e
        injection e with _ e
        injection e with e1 e
        injection e with e2 _
        injection e1 with e1
        injection e2 with e2
        subst e1 e2
        exact ⟨rfl, rfl⟩
      | unlink _ _ => exact (ne (by decide +kernel) e).elim
    | unlink _ _ =>
      cases h' with
      | press _ _ => exact (ne (by decide +kernel) e).elim
      | link _ _ => exact (ne (by decide +kernel) e).elim
      | unlink _ _ =>
        unfold dLk at e
        injection e with e
        injection e with _ e
        injection e with e1 e
        injection e with e2 _
        injection e1 with e1
        injection e2 with e2
        subst e1 e2
        exact ⟨rfl, rfl⟩
  exact hx h h' rfl
theorem Eds.det {pan p p' : List (List Int)} {st s s' : List Int} {ds : List PyData} {xs xs' : List (PyData × List (List Int) × List Int)} (h : Eds pan st ds p s xs) (h' : Eds pan st ds p' s' xs') : p = p' ∧ s = s' ∧ xs = xs' := by
  induction h generalizing p' s' xs' with
  | nil => cases h'; exact ⟨rfl, rfl, rfl⟩
  | cons h t ih =>
    cases h' with
    | cons h2 t2 =>
      obtain ⟨rfl, rfl⟩ := h.det h2
      obtain ⟨rfl, rfl, rfl⟩ := ih t2
      exact ⟨rfl, rfl, rfl⟩
theorem Eds.snoc {pan p p1 : List (List Int)} {st s : List Int} {ds : List PyData} {d : PyData} {f : List Int → List Int} {xs : List (PyData × List (List Int) × List Int)} (h : Eds pan st ds p s xs) (e : Ed p d p1 f) : Eds pan st (ds ++ [d]) p1 (f s) (xs ++ [(d, p, s)]) := by
  induction h with
  | nil => exact .cons e .nil
  | cons h t ih => exact .cons h (ih e)
/-- a desk while a watch runs -/
structure DeskWAt (K : PySem.W.Frag) (C : Addr) (H : Hp) (t : Addr) (pan : List (List Int)) (st : List Int) (past : List (PyData × List (List Int) × List Int)) : Prop where
  ob : ∃ dx pa p l h hs, H t = some (.ins C dx (fldsW pa p l h)) ∧ PastAt K H pa past ∧ PanT K H p pan ∧ H l = some (.tup (st.map V.int)) ∧ SqT K H h (hs.map V.int) ∧ IsHeld pan st hs
  good : Good pan
  asc : Asc pan.length st
  lfe : ∀ x ∈ past, lf x.1 = true ∧ Good x.2.1 ∧ Asc x.2.1.length x.2.2
/-- what the lambda says of a desk, while WH holds -/
structure WSay (K : PySem.W.Frag) (C t : Addr) (F : NF) (ws : List (Option V)) (wsp : List (Option V) → Sp) (WH : Hp → Prop) (wb : List (List Int) → List Int → Nat → Bool) : Prop where
  say : ∀ H pan st past (Q : VK), DeskWAt K C H t pan st past → past.length ≤ 60 → WH H → CoAt F H → (∀ H', Same H H' → Q (.bl (wb pan st past.length)) H') → wsp ws [.ref t] H Q E0
  keep : ∀ H H' dx fs, H t = some (.ins C dx fs) → ButO t H H' → WH H → WH H'
/-- the edits are done until the watch accepts -/
structure Done (wb : List (List Int) → List Int → Nat → Bool) (pan : List (List Int)) (st : List Int) (ds : List PyData) (xs : List (PyData × List (List Int) × List Int)) (m k : Nat) (pk : List (List Int)) (sk : List Int) : Prop where
  le : k ≤ ds.length
  at_ : Eds pan st (ds.take k) pk sk (xs.take k)
  stop : k = ds.length ∨ (1 ≤ k ∧ wb pk sk (m + k) = true)
  go : ∀ i pi si, 1 ≤ i → i < k → Eds pan st (ds.take i) pi si (xs.take i) → wb pi si (m + i) = false
theorem notN_ref {f : Addr} : V.bl (!decide (V.ref f = V.non)) = V.bl true := congrArg V.bl (by rw [decide_eq_false (by intro z; cases z)]; rfl)
def nDoBatch : List Str := ["self", "batch", "watch", "index", "edit"]
theorem scDoBatch : FnScope nDoBatch ["self", "batch", "watch"] (defScope sDoBatch) := ⟨rfl, rfl, rfl, by decide +kernel, rfl, by decide +kernel, by decide +kernel⟩
section
variable {P : Program} {w : World} {K : PySem.W.Frag} {mg : Str → Option Value} {base : Heap}
def spDoBatchW (K : PySem.W.Frag) (C : Addr) (F : NF) (f : Addr) (ws : List (Option V)) (wsp : List (Option V) → Sp) : Sp := fun vs H Q _ => ∃ (t : Addr) (pan pan' : List (List Int)) (st st' : List Int) (past xs : List (PyData × List (List Int) × List Int)) (v : V) (ds : List PyData) (WH : Hp → Prop) (wb : List (List Int) → List Int → Nat → Bool), vs = [.ref t, v, .ref f] ∧ DeskAt K C H t pan st past ∧ past.length + ds.length ≤ 60 ∧ Dp K H v (.tuple ds) ∧ Eds pan st ds pan' st' xs ∧ WSay K C t F ws wsp WH wb ∧ WH H ∧ CoAt F H ∧
  ∀ H' k pk sk, ButO t H H' → Done wb pan st ds xs past.length k pk sk → DeskAt K C H' t pk sk (past ++ xs.take k) → Q (.int (k : Nat)) H'
theorem ok_DoBatchW {fWl : Addr} {fdWl : FuncData} {fLi : Addr} {fdLi : FuncData} {fUn : Addr} {fdUn : FuncData} {fBtn : Addr} {fdBtn : FuncData} {fPress : Addr} {fdPress : FuncData} {fAny : Addr} {fdAny : FuncData} {fHeld : Addr} {fdHeld : FuncData} {fChkB : Addr} {fdChkB : FuncData} {C f : Addr} {fd : FuncData} {k : Nat} (F : Fun K "do_batch" "Desk.do_batch" sDoBatch f fd) (T : TxtD K mg C)
    (FWl : Fun K "with_list" "with_list" sWl fWl fdWl) (bWl : Binds K fdWl ["panel", "button", "released"] []) (gWl : mg "with_list" = some (.ref fWl))
    (FLi : Fun K "linked" "linked" sLi fLi fdLi) (bLi : Binds K fdLi ["panel", "one", "other"] []) (gLi : mg "linked" = some (.ref fLi))
    (FUn : Fun K "unlinked" "unlinked" sUn fUn fdUn) (bUn : Binds K fdUn ["panel", "one", "other"] []) (gUn : mg "unlinked" = some (.ref fUn))
    (FBtn : Fun K "is_button" "is_button" sBtn fBtn fdBtn) (bBtn : Binds K fdBtn ["value", "many"] []) (gBtn : mg "is_button" = some (.ref fBtn))
    (FPress : Fun K "press_button" "press_button" sPress fPress fdPress) (bPress : Binds K fdPress ["panel", "state", "button"] []) (gPress : mg "press_button" = some (.ref fPress))
    (FAny : Fun K "releases_any" "releases_any" sAny fAny fdAny) (bAny : Binds K fdAny ["panel", "button", "others"] []) (gAny : mg "releases_any" = some (.ref fAny))
    (FHeld : Fun K "held_buttons" "held_buttons" sHeld fHeld fdHeld) (bHeld : Binds K fdHeld ["panel", "state"] []) (gHeld : mg "held_buttons" = some (.ref fHeld))
    (FChkB : Fun K "check_button" "check_button" sChkB fChkB fdChkB) (bChkB : Binds K fdChkB ["panel", "value"] []) (gChkB : mg "check_button" = some (.ref fChkB))
    {fFree : Addr} {fdFree : FuncData} (FFree : Fun K "check_free" "Desk.check_free" sFree fFree fdFree) (bFree : Binds K fdFree ["self"] []) (hFree : Meth K C "check_free" fFree)
    {fRoom : Addr} {fdRoom : FuncData} (FRoom : Fun K "check_room" "Desk.check_room" sRoom fRoom fdRoom) (bRoom : Binds K fdRoom ["self"] []) (hRoom : Meth K C "check_room" fRoom)
    {fShow : Addr} {fdShow : FuncData} (FShow : Fun K "show" "Desk.show" sShow fShow fdShow) (bShow : Binds K fdShow ["self", "panel", "latched"] []) (hShow : Meth K C "show" fShow)
    {fAdd : Addr} {fdAdd : FuncData} (FAdd : Fun K "add_edit" "Desk.add_edit" sAdd fAdd fdAdd) (bAdd : Binds K fdAdd ["self", "edit", "panel", "latched"] []) (hAdd : Meth K C "add_edit" fAdd)
    {fPressD : Addr} {fdPressD : FuncData} (FPressD : Fun K "press" "Desk.press" sPressD fPressD fdPressD) (bPressD : Binds K fdPressD ["self", "button"] []) (hPressD : Meth K C "press" fPressD)
    {fLink0 : Addr} {fdLink0 : FuncData} (FLink0 : Fun K "check_link" "Desk.check_link" sLink0 fLink0 fdLink0) (bLink0 : Binds K fdLink0 ["self", "one", "other"] []) (hLink0 : Meth K C "check_link" fLink0)
    {fChg : Addr} {fdChg : FuncData} (FChg : Fun K "change_panel" "Desk.change_panel" sChg fChg fdChg) (bChg : Binds K fdChg ["self", "edit", "panel"] []) (hChg : Meth K C "change_panel" fChg)
    {fLink : Addr} {fdLink : FuncData} (FLink : Fun K "link" "Desk.link" sLink fLink fdLink) (bLink : Binds K fdLink ["self", "one", "other"] []) (hLink : Meth K C "link" fLink)
    {fUnlink : Addr} {fdUnlink : FuncData} (FUnlink : Fun K "unlink" "Desk.unlink" sUnlink fUnlink fdUnlink) (bUnlink : Binds K fdUnlink ["self", "one", "other"] []) (hUnlink : Meth K C "unlink" fUnlink)
    {fDoEdit : Addr} {fdDoEdit : FuncData} (FDoEdit : Fun K "do_edit" "Desk.do_edit" sDoEdit fDoEdit fdDoEdit) (bDoEdit : Binds K fdDoEdit ["self", "index", "edit"] []) (hDoEdit : Meth K C "do_edit" fDoEdit)
    {fAccBy : Addr} {fdAccBy : FuncData} (FAccBy : Fun K "accepted_by" "Desk.accepted_by" sAccBy fAccBy fdAccBy) (bAccBy : Binds K fdAccBy ["self", "watch"] []) (hAccBy : Meth K C "accepted_by" fAccBy)
    (m_any : mg "any" = none) (m_bool : mg "bool" = none) (m_enumerate : mg "enumerate" = none) (m_int : mg "int" = none) (m_isinstance : mg "isinstance" = none) (m_len : mg "len" = none) (m_sorted : mg "sorted" = none) (m_tuple : mg "tuple" = none) {fl : Addr} {Fl : NF} {body : Expr} {fr : List Str} {ws : List (Option V)} {wsp : List (Option V) → Sp} (LK : LOk P w K mg base CX0 (k + 6) Fl body ["_law_one"] fr wsp) (MW : MonoL ws wsp) : FnOkS P w K mg base CX0 (k + 8) f fd ["self", "batch", "watch"] (LamAt Fl body fl fr ws) (spDoBatchW K C Fl fl ws wsp) := by
  have GDoEdit : FnOk P w K mg base CX0 (k + 7) fDoEdit fdDoEdit ["self", "index", "edit"] (spDoEdit K C) := ok_DoEdit FDoEdit T FWl bWl gWl FLi bLi gLi FUn bUn gUn FBtn bBtn gBtn FPress bPress gPress FAny bAny gAny FHeld bHeld gHeld FChkB bChkB gChkB FFree bFree hFree FRoom bRoom hRoom FShow bShow hShow FAdd bAdd hAdd FPressD bPressD hPressD FLink0 bLink0 hLink0 FChg bChg hChg FLink bLink hLink FUnlink bUnlink hUnlink m_any m_bool m_enumerate m_int m_isinstance m_len m_sorted m_tuple
  have GAccBy : FnOkS P w K mg base CX0 (k + 7) fAccBy fdAccBy ["self", "watch"] (LamAt Fl body fl fr ws) (spAcc C Fl fl ws wsp) := ok_AccBy FAccBy T LK MW m_bool
  refine fun_okS0 F scDoBatch (fun vs H Q E h => ?_) (fun cdv A outer s H vs Q E hr hΦ h => ?_)
  · obtain ⟨t, pan, pan', st, st', past, xs, v, ds, WH, wb, rfl, _⟩ := h
    rfl
  · obtain ⟨t, pan, pan', st, st', past, xs, v, ds, WH, wb, rfl, hD, few, dv, hE, W, hw, hc, q⟩ := h
    refine ⟨_, pss_cons (ps_for PassesOwn.never rfl (pi_enumT (by rfl) m_enumerate (pa_cons (pv 1) pa_nil)) (pg_tup rfl (pgs_cons (pg_name (i := 3) scDoBatch.nd rfl (Or.inl rfl)) (pgs_cons (pg_name (i := 4) scDoBatch.nd rfl (Or.inl rfl)) pgs_nil))) (pss_cons (ps_expr (pe_meth (pv 0) T.cl hDoEdit GDoEdit (hr.mono (by omega)) bDoEdit .nil pass0 (pa_cons (pv 3) (pa_cons (pv 4) pa_nil))))
      (pss_one (ps_if (PW.pt (pw_and (pt_cmpR op_notN (pv 2) pe_non (by rfl)) (pw_and1 (pt_val (pe_methS (pv 0) T.cl hAccBy GAccBy (hr.mono (by omega)) bAccBy pass0 (fun _ _ _ _ I => hΦ.later I rfl) (pa_cons (pv 2) pa_nil)))))) (pss_one (ps_ret (pe_op op_add (pv 3) pe_int))) pss_nil))))
      (pss_one (ps_ret (pe_callB (show CallR _ _ (rLenG K) from cr_lenG) (by rfl) m_len PySem.boot_len (pa_cons (pv 1) pa_nil)))), ?_⟩
    have hxl := hE.len
    refine gs_seqJ (J := fun σ' H' => ButO t H H' ∧ (∃ pk sk, DeskAt K C H' t pk sk (past ++ xs) ∧ Eds pan st ds pk sk xs) ∧ (∀ i pi si, 1 ≤ i → i ≤ ds.length → Eds pan st (ds.take i) pi si (xs.take i) → wb pi si (past.length + i) = false) ∧ ∃ x3 x4, σ' = [some (.ref t), some v, some (.ref fl), x3, x4]) (fun σ' H' hJ => ?_) (fun hk => ?_)
    · obtain ⟨b1, ⟨pk, sk, hD1, hE1⟩, hgo, x3, x4, rfl⟩ := hJ
      refine hD.at fun dx fs e1 _ => ?_
      refine gs_ret (K := K) (gv_lenT (gv_var rfl (dv.kp (b1.kp e1) (lf_tup hE.lf)))) fun u H2 s2 du => ?_
      cases du
      exact q H2 ds.length pk sk (b1.trans (ButO.of s2)) ⟨Nat.le_refl _, by rw [List.take_length, List.take_of_length_le (by omega)]; exact hE1, .inl rfl, fun i pi si h1 h2 => hgo i pi si h1 (by omega)⟩ (by rw [List.take_of_length_le (by omega)]; exact hD1.same s2)
    · refine gs_each2 (K := K) (R := Kp) (δ1 := fun x : PyData × Nat => .int (x.2 : Nat)) (δ2 := fun x : PyData × Nat => x.1) (as := ds.zipIdx) (gvi_enumTK (δ := fun x => x) (as := ds) (gv_var rfl (by rw [List.map_id']; exact dv)) (fun d hd => hE.lf d hd))
        (fun Ha k σ' H' => ButO t Ha H' ∧ (∃ (pk : List (List Int)) (sk : List Int) (ys zs : List (PyData × List (List Int) × List Int)), xs = ys ++ zs ∧ ys.length = k ∧ DeskAt K C H' t pk sk (past ++ ys) ∧ Eds pk sk (ds.drop k) pan' st' zs ∧ Eds pan st (ds.take k) pk sk ys) ∧ (∀ i pi si, 1 ≤ i → i ≤ k → Eds pan st (ds.take i) pi si (xs.take i) → wb pi si (past.length + i) = false) ∧ ∃ x3 x4, σ' = [some (.ref t), some v, some (.ref fl), x3, x4])
        (fun Ha sa => ⟨ButO.refl _ _, ⟨pan, st, [], xs, rfl, rfl, by rw [List.append_nil]; exact hD.same sa, hE, .nil⟩, fun i pi si h1 h2 => absurd h2 (by omega), _, _, rfl⟩) (fun Ha k σ' H' sa hP => (hD.same sa).at fun dx fs e1 _ => hP.1.kp e1) (fun Ha k x vi vx σ' H3 H4 sa hx hP s4 di dx_ => ?_) (fun Ha σ' H3 sa hP => ?_)
      · obtain ⟨b3, ⟨pk, sk, ys, zs, exs, yl, hDk, hEk, hEt⟩, hgo, x3, x4, rfl⟩ := hP
        have hxx : ds[k]? = some x.1 ∧ x.2 = k := by
          rw [List.getElem?_zipIdx] at hx
          cases e : ds[k]? with
          | none => rw [e] at hx; cases hx
          | some d => rw [e] at hx; cases hx; exact ⟨rfl, Nat.zero_add k⟩
        obtain ⟨hxk, hx2⟩ := hxx
        have hk' := (List.getElem?_eq_some_iff.mp hxk).1
        have ed : ds.drop k = x.1 :: ds.drop (k + 1) := by rw [List.drop_eq_getElem_cons hk']; congr 1; exact (List.getElem?_eq_some_iff.mp hxk).2
        have et : ds.take (k + 1) = ds.take k ++ [x.1] := by rw [List.take_add_one, hxk]; rfl
        rw [ed] at hEk
        cases hEk with
        | @cons _ p1 _ _ _ _ _ f zs' he ht =>
        cases di
        have hD4 := hDk.same s4
        refine hD4.at fun dx fs e l => ⟨.ref t, rfl, t, dx, fs, rfl, e, l _ (by decide +kernel), .int (x.2 : Nat), rfl, vx, rfl, t, _, pk, p1, sk, past ++ ys, vx, x.1, f, rfl, hD4, by rw [List.length_append]; omega, dx_, he, fun H5 b5 hD5 => ?_⟩
        have b05 : ButO t H H5 := (((ButO.of sa).trans b3).trans (ButO.of s4)).trans b5
        have hE5 : Eds pan st (ds.take (k + 1)) p1 (f sk) (ys ++ [(x.1, pk, sk)]) := by rw [et]; exact hEt.snoc he
        have exs5 : xs = (ys ++ [(x.1, pk, sk)]) ++ zs' := by rw [exs, List.append_assoc]; rfl
        have yl5 : (ys ++ [(x.1, pk, sk)]).length = k + 1 := by rw [List.length_append, yl]; rfl
        have tk5 : xs.take (k + 1) = ys ++ [(x.1, pk, sk)] := by rw [exs5, List.take_left' yl5]
        rw [List.append_assoc] at hD5
        refine ⟨.ref fl, rfl, rfl, true, notN_ref, iteT ?_⟩
        have hD5' := hD5
        obtain ⟨⟨dx5, pa, p, l5, hh, hs, h1, h2, h3, h4, h5, h6⟩, g5, a5, lf5⟩ := hD5'
        have hc5 : CoAt Fl H5 := hD.at fun dx fs e1 _ => hc.butO e1 b05
        have hw5 : WH H5 := hD.at fun dx fs e1 _ => W.keep H H5 dx fs e1 b05 hw
        have b56 : ButO t H5 (upd H5 t (.ins C dx5 (fldsW pa p l5 hh))) := ButO.upd
        have k56 := b56.kp h1
        have e6 : (upd H5 t (.ins C dx5 (fldsW pa p l5 hh))) t = some (.ins C dx5 (fldsW pa p l5 hh)) := upd_same
        have hD6 : DeskWAt K C (upd H5 t (.ins C dx5 (fldsW pa p l5 hh))) t p1 (f sk) (past ++ (ys ++ [(x.1, pk, sk)])) := ⟨⟨dx5, pa, p, l5, hh, hs, e6, h2.kp k56 lf5, h3.kp k56, k56.1 _ _ h4, sqT_kp k56 h5, h6⟩, g5, a5, lf5⟩
        have pl : (past ++ (ys ++ [(x.1, pk, sk)])).length = past.length + (k + 1) := by rw [List.length_append, yl5]
        refine ⟨.ref t, rfl, t, dx5, _, rfl, h1, by rfl, .ref fl, rfl, t, pa, p, l5, hh, dx5, rfl, h1, hc5, ?_⟩
        refine W.say _ _ _ _ _ hD6 (by rw [pl]; omega) (W.keep _ _ _ _ h1 b56 hw5) (hc5.butO h1 b56) fun H6 s6 => ⟨_, rfl, s6 _ _ e6, ?_⟩
        have b57 : ButO t H5 (upd H6 t (.ins C dx5 (fldsD pa p l5 hh))) := (b56.trans (ButO.of s6)).trans ButO.upd
        have hD7 : DeskAt K C (upd H6 t (.ins C dx5 (fldsD pa p l5 hh))) t p1 (f sk) (past ++ (ys ++ [(x.1, pk, sk)])) := hD5.kpAt (b57.kp h1) (by rw [upd_same, h1])
        rw [pl]
        generalize upd H6 t (.ins C dx5 (fldsD pa p l5 hh)) = H7 at b57 hD7 ⊢
        refine ⟨wb p1 (f sk) (past.length + (k + 1)), rfl, ite2 (fun eb => ?_) (fun eb => ?_)⟩
        · refine ⟨.int (x.2 : Nat), rfl, ((x.2 : Nat) : Int), 1, rfl, rfl, ?_⟩
          show Q (.int (((x.2 : Nat) : Int) + 1)) H7
          rw [show ((x.2 : Nat) : Int) + 1 = ((k + 1 : Nat) : Int) by rw [hx2]; omega]
          refine q H7 (k + 1) p1 (f sk) (b05.trans b57) ⟨by omega, by rw [tk5]; exact hE5, .inr ⟨by omega, eb⟩, fun i pi si i1 i2 => hgo i pi si i1 (by omega)⟩ (by rw [tk5]; exact hD7)
        · refine ⟨((b3.trans (ButO.of s4)).trans b5).trans b57, ⟨p1, f sk, ys ++ [(x.1, pk, sk)], zs', exs5, yl5, hD7, ht, hE5⟩, fun i pi si i1 i2 hi => ?_, _, _, rfl⟩
          rcases Nat.lt_or_ge i (k + 1) with hlt | hge
          · exact hgo i pi si i1 (by omega) hi
          · have : i = k + 1 := by omega
            subst this
            rw [tk5] at hi
            obtain ⟨rfl, rfl, _⟩ := hE5.det hi
            exact (Bool.not_eq_true _).mp eb
      · obtain ⟨b3, ⟨pk, sk, ys, zs, exs, yl, hDk, hEk, hEt⟩, hgo, x3, x4, rfl⟩ := hP
        rw [List.length_zipIdx] at hEt yl hgo
        rw [List.length_zipIdx, List.drop_length] at hEk
        cases hEk
        rw [List.append_nil] at exs
        subst exs
        rw [List.take_length] at hEt
        exact hk _ _ ⟨(ButO.of sa).trans b3, ⟨pan', st', hDk, hEt⟩, hgo, _, _, rfl⟩
end
end K57
namespace Pr
open PySem PySem.Spec PyProof.Rows L2 LamX NdefX
abbrev lamF (X : Cx) (params : Arguments) (scope : Scope) (c' : Addr) : NF := ⟨"<lambda>", X.env.qual ++ "<lambda>", params, [], scope, cloFrom X.env.cells scope.names [], c'⟩
section
variable {X : Cx} {pins : List (Addr × Obj)} {σ : L2.St} {H : Hp} {s : Shared}
theorem frs_cell (I : Inv X pins σ H s) (hfn : ∀ y, X.fn y = true) {y : Str} {c : Addr} (e : X.env.cells.lookup y = some c) : c ∉ frs X.stack := fun z => by
  rcases List.mem_cons.mp (I.stkSub c z) with h | h
  · obtain ⟨v, o, ho, hd⟩ := I.cell y c e
    obtain ⟨m, ⟨o2, es, ep, ho2, hd2, _⟩, _⟩ := I.loc
    rw [h, ho2] at ho
    cases ho
    rw [hd2] at hd
    cases hd
  · obtain ⟨_, o, ho, _⟩ := I.ok.funs.mem h
    exact Nat.lt_irrefl _ (Nat.lt_of_lt_of_le (Heap.lt_size ho) (I.ok.cab y c (hfn y) e))
end
def tMethL (q : Str) (C : Addr) (m : Str) (T : List (Addr × Str)) (js : List Nat) (sp : Addr → Addr → List (Option V) → Sp) (E : XK) (ta : TE) (t : TA) : TE := fun σ H Q => ta σ H fun x H1 => ∃ a dx fs, x = .ref a ∧ H1 a = some (.ins C dx fs) ∧ fs.lookup m = none ∧
  t σ H1 fun vs H2 => Tabs T H2 ∧ vs.length = 1 ∧ ∀ (f c' : Addr) (H3 : Hp), ExtN H2 H3 → Tabs T H3 → H3 c' = some (CodeO c' q) → sp f c' (js.map (slotAt σ)) (x :: (vs ++ [.ref f])) H3 Q E
section
variable {X : Cx} {CX : CXT} {k : Nat} {fM C cc P : Addr} {fd : FuncData} {ps fr : List Str} {js : List Nat} {E : XK} {m kw : Str} {p pos apos lpos kpos : Pos} {e o : Expr} {ta : TE} {t : TA} {T : List (Addr × Str)} {params : Arguments} {lbody : Expr} {scope : Scope} {sp : Addr → Addr → List (Option V) → Sp}
theorem pe_methLam {pl : Sem Bool} (he : PE X o ta) (c : Cls X.K C) (hm : Meth X.K C m fM) (F : ∀ (f c' : Addr) (ws : List (Option V)), FnOkS X.prog X.w X.K X.mg X.base CX k fM fd ps (LamAt (lamF X params scope c') lbody f fr ws) (sp f c' ws)) (hr : Room k X.A)
    (hb : KBn X.K fd ps 2 [kw] (fun us ws => us ++ ws) (fun vs zs => vs ++ zs)) (hx : Passes CX X E) (ha : PA X [e] t)
    (TB : TabB X.base X.mg cc P) (hcode : X.env.code = .ref cc) (hmT : (P, X.env.qual ++ "<lambda>") ∈ T) (hu : ∀ p ∈ T, p.1 = P → p.2 = X.env.qual ++ "<lambda>") (hdef : defaultsOf params X.env = ([], []))
    (hfn : ∀ y, X.fn y = true) (hfree : ∀ y ∈ scope.names, y.2 = .free → X.env.scope.names.lookup y.1 = some .cell ∨ X.env.scope.names.lookup y.1 = some .free) (hfr : ∀ y ∈ fr, (y, NameKind.free) ∈ scope.names) (hjs : js.map (fun j => X.N[j]?) = fr.map some)
    (hall : (backToKw pos (keywordEach [⟨some kw, .Lambda params lbody scope lpos, kpos⟩] X.env)).all (·.1.isSome) = true := by rfl) (hks : (backToKw pos (keywordEach [⟨some kw, .Lambda params lbody scope lpos, kpos⟩] X.env)).filterMap (·.1) = [kw] := by rfl)
    (hst : starEach [e] X.env = (false, eval e X.env) :: starEach [] X.env := by rfl)
    (hpl : ((backTo pos (starEach [e] X.env)).any (·.1) || (backToKw pos (keywordEach [⟨some kw, .Lambda params lbody scope lpos, kpos⟩] X.env)).any (·.1.isNone)) = false := by rfl)
    (ht : eval (.Call (.Attribute o m apos) [e] [⟨some kw, .Lambda params lbody scope lpos, kpos⟩] pos) X.env = (do
      let ov ← eval o X.env
      standAt apos.atName
      let (f, first) ← holding [ov] (getMethod ov m pl)
      callWith pos f first (backTo pos (starEach [e] X.env)) (backToKw pos (keywordEach [⟨some kw, .Lambda params lbody scope lpos, kpos⟩] X.env))) := by rfl) :
    PE X (.Call (.Attribute o m apos) [e] [⟨some kw, .Lambda params lbody scope lpos, kpos⟩] pos) (tMethL (X.env.qual ++ "<lambda>") C m T js sp E ta t) := by
  refine ⟨fun pins s σ H Q I h => ?_⟩
  refine PySem.W.methodCall_KW (pl := pl) (thn (he.run pins s σ H _ I h) fun u s1 ⟨x, H1, I1, rx, a, dx, fs, ex, ea, l, q⟩ => ?_) ht
  subst ex
  obtain rfl : u = Value.ref a := rx
  refine getmeth_ok I1 ea c hm l ?_
  refine PySem.W.callWith_KW (first := [.ref a]) (h₀ := X.base) I.ok.mod.kin hm.kp hall (thn (ha.run pos pins s1 σ H1 _ I1 q) fun us s2 ⟨vs, H2, I2, r, hT, l1, q2⟩ => ?_) hpl hst
  show wpAny _ _ (evalAll [(do let v ← eval (.Lambda params lbody scope lpos) X.env; standAt pos; pure v)]) _ _ s2
  refine wpAny_evalAll_cons (wpAny_bind (lam_make2 I2 TB hcode hmT hu hT hdef (fun y hy z => (hfree y hy z).elim (fun k => I2.ok.has _ (.inl k)) fun k => I2.ok.has _ (.inr k)) fun f c' pm ctv H3 s3 I3 eN T3 hf hf0 hfr0 hco => wpAny_bind (wpAny_standAt (wpAny_pure (wpAny_evalAll_nil ⟨I3.kIn, ?_⟩)))))
  rw [hks]
  have cp := Caps.made (X := X) (scope := scope) I3.ok hfree hfr hjs
  have hL : LamAt (lamF X params scope c') lbody f fr (js.map (slotAt σ)) X.stack s3 H3 := ⟨⟨pm, ctv, hf⟩, hf0, hfr0, cells_of I3 cp, fun y c e => frs_cell I3 hfn (cp.sub y c e)⟩
  have r1 : Vals (.ref a :: vs) (.ref a :: us) := .cons rfl r
  have r2 := hb.rel r1 (.cons rfl .nil : Vals [.ref f] [.ref f])
  have q3 := q2 f c' H3 eN T3 hco
  refine wpAny_call (codeAny_mono ((F f c' _).run X.A X.stack s3 H3 ⟨.ref a :: us, [kw].zip [.ref f]⟩ _ _ Q E hr I3.env0 hL (hb.to s3 (.ref a :: us) [.ref f] I3.kIn (by rw [← r1.length, List.length_cons, l1]) rfl) r2 q3) fun r s' hq => ?_)
  cases r with
  | error e => exact hx pins σ H3 s3 e s' I3 hq
  | ok fl =>
    cases fl with
    | ret u => exact I3.after hq
    | next => exact False.elim hq
    | brk => exact False.elim hq
    | cont => exact False.elim hq
end
end Pr
namespace K57
open PySem PySem.Spec PyProof.Rows L2 Pr
open NdefX LamX
def nAttempt : List Str := ["self", "edits", "watch", "batch", "past", "panel", "latched", "held", "done"]
theorem scAttempt : FnScope nAttempt ["self", "edits", "watch"] (defScope sAttempt) := ⟨rfl, rfl, rfl, by decide +kernel, rfl, by decide +kernel, by decide +kernel⟩
section
variable {P : Program} {w : World} {K : PySem.W.Frag} {mg : Str → Option Value} {base : Heap}
def spAttemptW (K : PySem.W.Frag) (C : Addr) (F : NF) (f : Addr) (ws : List (Option V)) (wsp : List (Option V) → Sp) : Sp := fun vs H Q _ => ∃ (t : Addr) (pan pan' : List (List Int)) (st st' : List Int) (past xs : List (PyData × List (List Int) × List Int)) (v : V) (ds : List PyData) (WH : Hp → Prop) (wb : List (List Int) → List Int → Nat → Bool), vs = [.ref t, v, .ref f] ∧ DeskAt K C H t pan st past ∧ past.length + ds.length ≤ 60 ∧ ds.length ≤ 20 ∧ Dp K H v (.list ds) ∧ Eds pan st ds pan' st' xs ∧ WSay K C t F ws wsp WH wb ∧ WH H ∧ CoAt F H ∧
  ∀ H' k pk sk, ButO t H H' → Done wb pan st ds xs past.length k pk sk → DeskAt K C H' t pk sk (past ++ xs.take k) → Q (.int (k : Nat)) H'
theorem ok_AttemptW {fWl : Addr} {fdWl : FuncData} {fLi : Addr} {fdLi : FuncData} {fUn : Addr} {fdUn : FuncData} {fBtn : Addr} {fdBtn : FuncData} {fPress : Addr} {fdPress : FuncData} {fAny : Addr} {fdAny : FuncData} {fHeld : Addr} {fdHeld : FuncData} {fChkB : Addr} {fdChkB : FuncData} {fIsE : Addr} {fdIsE : FuncData} {fCopy : Addr} {fdCopy : FuncData} {C f dV : Addr} {fd : FuncData} {k : Nat} {tkB : Tok} (F : FunD K "attempt" "Desk.attempt" (defArgs sAttempt) (defBody sAttempt) (defScope sAttempt) [] [("watch", .non)] f fd) (T : TxtD K mg C)
    (FWl : Fun K "with_list" "with_list" sWl fWl fdWl) (bWl : Binds K fdWl ["panel", "button", "released"] []) (gWl : mg "with_list" = some (.ref fWl))
    (FLi : Fun K "linked" "linked" sLi fLi fdLi) (bLi : Binds K fdLi ["panel", "one", "other"] []) (gLi : mg "linked" = some (.ref fLi))
    (FUn : Fun K "unlinked" "unlinked" sUn fUn fdUn) (bUn : Binds K fdUn ["panel", "one", "other"] []) (gUn : mg "unlinked" = some (.ref fUn))
    (FBtn : Fun K "is_button" "is_button" sBtn fBtn fdBtn) (bBtn : Binds K fdBtn ["value", "many"] []) (gBtn : mg "is_button" = some (.ref fBtn))
    (FPress : Fun K "press_button" "press_button" sPress fPress fdPress) (bPress : Binds K fdPress ["panel", "state", "button"] []) (gPress : mg "press_button" = some (.ref fPress))
    (FAny : Fun K "releases_any" "releases_any" sAny fAny fdAny) (bAny : Binds K fdAny ["panel", "button", "others"] []) (gAny : mg "releases_any" = some (.ref fAny))
    (FHeld : Fun K "held_buttons" "held_buttons" sHeld fHeld fdHeld) (bHeld : Binds K fdHeld ["panel", "state"] []) (gHeld : mg "held_buttons" = some (.ref fHeld))
    (FChkB : Fun K "check_button" "check_button" sChkB fChkB fdChkB) (bChkB : Binds K fdChkB ["panel", "value"] []) (gChkB : mg "check_button" = some (.ref fChkB))
    (FIsE : Fun K "is_edit" "is_edit" sIsE fIsE fdIsE) (bIsE : Binds K fdIsE ["value"] []) (gIsE : mg "is_edit" = some (.ref fIsE))
    (FCopy : Fun K "copied_batch" "copied_batch" sCopy fCopy fdCopy) (bCopy : Binds K fdCopy ["value"] []) (gCopy : mg "copied_batch" = some (.ref fCopy))
    {fFree : Addr} {fdFree : FuncData} (FFree : Fun K "check_free" "Desk.check_free" sFree fFree fdFree) (bFree : Binds K fdFree ["self"] []) (hFree : Meth K C "check_free" fFree)
    {fRoom : Addr} {fdRoom : FuncData} (FRoom : Fun K "check_room" "Desk.check_room" sRoom fRoom fdRoom) (bRoom : Binds K fdRoom ["self"] []) (hRoom : Meth K C "check_room" fRoom)
    {fShow : Addr} {fdShow : FuncData} (FShow : Fun K "show" "Desk.show" sShow fShow fdShow) (bShow : Binds K fdShow ["self", "panel", "latched"] []) (hShow : Meth K C "show" fShow)
    {fAdd : Addr} {fdAdd : FuncData} (FAdd : Fun K "add_edit" "Desk.add_edit" sAdd fAdd fdAdd) (bAdd : Binds K fdAdd ["self", "edit", "panel", "latched"] []) (hAdd : Meth K C "add_edit" fAdd)
    {fPressD : Addr} {fdPressD : FuncData} (FPressD : Fun K "press" "Desk.press" sPressD fPressD fdPressD) (bPressD : Binds K fdPressD ["self", "button"] []) (hPressD : Meth K C "press" fPressD)
    {fLink0 : Addr} {fdLink0 : FuncData} (FLink0 : Fun K "check_link" "Desk.check_link" sLink0 fLink0 fdLink0) (bLink0 : Binds K fdLink0 ["self", "one", "other"] []) (hLink0 : Meth K C "check_link" fLink0)
    {fChg : Addr} {fdChg : FuncData} (FChg : Fun K "change_panel" "Desk.change_panel" sChg fChg fdChg) (bChg : Binds K fdChg ["self", "edit", "panel"] []) (hChg : Meth K C "change_panel" fChg)
    {fLink : Addr} {fdLink : FuncData} (FLink : Fun K "link" "Desk.link" sLink fLink fdLink) (bLink : Binds K fdLink ["self", "one", "other"] []) (hLink : Meth K C "link" fLink)
    {fUnlink : Addr} {fdUnlink : FuncData} (FUnlink : Fun K "unlink" "Desk.unlink" sUnlink fUnlink fdUnlink) (bUnlink : Binds K fdUnlink ["self", "one", "other"] []) (hUnlink : Meth K C "unlink" fUnlink)
    {fDoEdit : Addr} {fdDoEdit : FuncData} (FDoEdit : Fun K "do_edit" "Desk.do_edit" sDoEdit fDoEdit fdDoEdit) (bDoEdit : Binds K fdDoEdit ["self", "index", "edit"] []) (hDoEdit : Meth K C "do_edit" fDoEdit)
    {fAccBy : Addr} {fdAccBy : FuncData} (FAccBy : Fun K "accepted_by" "Desk.accepted_by" sAccBy fAccBy fdAccBy) (bAccBy : Binds K fdAccBy ["self", "watch"] []) (hAccBy : Meth K C "accepted_by" fAccBy)
    {fDoBatch : Addr} {fdDoBatch : FuncData} (FDoBatch : Fun K "do_batch" "Desk.do_batch" sDoBatch fDoBatch fdDoBatch) (bDoBatch : Binds K fdDoBatch ["self", "batch", "watch"] []) (hDoBatch : Meth K C "do_batch" fDoBatch)
    (m_any : mg "any" = none) (m_bool : mg "bool" = none) (m_enumerate : mg "enumerate" = none) (m_int : mg "int" = none) (m_isinstance : mg "isinstance" = none) (m_len : mg "len" = none) (m_list : mg "list" = none) (m_sorted : mg "sorted" = none) (m_str : mg "str" = none) (m_tuple : mg "tuple" = none) (VA : KVal K w mg dV) (y_BATCH : mg "BATCH" = some (.int 20 tkB)) {fl : Addr} {Fl : NF} {body : Expr} {fr : List Str} {ws : List (Option V)} {wsp : List (Option V) → Sp} (LK : LOk P w K mg base CX0 (k + 6) Fl body ["_law_one"] fr wsp) (MW : MonoL ws wsp) : FnOkS P w K mg base CX0 (k + 9) f fd ["self", "edits", "watch"] (LamAt Fl body fl fr ws) (spAttemptW K C Fl fl ws wsp) := by
  have GCopy : FnOk P w K mg base CX0 (k + 2) fCopy fdCopy ["value"] (spCopy K) := ok_Copy FCopy FIsE bIsE gIsE m_enumerate m_isinstance m_len m_list m_str m_tuple VA y_BATCH
  have GFree : FnOk P w K mg base CX0 (k + 1) fFree fdFree ["self"] (spFree K C) := ok_Free FFree T   
  have GDoBatch : FnOkS P w K mg base CX0 (k + 8) fDoBatch fdDoBatch ["self", "batch", "watch"] (LamAt Fl body fl fr ws) (spDoBatchW K C Fl fl ws wsp) := ok_DoBatchW FDoBatch T FWl bWl gWl FLi bLi gLi FUn bUn gUn FBtn bBtn gBtn FPress bPress gPress FAny bAny gAny FHeld bHeld gHeld FChkB bChkB gChkB FFree bFree hFree FRoom bRoom hRoom FShow bShow hShow FAdd bAdd hAdd FPressD bPressD hPressD FLink0 bLink0 hLink0 FChg bChg hChg FLink bLink hLink FUnlink bUnlink hUnlink FDoEdit bDoEdit hDoEdit FAccBy bAccBy hAccBy m_any m_bool m_enumerate m_int m_isinstance m_len m_sorted m_tuple LK MW
  refine funD_okS F scAttempt (fun vs H Q E h => ?_) (fun cdv A outer s H vs Q E hr hΦ h => ?_)
  · obtain ⟨t, pan, pan', st, st', past, xs, v, ds, WH, wb, rfl, _⟩ := h
    rfl
  · obtain ⟨t, pan, pan', st, st', past, xs, v, ds, WH, wb, rfl, hD, few, few2, dv, hE, W, hw, hc, q⟩ := h
    refine ⟨_, pss_cons (ps_expr (pe_meth0 (pv 0) T.cl hFree GFree (hr.mono (by omega)) bFree .nil pass0))
      (pss_cons (ps_set (i := 3) scAttempt.nd rfl (.inl rfl) (pe_call GCopy (hr.mono (by omega)) (by rfl) gCopy FCopy.kp bCopy .nil pass0 (pa_cons (pv 1) pa_nil)))
      (pss_cons (ps_asg (pe_tup (pa_cons (pe_fld (pv 0) rfl) (pa_cons (pe_fld (pv 0) rfl) (pa_cons (pe_fld (pv 0) rfl) (pa_cons (pe_fld (pv 0) rfl) pa_nil))))) (pg_tup rfl (pgs_cons (pg_name (i := 4) scAttempt.nd rfl (Or.inl rfl)) (pgs_cons (pg_name (i := 5) scAttempt.nd rfl (Or.inl rfl)) (pgs_cons (pg_name (i := 6) scAttempt.nd rfl (Or.inl rfl)) (pgs_cons (pg_name (i := 7) scAttempt.nd rfl (Or.inl rfl)) pgs_nil))))))
      (pss_cons (ps_set (i := 8) scAttempt.nd rfl (.inl rfl) pe_non)
      (pss_cons (ps_fin (pss_one (ps_set (i := 8) scAttempt.nd rfl (.inl rfl) (pe_methS (pv 0) T.cl hDoBatch GDoBatch (hr.mono (by omega)) bDoBatch pass0 (fun _ _ _ _ I => hΦ.later I rfl) (pa_cons (pv 3) (pa_cons (pv 2) pa_nil))))) (pss_one (ps_if (pt_cmpR op_isN (pv 8) pe_non (by rfl)) (pss_cons ps_never
      (pss_one ps_never)) pss_nil)))
      (pss_one (ps_ret (pv 8))))))), ?_⟩
    have hD' := hD
    obtain ⟨⟨dx, pa, p, l, hh, hs, h1, h2, h3, h4, h5, h6⟩, hg, hst, lfe⟩ := hD'
    refine ⟨.ref t, rfl, t, dx, _, rfl, h1, by rfl, t, pan, st, past, rfl, hD, fun H1 s1 => ?_⟩
    refine ⟨v, rfl, v, ds, pan, pan', st, st', xs, rfl, dv.sm s1, hE, few2, fun H2 u s2 du => ?_⟩
    have s12 := s1.trans s2
    have e2 := s12 _ _ h1
    refine ⟨.ref t, rfl, t, C, dx, _, .ref pa, rfl, e2, T.cl, T.nA, look_past _ _ _ _, .ref t, rfl, t, C, dx, _, .ref p, rfl, e2, T.cl, T.nP, look_panel _ _ _ _, .ref t, rfl, t, C, dx, _, .ref l, rfl, e2, T.cl, T.nL, look_latched _ _ _ _, .ref t, rfl, t, C, dx, _, .ref hh, rfl, e2, T.cl, T.nH, look_held _ _ _ _, by show 4 ≤ sizeLine; decide, fun tp ntp => ?_⟩
    have s3 := same_new (o := .tup [.ref pa, .ref p, .ref l, .ref hh]) ntp
    have e3 : upd H2 tp (.tup [.ref pa, .ref p, .ref l, .ref hh]) tp = some (.tup [.ref pa, .ref p, .ref l, .ref hh]) := upd_same
    generalize upd H2 tp (.tup [.ref pa, .ref p, .ref l, .ref hh]) = H3 at s3 e3 ⊢
    refine ⟨tp, _, rfl, .inl (.inl e3), rfl, .ref pa, [.ref p, .ref l, .ref hh], rfl, .ref p, [.ref l, .ref hh], rfl, .ref l, [.ref hh], rfl, .ref hh, [], rfl, rfl, ?_⟩
    have s13 := s12.trans s3
    refine ⟨.ref t, rfl, t, dx, _, rfl, s13 _ _ h1, by rfl, u, rfl, .ref fl, rfl, t, pan, pan', st, st', past, xs, u, ds, WH, wb, rfl, hD.same s13, few, du.sm s3, hE, W, W.keep _ _ _ _ h1 (ButO.of s13) hw, hc.same s13, fun H4 k pk sk b4 hdn hD4 => ?_⟩
    refine ⟨_, rfl, rfl, _, rfl, iteF ?_⟩
    exact ⟨_, rfl, q H4 k pk sk ((ButO.of s13).trans b4) hdn hD4⟩
end
end K57
namespace Pr
open PySem PySem.Spec PyProof.Rows L2
theorem eqv_pan (p q : List (List Int)) : PyData.eqv (dPan p) (dPan q) = decide (p = q) := eqv_rowsT p q
end Pr
namespace Pr
open PySem PySem.Spec PyProof.Rows L2 NdefX
/-- the def as it stands behind the top: its class is D, told by the cell at cc; its code object is at c -/
structure SFun (K : PySem.W.Frag) (x qual : Str) (st : Stmt) (cc c : Addr) (f : Addr) (fd : FuncData) : Prop where
  ex : ∃ (oc : Value) (od : Option Addr) (kV doc pm : Value) (an : Option Addr) (ct : Value) (osl : Array (Option Value)),
    fd = PySem.W.fnX x qual (defArgs st) (defBody st) (defScope st) [("__class__", cc)] .none kV doc pm an (.ref c) ct ∧ K.lookup f = some ⟨oc, od, .func fd, osl⟩ ∧ PySem.W.codeIn K (.ref c) qual = true
  kp : PySem.W.keepIn K (.ref f) = true
abbrev sNF (x qual : Str) (st : Stmt) (cc c : Addr) : NF := ⟨x, qual, defArgs st, defBody st, defScope st, [("__class__", cc)], c⟩
/-- the class that the cell holds, the file of the code, the name of the first parameter -/
structure SCls (prog : Program) (K : PySem.W.Frag) (mg : Str → Option Value) (cc c D : Addr) : Prop where
  cell : ∃ (oc : Value) (od : Option Addr) (osl : Array (Option Value)), K.lookup cc = some ⟨oc, od, .cell (some (.ref D)), osl⟩
  code : ∃ (oc : Value) (od : Option Addr) (vs : Array Value) (osl : Array (Option Value)) (file : Str) (tf : Tok), K.lookup c = some ⟨oc, od, .fields vs, osl⟩ ∧ vs[2]? = some (.str file tf) ∧ ((prog.main.file : Str) == file) = true
  cls : ∃ cd, PySem.W.clsIn K D = some cd
  top : (prog.main.scope.names.lookup ("super" : Str)).isSome = false
  mgs : mg "super" = none
section
variable {P : Program} {w : World} {K : PySem.W.Frag} {mg : Str → Option Value} {base : Heap}
theorem SFun.ok {CX : CXT} {x qual : Str} {st : Stmt} {cc c D f : Addr} {fd : FuncData} {N ps : List Str} {k : Nat} {sp : Sp} (F : SFun K x qual st cc c f fd) (T : SCls P K mg cc c D) (S : NScope N ps ["__class__"] (defScope st)) (len : ∀ vs H Q E, sp vs H Q E → vs.length = ps.length)
    (hbody : ∀ (A : Around) (outer : List Env) (s : Shared) (H : Hp) (vs : List V) (Q : VK) (E : XK), Room k (A.deeper (envF (sNF x qual st cc c) f s.heap.objs.size)) → sp vs H Q E → ∀ s1,
      Inv (ncx CX P w K mg base N (sNF x qual st cc c) f A outer s H E) [] (startF N vs [none]) H s1 →
      _root_.PySem.wpAt (model P w) (A.deeper (envF (sNF x qual st cc c) f s.heap.objs.size)) (.func (defBody st) (envF (sNF x qual st cc c) f s.heap.objs.size)) (execs (defBody st) (envF (sNF x qual st cc c) f s.heap.objs.size))
        (SP (ncx CX P w K mg base N (sNF x qual st cc c) f A outer s H E) [] { nx := fun _ H' => Q .non H', rt := Q }) (ncx CX P w K mg base N (sNF x qual st cc c) f A outer s H E).xe s1) :
    FnOk P w K mg base CX (k + 1) f fd ps sp := by
  obtain ⟨oc, od, kV, doc, pm, an, ct, osl, rfl, lk, hcd⟩ := F.ex
  obtain ⟨occ, odc, osc, hcell⟩ := T.cell
  refine ⟨len, fun A outer s H args us vs Q E hr e0 hb r hsp => ?_⟩
  have hl := len _ _ _ _ hsp
  have kin : K.In s.heap := e0.mod.kin.keeps fun b o e => (e0.bs b o e).1
  have lim : s.heap.NoLimit := e0.mod.nolimit.keeps fun b o e => (e0.bs b o e).1
  have Cc : s.heap.IsCell cc (some (.ref D)) := ⟨_, kin _ _ hcell, rfl⟩
  have Hc : H cc = none := (e0.bs cc _ (e0.mod.kin _ _ hcell)).2
  have lkc : ∀ (y : Str) (d : Addr), [(("__class__" : Str), cc)].lookup y = some d → y = "__class__" ∧ d = cc := by
    intro y d e
    have := PySem.mem_of_lookup e
    simp at this
    exact this
  have CA : CellsAt [(("__class__" : Str), cc)] ["__class__"] [none] s.heap H := by
    refine ⟨rfl, fun y d e => ?_, fun y z d e1 e2 => ?_, fun i y hi => ?_⟩
    · obtain ⟨_, rfl⟩ := lkc y d e
      exact ⟨Hc, _, Cc⟩
    · rw [(lkc y d e1).1, (lkc z d e2).1]
    · have : y = "__class__" := by
        cases i with
        | zero => simpa using hi.symm
        | succ i => simp at hi
      subst this
      refine ⟨cc, rfl, fun v hv => ?_⟩
      cases i with
      | zero => simp at hv
      | succ i => simp at hv
  have hloc : ∀ y ∈ ps.zip us, (defScope st).names.lookup y.1 = some .local := fun ⟨n, v⟩ hy => S.par n (List.of_mem_zip hy).1
  refine PySem.ks_codeAny_call_defAt (fd := PySem.W.fnX x qual (defArgs st) (defBody st) (defScope st) [("__class__", cc)] .none kV doc pm an (.ref c) ct) (body := defBody st) (binds := ps.zip us) hr.depth (kin _ _ lk) rfl lim (PySem.W.codeRec_of kin hcd) rfl hb (fun y hy => S.nocell y hy) hloc (fun h₁ hns kp => ?_) S.co S.gen S.kind
  have I : Inv (ncx CX P w K mg base N (sNF x qual st cc c) f A outer s H E) [] (startF N vs [none]) H { s with heap := h₁, toks := s.toks + (ps.zip us).length } := inv_startN S hr.hd e0 hl r CA hns kp
  refine PySem.ks_wpAt_mono (hbody A outer s H vs Q E (hr.deeper _) hsp _ I) (fun fl s' hs => ?_) fun e s' hs => hs
  have fin : ∀ {σ' : L2.St} {H' : Hp} {v : V} {u : Value}, Inv (ncx CX P w K mg base N (sNF x qual st cc c) f A outer s H E) [] σ' H' s' → L2.RelV v u → Q v H' → CE outer P w H s Q u s' :=
    fun {σ' H' v u} J rv q => ⟨v, H', J.os, J.bare, J.base, J.hok, rv, q⟩
  cases fl with
  | ret u =>
    obtain ⟨v, σ', H', J, rv, q⟩ := hs
    exact fin J rv q
  | next =>
    obtain ⟨σ', H', J, q⟩ := hs
    exact fin (v := V.non) (u := Value.none) J rfl q
  | brk =>
    obtain ⟨_, _, _, q⟩ := hs
    exact False.elim q
  | cont =>
    obtain ⟨_, _, _, q⟩ := hs
    exact False.elim q
theorem SFun.binds {x qual : Str} {st : Stmt} {cc c f : Addr} {fd : FuncData} {ps : List Str} (F : SFun K x qual st cc c f fd)
    (h : ∀ (kV doc pm : Value) (an : Option Addr) (ct : Value) (us : List Value), us.length = ps.length → bindArgs (PySem.W.fnX x qual (defArgs st) (defBody st) (defScope st) [("__class__", cc)] .none kV doc pm an (.ref c) ct) ⟨us, []⟩ = pure (ps.zip us)) : Binds K fd ps [] := by
  obtain ⟨oc, od, kV, doc, pm, an, ct, osl, rfl, lk, hcd⟩ := F.ex
  exact .all (h kV doc pm an ct)
end
end Pr
namespace Pr
open PySem PySem.Spec PyProof.Rows L2 NdefX
/-- x == y, x of the class at C, y of the class at D; what the own __eq__ tells -/
def rEqO (C D : Addr) (sp : Sp) : R2 := fun x y H Q => ∃ a b dx dy fs gs, x = .ref a ∧ y = .ref b ∧ H a = some (.ins C dx fs) ∧ H b = some (.ins D dy gs) ∧ sp [.ref a, .ref b] H (fun v H' => ∃ z, v = .bl z ∧ Q (.bl z) H') (fun _ _ _ => False)
section
variable {X : Cx} {C D f : Addr} {fd : FuncData} {k : Nat} {sp : Sp} {ps : List Str}
theorem op_eqO (F : FnOk X.prog X.w X.K X.mg X.base CX0 k f fd ps sp) (hr : Room k X.A) (hb : Binds X.K fd ps []) (hs : PySem.W.findIn X.K (.ref C) "__eq__" = some (some (.ref f))) (hf : PySem.W.isFn X.K (.ref f) = true) (hn : PySem.W.notFirst X.K C (.ref D) = true) : OpR X (compareOp .Eq) (rEqO C D sp) := by
  intro pins s σ H x y v u Q I rx ry hq
  show wpAny (model X.prog X.w) X.A (richCompare .Eq v u) (EP X pins σ Q) X.xe s
  obtain ⟨a, b, dx, dy, fs, gs, rfl, rfl, ha, hb', hsp⟩ := hq
  cases rx
  cases ry
  obtain ⟨mA, J, _⟩ := ins_get I.hok ha
  obtain ⟨mB, J', _⟩ := ins_get I.hok hb'
  obtain ⟨od, J, _⟩ := J.look
  obtain ⟨od', J', _⟩ := J'.look
  obtain ⟨m, hF⟩ := I.fr
  refine PySem.W.cmp_K (op := .Eq) (tb := .ref D) hr.units0 hF I.ok.mod.kin J J'.type hn hs hf ?_
  have hl := F.len _ _ _ _ hsp
  have r2 : Vals [V.ref a, V.ref b] [Value.ref a, Value.ref b] := .cons rfl (.cons rfl .nil)
  refine wpAny_call (codeAny_mono (F.run X.A X.stack s H ⟨[.ref a, .ref b], []⟩ [.ref a, .ref b] [.ref a, .ref b] _ _ hr I.env0 (by
    have := hb s [.ref a, .ref b] I.kIn (by simpa using hl)
    simpa using this) r2 hsp) fun r s' hq => ?_)
  cases r with
  | error e => exact (show False from hq).elim
  | ok fl =>
    cases fl with
    | ret w =>
      obtain ⟨z, H', I', rz, y, ez, q⟩ := I.after hq
      subst ez
      cases rz
      exact ⟨.bl y, H', I', rfl, q⟩
    | next => exact False.elim hq
    | brk => exact False.elim hq
    | cont => exact False.elim hq
end
end Pr
namespace Pr
open PySem PySem.Spec PyProof.Rows L2
theorem gv_lt {K : PySem.W.Frag} {σ : L2.St} {H : Hp} {ta tb : TE} {i j : Int} (ha : Gv K ta σ H (.int i)) (hb : Gv K tb σ H (.int j)) : Gv K (tOp (rI0 fun i j => .bl (decide (i < j))) ta tb) σ H (.bool (decide (i < j))) := gv_I0 ha hb fun _ => .bl _
theorem gv_le {K : PySem.W.Frag} {σ : L2.St} {H : Hp} {ta tb : TE} {i j : Int} (ha : Gv K ta σ H (.int i)) (hb : Gv K tb σ H (.int j)) : Gv K (tOp (rI0 fun i j => .bl (decide (i ≤ j))) ta tb) σ H (.bool (decide (i ≤ j))) := gv_I0 ha hb fun _ => .bl _
end Pr
namespace K57
open PySem PySem.Spec PyProof.Rows L2 Pr
open NdefX LamX
/-- what isinstance asks of an own class -/
structure OwnIs (K : PySem.W.Frag) (C : Addr) : Prop where
  ha : PySem.W.findIn K (.ref C) "__class__" = some (some (.builtin "object.__class__"))
  hn : PySem.W.specialIn K (.builtin "object.__class__") "__get__" = some (some (.builtin "getset_descriptor.__get__"))
  htk : PySem.W.takesIn K (.builtin "object.__class__") = some true
  hm : PySem.W.mroIn K C (.type "object") = some true
theorem gv_isO {K : PySem.W.Frag} {C D t dx : Addr} {fs : List (Str × V)} {σ : L2.St} {H : Hp} {i : Nat} {b : Bool} (hi : σ[i]? = some (some (.ref t))) (e : H t = some (.ins C dx fs)) (cl : Cls K C) (O : OwnIs K C) (k : PySem.W.kitOne K (.ref C) (.ref D) = some b) : Gv K (tCB (rIsi K) (tCons (tVar i) (tCons (tC (.ref D)) tNil))) σ H (.bool b) := fun H1 s Q q => ⟨.ref t, hi, .ref t, .ref D, .ref C, .ref D, b, rfl, .own D, .base (.ins (s _ _ e) cl O.ha O.hn O.htk O.hm), k, q _ H1 (Same.refl _) (.bl b)⟩
abbrev sEqD : Stmt := inClass (topS 43) 23
def nEqD : List Str := ["self", "other"]
theorem scEqD : FnScope nEqD ["self", "other"] (defScope sEqD) := ⟨rfl, rfl, rfl, by decide +kernel, rfl, by decide +kernel, by decide +kernel⟩
section
variable {P : Program} {w : World} {K : PySem.W.Frag} {mg : Str → Option Value} {base : Heap}
def spEqD (K : PySem.W.Frag) (C : Addr) : Sp := fun vs H Q _ => ∃ (a b : Addr) (pan pan2 : List (List Int)) (st st2 : List Int) (past past2 : List (PyData × List (List Int) × List Int)), vs = [.ref a, .ref b] ∧ DeskAt K C H a pan st past ∧ DeskAt K C H b pan2 st2 past2 ∧ ∀ H', Same H H' → Q (.bl (decide (pan = pan2) && decide (st = st2))) H'
theorem ok_EqD {C CD f : Addr} {fd : FuncData} {k : Nat} (F : Fun K "__eq__" "Desk.__eq__" sEqD f fd) (T : TxtD K mg C) (O : OwnIs K C) (gCD : mg "Desk" = some (.ref CD)) (kit : PySem.W.kitOne K (.ref C) (.ref CD) = some true) (m_isinstance : mg "isinstance" = none) : FnOk P w K mg base CX0 (k + 1) f fd ["self", "other"] (spEqD K C) := by
  refine F.ok scEqD (fun vs H Q E h => ?_) (fun cdv A outer s H vs Q E hr h => ?_)
  · obtain ⟨a, b, pan, pan2, st, st2, past, past2, rfl, _⟩ := h
    rfl
  · obtain ⟨a, b, pan, pan2, st, st2, past, past2, rfl, hA, hB, q⟩ := h
    refine ⟨_, pss_one (ps_ret (pe_and (pe_callB (show CallR _ _ (rIsi K) from call_isi) (by rfl) m_isinstance (by decide +kernel) (pa_cons (pv 1) (pa_cons (pe_glob (v := .ref CD) (by rfl) gCD rfl) pa_nil))) (pe_and (pe_cmpR (show OpR _ _ (rEqD K) from op_eqD hr.units) (pe_fld (pv 0) rfl) (pe_fld (pv 1) rfl) (nomark _)) (pe_one (pe_cmpR (show OpR _ _ (rEqD K) from op_eqD hr.units) (pe_fld (pv 0) rfl) (pe_fld (pv 1) rfl) (nomark _)))))), ?_⟩
    obtain ⟨dx, fs, eb⟩ : ∃ dx fs, H b = some (.ins C dx fs) := by
      obtain ⟨⟨dx, pa, p, l, hh, hs, h1, _⟩, _⟩ := hB
      exact ⟨dx, _, h1⟩
    refine gs_ret (K := K) ((gv_andV (gv_isO rfl eb T.cl O kit) fun _ => gv_andV ((gv_eqD (gv_panel T rfl hA) (gv_panel T rfl hB) (shp_rowsT _) (shp_rowsT _)).to (by rw [eqv_pan])) fun _ => gv_eqI1 (gv_latched T rfl hA) (gv_latched T rfl hB))) fun v H1 s1 dv => ?_
    cases dv
    exact q H1 s1
end
def fldsB (b : Bool) (pa p l h : Addr) : List (Str × V) := [("past", V.ref pa), ("watched", V.bl b), ("panel", V.ref p), ("latched", V.ref l), ("held", V.ref h)]
theorem lookB_l (b : Bool) (pa p l h : Addr) : (fldsB b pa p l h).lookup ("latched" : Str) = some (V.ref l) := by rfl
theorem lookB_h (b : Bool) (pa p l h : Addr) : (fldsB b pa p l h).lookup ("held" : Str) = some (V.ref h) := by rfl
/-- None or a number -/
def oV : Option Int → V
  | none => .non
  | some i => .int i
/-- a wish: most latched buttons, a latched button, or a held one -/
inductive Wish where
  | most (n : Int)
  | but (b : Int)
  | held
def Wish.x : Wish → Option Int
  | .most n => some n
  | _ => none
def Wish.y : Wish → Option Int
  | .but b => some b
  | _ => none
def Wish.ok (w : Wish) (st hs : List Int) : Bool := match w with
  | .most n => decide ((st.length : Int) ≤ n)
  | .but b => decide (b ∈ st)
  | .held => decide (hs ≠ [])
def nReach : List Str := ["_law_table", "_law_wish"]
theorem scReach : FnScope nReach ["_law_table", "_law_wish"] (defScope sReach) := ⟨rfl, rfl, rfl, by decide +kernel, rfl, by decide +kernel, by decide +kernel⟩
section
variable {P : Program} {w : World} {K : PySem.W.Frag} {mg : Str → Option Value} {base : Heap}
def spReach (K : PySem.W.Frag) (C : Addr) : Sp := fun vs H Q _ => ∃ (t W dx pa p l hh : Addr) (b : Bool) (wi : Wish) (st hs : List Int), vs = [.ref t, .ref W] ∧ H t = some (.ins C dx (fldsB b pa p l hh)) ∧ H l = some (.tup (st.map V.int)) ∧ st.length ≤ 63 ∧ SqT K H hh (hs.map V.int) ∧ H W = some (.lst [oV wi.x, oV wi.y]) ∧ ∀ H', Same H H' → Q (.bl (wi.ok st hs)) H'
theorem ok_Reach  {f : Addr} {fd : FuncData} {k : Nat} (F : Fun K "_law_reached" "_law_reached" sReach f fd)
    (m_len : mg "len" = none) {C : Addr} (T : TxtD K mg C) : FnOk P w K mg base CX0 (k + 1) f fd ["_law_table", "_law_wish"] (spReach K C) := by
  refine F.ok scReach (fun vs H Q E h => ?_) (fun cdv A outer s H vs Q E hr h => ?_)
  · obtain ⟨t, W, dx, pa, p, l, hh, b, wi, st, hs, rfl, _⟩ := h
    rfl
  · obtain ⟨t, W, dx, pa, p, l, hh, b, wi, st, hs, rfl, e, el, sl, eh, eW, q⟩ := h
    refine ⟨_, pss_cons (ps_if (pt_cmpR op_notN (pe_ix (show IxR _ (rIxL K) from ix_list) (pv 1) pe_int (fun _ _ => rfl)) pe_non (by rfl)) (pss_one (ps_ret (pe_cmpR op_le (pe_callB (show CallR _ _ (rLenG K) from cr_lenG) (by rfl) m_len PySem.boot_len (pa_cons (pe_fld (pv 0) rfl) pa_nil)) (pe_ix (show IxR _ (rIxL K) from ix_list) (pv 1) pe_int (fun _ _ => rfl)) (nomark _)))) pss_nil)
      (pss_cons (ps_if (pt_cmpR op_notN (pe_ix (show IxR _ (rIxL K) from ix_list) (pv 1) pe_int (fun _ _ => rfl)) pe_non (by rfl)) (pss_one (ps_ret (pe_cmpR (show OpR _ _ (rIn K false) from op_in_seq) (pe_ix (show IxR _ (rIxL K) from ix_list) (pv 1) pe_int (fun _ _ => rfl)) (pe_fld (pv 0) rfl) (by rfl)))) pss_nil)
      (pss_one (ps_ret (pe_cmpR (show OpR _ _ (rNeD K) from op_neD hr.units) (pe_fld (pv 0) rfl) (pe_tup pa_nil) (nomark _))))), ?_⟩
    have hl : ∀ {H'' : Hp}, Same H H'' → Gv K (tFld K (tVar 0) "latched") (L2.start nReach [.ref t, .ref W]) H'' (dInts st) := fun s0 H1 s Q q => ⟨.ref t, rfl, t, C, dx, _, .ref l, rfl, s _ _ (s0 _ _ e), T.cl, T.nL, lookB_l _ _ _ _ _, q _ H1 (Same.refl _) (dp_ints (.inl (.inl (s _ _ (s0 _ _ el)))))⟩
    have hh' : ∀ {H'' : Hp}, Same H H'' → Gv K (tFld K (tVar 0) "held") (L2.start nReach [.ref t, .ref W]) H'' (dInts hs) := fun s0 H1 s Q q => ⟨.ref t, rfl, t, C, dx, _, .ref hh, rfl, s _ _ (s0 _ _ e), T.cl, T.nH, lookB_h _ _ _ _ _, q _ H1 (Same.refl _) (dp_ints (same_sqT s (same_sqT s0 eh)))⟩
    refine ⟨.ref W, rfl, W, _, _, oV wi.x, rfl, rfl, .inl (.inl eW), rfl, ?_⟩
    cases wi with
    | most n =>
      refine ⟨rfl, true, rfl, iteT ?_⟩
      refine gs_ret (K := K) (gv_le (gv_lenT (hl (Same.refl _))) (gv_ixLc (i := 1) (k := 0) rfl eW rfl (.int n))) fun u H1 s1 du => ?_
      cases du
      have := q H1 s1
      rw [List.length_map] 
      exact this
    | but z =>
      refine ⟨rfl, false, rfl, iteF ?_⟩
      refine ⟨.ref W, rfl, W, _, _, .int z, rfl, rfl, .inl (.inl eW), rfl, ?_⟩
      refine ⟨rfl, true, rfl, iteT ?_⟩
      refine gs_ret (K := K) (gv_inT (neg := false) (gv_ixLc (i := 1) (k := 1) rfl eW rfl (.int z)) (hl (Same.refl _))) fun u H1 s1 du => ?_
      cases du
      exact q H1 s1
    | held =>
      refine ⟨rfl, false, rfl, iteF ?_⟩
      refine ⟨.ref W, rfl, W, _, _, .non, rfl, rfl, .inl (.inl eW), rfl, ?_⟩
      refine ⟨rfl, false, rfl, iteF ?_⟩
      refine gs_ret (K := K) (gv_neI1 (m := []) (hh' (Same.refl _)) ((gv_tup gva_nil).to (by rfl))) fun u H1 s1 du => ?_
      cases du
      have := q H1 s1
      exact (congrArg (fun z => Q (.bl z) H1) (by show decide (hs ≠ []) = _; simp)).mp this
end
end K57
namespace K57
open PySem PySem.Spec PyProof.Rows L2 Pr
open NdefX LamX
structure LamK (params : Arguments) (body : Expr) (scope : Scope) : Prop where
  bd : ∃ p1 p2 p3 p4, body = .Call (.Name "_law_reached" p1) [.Name "_law_one" p2, .Name "_law_wish" p3] [] p4
  S : NScope ["_law_one", "_law_wish"] ["_law_one"] ["_law_wish"] scope
  gl : scope.names.lookup ("_law_reached" : Str) = some NameKind.globalImplicit
  bind : ∀ (q : Str) (cl : List (Str × Addr)) (pm cv ctv u : Value), bindArgs (PySem.W.kla_fn "<lambda>" q params body scope cl pm cv ctv) ⟨[u], []⟩ = pure [(("_law_one" : Str), u)]
def spL (K : PySem.W.Frag) (C : Addr) : List (Option V) → Sp := fun ws vs H Q E => ∃ t W, ws = [some (.ref W)] ∧ vs = [.ref t] ∧ spReach K C [.ref t, .ref W] H Q E
theorem mono_L {K : PySem.W.Frag} {C : Addr} (ws : List (Option V)) : MonoL ws (spL K C) := fun vs H Q Q' m h => by
  obtain ⟨t, W, e1, e2, t', W', dx, pa, p, l, hh, b, wi, st, hs, e3, e, el, sl, eh, eW, q⟩ := h
  exact ⟨t, W, e1, e2, t', W', dx, pa, p, l, hh, b, wi, st, hs, e3, e, el, sl, eh, eW, fun H' s => m _ _ (q H' s)⟩
section
variable {P : Program} {w : World} {K : PySem.W.Frag} {mg : Str → Option Value} {base : Heap}
theorem ok_Lam {C f c' : Addr} {fd : FuncData} {k : Nat} {params : Arguments} {body : Expr} {scope : Scope} {q : Str} {nm : Str} {bd : List Stmt} {cl : List (Str × Addr)} (L : LamK params body scope) (G : FnOk P w K mg base CX0 k f fd ["_law_table", "_law_wish"] (spReach K C)) (kp : PySem.W.keepIn K (.ref f) = true) (b : Binds K fd ["_law_table", "_law_wish"] []) (g : mg "_law_reached" = some (.ref f)) : LOk P w K mg base CX0 (k + 1) ⟨nm, q, params, bd, scope, cl, c'⟩ body ["_law_one"] ["_law_wish"] (spL K C) := by
  obtain ⟨⟨p1, p2, p3, p4, rfl⟩, S, hgl, hb⟩ := L
  refine lok_of (N := ["_law_one", "_law_wish"]) S (fun pm ctv us hl => ?_) (fun ws vs H Q E h => ?_) (fun f' A outer s H vs ws Q E hr hc hw h => ?_)
  · match us, hl with
    | [u], _ => exact hb _ _ _ _ _ _
  · obtain ⟨t, W, _, rfl, _⟩ := h
    rfl
  · obtain ⟨t, W, rfl, rfl, h⟩ := h
    refine ⟨_, pe_call (x := "_law_reached") G hr (show scope.names.lookup _ = _ from hgl) g kp b .nil pass0 (pa_cons (pe_var (x := "_law_one") (i := 0) rfl (.inl (S.par _ (by simp)))) (pa_cons (pe_var (x := "_law_wish") (i := 1) rfl (.inr (.inr (S.frk _ (by simp))))) pa_nil)), ?_⟩
    exact ⟨.ref t, rfl, .ref W, rfl, h⟩
end
open Classical in
noncomputable def hsOf (pan : List (List Int)) (st : List Int) : List Int := if h : ∃ hs, IsHeld pan st hs then h.choose else []
theorem hsOf_eq {pan : List (List Int)} {st hs : List Int} (h : IsHeld pan st hs) : hsOf pan st = hs := by
  unfold hsOf
  rw [dif_pos ⟨hs, h⟩]
  exact IsHeld.uniq (Exists.choose_spec (⟨hs, h⟩ : ∃ hs, IsHeld pan st hs)) h
noncomputable def wishB (wi : Wish) (pan : List (List Int)) (st : List Int) : Bool := wi.ok st (hsOf pan st)
theorem say_L {K : PySem.W.Frag} {C t W : Addr} {F : NF} {wi : Wish} : WSay K C t F [some (.ref W)] (spL K C) (fun H => H W = some (.lst [oV wi.x, oV wi.y])) (fun pan st _ => wishB wi pan st) := by
  refine ⟨fun H pan st past Q hD few hW hc q => ?_, fun H H' dx fs e b hW => b _ _ (ne_of hW e (by intro z; cases z)) hW⟩
  obtain ⟨⟨dx, pa, p, l, hh, hs, h1, h2, h3, h4, h5, h6⟩, g, as, lf⟩ := hD
  refine ⟨t, W, rfl, rfl, t, W, dx, pa, p, l, hh, true, wi, st, hs, rfl, h1, h4, by have := as.len; have := g.few; omega, h5, hW, fun H' s => ?_⟩
  have := q H' s
  unfold wishB at this
  rw [hsOf_eq h6] at this
  exact this
section
variable {K : PySem.W.Frag} {C t W : Addr} {H : Hp} {pan : List (List Int)} {st : List Int} {past : List (PyData × List (List Int) × List Int)} {σ : L2.St} {wi : Wish} {i j : Nat} {E : XK}
theorem gv_Reach (hi : σ[i]? = some (some (.ref t))) (hj : σ[j]? = some (some (.ref W))) (h : DeskAt K C H t pan st past) (eW : H W = some (.lst [oV wi.x, oV wi.y])) : Gv K (tCall (spReach K C) [] E (tCons (tVar i) (tCons (tVar j) tNil))) σ H (.bool (wishB wi pan st)) := fun H1 s Q q => by
  obtain ⟨⟨dx, pa, p, l, hh, hs, h1, h2, h3, h4, h5, h6⟩, g, as, lf⟩ := h.same s
  refine ⟨.ref t, hi, .ref W, hj, t, W, dx, pa, p, l, hh, false, wi, st, hs, rfl, h1, h4, by have := as.len; have := g.few; omega, h5, s _ _ eW, fun H' s' => ?_⟩
  refine q _ H' s' ?_
  unfold wishB
  rw [hsOf_eq h6]
  exact .bl _
theorem gv_Eq {C t u : Addr} {pan pan2 : List (List Int)} {st st2 : List Int} {past past2 : List (PyData × List (List Int) × List Int)} (hi : σ[i]? = some (some (.ref t))) (hj : σ[j]? = some (some (.ref u))) (h : DeskAt K C H t pan st past) (h2 : DeskAt K C H u pan2 st2 past2) : Gv K (tOp (rEqO C C (spEqD K C)) (tVar i) (tVar j)) σ H (.bool (decide (pan = pan2) && decide (st = st2))) := fun H1 s Q q => by
  have a := h.same s
  have b := h2.same s
  exact a.at fun dx fs e l => b.at fun dy gs e2 l2 => ⟨.ref t, hi, .ref u, hj, t, u, dx, dy, fs, gs, rfl, rfl, e, e2, t, u, pan, pan2, st, st2, past, past2, rfl, a, b, fun H' s' => ⟨_, rfl, q _ H' s' (.bl _)⟩⟩
end
end K57
namespace Pr
open PySem PySem.Spec PyProof.Rows L2
def Dk3 (H : Hp) (a c r : Addr) (m : Nat) : Prop :=
  ∃ (cells rests : List Int) (n : Nat), H a = some (.lst [.ref c, .int (n : Int), .ref r]) ∧ H c = some (.lst (cells.map V.int)) ∧ H r = some (.lst (rests.map V.int)) ∧ a ≠ c ∧ a ≠ r ∧ c ≠ r ∧
    1 ≤ cells.length ∧ cells.length ≤ 63 ∧ rests.length = cells.length ∧ n + m ≤ 1000000
theorem Dk3.same {H H' : Hp} {a c r : Addr} {m : Nat} (e : Same H H') (h : Dk3 H a c r m) : Dk3 H' a c r m :=
  let ⟨cs, rs, n, h1, h2, h3, h4⟩ := h; ⟨cs, rs, n, e _ _ h1, e _ _ h2, e _ _ h3, h4⟩
theorem Dk3.less {H : Hp} {a c r : Addr} {m m' : Nat} (h : Dk3 H a c r m) (z : m' ≤ m) : Dk3 H a c r m' :=
  let ⟨cs, rs, n, h1, h2, h3, h4, h5, h6, h7, h8, h9, h10⟩ := h; ⟨cs, rs, n, h1, h2, h3, h4, h5, h6, h7, h8, h9, by omega⟩
theorem Dk3.apart {H : Hp} {a c r : Addr} {m : Nat} (h : Dk3 H a c r m) {b : Addr} {o : HO} (e : H b = some o) (ho : ∀ xs, o ≠ .lst xs) : b ≠ a ∧ b ≠ r := by
  obtain ⟨cs, rs, n, h1, h2, h3, _⟩ := h
  exact ⟨ne_of e h1 (ho _), ne_of e h3 (ho _)⟩
theorem Dk3.fresh {H : Hp} {a c r : Addr} {m : Nat} (h : Dk3 H a c r m) {b : Addr} (e : H b = none) : b ≠ a ∧ b ≠ r ∧ b ≠ c := by
  obtain ⟨cs, rs, n, h1, h2, h3, _⟩ := h
  exact ⟨Ne.symm (ne_of_none h1 e), Ne.symm (ne_of_none h3 e), Ne.symm (ne_of_none h2 e)⟩
theorem But.free {a c : Addr} {H H' : Hp} {b : Addr} (x : But a c H H') (h1 : b ≠ a) (h2 : b ≠ c) (e : H' b = none) : H b = none := by
  cases q : H b with
  | none => rfl
  | some o => have := x b o h1 h2 q; rw [e] at this; cases this
theorem cut_ints (ns : List Int) (lo hi : Option Int) : ∃ ms : List Int, cutV (ns.map V.int) lo hi = ms.map V.int ∧ ms.length ≤ ns.length := by
  refine ⟨(ns.drop (HT.sIx ns.length 0 lo)).take (HT.sIx ns.length ns.length hi - HT.sIx ns.length 0 lo), ?_, ?_⟩
  · unfold cutV
    rw [List.length_map, List.map_take, List.map_drop]
  · rw [List.length_take, List.length_drop]; omega
end Pr
namespace Pr
open PySem PySem.Spec PyProof.Rows L2
/-- kvs holds the last place of each of the first i -/
def LastAt (row : List Int) (i : Nat) (kvs : List (Key × V)) : Prop :=
  ∀ x : Int, x ∈ row.take i → ∃ j : Nat, row[j]? = some x ∧ j < i ∧ (∀ m, j < m → m < i → row[m]? ≠ some x) ∧ valV kvs (Sum.inl x) = some (.int (j : Int))
theorem LastAt.nil (row : List Int) (kvs : List (Key × V)) : LastAt row 0 kvs := fun x h => by simp at h
end Pr
namespace Pr
open PySem PySem.Spec PyProof.Rows L2
end Pr
namespace Pr
open PySem PySem.Spec PyProof.Rows L2
end Pr
namespace Pr
open PySem PySem.Spec PyProof.Rows L2
def rReprB (K : PySem.W.Frag) : List V → Hp → VK → Prop := fun xs H Q => rReprN K xs H Q ∨ ∃ b : Bool, xs = [.bl b] ∧ Q (.str (PyData.shown (.bool b))) H
theorem shq_bool (b : Bool) : Shq 60 sizeLine (.bool b) := by cases b <;> exact ⟨by simp only [PyData.showable], by simp [PyData.depth], by simp only [PyData.shown]; decide⟩
theorem cr_reprB {X : Cx} {k : Nat} (gd : X.A.guards = some []) (hr : Room k X.A) : CallR X (.builtin "repr") (rReprB X.K) := by
  intro pins s σ H xs us Q I rv h
  rcases h with h | ⟨b, rfl, q⟩
  · exact cr_reprN gd hr pins s σ H xs us Q I rv h
  · exact call_reprQ gd hr pins s σ H _ us Q I rv ⟨fun _ => False, .bl b, .bool b, rfl, .bl b, shq_bool b, q⟩
theorem gv_reprB {K : PySem.W.Frag} {σ : L2.St} {H : Hp} {t : TE} {d : PyData} (h : Gv K t σ H d) (hd : RepOk d) : Gv K (tCB (rReprB K) (tCons t tNil)) σ H (.str d.shown) := fun H1 s Q q =>
  gva_cons h gva_nil H1 s _ fun vs H2 s2 dv => .inl (by
    have := gv_reprN (K := K) (t := fun _ H Q => Q (vs.headD .non) H) (σ := σ) (H := H2) (d := d) (fun H3 s3 Q' q' => q' _ H3 (Same.refl _) (by obtain ⟨v, rfl, hv⟩ := dpAll1 dv; exact hv.sm s3)) hd H2 (Same.refl _) Q (fun v H' s' d' => q v H' (s2.trans s') d')
    obtain ⟨v, rfl, hv⟩ := dpAll1 dv
    exact this)
def rReprA (K : PySem.W.Frag) : List V → Hp → VK → Prop := fun xs H Q => rReprB K xs H Q ∨ rReprQ K xs H Q
theorem cr_reprA {X : Cx} {k : Nat} (gd : X.A.guards = some []) (hr : Room k X.A) : CallR X (.builtin "repr") (rReprA X.K) := by
  intro pins s σ H xs us Q I rv h
  rcases h with h | h
  · exact cr_reprB gd hr pins s σ H xs us Q I rv h
  · exact call_reprQ gd hr pins s σ H xs us Q I rv h
section
variable {K : PySem.W.Frag} {σ : L2.St} {H : Hp} {t : TE}
theorem gv_reprA {d : PyData} (h : Gv K t σ H d) (hd : RepOk d) : Gv K (tCB (rReprA K) (tCons t tNil)) σ H (.str d.shown) := fun H1 s Q q => by
  have := gv_reprB h hd H1 s Q q
  exact gva_cons h gva_nil H1 s _ fun vs H2 s2 dv => .inl (by
    have := gv_reprB (K := K) (t := fun _ H Q => Q (vs.headD .non) H) (σ := σ) (H := H2) (d := d) (fun H3 s3 Q' q' => q' _ H3 (Same.refl _) (by obtain ⟨v, rfl, hv⟩ := dpAll1 dv; exact hv.sm s3)) hd H2 (Same.refl _) Q (fun v H' s' d' => q v H' (s2.trans s') d')
    obtain ⟨v, rfl, hv⟩ := dpAll1 dv
    exact this)
theorem gv_reprAq {i : Nat} {v : V} {N : Addr → Prop} {d : PyData} (hi : σ[i]? = some (some v)) (h : Dq K N H v d) (hs : Shq 60 sizeLine d) : Gv K (tCB (rReprA K) (tCons (tVar i) tNil)) σ H (.str d.shown) := fun H1 s Q q =>
  ⟨v, hi, .inr ⟨N, v, d, rfl, Dq.same s _ _ h, hs, q _ H1 (Same.refl _) (.str _)⟩⟩
end
end Pr
namespace K57
open PySem PySem.Spec PyProof.Rows L2 Pr
open NdefX LamX
theorem all2 {p : PyData → Prop} {a b : PyData} (ha : p a) (hb : p b) : ∀ x ∈ [a, b], p x := fun x hx => by
  rcases (show x = a ∨ x = b by simpa using hx) with rfl | rfl <;> assumption
theorem all3 {p : PyData → Prop} {a b c : PyData} (ha : p a) (hb : p b) (hc : p c) : ∀ x ∈ [a, b, c], p x := fun x hx => by
  rcases (show x = a ∨ x = b ∨ x = c by simpa using hx) with rfl | rfl | rfl <;> assumption
theorem all5 {p : PyData → Prop} {a b c d e : PyData} (ha : p a) (hb : p b) (hc : p c) (hd : p d) (he : p e) : ∀ x ∈ [a, b, c, d, e], p x := fun x hx => by
  rcases (show x = a ∨ x = b ∨ x = c ∨ x = d ∨ x = e by simpa using hx) with rfl | rfl | rfl | rfl | rfl <;> assumption
theorem shw_str {x : Str} {n : Nat} (h : (PyData.shown (.str x)).length ≤ n) : Shw 0 n (.str x) := ⟨by simp only [PyData.showable], by simp only [PyData.hasDict], by simp [PyData.depth], h⟩
theorem Ed.shw {pan pan' : List (List Int)} {d : PyData} {f : List Int → List Int} (h : Ed pan d pan' f) (g : Good pan) : Shw 1 39 d := by
  have few := g.few
  have w : ∀ {x : Str}, x = "press" ∨ x = "link" ∨ x = "unlink" → Shw 0 10 (.str x) := fun {x} h => shw_str (by simp only [PyData.shown]; rcases h with rfl | rfl | rfl <;> decide +kernel)
  have i : ∀ {b : Int}, 0 ≤ b → b < (pan.length : Int) → Shw 0 10 (.int b) := fun h0 h1 => (Shw.int (k := 2) h0 (by decide) (by decide) (by show _ < (100 : Int); omega)).mono (by decide) (by decide)
  have t : ∀ {ds : List PyData}, (∀ e ∈ ds, Shw 0 10 e) → ds.length ≤ 3 → Shw 1 39 (.tuple ds) := fun h hl => (Shw.tuple (m := 3) h hl).mono (by decide) (by decide)
  cases h with
  | press h0 h1 => exact t (all2 (w (.inl rfl)) (i h0 h1)) (by simp)
  | link h hn => exact t (all3 (w (.inr (.inl rfl))) (i h.1 h.2.1) (i h.2.2.1 h.2.2.2.1)) (by simp)
  | unlink h hn => exact t (all3 (w (.inr (.inr rfl))) (i h.1 h.2.1) (i h.2.2.1 h.2.2.2.1)) (by simp)
theorem rep_found {pan : List (List Int)} {st : List Int} {es : List PyData} (g : Good pan) (hst : Asc pan.length st) (he : ∀ d ∈ es, Shw 1 39 d) (hl : es.length ≤ 60) : RepOk (.list [dPan pan, dInts st, .tuple [dPan pan, dInts st], .tuple es, .int (es.length : Int)]) := by
  have few := g.few
  have s0 : Shw 1 33 (dInts st) := (shw_ints (m := 10) (by have := hst.len; omega) fun x hx => by have := hst.rng x hx; omega).mono (by decide) (by decide)
  have s1 : Shw 3 713 (.tuple [dPan pan, dInts st]) := (Shw.tuple (m := 2) (n := 353) (dep := 2) (all2 g.shw (s0.mono (by decide) (by decide))) (by simp)).mono (by decide) (by decide)
  have s2 : Shw 2 2463 (.tuple es) := (Shw.tuple (m := 60) he hl).mono (by decide) (by decide)
  have s3 : Shw 0 2 (.int (es.length : Int)) := Shw.int (by omega) (by decide) (by decide) (by show _ < (100 : Int); omega)
  exact .inr ⟨(Shw.list (m := 5) (n := 2463) (dep := 3) (all5 (g.shw.mono (by decide) (by decide)) (s0.mono (by decide) (by decide)) (s1.mono (by decide) (by decide)) (s2.mono (by decide) (by decide)) (s3.mono (by decide) (by decide))) (by simp)).mono (by decide) (by decide), _, .inr rfl⟩
structure DM (P : Program) (w : World) (K : PySem.W.Frag) (mg : Str → Option Value) (base : Heap) (C CV CU : Addr) where
  fInitD : Addr
  fdInitD : FuncData
  bInitD : Binds K fdInitD ["self", "panel", "state"] []
  MkD : Mk K C fInitD
  GInitD : FnOk P w K mg base CX0 5 fInitD fdInitD ["self", "panel", "state"] (spInitD K C)
  fPressD : Addr
  fdPressD : FuncData
  bPressD : Binds K fdPressD ["self", "button"] []
  hPressD : Meth K C "press" fPressD
  GPressD : FnOk P w K mg base CX0 5 fPressD fdPressD ["self", "button"] (spPressD K C)
  fLink : Addr
  fdLink : FuncData
  bLink : Binds K fdLink ["self", "one", "other"] []
  hLink : Meth K C "link" fLink
  GLink : FnOk P w K mg base CX0 6 fLink fdLink ["self", "one", "other"] (spLink K C)
  fUnlink : Addr
  fdUnlink : FuncData
  bUnlink : Binds K fdUnlink ["self", "one", "other"] []
  hUnlink : Meth K C "unlink" fUnlink
  GUnlink : FnOk P w K mg base CX0 6 fUnlink fdUnlink ["self", "one", "other"] (spUnlink K C)
  fState : Addr
  fdState : FuncData
  dsState : List Value
  vState : Vals [V.non] dsState
  kbState : KBn K fdState ["self", "version"] 1 ["version"] (fun us ws => us ++ ws) (fun vs zs => vs ++ zs)
  bState : Binds K fdState ["self", "version"] dsState
  hState : Meth K C "state" fState
  GState : FnOk P w K mg base (L2.CX P w) 3 fState fdState ["self", "version"] (spState K C CV)
  fUndo : Addr
  fdUndo : FuncData
  bUndo : Binds K fdUndo ["self"] []
  hUndo : Meth K C "undo" fUndo
  GUndo : FnOk P w K mg base (L2.CX P w) 4 fUndo fdUndo ["self"] (spUndo K C CU)
  fEdits : Addr
  fdEdits : FuncData
  bEdits : Binds K fdEdits ["self"] []
  hEdits : Meth K C "edits" fEdits
  GEdits : FnOk P w K mg base CX0 1 fEdits fdEdits ["self"] (spEdits K C)
  fLenD : Addr
  fdLenD : FuncData
  bLenD : Binds K fdLenD ["self"] []
  xLenD : PySem.W.findIn K (.ref C) "__len__" = some (some (.ref fLenD))
  yLenD : PySem.W.isFn K (.ref fLenD) = true
  GLenD : FnOk P w K mg base CX0 1 fLenD fdLenD ["self"] (spLenD K C)
  fStrD : Addr
  fdStrD : FuncData
  bStrD : Binds K fdStrD ["self"] []
  xStrD : PySem.W.findIn K (.ref C) "__str__" = some (some (.ref fStrD))
  yStrD : PySem.W.isFn K (.ref fStrD) = true
  GStrD : FnOk P w K mg base CX0 1 fStrD fdStrD ["self"] (spStrD K C)
  fEqD : Addr
  fdEqD : FuncData
  bEqD : Binds K fdEqD ["self", "other"] []
  xEqD : PySem.W.findIn K (.ref C) "__eq__" = some (some (.ref fEqD))
  yEqD : PySem.W.isFn K (.ref fEqD) = true
  GEqD : FnOk P w K mg base CX0 1 fEqD fdEqD ["self", "other"] (spEqD K C)
  nfD : PySem.W.notFirst K C (.ref C) = true
  fAW : Addr
  fdAW : FuncData
  hAW : Meth K C "attempt" fAW
  kbAW : KBn K fdAW ["self", "edits", "watch"] 2 ["watch"] (fun us ws => us ++ ws) (fun vs zs => vs ++ zs)
  GAW : ∀ {fl : Addr} {Fl : NF} {body : Expr} {fr : List Str} {ws : List (Option V)} {wsp : List (Option V) → Sp}, LOk P w K mg base CX0 2 Fl body ["_law_one"] fr wsp → MonoL ws wsp → FnOkS P w K mg base CX0 20 fAW fdAW ["self", "edits", "watch"] (LamAt Fl body fl fr ws) (spAttemptW K C Fl fl ws wsp)
def nDo : List Str := ["_law_table", "_law_edit_here"]
theorem scDo : FnScope nDo ["_law_table", "_law_edit_here"] (defScope sDo) := ⟨rfl, rfl, rfl, by decide +kernel, rfl, by decide +kernel, by decide +kernel⟩
section
variable {P : Program} {w : World} {K : PySem.W.Frag} {mg : Str → Option Value} {base : Heap}
def spDo (K : PySem.W.Frag) (C : Addr) : Sp := fun vs H Q _ => ∃ (t : Addr) (pan pan' : List (List Int)) (st : List Int) (past : List (PyData × List (List Int) × List Int)) (v : V) (d : PyData) (f : List Int → List Int), vs = [.ref t, v] ∧ DeskAt K C H t pan st past ∧ past.length < 60 ∧ Dp K H v d ∧ Ed pan d pan' f ∧
  ∀ H', ButO t H H' → DeskAt K C H' t pan' (f st) (past ++ [(d, pan, st)]) → Q (.int ((past.length + 1 : Nat) : Int)) H'
theorem ok_Do  {f : Addr} {fd : FuncData} {k : Nat} (F : Fun K "_law_do" "_law_do" sDo f fd)
     {C CV CU : Addr} (T : TxtD K mg C) (DX : DM P w K mg base C CV CU) : FnOk P w K mg base CX0 (k + 14) f fd ["_law_table", "_law_edit_here"] (spDo K C) := by
  have DX0 := DX
  obtain ⟨fInitD, fdInitD, bInitD, MkD, GInitD, fPressD, fdPressD, bPressD, hPressD, GPressD, fLink, fdLink, bLink, hLink, GLink, fUnlink, fdUnlink, bUnlink, hUnlink, GUnlink, fState, fdState, dsState, vState, kbState, bState, hState, GState, fUndo, fdUndo, bUndo, hUndo, GUndo, fEdits, fdEdits, bEdits, hEdits, GEdits, fLenD, fdLenD, bLenD, xLenD, yLenD, GLenD, fStrD, fdStrD, bStrD, xStrD, yStrD, GStrD, fEqD, fdEqD, bEqD, xEqD, yEqD, GEqD, nfD, fAW, fdAW, hAW, kbAW, GAW⟩ := DX0
  refine F.ok scDo (fun vs H Q E h => ?_) (fun cdv A outer s H vs Q E hr h => ?_)
  · obtain ⟨t, pan, pan', st, past, v, d, f, rfl, _⟩ := h
    rfl
  · obtain ⟨t, pan, pan', st, past, v, d, f, rfl, hD, few, dv, hE, q⟩ := h
    refine ⟨_, pss_cons (ps_if (pt_cmpR op_eq (pe_ix (show IxR _ (rIxT K) from ix_tup) (pv 1) pe_int (fun _ _ => rfl)) pe_str (nomark _)) (pss_one (ps_ret (pe_meth (pv 0) T.cl hPressD GPressD (hr.mono (by omega)) bPressD .nil pass0 (pa_cons (pe_ix (show IxR _ (rIxT K) from ix_tup) (pv 1) pe_int (fun _ _ => rfl)) pa_nil)))) pss_nil)
      (pss_cons (ps_if (pt_cmpR op_eq (pe_ix (show IxR _ (rIxT K) from ix_tup) (pv 1) pe_int (fun _ _ => rfl)) pe_str (nomark _)) (pss_one (ps_ret (pe_meth (pv 0) T.cl hLink GLink (hr.mono (by omega)) bLink .nil pass0 (pa_cons (pe_ix (show IxR _ (rIxT K) from ix_tup) (pv 1) pe_int (fun _ _ => rfl)) (pa_cons (pe_ix (show IxR _ (rIxT K) from ix_tup) (pv 1) pe_int (fun _ _ => rfl)) pa_nil))))) pss_nil)
      (pss_one (ps_ret (pe_meth (pv 0) T.cl hUnlink GUnlink (hr.mono (by omega)) bUnlink .nil pass0 (pa_cons (pe_ix (show IxR _ (rIxT K) from ix_tup) (pv 1) pe_int (fun _ _ => rfl)) (pa_cons (pe_ix (show IxR _ (rIxT K) from ix_tup) (pv 1) pe_int (fun _ _ => rfl)) pa_nil)))))), ?_⟩
    cases hE with
    | press h0 h1 =>
      refine gs_if1 (gvt_test (K := K) (gv_eqS (gv_ixT (j := 0) (gv_var rfl dv) gv_int rfl rfl) gv_str)) (fun _ H1 s1 => ?_) (fun z => by simp at z)
      have hD1 := hD.same s1
      refine hD1.at fun dx fs e l => ⟨.ref t, rfl, t, dx, fs, rfl, e, l _ (by decide +kernel), ?_⟩
      refine (gv_ixT (K := K) (j := 1) (d := .int _) (gv_var rfl (dv.sm s1)) gv_int rfl rfl).at fun w H2 s2 dw => ?_
      cases dw
      exact ⟨t, pan, st, past, _, rfl, hD1.same s2, few, h0, h1, fun H3 k3 hN => q H3 ((ButO.of (s1.trans s2)).trans k3) hN⟩
    | link h hn =>
      refine gs_no (gvt_test (K := K) (gv_eqS (gv_ixT (j := 0) (gv_var rfl dv) gv_int rfl rfl) gv_str)) (by decide +kernel) fun H0 s0 => ?_
      refine gs_if1 (gvt_test (K := K) (gv_eqS (gv_ixT (j := 0) (gv_var rfl (dv.sm s0)) gv_int rfl rfl) gv_str)) (fun _ H1 s1 => ?_) (fun z => by simp at z)
      have s01 := s0.trans s1
      have hD1 := hD.same s01
      refine hD1.at fun dx fs e l => ⟨.ref t, rfl, t, dx, fs, rfl, e, l _ (by decide +kernel), ?_⟩
      refine gva_at (gva_cons (K := K) (gv_ixT (j := 1) (d := .int _) (gv_var rfl (dv.sm s01)) gv_int rfl rfl) (gva_cons (gv_ixT (j := 2) (d := .int _) (gv_var rfl (dv.sm s01)) gv_int rfl rfl) gva_nil)) fun ws H2 s2 dw => ?_
      obtain ⟨w1, w2, rfl, dw1, dw2⟩ := dpAll2 dw
      cases dw1
      cases dw2
      exact ⟨t, pan, st, past, _, _, rfl, hD1.same s2, few, h, hn, fun H3 k3 hN => q H3 ((ButO.of (s01.trans s2)).trans k3) hN⟩
    | unlink h hn =>
      refine gs_no (gvt_test (K := K) (gv_eqS (gv_ixT (j := 0) (gv_var rfl dv) gv_int rfl rfl) gv_str)) (by decide +kernel) fun H0 s0 => ?_
      refine gs_no (gvt_test (K := K) (gv_eqS (gv_ixT (j := 0) (gv_var rfl (dv.sm s0)) gv_int rfl rfl) gv_str)) (by decide +kernel) fun H1 s1 => ?_
      have s01 := s0.trans s1
      have hD1 := hD.same s01
      refine hD1.at fun dx fs e l => ⟨.ref t, rfl, t, dx, fs, rfl, e, l _ (by decide +kernel), ?_⟩
      refine gva_at (gva_cons (K := K) (gv_ixT (j := 1) (d := .int _) (gv_var rfl (dv.sm s01)) gv_int rfl rfl) (gva_cons (gv_ixT (j := 2) (d := .int _) (gv_var rfl (dv.sm s01)) gv_int rfl rfl) gva_nil)) fun ws H2 s2 dw => ?_
      obtain ⟨w1, w2, rfl, dw1, dw2⟩ := dpAll2 dw
      cases dw1
      cases dw2
      exact ⟨t, pan, st, past, _, _, rfl, hD1.same s2, few, h, hn, fun H3 k3 hN => q H3 ((ButO.of (s01.trans s2)).trans k3) hN⟩
end
def nRight : List Str := ["_law_table", "_law_state_here", "_law_edits", "_law_panel_here", "_law_latched", "_law_found", "_law_words"]
theorem scRight : FnScope nRight ["_law_table", "_law_state_here", "_law_edits"] (defScope sRight) := ⟨rfl, rfl, rfl, by decide +kernel, rfl, by decide +kernel, by decide +kernel⟩
section
variable {P : Program} {w : World} {K : PySem.W.Frag} {mg : Str → Option Value} {base : Heap}
def spRight (K : PySem.W.Frag) (C : Addr) : Sp := fun vs H Q _ => ∃ (t : Addr) (pan : List (List Int)) (st : List Int) (past : List (PyData × List (List Int) × List Int)) (v e : V), vs = [.ref t, v, e] ∧ DeskAt K C H t pan st past ∧ past.length ≤ 60 ∧ (∀ x ∈ past, Shw 1 39 x.1) ∧ Dp K H v (dPS pan st) ∧ Dp K H e (.list (past.map (·.1))) ∧ ∀ H', Same H H' → Q (.bl true) H'
theorem ok_Right  {f : Addr} {fd : FuncData} {k : Nat} (F : Fun K "_law_right" "_law_right" sRight f fd)
    (m_len : mg "len" = none) (m_repr : mg "repr" = none) (m_str : mg "str" = none) (m_tuple : mg "tuple" = none) {C CV CU : Addr} (T : TxtD K mg C) (DX : DM P w K mg base C CV CU) : FnG P w K mg base (k + 14) f fd ["_law_table", "_law_state_here", "_law_edits"] (spRight K C) := by
  have DX0 := DX
  obtain ⟨fInitD, fdInitD, bInitD, MkD, GInitD, fPressD, fdPressD, bPressD, hPressD, GPressD, fLink, fdLink, bLink, hLink, GLink, fUnlink, fdUnlink, bUnlink, hUnlink, GUnlink, fState, fdState, dsState, vState, kbState, bState, hState, GState, fUndo, fdUndo, bUndo, hUndo, GUndo, fEdits, fdEdits, bEdits, hEdits, GEdits, fLenD, fdLenD, bLenD, xLenD, yLenD, GLenD, fStrD, fdStrD, bStrD, xStrD, yStrD, GStrD, fEqD, fdEqD, bEqD, xEqD, yEqD, GEqD, nfD, fAW, fdAW, hAW, kbAW, GAW⟩ := DX0
  refine okG F scRight (fun vs H Q E h => ?_) (fun cdv A outer s H vs Q E gd hr h => ?_)
  · obtain ⟨t, pan, st, past, v, e, rfl, _⟩ := h
    rfl
  · obtain ⟨t, pan, st, past, v, e, rfl, hD, few, hsh, dv, de, q⟩ := h
    refine ⟨_, pss_cons (ps_asg (pv 1) (pg_unl rfl (pgs_cons (pg_name (i := 3) scRight.nd rfl (Or.inl rfl)) (pgs_cons (pg_name (i := 4) scRight.nd rfl (Or.inl rfl)) pgs_nil))))
      (pss_cons (ps_set (i := 5) scRight.nd rfl (.inl rfl) (pe_lst (pa_cons (pe_fld (pv 0) rfl) (pa_cons (pe_fld (pv 0) rfl) (pa_cons (pe_meth0 (pv 0) T.cl hState GState (hr.mono (by omega)) bState vState passX) (pa_cons (pe_meth0 (pv 0) T.cl hEdits GEdits (hr.mono (by omega)) bEdits .nil pass0) (pa_cons (pe_callB (show CallR _ _ (rLenO C (spLenD K C)) from cr_lenO GLenD (hr.mono (by omega)) bLenD xLenD yLenD) (by rfl) m_len PySem.boot_len (pa_cons (pv 0) pa_nil)) pa_nil)))))))
      (pss_cons (ps_if (pt_cmpR op_ne (pe_callB (show CallR _ _ (rReprA K) from cr_reprA gd hr) (by rfl) m_repr (by decide +kernel) (pa_cons (pv 5) pa_nil)) (pe_callB (show CallR _ _ (rReprA K) from cr_reprA gd hr) (by rfl) m_repr (by decide +kernel) (pa_cons (pe_lst (pa_cons (pv 3) (pa_cons (pv 4) (pa_cons (pe_tup (pa_cons (pv 3) (pa_cons (pv 4) pa_nil))) (pa_cons (pe_callTy (show CallR _ _ (rTupG K) from cr_tupG) (by rfl) m_tuple (by decide +kernel) (pa_cons (pv 2) pa_nil)) (pa_cons (pe_callB (show CallR _ _ (rLenG K) from cr_lenG) (by rfl) m_len PySem.boot_len (pa_cons (pv 2) pa_nil)) pa_nil)))))) pa_nil)) (nomark _)) (pss_one (ps_ret pe_bl)) pss_nil)
      (pss_cons (ps_set (i := 6) scRight.nd rfl (.inl rfl) (pe_lst (pa_cons (pe_callTy (show CallR _ _ rStrI from call_str_int) (by rfl) m_str (by decide +kernel) (pa_cons (pe_callB (show CallR _ _ (rLenG K) from cr_lenG) (by rfl) m_len PySem.boot_len (pa_cons (pv 3) pa_nil)) pa_nil)) (pa_cons pe_str (pa_cons (pe_callTy (show CallR _ _ rStrI from call_str_int) (by rfl) m_str (by decide +kernel) (pa_cons (pe_callB (show CallR _ _ (rLenG K) from cr_lenG) (by rfl) m_len PySem.boot_len (pa_cons (pv 4) pa_nil)) pa_nil)) (pa_cons pe_str (pa_cons (pe_callTy (show CallR _ _ rStrI from call_str_int) (by rfl) m_str (by decide +kernel) (pa_cons (pe_callB (show CallR _ _ (rLenG K) from cr_lenG) (by rfl) m_len PySem.boot_len (pa_cons (pv 2) pa_nil)) pa_nil)) (pa_cons pe_str pa_nil))))))))
      (pss_one (ps_ret (pe_cmpR op_eq (pe_callTy (show CallR _ _ (rStrO C (spStrD K C)) from cr_strO GStrD (hr.mono (by omega)) bStrD xStrD yStrD) (by rfl) m_str (by decide +kernel) (pa_cons (pv 0) pa_nil)) (pe_join pe_str (pv 6)) (nomark _))))))), ?_⟩
    obtain ⟨a, xs, rfl, hq, hr'⟩ := dv.lstI
    obtain ⟨vp, vl, rfl, dp, dl⟩ := dpAll2 hr'
    have hg := hD.good
    have hst := hD.asc
    have pf := hg.few
    have sl := hst.len
    have hlp : (pan.map dInts).length = pan.length := List.length_map _
    have hls : (st.map PyData.int).length = st.length := List.length_map _
    have hlq : (past.map (·.1)).length = past.length := List.length_map _
    refine ⟨.ref a, rfl, a, _, rfl, hq, rfl, vp, [vl], rfl, vl, [], rfl, rfl, ?_⟩
    refine gs_set1 (K := K) (gv_lst (gva_cons (gv_panel T rfl hD) (gva_cons (gv_latched T rfl hD) (gva_cons (gv_StateD rfl hD) (gva_cons (gv_EditsD rfl hD (by omega)) (gva_cons (gv_lenD rfl hD (by omega)) gva_nil)))))) fun vf H1 s1 df => ?_
    have rep := rep_found (es := past.map (·.1)) hg hst (fun x hx => by obtain ⟨y, hy, rfl⟩ := List.mem_map.mp hx; exact hsh y hy) (by rw [hlq]; exact few)
    rw [hlq] at rep
    refine gs_no (gvt_test (K := K) (gv_neS (gv_reprA (gv_var rfl df) rep) (gv_reprA ((gv_lst (gva_cons (gv_var rfl (dp.sm s1)) (gva_cons (gv_var rfl (dl.sm s1)) (gva_cons (gv_tup (gva_cons (gv_var rfl (dp.sm s1)) (gva_cons (gv_var rfl (dl.sm s1)) gva_nil))) (gva_cons (gv_tupL (gv_var rfl (de.sm s1))) (gva_cons (gv_lenL (gv_var rfl (de.sm s1))) gva_nil)))))).to (by rw [hlq])) rep))) (by simp) fun H2 s2 => ?_
    have s12 := s1.trans s2
    refine gs_set1 (K := K) ((gv_lst (gva_cons (gv_strI (n := pan.length) ((gv_lenT (gv_var rfl (dp.sm s12))).to (by rw [hlp])) (by omega)) (gva_cons gv_str (gva_cons (gv_strI (n := st.length) ((gv_lenT (gv_var rfl (dl.sm s12))).to (by rw [hls])) (by omega)) (gva_cons gv_str (gva_cons (gv_strI (n := past.length) ((gv_lenL (gv_var rfl (de.sm s12))).to (by rw [hlq])) (by omega)) (gva_cons gv_str gva_nil)))))))) fun vw H3 s3 dw => ?_
    have n1 := len_num pan.length (by omega)
    have n2 := len_num st.length (by omega)
    have n3 := len_num past.length (by omega)
    refine gs_ret (K := K) (d := .bool true) ((gv_eqS (gv_strD rfl (hD.same (s12.trans s3)) (by omega)) (gv_join1 (ys := [(toString (pan.length : Int) : Str), "buttons,", (toString (st.length : Int) : Str), "latched,", (toString (past.length : Int) : Str), "edits"]) gv_str (gv_var rfl dw) ?_)).to ?_) fun v H4 s4 d4 => ?_
    rotate_left
    · rw [decide_eq_true (txt_is _ _ _)]
    · cases d4
      exact q H4 ((s12.trans s3).trans s4)
    · show (toString (pan.length : Int) : Str).length + (8 + ((toString (st.length : Int) : Str).length + (8 + ((toString (past.length : Int) : Str).length + (5 + 0))))) + 6 * 1 ≤ 16777216
      omega
end
end K57
namespace K57
open PySem PySem.Spec PyProof.Rows L2 Pr
open NdefX LamX
abbrev TSL (p : Addr) : List (Addr × Str) := [(p, ("law" : Str) ++ ".<locals>." ++ "<lambda>")]
/-- a state of the law: a list of its own -/
def InAt (K : PySem.W.Frag) (H : Hp) (a c S E : Addr) (b : Addr) (y : List (List Int) × List Int) : Prop := (b ≠ a ∧ b ≠ c ∧ b ≠ S ∧ b ≠ E) ∧ ∃ (vp : V) (l : Addr), H b = some (.lst [vp, .ref l]) ∧ Dp K H vp (dPan y.1) ∧ H l = some (.tup (y.2.map V.int))
structure IV (K : PySem.W.Frag) (C : Addr) (H : Hp) (a c t S E : Addr) (m : Nat) (pan : List (List Int)) (st : List Int) (past : List (PyData × List (List Int) × List Int)) (ys : List (List (List Int) × List Int)) (es : List PyData) : Prop where
  dk : Deck H a c m
  de : DeskAt K C H t pan st past
  sl : ∃ bs : List Addr, H S = some (.lst (bs.map V.ref)) ∧ Paired (InAt K H a c S E) bs ys
  ed : ∃ evs, H E = some (.lst evs) ∧ DpAll K H evs es
  lfe : ∀ d ∈ es, lf d = true ∧ Shw 1 39 d
  ne : S ≠ a ∧ S ≠ c ∧ E ≠ a ∧ E ≠ c ∧ S ≠ E
section
variable {K : PySem.W.Frag} {C : Addr} {H H' : Hp} {a c t S E : Addr} {m m' : Nat} {pan : List (List Int)} {st : List Int} {past : List (PyData × List (List Int) × List Int)} {ys : List (List (List Int) × List Int)} {es : List PyData}
theorem paired_imp {α β : Type} {R R' : α → β → Prop} (f : ∀ x y, R x y → R' x y) : ∀ {xs : List α} {ys : List β}, Paired R xs ys → Paired R' xs ys
  | _, _, .nil => .nil
  | _, _, .cons h t => .cons (f _ _ h) (paired_imp f t)
theorem InAt.same {b : Addr} {y : List (List Int) × List Int} (s : Same H H') (h : InAt K H a c S E b y) : InAt K H' a c S E b y := by
  obtain ⟨n, vp, l, h1, h2, h3⟩ := h
  exact ⟨n, vp, l, s _ _ h1, h2.sm s, s _ _ h3⟩
theorem InAt.kp {b : Addr} {y : List (List Int) × List Int} (k : Kp H H') (e : ∀ vs, H b = some (.lst vs) → H' b = some (.lst vs)) (h : InAt K H a c S E b y) : InAt K H' a c S E b y := by
  obtain ⟨n, vp, l, h1, h2, h3⟩ := h
  exact ⟨n, vp, l, e _ h1, h2.kp k (lf_pan _), k.1 _ _ h3⟩
theorem IV.same (h : IV K C H a c t S E m pan st past ys es) (s : Same H H') : IV K C H' a c t S E m pan st past ys es := by
  obtain ⟨h1, h2, ⟨bs, h3, h4⟩, ⟨evs, h5, h6⟩, h7, h8⟩ := h
  exact ⟨h1.same s, h2.same s, ⟨bs, s _ _ h3, paired_imp (fun _ _ => InAt.same s) h4⟩, ⟨evs, s _ _ h5, h6.sm s⟩, h7, h8⟩
theorem IV.less (h : IV K C H a c t S E m pan st past ys es) (z : m' ≤ m) : IV K C H a c t S E m' pan st past ys es := ⟨h.dk.less z, h.de, h.sl, h.ed, h.lfe, h.ne⟩
theorem IV.lf (h : IV K C H a c t S E m pan st past ys es) : lfAll es = true := lfAll_of fun d hd => (h.lfe d hd).1
theorem IV.but (h : IV K C H a c t S E m pan st past ys es) (b : But a c H H') (D : Deck H' a c m') : IV K C H' a c t S E m' pan st past ys es := by
  have hl := h.lf
  obtain ⟨h1, h2, ⟨bs, h3, h4⟩, ⟨evs, h5, h6⟩, h7, h8⟩ := h
  have k := Kp.but h1 b
  exact ⟨D, h2.but h1 b, ⟨bs, b _ _ h8.1 h8.2.1 h3, paired_imp (fun x _ hx => hx.kp k fun vs e => b _ _ hx.1.1 hx.1.2.1 e) h4⟩, ⟨evs, b _ _ h8.2.2.1 h8.2.2.2.1 h5, dpAll_kp k _ _ hl h6⟩, h7, h8⟩
theorem IV.do {pan' : List (List Int)} {st' : List Int} {past' : List (PyData × List (List Int) × List Int)} (h : IV K C H a c t S E m pan st past ys es) (b : ButO t H H') (D : DeskAt K C H' t pan' st' past') : IV K C H' a c t S E m pan' st' past' ys es := by
  have hl := h.lf
  obtain ⟨h1, h2, ⟨bs, h3, h4⟩, ⟨evs, h5, h6⟩, h7, h8⟩ := h
  refine h2.at fun dx fs e1 _ => ?_
  have k := b.kp e1
  exact ⟨b.deck e1 h1, D, ⟨bs, b _ _ (ne_of h3 e1 (by intro z; cases z)) h3, paired_imp (fun x _ hx => hx.kp k fun vs e => b _ _ (ne_of e e1 (by intro z; cases z)) e) h4⟩, ⟨evs, b _ _ (ne_of h5 e1 (by intro z; cases z)) h5, dpAll_kp k _ _ hl h6⟩, h7, h8⟩
theorem IV.setE (h : IV K C H a c t S E m pan st past ys es) {evs evs' : List V} {es' : List PyData} (eE : H E = some (.lst evs)) (hd : ∀ H', Kp H H' → DpAll K H' evs' es') (hl : ∀ d ∈ es', Pr.lf d = true ∧ Shw 1 39 d) : IV K C (upd H E (.lst evs')) a c t S E m pan st past ys es' := by
  obtain ⟨h1, h2, ⟨bs, h3, h4⟩, ⟨evs0, h5, h6⟩, h7, h8⟩ := h
  have kE := Kp.upd (o := .lst evs') eE
  refine h2.at fun dx fs e1 _ => ?_
  exact ⟨Deck.upd' h1 ⟨h8.2.2.1, h8.2.2.2.1⟩, h2.kpAt kE (upd_ne (ne_of e1 eE (by intro z; cases z))), ⟨bs, by rw [upd_ne h8.2.2.2.2]; exact h3, paired_imp (fun x _ hx => hx.kp kE fun vs e => by rw [upd_ne hx.1.2.2.2]; exact e) h4⟩, ⟨_, upd_same, hd _ kE⟩, hl, h8⟩
theorem IV.setS (h : IV K C H a c t S E m pan st past ys es) {bs bs' : List Addr} {ys' : List (List (List Int) × List Int)} (eS : H S = some (.lst (bs.map V.ref))) (hd : Paired (InAt K H a c S E) bs' ys') : IV K C (upd H S (.lst (bs'.map V.ref))) a c t S E m pan st past ys' es := by
  have hl := h.lf
  obtain ⟨h1, h2, ⟨bs0, h3, h4⟩, ⟨evs, h5, h6⟩, h7, h8⟩ := h
  have kS := Kp.upd (o := .lst (bs'.map V.ref)) eS
  refine h2.at fun dx fs e1 _ => ?_
  exact ⟨Deck.upd' h1 ⟨h8.1, h8.2.1⟩, h2.kpAt kS (upd_ne (ne_of e1 eS (by intro z; cases z))), ⟨bs', upd_same, paired_imp (fun x _ hx => hx.kp kS fun vs e => by rw [upd_ne hx.1.2.2.1]; exact e) hd⟩, ⟨evs, by rw [upd_ne (Ne.symm h8.2.2.2.2)]; exact h5, dpAll_kp kS _ _ hl h6⟩, h7, h8⟩
end
theorem tabs_but {H H' : Hp} {a c : Addr} {m : Nat} {T : List (Addr × Str)} (D : Deck H a c m) (b : But a c H H') (h : Tabs T H) : Tabs T H' := fun p hp => by
  obtain ⟨ps, h1, h2, h3⟩ := h p hp
  have q := D.apart h1 (fun _ => by intro z; cases z)
  refine ⟨ps, b _ _ q.1 q.2 h1, h2, fun pos cv hc => ?_⟩
  obtain ⟨cc, e1, e2⟩ := h3 pos cv hc
  have q2 := D.apart e2 (fun _ => by unfold CodeO; intro z; cases z)
  exact ⟨cc, e1, b _ _ q2.1 q2.2 e2⟩
theorem tabs_keep {H H' : Hp} {T : List (Addr × Str)} (h : Tabs T H) (k : ∀ b o, H b = some o → ((∃ ps, o = .tbl ps) ∨ ∃ c q, o = CodeO c q) → H' b = some o) : Tabs T H' := fun p hp => by
  obtain ⟨ps, h1, h2, h3⟩ := h p hp
  refine ⟨ps, k _ _ h1 (.inl ⟨_, rfl⟩), h2, fun pos cv hc => ?_⟩
  obtain ⟨cc, e1, e2⟩ := h3 pos cv hc
  exact ⟨cc, e1, k _ _ e2 (.inr ⟨_, _, rfl⟩)⟩
theorem tabs_upd {H : Hp} {L : Addr} {xs : List V} {o' : HO} {T : List (Addr × Str)} (e : H L = some (.lst xs)) (h : Tabs T H) : Tabs T (upd H L o') := tabs_keep h fun b o eb k => by
  rw [upd_ne]
  · exact eb
  · intro z
    subst z
    rw [e] at eb
    cases eb
    rcases k with ⟨_, z⟩ | ⟨_, _, z⟩
    · cases z
    · unfold CodeO at z; cases z
theorem tabs_butO {H H' : Hp} {C t dx : Addr} {fs : List (Str × V)} {T : List (Addr × Str)} (e : H t = some (.ins C dx fs)) (b : ButO t H H') (h : Tabs T H) : Tabs T H' := tabs_keep h fun x o ex k => by
  refine b _ _ ?_ ex
  intro z
  subst z
  rw [e] at ex
  cases ex
  rcases k with ⟨_, z⟩ | ⟨_, _, z⟩
  · cases z
  · unfold CodeO at z; cases z
theorem Kp.extN {H H' : Hp} (e : ExtN H H') : Kp H H' := ⟨fun b xs h => e _ _ h (by intro ps z; cases z), fun b o u h => e _ _ h (by intro ps z; cases z)⟩
/-- the other desk, the tables, the wish -/
structure Z57 (K : PySem.W.Frag) (C pS u W : Addr) (wi : Wish) (H : Hp) (pan : List (List Int)) (st : List Int) (past : List (PyData × List (List Int) × List Int)) : Prop where
  du : DeskAt K C H u pan st past
  tb : Tabs (TSL pS) H
  w : H W = some (.lst [oV wi.x, oV wi.y])
section
variable {K : PySem.W.Frag} {C pS u W : Addr} {wi : Wish} {H H' : Hp} {pan : List (List Int)} {st : List Int} {past : List (PyData × List (List Int) × List Int)}
theorem DeskAt.extN (h : DeskAt K C H u pan st past) (e : ExtN H H') : DeskAt K C H' u pan st past := h.at fun dx fs e1 _ => h.kpAt (Kp.extN e) (by rw [e1]; exact e _ _ e1 (by intro ps z; cases z))
theorem DeskAt.updL {L : Addr} {xs : List V} {o : HO} (h : DeskAt K C H u pan st past) (e : H L = some (.lst xs)) : DeskAt K C (upd H L o) u pan st past := h.at fun dx fs e1 _ => h.kpAt (Kp.upd e) (upd_ne (ne_of e1 e (by intro z; cases z)))
theorem DeskAt.butO {t : Addr} {dx : Addr} {fs : List (Str × V)} (h : DeskAt K C H u pan st past) (e : H t = some (.ins C dx fs)) (n : u ≠ t) (b : ButO t H H') : DeskAt K C H' u pan st past := h.at fun dx fs e1 _ => h.kpAt (b.kp e) (by rw [e1]; exact b _ _ n e1)
theorem Z57.same (z : Z57 K C pS u W wi H pan st past) (s : Same H H') : Z57 K C pS u W wi H' pan st past := ⟨z.du.same s, z.tb.ext (fun b o e => s b o e), s _ _ z.w⟩
theorem Z57.but {a c : Addr} {m : Nat} (z : Z57 K C pS u W wi H pan st past) (D : Deck H a c m) (b : But a c H H') (n : W ≠ a ∧ W ≠ c) : Z57 K C pS u W wi H' pan st past := ⟨z.du.but D b, tabs_but D b z.tb, b _ _ n.1 n.2 z.w⟩
theorem Z57.updL {L : Addr} {xs : List V} {o : HO} (z : Z57 K C pS u W wi H pan st past) (e : H L = some (.lst xs)) (n : W ≠ L) : Z57 K C pS u W wi (upd H L o) pan st past := ⟨z.du.updL e, tabs_upd e z.tb, by rw [upd_ne n]; exact z.w⟩
theorem Z57.extN (z : Z57 K C pS u W wi H pan st past) (e : ExtN H H') (T : Tabs (TSL pS) H') : Z57 K C pS u W wi H' pan st past := ⟨z.du.extN e, T, e _ _ z.w (by intro ps z; cases z)⟩
theorem IV.extN {a c t S E : Addr} {m : Nat} {ys : List (List (List Int) × List Int)} {es : List PyData} (h : IV K C H a c t S E m pan st past ys es) (e : ExtN H H') : IV K C H' a c t S E m pan st past ys es := by
  have l : ∀ {b : Addr} {xs : List V}, H b = some (.lst xs) → H' b = some (.lst xs) := fun x => e _ _ x (by intro ps z; cases z)
  have hl := h.lf
  obtain ⟨h1, h2, ⟨bs, h3, h4⟩, ⟨evs, h5, h6⟩, h7, h8⟩ := h
  exact ⟨deck_extN e h1, h2.extN e, ⟨bs, l h3, paired_imp (fun x _ hx => hx.kp (Kp.extN e) fun vs q => l q) h4⟩, ⟨evs, l h5, dpAll_kp (Kp.extN e) _ _ hl h6⟩, h7, h8⟩
end
end K57
namespace K57
open PySem PySem.Spec PyProof.Rows L2 Pr
open NdefX LamX
theorem Ed.lay {pan pan' : List (List Int)} {d : PyData} {f : List Int → List Int} (h : Ed pan d pan' f) : d.canLay0 = true ∧ d.depth ≤ 1 := by
  have w : PyData.strOk ("press" : Str) = true ∧ PyData.strOk ("link" : Str) = true ∧ PyData.strOk ("unlink" : Str) = true := by decide +kernel
  cases h with
  | press _ _ => exact ⟨by simp [PyData.canLay0, PyData.canLayAll0, w.1], by simp [PyData.depth, PyData.depthAll]⟩
  | link _ _ => exact ⟨by simp [dLk, PyData.canLay0, PyData.canLayAll0, w.2.1], by simp [dLk, PyData.depth, PyData.depthAll]⟩
  | unlink _ _ => exact ⟨by simp [dLk, PyData.canLay0, PyData.canLayAll0, w.2.2], by simp [dLk, PyData.depth, PyData.depthAll]⟩
def EdOk (d : PyData) : Prop := Shw 1 39 d ∧ d.canLay0 = true ∧ d.depth ≤ 1
theorem lay_all : ∀ {ds : List PyData}, (∀ d ∈ ds, EdOk d) → PyData.canLayAll0 ds = true ∧ PyData.depthAll ds ≤ 1
  | [], _ => ⟨by simp [PyData.canLayAll0], by simp [PyData.depthAll]⟩
  | d :: r, h => by
    obtain ⟨h1, h2⟩ := lay_all (ds := r) fun x hx => h x (List.mem_cons_of_mem _ hx)
    obtain ⟨_, g1, g2⟩ := h d List.mem_cons_self
    refine ⟨by simp [PyData.canLayAll0, h1, g1], ?_⟩
    simp only [PyData.depthAll]
    omega
theorem lay_edits {ds : List PyData} (h : ∀ d ∈ ds, EdOk d) : (PyData.tuple ds).canLay0 = true ∧ (PyData.tuple ds).depth ≤ 64 := by
  obtain ⟨h1, h2⟩ := lay_all h
  exact ⟨by simp only [PyData.canLay0]; exact h1, by simp only [PyData.depth]; omega⟩
theorem eds_at {pan p : List (List Int)} {st s : List Int} {ds : List PyData} {xs : List (PyData × List (List Int) × List Int)} (h : Eds pan st ds p s xs) : ∀ j, j ≤ ds.length → ∃ y, (xs.map (·.2) ++ [(p, s)])[j]? = some y ∧ Eds pan st (ds.take j) y.1 y.2 (xs.take j) := by
  induction h with
  | nil =>
    intro j hj
    obtain rfl : j = 0 := by simpa using hj
    exact ⟨_, rfl, .nil⟩
  | cons h t ih =>
    intro j hj
    cases j with
    | zero => exact ⟨_, rfl, .nil⟩
    | succ j =>
      obtain ⟨y, h1, h2⟩ := ih j (by simpa using hj)
      exact ⟨y, h1, .cons h h2⟩
theorem eds_step {pan p : List (List Int)} {st s : List Int} {ds : List PyData} {xs : List (PyData × List (List Int) × List Int)} (h : Eds pan st ds p s xs) : ∀ (j : Nat) (pj : List (List Int)) (sj : List Int), j < ds.length → Eds pan st (ds.take j) pj sj (xs.take j) → ∃ d f p1, ds[j]? = some d ∧ Ed pj d p1 f ∧ xs.take (j + 1) = xs.take j ++ [(d, pj, sj)] ∧ Eds pan st (ds.take (j + 1)) p1 (f sj) (xs.take (j + 1)) := by
  induction h with
  | nil => intro j pj sj hj; exact absurd hj (Nat.not_lt_zero _)
  | cons h t ih =>
    intro j pj sj hj e
    cases j with
    | zero =>
      cases e
      exact ⟨_, _, _, rfl, h, rfl, .cons h .nil⟩
    | succ j =>
      cases e with
      | cons h2 t2 =>
        obtain ⟨rfl, rfl⟩ := h.det h2
        obtain ⟨d, f, p1, h3, h4, h5, h6⟩ := ih j pj sj (by simpa using hj) t2
        exact ⟨d, f, p1, h3, h4, congrArg (List.cons _) h5, .cons h h6⟩
theorem eds_good {pan p : List (List Int)} {st s : List Int} {ds : List PyData} {xs : List (PyData × List (List Int) × List Int)} (h : Eds pan st ds p s xs) (g : Good pan) (as : Asc pan.length st) : Good p ∧ Asc p.length s ∧ p.length = pan.length ∧ ∀ x ∈ xs, EdOk x.1 := by
  induction h with
  | nil => exact ⟨g, as, rfl, fun x hx => by cases hx⟩
  | cons h t ih =>
    have g2 := h.good g
    obtain ⟨h1, h2, h3, h4⟩ := ih g2.1 (h.asc g as)
    refine ⟨h1, h2, h3.trans g2.2, fun x hx => ?_⟩
    rcases List.mem_cons.mp hx with rfl | hx
    · exact ⟨h.shw g, h.lay⟩
    · exact h4 x hx
theorem sq_num {n : Nat} (hn : n ≤ 90) : Shq 60 sizeLine (.int (n : Int)) := (Shw.int (k := 2) (by omega) (by decide) (by decide) (by show _ < (100 : Int); omega)).q.mono (by decide) (by decide)
theorem dpAll_get2 {K : PySem.W.Frag} {H : Hp} : ∀ {vs : List V} {ds : List PyData} {m : Nat} {d : PyData}, DpAll K H vs ds → ds[m]? = some d → ∃ v, vs[m]? = some v ∧ Dp K H v d
  | _, _, 0, v, .cons d r, h => by simp at h; subst h; exact ⟨_, rfl, d⟩
  | _, _, m + 1, v, .cons d r, h => by rw [List.getElem?_cons_succ] at h; rw [List.getElem?_cons_succ]; exact dpAll_get2 r h
/-- both desks, the tables, the law's state -/
structure Y57 (K : PySem.W.Frag) (C pS : Addr) (H : Hp) (a c t u S : Addr) (m : Nat) (pan : List (List Int)) (st : List Int) (past : List (PyData × List (List Int) × List Int)) : Prop where
  dk : Deck H a c m
  dt : DeskAt K C H t pan st past
  du : DeskAt K C H u pan st past
  ne : u ≠ t
  tb : Tabs (TSL pS) H
  sl : (S ≠ a ∧ S ≠ c) ∧ ∃ (vp : V) (l : Addr), H S = some (.lst [vp, .ref l]) ∧ Dp K H vp (dPan pan) ∧ H l = some (.tup (st.map V.int))
section
variable {K : PySem.W.Frag} {C pS a c t u S : Addr} {m m' : Nat} {H H' : Hp} {pan : List (List Int)} {st : List Int} {past : List (PyData × List (List Int) × List Int)}
theorem Y57.same (y : Y57 K C pS H a c t u S m pan st past) (s : Same H H') : Y57 K C pS H' a c t u S m pan st past := by
  obtain ⟨h1, h2, h3, h4, h5, h6, vp, l, e1, e2, e3⟩ := y
  exact ⟨h1.same s, h2.same s, h3.same s, h4, h5.ext (fun b o e => s b o e), h6, vp, l, s _ _ e1, e2.sm s, s _ _ e3⟩
theorem Y57.but (y : Y57 K C pS H a c t u S m pan st past) (b : But a c H H') (D : Deck H' a c m') : Y57 K C pS H' a c t u S m' pan st past := by
  obtain ⟨h1, h2, h3, h4, h5, h6, vp, l, e1, e2, e3⟩ := y
  have k := Kp.but h1 b
  exact ⟨D, h2.but h1 b, h3.but h1 b, h4, tabs_but h1 b h5, h6, vp, l, b _ _ h6.1 h6.2 e1, e2.kp k (lf_pan _), k.1 _ _ e3⟩
theorem Y57.less (y : Y57 K C pS H a c t u S m pan st past) (z : m' ≤ m) : Y57 K C pS H a c t u S m' pan st past := ⟨y.dk.less z, y.dt, y.du, y.ne, y.tb, y.sl⟩
theorem gv_RightU {σ : L2.St} {i j l : Nat} {E E' : XK} (hi : σ[i]? = some (some (.ref t))) (hj : σ[j]? = some (some (.ref S))) (hl : σ[l]? = some (some (.ref u))) (y : Y57 K C pS H a c t u S m pan st past) (few : past.length ≤ 60) (hsh : ∀ x ∈ past, Shw 1 39 x.1) :
    Gv K (tCall (spRight K C) [] E (tCons (tVar i) (tCons (tVar j) (tCons (tCB (rListG K) (tCons (tMeth C "edits" (spEdits K C) [] E' (tVar l) tNil) tNil)) tNil)))) σ H (.bool true) := fun H1 s Q q => by
  have y1 := y.same s
  obtain ⟨n, vp, lq, e1, e2, e3⟩ := y1.sl
  exact ⟨.ref t, hi, .ref S, hj, gv_lstT (gv_EditsD (E := E') hl y1.du (by omega)) H1 (Same.refl _) _ fun v H2 s2 dv => ⟨t, pan, st, past, .ref S, v, rfl, y1.dt.same s2, few, hsh, (show Dp K H1 (.ref S) (dPS pan st) from .lst (.inl (.inl e1)) (.cons e2 (.cons (dp_ints (.inl (.inl e3))) .nil))).sm s2, dv, fun H3 s3 => q _ H3 (s2.trans s3) (.bl true)⟩⟩
theorem IV.butO {M E dx : Addr} {fs : List (Str × V)} {ys : List (List (List Int) × List Int)} {es : List PyData} (h : IV K C H a c t M E m pan st past ys es) (e1 : H u = some (.ins C dx fs)) (n : t ≠ u) (b : ButO u H H') : IV K C H' a c t M E m pan st past ys es := by
  have hl := h.lf
  obtain ⟨h1, h2, ⟨bs, h3, h4⟩, ⟨evs, h5, h6⟩, h7, h8⟩ := h
  have k := b.kp e1
  exact ⟨b.deck e1 h1, h2.butO e1 n b, ⟨bs, b _ _ (ne_of h3 e1 (by intro z; cases z)) h3, paired_imp (fun x _ hx => hx.kp k fun vs e => b _ _ (ne_of e e1 (by intro z; cases z)) e) h4⟩, ⟨evs, b _ _ (ne_of h5 e1 (by intro z; cases z)) h5, dpAll_kp k _ _ hl h6⟩, h7, h8⟩
theorem Y57.iv {M E : Addr} (y : Y57 K C pS H a c t u S m pan st past) (eM : H M = some (.lst [.ref S])) (eE : H E = some (.lst [])) (nM : M ≠ a ∧ M ≠ c) (nE : E ≠ a ∧ E ≠ c) (SM : S ≠ M) (SE : S ≠ E) (ME : M ≠ E) : IV K C H a c t M E m pan st past [(pan, st)] [] := by
  obtain ⟨h1, h2, h3, h4, h5, h6, vp, l, e1, e2, e3⟩ := y
  exact ⟨h1, h2, ⟨[S], eM, .cons ⟨⟨h6.1, h6.2, SM, SE⟩, vp, l, e1, e2, e3⟩ .nil⟩, ⟨[], eE, .nil⟩, (fun d hd => by cases hd), nM.1, nM.2, nE.1, nE.2, ME⟩
end
end K57
namespace K57
open PySem PySem.Spec PyProof.Rows L2 Pr
open NdefX LamX
open PySem PySem.Spec in
theorem okGC {P : Program} {w : World} {K : PySem.W.Frag} {mg : Str → Option Value} {base : Heap} {x qual : Str} {st : Stmt} {f c : Addr} {fd : FuncData} {N ps : List Str} {k : Nat} {sp : Sp} (F : Fun K x qual st f fd) (S : FnScope N ps (defScope st)) (ecd : fd.code = .ref c)
    (len : ∀ vs H Q E, sp vs H Q E → vs.length = ps.length)
    (body : ∀ (A : Around) (outer : List Env) (s : Shared) (H : Hp) (vs : List V) (Q : VK) (E : XK), A.guards = some [] →
      Room k (A.deeper (envOfC qual (defScope st) s.heap.objs.size f (.ref c))) → sp vs H Q E →
      ∃ t, PSs (cxOf CX0 P w K mg base N qual (defScope st) f (.ref c) A outer s H E).nox (defBody st) t ∧ t { nx := fun _ H' => Q .non H', rt := Q } (start N vs) H) :
    FnG P w K mg base (k + 1) f fd ps sp := by
  obtain ⟨oc, od, kV, doc, pm, an, cdv, ct, osl, rfl, lk, hcd⟩ := F.ex
  obtain rfl : cdv = Value.ref c := ecd
  refine ⟨len, fun A outer s H args us vs Q E hg hr e0 hb r hsp => ?_⟩
  have hin : K.In s.heap := e0.mod.kin.keeps fun b o e => (e0.bs b o e).1
  have hlm : s.heap.NoLimit := e0.mod.nolimit.keeps fun b o e => (e0.bs b o e).1
  refine codeAny_call_function hr.depth (hin _ _ lk) rfl S.co S.gen rfl (PySem.W.codeRec_of hin hcd) (hb _ _ _ _ ?_)
  refine wpAny_newFunctionEnv_cells S.kind (fun ⟨n, v⟩ hy => ?_) fun env he s1 x => ?_
  · rcases S.par n (List.of_mem_zip hy).1 with q | q
    · exact .inl q
    · exact .inr ⟨q, PySem.W.cellsFrom_some _ _ _ (.inl q)⟩
  · subst he
    refine ⟨hlm.keeps x.toInCall.keep, codeAny_func ?_⟩
    obtain ⟨t, ht, hq⟩ := body A outer s H vs Q E hg (hr.deeper _) hsp
    have I := inv_start (CX := CX0) (E := E) S hr.hd e0 (len _ _ _ _ hsp) r x
    refine wpAny_mono (ht.nox.run [] s1 (start N vs) H _ I hq) (fun fl s' hs => ?_) fun e s' hs => hs
    cases fl with
    | ret u => obtain ⟨v, σ', H', J, rv, q⟩ := hs; exact ⟨v, H', J.os, J.bare, J.base, J.hok, rv, q⟩
    | next => obtain ⟨σ', H', J, q⟩ := hs; exact ⟨V.non, H', J.os, J.bare, J.base, J.hok, rfl, q⟩
    | brk => obtain ⟨_, _, _, q⟩ := hs; exact q.elim
    | cont => obtain ⟨_, _, _, q⟩ := hs; exact q.elim
def nLaw : List Str := ["_law_script", "_law_deck_here", "_law_panel_here", "_law_n", "_law_state_here", "_law_table", "_law_other", "_law_turn", "_law_moves", "_law_batch", "_law_wish", "_law_k", "_law_found", "_law_done"]
theorem scLaw : FnScope nLaw ["_law_script"] (defScope sLaw) := ⟨rfl, rfl, rfl, by decide +kernel, rfl, by decide +kernel, by decide +kernel⟩
section
variable {P : Program} {w : World} {K : PySem.W.Frag} {mg : Str → Option Value} {base : Heap}
def spLaw (K : PySem.W.Frag) (pS : Addr) : Sp := fun vs H Q _ => ∃ (s : Addr) (ns : List Int), vs = [.ref s] ∧ SqL K H s (ns.map V.int) ∧ ns.length ≤ 63 ∧ Tabs (TSL pS) H ∧ ∀ H', Q (.bl true) H'
theorem ok_law {fWl : Addr} {fdWl : FuncData} {fLi : Addr} {fdLi : FuncData} {fUn : Addr} {fdUn : FuncData} {fBtn : Addr} {fdBtn : FuncData} {fBtnT : Addr} {fdBtnT : FuncData} {fPErr : Addr} {fdPErr : FuncData} {fPress : Addr} {fdPress : FuncData} {fAny : Addr} {fdAny : FuncData} {fHeld : Addr} {fdHeld : FuncData} {fChkP : Addr} {fdChkP : FuncData} {fChkS : Addr} {fdChkS : FuncData} {fChkB : Addr} {fdChkB : FuncData} {fIsV : Addr} {fdIsV : FuncData} {fIsE : Addr} {fdIsE : FuncData} {fCopy : Addr} {fdCopy : FuncData} {fDeck : Addr} {fdDeck : FuncData} {fDraw : Addr} {fdDraw : FuncData} {fPanel : Addr} {fdPanel : FuncData} {fState0 : Addr} {fdState0 : FuncData} {fPressed : Addr} {fdPressed : FuncData} {fChanged : Addr} {fdChanged : FuncData} {fAfter : Addr} {fdAfter : FuncData} {fEdit : Addr} {fdEdit : FuncData} {fDo : Addr} {fdDo : FuncData} {fRight : Addr} {fdRight : FuncData} {fReach : Addr} {fdReach : FuncData} {f : Addr} {fd : FuncData} (F : Fun K "law" "law" sLaw f fd)
    (FWl : Fun K "with_list" "with_list" sWl fWl fdWl) (bWl : Binds K fdWl ["panel", "button", "released"] []) (gWl : mg "with_list" = some (.ref fWl))
    (FLi : Fun K "linked" "linked" sLi fLi fdLi) (bLi : Binds K fdLi ["panel", "one", "other"] []) (gLi : mg "linked" = some (.ref fLi))
    (FUn : Fun K "unlinked" "unlinked" sUn fUn fdUn) (bUn : Binds K fdUn ["panel", "one", "other"] []) (gUn : mg "unlinked" = some (.ref fUn))
    (FBtn : Fun K "is_button" "is_button" sBtn fBtn fdBtn) (bBtn : Binds K fdBtn ["value", "many"] []) (gBtn : mg "is_button" = some (.ref fBtn))
    (FBtnT : Fun K "is_button_tuple" "is_button_tuple" sBtnT fBtnT fdBtnT) (bBtnT : Binds K fdBtnT ["value", "many"] []) (gBtnT : mg "is_button_tuple" = some (.ref fBtnT))
    (FPErr : Fun K "panel_error" "panel_error" sPErr fPErr fdPErr) (bPErr : Binds K fdPErr ["value"] []) (gPErr : mg "panel_error" = some (.ref fPErr))
    (FPress : Fun K "press_button" "press_button" sPress fPress fdPress) (bPress : Binds K fdPress ["panel", "state", "button"] []) (gPress : mg "press_button" = some (.ref fPress))
    (FAny : Fun K "releases_any" "releases_any" sAny fAny fdAny) (bAny : Binds K fdAny ["panel", "button", "others"] []) (gAny : mg "releases_any" = some (.ref fAny))
    (FHeld : Fun K "held_buttons" "held_buttons" sHeld fHeld fdHeld) (bHeld : Binds K fdHeld ["panel", "state"] []) (gHeld : mg "held_buttons" = some (.ref fHeld))
    (FChkP : Fun K "check_panel" "check_panel" sChkP fChkP fdChkP) (bChkP : Binds K fdChkP ["value"] []) (gChkP : mg "check_panel" = some (.ref fChkP))
    (FChkS : Fun K "check_state" "check_state" sChkS fChkS fdChkS) (bChkS : Binds K fdChkS ["panel", "value"] []) (gChkS : mg "check_state" = some (.ref fChkS))
    (FChkB : Fun K "check_button" "check_button" sChkB fChkB fdChkB) (bChkB : Binds K fdChkB ["panel", "value"] []) (gChkB : mg "check_button" = some (.ref fChkB))
    (FIsV : Fun K "is_version" "is_version" sIsV fIsV fdIsV) (bIsV : Binds K fdIsV ["value", "latest"] []) (gIsV : mg "is_version" = some (.ref fIsV))
    (FIsE : Fun K "is_edit" "is_edit" sIsE fIsE fdIsE) (bIsE : Binds K fdIsE ["value"] []) (gIsE : mg "is_edit" = some (.ref fIsE))
    (FCopy : Fun K "copied_batch" "copied_batch" sCopy fCopy fdCopy) (bCopy : Binds K fdCopy ["value"] []) (gCopy : mg "copied_batch" = some (.ref fCopy))
    (FDeck : Fun K "_law_deck" "_law_deck" sDeck fDeck fdDeck) (bDeck : Binds K fdDeck ["_law_script"] []) (gDeck : mg "_law_deck" = some (.ref fDeck))
    (FDraw : Fun K "_law_draw" "_law_draw" sDraw fDraw fdDraw) (bDraw : Binds K fdDraw ["_law_deck_here", "_law_many"] []) (gDraw : mg "_law_draw" = some (.ref fDraw))
    (FPanel : Fun K "_law_panel" "_law_panel" sPanel fPanel fdPanel) (bPanel : Binds K fdPanel ["_law_deck_here", "_law_most"] []) (gPanel : mg "_law_panel" = some (.ref fPanel))
    (FState0 : Fun K "_law_state" "_law_state" sState0 fState0 fdState0) (bState0 : Binds K fdState0 ["_law_deck_here", "_law_n"] []) (gState0 : mg "_law_state" = some (.ref fState0))
    (FPressed : Fun K "_law_pressed" "_law_pressed" sPressed fPressed fdPressed) (bPressed : Binds K fdPressed ["_law_panel_here", "_law_state_here", "_law_button"] []) (gPressed : mg "_law_pressed" = some (.ref fPressed))
    (FChanged : Fun K "_law_changed" "_law_changed" sChanged fChanged fdChanged) (bChanged : Binds K fdChanged ["_law_panel_here", "_law_one", "_law_other", "_law_is_link"] []) (gChanged : mg "_law_changed" = some (.ref fChanged))
    (FAfter : Fun K "_law_after" "_law_after" sAfter fAfter fdAfter) (bAfter : Binds K fdAfter ["_law_state_here", "_law_edit_here"] []) (gAfter : mg "_law_after" = some (.ref fAfter))
    (FEdit : Fun K "_law_edit" "_law_edit" sEdit fEdit fdEdit) (bEdit : Binds K fdEdit ["_law_deck_here", "_law_state_here"] []) (gEdit : mg "_law_edit" = some (.ref fEdit))
    (FDo : Fun K "_law_do" "_law_do" sDo fDo fdDo) (bDo : Binds K fdDo ["_law_table", "_law_edit_here"] []) (gDo : mg "_law_do" = some (.ref fDo))
    (FRight : Fun K "_law_right" "_law_right" sRight fRight fdRight) (bRight : Binds K fdRight ["_law_table", "_law_state_here", "_law_edits"] []) (gRight : mg "_law_right" = some (.ref fRight))
    (FReach : Fun K "_law_reached" "_law_reached" sReach fReach fdReach) (bReach : Binds K fdReach ["_law_table", "_law_wish"] []) (gReach : mg "_law_reached" = some (.ref fReach))
    (m_abs : mg "abs" = none) (m_any : mg "any" = none) (m_bool : mg "bool" = none) (m_enumerate : mg "enumerate" = none) (m_int : mg "int" = none) (m_isinstance : mg "isinstance" = none) (m_len : mg "len" = none) (m_list : mg "list" = none) (m_min : mg "min" = none) (m_range : mg "range" = none) (m_repr : mg "repr" = none) (m_sorted : mg "sorted" = none) (m_str : mg "str" = none) (m_tuple : mg "tuple" = none) {C CV CU : Addr} (T : TxtD K mg C) (DX : DM P w K mg base C CV CU) {cS pS : Addr} (ecd : fd.code = .ref cS) (TBS : TabB base mg cS pS) : FnG P w K mg base (30) f fd ["_law_script"] (spLaw K pS) := by
  have DX0 := DX
  obtain ⟨fInitD, fdInitD, bInitD, MkD, GInitD, fPressD, fdPressD, bPressD, hPressD, GPressD, fLink, fdLink, bLink, hLink, GLink, fUnlink, fdUnlink, bUnlink, hUnlink, GUnlink, fState, fdState, dsState, vState, kbState, bState, hState, GState, fUndo, fdUndo, bUndo, hUndo, GUndo, fEdits, fdEdits, bEdits, hEdits, GEdits, fLenD, fdLenD, bLenD, xLenD, yLenD, GLenD, fStrD, fdStrD, bStrD, xStrD, yStrD, GStrD, fEqD, fdEqD, bEqD, xEqD, yEqD, GEqD, nfD, fAW, fdAW, hAW, kbAW, GAW⟩ := DX0
  have GDeck : FnOk P w K mg base CX0 (1) fDeck fdDeck ["_law_script"] (spDeck K) := ok_deck FDeck m_abs
  have GPanel : FnOk P w K mg base CX0 (2) fPanel fdPanel ["_law_deck_here", "_law_most"] (spPanel K) := ok_Panel FPanel FDraw bDraw gDraw m_len m_list m_min m_range m_tuple
  have GState0 : FnOk P w K mg base CX0 (2) fState0 fdState0 ["_law_deck_here", "_law_n"] (spState0 K) := ok_State0 FState0 FDraw bDraw gDraw m_len m_range m_tuple
  have GDraw : FnOk P w K mg base CX0 (1) fDraw fdDraw ["_law_deck_here", "_law_many"] spDraw := ok_draw FDraw m_len
  have GEdit : FnOk P w K mg base CX0 (2) fEdit fdEdit ["_law_deck_here", "_law_state_here"] (spEdit K) := ok_Edit FEdit FDraw bDraw gDraw m_int m_len
  have GAfter : FnOk P w K mg base CX0 (2) fAfter fdAfter ["_law_state_here", "_law_edit_here"] (spAfter K) := ok_After FAfter FPressed bPressed gPressed FChanged bChanged gChanged m_int m_sorted m_tuple
  have GReach : FnOk P w K mg base CX0 (1) fReach fdReach ["_law_table", "_law_wish"] (spReach K C) := ok_Reach FReach m_len T
  have GDo : FnOk P w K mg base CX0 (14) fDo fdDo ["_law_table", "_law_edit_here"] (spDo K C) := ok_Do FDo T DX
  have GRight : FnG P w K mg base (14) fRight fdRight ["_law_table", "_law_state_here", "_law_edits"] (spRight K C) := ok_Right FRight m_len m_repr m_str m_tuple T DX
  refine okGC F scLaw ecd (fun vs H Q E h => ?_) (fun A outer s H vs Q E gd hr h => ?_)
  · obtain ⟨s, ns, rfl, _⟩ := h
    rfl
  · obtain ⟨sc, ns, rfl, hS, hlen, hT, q⟩ := h
    refine ⟨_, pss_cons (ps_set (i := 1) scLaw.nd rfl (.inl rfl) (pe_call GDeck (hr.mono (by omega)) (by rfl) gDeck FDeck.kp bDeck .nil pass0 (pa_cons (pv 0) pa_nil)))
      (pss_cons (ps_set (i := 2) scLaw.nd rfl (.inl rfl) (pe_call GPanel (hr.mono (by omega)) (by rfl) gPanel FPanel.kp bPanel .nil pass0 (pa_cons (pv 1) (pa_cons pe_int pa_nil))))
      (pss_cons (ps_set (i := 3) scLaw.nd rfl (.inl rfl) (pe_callB (show CallR _ _ (rLenG K) from cr_lenG) (by rfl) m_len PySem.boot_len (pa_cons (pv 2) pa_nil)))
      (pss_cons (ps_set (i := 4) scLaw.nd rfl (.inl rfl) (pe_lst (pa_cons (pv 2) (pa_cons (pe_call GState0 (hr.mono (by omega)) (by rfl) gState0 FState0.kp bState0 .nil pass0 (pa_cons (pv 1) (pa_cons (pv 3) pa_nil))) pa_nil))))
      (pss_cons (ps_par (i := 5) (j := 6) rfl scLaw.nd rfl rfl (by decide) rfl rfl (pa_cons (pe_make MkD GInitD (hr.mono (by omega)) (by rfl) T.g bInitD .nil pass0 (pa_cons (pe_ix (show IxR _ (rIxL K) from ix_list) (pv 4) pe_int (fun _ _ => rfl)) (pa_cons (pe_ix (show IxR _ (rIxL K) from ix_list) (pv 4) pe_int (fun _ _ => rfl)) pa_nil))) (pa_cons (pe_make MkD GInitD (hr.mono (by omega)) (by rfl) T.g bInitD .nil pass0 (pa_cons (pe_ix (show IxR _ (rIxL K) from ix_list) (pv 4) pe_int (fun _ _ => rfl)) (pa_cons (pe_ix (show IxR _ (rIxL K) from ix_list) (pv 4) pe_int (fun _ _ => rfl)) pa_nil))) pa_nil)) (by rfl))
      (pss_cons (ps_for PassesOwn.never rfl (pi_range1 (by rfl) m_range (pa_cons (pe_op op_add pe_int (pe_call GDraw (hr.mono (by omega)) (by rfl) gDraw FDraw.kp bDraw .nil pass0 (pa_cons (pv 1) (pa_cons pe_int pa_nil)))) pa_nil)) (pg_name (i := 7) scLaw.nd rfl (Or.inl rfl)) (pss_cons (ps_par (i := 8) (j := 9) rfl scLaw.nd rfl rfl (by decide) rfl rfl (pa_cons (pe_lst (pa_cons (pv 4) pa_nil)) (pa_cons (pe_lst pa_nil) pa_nil)) (by rfl))
      (pss_cons (ps_set (i := 10) scLaw.nd rfl (.inr rfl) (pe_ix (show IxR _ (rIxL K) from ix_list) (pe_lst (pa_cons (pe_lst (pa_cons (pe_call GDraw (hr.mono (by omega)) (by rfl) gDraw FDraw.kp bDraw .nil pass0 (pa_cons (pv 1) (pa_cons (pe_op op_add (pv 3) pe_int) pa_nil))) (pa_cons pe_non pa_nil))) (pa_cons (pe_lst (pa_cons pe_non (pa_cons (pe_call GDraw (hr.mono (by omega)) (by rfl) gDraw FDraw.kp bDraw .nil pass0 (pa_cons (pv 1) (pa_cons (pv 3) pa_nil))) pa_nil))) (pa_cons (pe_lst (pa_cons pe_non (pa_cons pe_non pa_nil))) pa_nil)))) (pe_call GDraw (hr.mono (by omega)) (by rfl) gDraw FDraw.kp bDraw .nil pass0 (pa_cons (pv 1) (pa_cons pe_int pa_nil))) (fun _ _ => rfl)))
      (pss_cons (ps_for PassesOwn.never rfl (pi_range1 (by rfl) m_range (pa_cons (pe_call GDraw (hr.mono (by omega)) (by rfl) gDraw FDraw.kp bDraw .nil pass0 (pa_cons (pv 1) (pa_cons pe_int pa_nil))) pa_nil)) (pg_name (i := 11) scLaw.nd rfl (Or.inl rfl)) (pss_cons (ps_expr (show PE _ _ (tBM K "list" rAppend _ _) from pe_bm PySem.F.plainAttrs_list PySem.F.slot_list_append PySem.F.type_list_append mt_append (pv 9) (pa_cons (pe_call GEdit (hr.mono (by omega)) (by rfl) gEdit FEdit.kp bEdit .nil pass0 (pa_cons (pv 1) (pa_cons (pe_ix (show IxR _ (rIxL K) from ix_list) (pv 8) (pe_un un_neg pe_int) (fun _ _ => rfl)) pa_nil))) pa_nil)))
      (pss_one (ps_expr (show PE _ _ (tBM K "list" rAppend _ _) from pe_bm PySem.F.plainAttrs_list PySem.F.slot_list_append PySem.F.type_list_append mt_append (pv 8) (pa_cons (pe_call GAfter (hr.mono (by omega)) (by rfl) gAfter FAfter.kp bAfter .nil pass0 (pa_cons (pe_ix (show IxR _ (rIxL K) from ix_list) (pv 8) (pe_un un_neg pe_int) (fun _ _ => rfl)) (pa_cons (pe_ix (show IxR _ (rIxL K) from ix_list) (pv 9) (pe_un un_neg pe_int) (fun _ _ => rfl)) pa_nil))) pa_nil))))))
      (pss_cons (ps_set (i := 12) scLaw.nd rfl (.inl rfl) (pe_methLam (T := TSL pS) (js := [10]) (pv 5) T.cl hAW (fun f c' ws => GAW (ok_Lam ⟨⟨_, _, _, _, rfl⟩, nscope_by (by decide +kernel), by rfl, fun _ _ _ _ _ _ => rfl⟩ (GReach) FReach.kp bReach gReach) (mono_L ws)) (hr.mono (by omega)) kbAW pass0 (pa_cons (pv 9) pa_nil) TBS rfl (List.mem_singleton.mpr rfl) (fun p hp _ => by rw [List.mem_singleton.mp hp]; rfl) (by rfl) (fun _ => rfl) (by show ∀ (y : Str × NameKind), y ∈ (_ : List (Str × NameKind)) → y.2 = NameKind.free → (defScope sLaw).names.lookup y.1 = some NameKind.cell ∨ (defScope sLaw).names.lookup y.1 = some NameKind.free; decide +kernel) (by decide +kernel) (by rfl)))
      (pss_cons (ps_set (i := 13) scLaw.nd rfl (.inl rfl) pe_int)
      (pss_cons (ps_while PassesOwn.never (PW.pt (pw_and (pt_cmpR op_lt (pv 13) (pe_callB (show CallR _ _ (rLenG K) from cr_lenG) (by rfl) m_len PySem.boot_len (pa_cons (pv 9) pa_nil)) (nomark _)) (pw_and1 (PW.pt (pw_or (pt_cmpR op_eq (pv 13) pe_int (nomark _)) (pw_or1 (pt_not (pt_val (pe_call GReach (hr.mono (by omega)) (by rfl) gReach FReach.kp bReach .nil pass0 (pa_cons (pv 6) (pa_cons (pv 10) pa_nil))))))))))) (pss_cons (ps_if (pt_cmpR op_ne (pe_call GDo (hr.mono (by omega)) (by rfl) gDo FDo.kp bDo .nil pass0 (pa_cons (pv 6) (pa_cons (pe_ix (show IxR _ (rIxL K) from ix_list) (pv 9) (pv 13) (fun _ _ => rfl)) pa_nil))) (pe_callB (show CallR _ _ (rLenO C (spLenD K C)) from cr_lenO GLenD (hr.mono (by omega)) bLenD xLenD yLenD) (by rfl) m_len PySem.boot_len (pa_cons (pv 6) pa_nil)) (nomark _)) (pss_one (ps_ret pe_bl)) pss_nil)
      (pss_one (ps_set (i := 13) scLaw.nd rfl (.inl rfl) (pe_op op_add (pv 13) pe_int)))))
      (pss_cons (ps_set (i := 4) scLaw.nd rfl (.inl rfl) (pe_ix (show IxR _ (rIxL K) from ix_list) (pv 8) (pv 13) (fun _ _ => rfl)))
      (pss_cons (ps_if (PW.pt (pw_or (pt_cmpR op_ne (pe_callB (show CallR _ _ (rReprA K) from cr_reprA gd hr) (by rfl) m_repr (by decide +kernel) (pa_cons (pv 12) pa_nil)) (pe_callB (show CallR _ _ (rReprA K) from cr_reprA gd hr) (by rfl) m_repr (by decide +kernel) (pa_cons (pv 13) pa_nil)) (nomark _)) (pw_or (pt_not (pt_cmpR (show OpR _ _ (rEqO C C (spEqD K C)) from op_eqO GEqD (hr.mono (by omega)) bEqD xEqD yEqD nfD) (pv 5) (pv 6) (nomark _))) (pw_or1 (pt_cmpR (show OpR _ _ (rNeD K) from op_neD hr.units) (pe_meth0 (pv 5) T.cl hEdits GEdits (hr.mono (by omega)) bEdits .nil pass0) (pe_meth0 (pv 6) T.cl hEdits GEdits (hr.mono (by omega)) bEdits .nil pass0) (nomark _)))))) (pss_one (ps_ret pe_bl)) pss_nil)
      (pss_one (ps_if (pt_not (pt_val (pe_callG GRight gd (hr.mono (by omega)) (by rfl) gRight FRight.kp bRight (pa_cons (pv 5) (pa_cons (pv 4) (pa_cons (pe_callTy (show CallR _ _ (rListG K) from call_listG) (by rfl) m_list (by decide +kernel) (pa_cons (pe_meth0 (pv 6) T.cl hEdits GEdits (hr.mono (by omega)) bEdits .nil pass0) pa_nil)) pa_nil)))))) (pss_one (ps_ret pe_bl)) pss_nil)))))))))))
      (pss_cons (ps_for PassesOwn.never rfl (pi_range1 (by rfl) m_range (pa_cons (pe_callB (show CallR _ _ (rLenO C (spLenD K C)) from cr_lenO GLenD (hr.mono (by omega)) bLenD xLenD yLenD) (by rfl) m_len PySem.boot_len (pa_cons (pv 5) pa_nil)) pa_nil)) (pg_name (i := 7) scLaw.nd rfl (Or.inl rfl)) (pss_one (ps_if (PW.pt (pw_or (pt_cmpR op_ne (pe_meth0 (pv 5) T.cl hUndo GUndo (hr.mono (by omega)) bUndo .nil passX) (pe_meth0 (pv 6) T.cl hUndo GUndo (hr.mono (by omega)) bUndo .nil passX) (nomark _)) (pw_or (pt_not (pt_cmpR (show OpR _ _ (rEqO C C (spEqD K C)) from op_eqO GEqD (hr.mono (by omega)) bEqD xEqD yEqD nfD) (pv 5) (pv 6) (nomark _))) (pw_or1 (pt_cmpR (show OpR _ _ (rNeD K) from op_neD hr.units) (pe_fld (pv 5) rfl) (pe_fld (pv 6) rfl) (nomark _)))))) (pss_one (ps_ret pe_bl)) pss_nil)))
      (pss_one (ps_ret pe_bl)))))))), ?_⟩
    refine ⟨.ref sc, rfl, sc, ns, rfl, hS, hlen, fun H1 a c s1 D1 => ?_⟩
    refine ⟨.ref a, rfl, a, c, 5000, 7, rfl, D1.less (by omega), by decide, by decide, fun H3 vp pan0 b3 D3 dp hg0 hle0 => ?_⟩
    obtain ⟨p, rfl, hp⟩ := panT_dp dp
    have few0 := hg0.few
    have hlp0 : (pan0.map dInts).length = pan0.length := List.length_map _
    have T3 : Tabs (TSL pS) H3 := tabs_but D1 b3 (hT.ext fun b o e => s1 b o e)
    refine gs_set1 (K := K) (gv_lenT (gv_var rfl hp.dp)) fun vn H4 s4 dn => ?_
    cases dn
    rw [hlp0]
    refine ⟨.ref p, rfl, .ref a, rfl, .int (pan0.length : Int), rfl, a, c, 4900, pan0.length, rfl, (D3.same s4).less (by omega), few0, fun H5 l st0 b5 D5 el hst0 => ?_⟩
    have hp5 := (hp.same s4).kp (Kp.but (D3.same s4) b5)
    have T5 := tabs_but (D3.same s4) b5 (T3.ext fun b o e => s4 b o e)
    refine ⟨by show 2 ≤ sizeLine; decide, fun S0 nS => ?_⟩
    have sS := same_new (o := .lst [.ref p, .ref l]) nS
    have fS := D5.fresh nS
    have eS6 : upd H5 S0 (.lst [.ref p, .ref l]) S0 = some (.lst [.ref p, .ref l]) := upd_same
    have hp6 := hp5.same sS
    have el6 := sS _ _ el
    have D6 := D5.same sS
    have T6 := T5.ext fun b o e => sS b o e
    generalize upd H5 S0 (.lst [.ref p, .ref l]) = H6 at eS6 hp6 el6 D6 T6 ⊢
    refine ⟨.ref S0, rfl, S0, _, _, .ref p, rfl, rfl, .inl (.inl eS6), rfl, .ref S0, rfl, S0, _, _, .ref l, rfl, rfl, .inl (.inl eS6), rfl, fun t tx nt ntx net => ?_⟩
    have st' : Same H6 (upd (upd H6 tx (.own t)) t (.ins C tx [])) := fun b ob e => by rw [upd_ne (ne_of_none e nt), upd_ne (ne_of_none e ntx)]; exact e
    refine ⟨t, p, l, tx, pan0, st0, rfl, upd_same, hp6.same st', hg0, st' _ _ el6, hst0, fun H8 b8 G8 => ⟨rfl, ?_⟩⟩
    have k8 := b8.kp (upd_same (a := t))
    have D8 := b8.deck upd_same (D6.same st')
    have T8 := tabs_butO upd_same b8 (T6.ext fun b o e => st' b o e)
    have eS8 := b8 _ _ (ne_of_none eS6 nt) (st' _ _ eS6)
    have hp8 := (hp6.same st').kp k8
    have el8 := k8.1 _ _ (st' _ _ el6)
    refine ⟨.ref S0, rfl, S0, _, _, .ref p, rfl, rfl, .inl (.inl eS8), rfl, .ref S0, rfl, S0, _, _, .ref l, rfl, rfl, .inl (.inl eS8), rfl, fun u ux nu nux neu => ?_⟩
    have su' : Same H8 (upd (upd H8 ux (.own u)) u (.ins C ux [])) := fun b ob e => by rw [upd_ne (ne_of_none e nu), upd_ne (ne_of_none e nux)]; exact e
    refine ⟨u, p, l, ux, pan0, st0, rfl, upd_same, hp8.same su', hg0, su' _ _ el8, hst0, fun H9 b9 G9 => ⟨rfl, ?_⟩⟩
    refine ⟨_, _, rfl, ?_⟩
    have k9 := b9.kp (upd_same (a := u))
    have Y0 : Y57 K C pS H9 a c t u S0 4900 pan0 st0 [] := G8.at fun dx fs e8 _ => ⟨b9.deck upd_same (D8.same su'), (G8.same su').butO upd_same (ne_of_none e8 nu) b9, G9, Ne.symm (ne_of_none e8 nu), tabs_butO upd_same b9 (T8.ext fun b o e => su' b o e), fS, .ref p, l, b9 _ _ (ne_of_none eS8 nu) (su' _ _ eS8), ((hp8.same su').kp k9).dp, k9.1 _ _ (su' _ _ el8)⟩
    clear G8 G9 eS6 eS8 hp5 hp6 hp8 el el6 el8 T3 T5 T6 T8 D8 D6
    have ut := Y0.ne
    refine ⟨.ref a, rfl, a, c, 4800, 4, rfl, Y0.dk.less (by omega), by decide, by decide, fun HA r bA DA r0 r1 => ⟨1, r, rfl, rfl, 1 + r, rfl, by omega, by omega, ?_⟩⟩
    have YA := Y0.but bA DA
    obtain ⟨n, hn, hn2⟩ : ∃ n : Nat, (1 + r).toNat = n ∧ n ≤ 4 := ⟨_, rfl, by omega⟩
    rw [hn]
    refine for_range (n := n) (fun j σ H' => ∃ (S : Addr) (pan : List (List Int)) (st : List Int) (past : List (PyData × List (List Int) × List Int)) (x7 x8 x9 x10 x11 x12 x13 : Option V), Y57 K C pS H' a c t u S (4800 - 100 * j) pan st past ∧ past.length ≤ 6 * j ∧ pan.length = pan0.length ∧ (∀ x ∈ past, EdOk x.1) ∧ σ = [some (.ref sc), some (.ref a), some (.ref p), some (.int (pan0.length : Int)), some (.ref S), some (.ref t), some (.ref u), x7, x8, x9, x10, x11, x12, x13])
      ⟨S0, pan0, st0, [], _, _, _, _, _, _, _, YA, Nat.zero_le _, rfl, (fun x hx => by cases hx), rfl⟩ (fun j σ HB hj hP => ?_) (fun σ HB hP => ?_)
    · obtain ⟨S, pan, st, past, x7, x8, x9, x10, x11, x12, x13, YB, pl, hpl, hsh, rfl⟩ := hP
      have hg := YB.dt.good
      have hst := YB.dt.asc
      have pos := hg.pos
      obtain ⟨eSx, heS⟩ : ∃ o, HB S = some o := by obtain ⟨_, vp, l, e, _⟩ := YB.sl; exact ⟨_, e⟩
      refine ⟨.ref S, rfl, by show 1 ≤ sizeLine; decide, fun M nM => ?_⟩
      have sM := same_new (o := .lst [.ref S]) nM
      refine ⟨Nat.zero_le _, fun E nE => ⟨_, _, rfl, ?_⟩⟩
      have sE := same_new (o := .lst []) nE
      have YC := (YB.same sM).same sE
      have fM := YB.dk.fresh nM
      have fE := (YB.dk.same sM).fresh nE
      have eM := sE _ _ (upd_same (a := M) (H := HB) (o := .lst [.ref S]))
      have eE : (upd (upd HB M (.lst [.ref S])) E (.lst [])) E = some (.lst []) := upd_same
      have SM : S ≠ M := ne_of_none heS nM
      have SE : S ≠ E := ne_of_none (sM _ _ heS) nE
      have ME : M ≠ E := ne_of_none (upd_same (a := M) (H := HB) (o := .lst [.ref S])) nE
      generalize upd (upd HB M (.lst [.ref S])) E (.lst []) = HC at YC eM eE ⊢
      refine ⟨.ref a, rfl, .int (pan0.length : Int), rfl, _, _, rfl, rfl, a, c, 4800 - 100 * j - 1, _, rfl, YC.dk.less (by omega), by omega, by omega, fun X1 r1 b1 DX1 r10 r11 => ?_⟩
      refine ⟨by show 2 ≤ sizeLine; decide, fun L1 n1 => ?_⟩
      have t1 := same_new (o := .lst [.int r1, .non]) n1
      refine ⟨.ref a, rfl, .int (pan0.length : Int), rfl, a, c, 4800 - 100 * j - 2, _, rfl, (DX1.same t1).less (by omega), by omega, by omega, fun X2 r2 b2 DX2 r20 r21 => ?_⟩
      refine ⟨by show 2 ≤ sizeLine; decide, fun L2 n2 => ?_⟩
      have t2 := same_new (o := .lst [.non, .int r2]) n2
      refine ⟨by show 2 ≤ sizeLine; decide, fun L3 n3 => ?_⟩
      have t3 := same_new (o := .lst [.non, .non]) n3
      refine ⟨by show 3 ≤ sizeLine; decide, fun L4 n4 => ?_⟩
      have t4 := same_new (o := .lst [.ref L1, .ref L2, .ref L3]) n4
      have t23 := t2.trans t3
      have t24 := t23.trans t4
      refine ⟨.ref a, rfl, a, c, 4800 - 100 * j - 3, 3, rfl, (DX2.same t24).less (by omega), by decide, by decide, fun HD r3 b3w DD r30 r31 => ?_⟩
      have f1 := DX1.fresh n1
      have f2 := DX2.fresh n2
      have f3 := (DX2.same t2).fresh n3
      have f4 := (DX2.same t23).fresh n4
      have bb : But a c HC HD := ((b1.trans (But.of t1)).trans b2).trans ((But.of t24).trans b3w)
      have z1 := b3w _ _ f1.1 f1.2 (t24 _ _ (b2 _ _ f1.1 f1.2 (upd_same (a := L1) (H := X1) (o := .lst [.int r1, .non]))))
      have z2 := b3w _ _ f2.1 f2.2 (t4 _ _ (t3 _ _ (upd_same (a := L2) (H := X2) (o := .lst [.non, .int r2]))))
      have z3 := b3w _ _ f3.1 f3.2 (t4 _ _ (upd_same (a := L3) (o := .lst [.non, .non])))
      have z4 := b3w _ _ f4.1 f4.2 (upd_same (a := L4) (o := .lst [.ref L1, .ref L2, .ref L3]))
      have m1 := b1 _ _ fM.1 fM.2 eM
      have m2 := b2 _ _ fM.1 fM.2 (t1 _ _ m1)
      have q1 := b1 _ _ fE.1 fE.2 eE
      have q2 := b2 _ _ fE.1 fE.2 (t1 _ _ q1)
      have eMD := bb _ _ fM.1 fM.2 eM
      have eED := bb _ _ fE.1 fE.2 eE
      have YD := YC.but bb DD
      have hw : ∃ (W : Addr) (wi : Wish), atI [V.ref L1, .ref L2, .ref L3] r3 = some (.ref W) ∧ HD W = some (.lst [oV wi.x, oV wi.y]) ∧ W ≠ a ∧ W ≠ c ∧ W ≠ M ∧ W ≠ E := by
        rcases (show r3 = 0 ∨ r3 = 1 ∨ r3 = 2 by omega) with rfl | rfl | rfl
        · exact ⟨L1, .most r1, rfl, z1, f1.1, f1.2, Ne.symm (ne_of_none m1 n1), Ne.symm (ne_of_none q1 n1)⟩
        · exact ⟨L2, .but r2, rfl, z2, f2.1, f2.2, Ne.symm (ne_of_none m2 n2), Ne.symm (ne_of_none q2 n2)⟩
        · exact ⟨L3, .held, rfl, z3, f3.1, f3.2, Ne.symm (ne_of_none (t2 _ _ m2) n3), Ne.symm (ne_of_none (t2 _ _ q2) n3)⟩
      obtain ⟨W, wi, hw, eW, Wa, Wc, WM, WE⟩ := hw
      refine ⟨L4, _, r3, .ref W, rfl, rfl, .inl (.inl z4), hw, ?_⟩
      have ID := YD.iv eMD eED fM fE SM SE ME
      have ZD : Z57 K C pS u W wi HD pan st past := ⟨YD.du, YD.tb, eW⟩
      clear z1 z2 z3 z4 m1 m2 q1 q2 t1 t2 t3 t4 t23 t24 f1 f2 f3 f4 n1 n2 n3 n4 b1 b2 b3w bb hw YC YD
      refine ⟨.ref a, rfl, a, c, 4800 - 100 * j - 4, 7, rfl, ID.dk.less (by omega), by decide, by decide, fun HE r7 b7 D7 r70 r71 => ?_⟩
      obtain ⟨k7, rfl⟩ : ∃ k : Nat, r7 = (k : Int) := ⟨r7.toNat, by omega⟩
      refine ⟨(k7 : Int), rfl, by omega, by omega, ?_⟩
      rw [Int.toNat_natCast]
      have IE := ID.but b7 D7
      have ZE := ZD.but ID.dk b7 ⟨Wa, Wc⟩
      refine for_range (n := k7) (fun i σ H' => ∃ (pc : List (List Int)) (sc' : List Int) (xs : List (PyData × List (List Int) × List Int)) (x11 : Option V), IV K C H' a c t M E (4800 - 100 * j - 4 - 12 * i) pan st past (xs.map (·.2) ++ [(pc, sc')]) (xs.map (·.1)) ∧ Z57 K C pS u W wi H' pan st past ∧ Eds pan st (xs.map (·.1)) pc sc' xs ∧ xs.length = i ∧ σ = [some (.ref sc), some (.ref a), some (.ref p), some (.int (pan0.length : Int)), some (.ref S), some (.ref t), some (.ref u), some (.int (0 + (j : Int))), some (.ref M), some (.ref E), some (.ref W), x11, x12, x13])
        ⟨pan, st, [], _, IE, ZE, .nil, rfl, rfl⟩ (fun i σ HF hi hP => ?_) (fun σ HF hP => ?_)
      · obtain ⟨pc, sc', xs, x11, IF, ZF, hEd, xl, rfl⟩ := hP
        have gd := eds_good hEd hg hst
        obtain ⟨evs, eEF, dE⟩ := IF.ed
        obtain ⟨bs, eMF, hbs⟩ := IF.sl
        obtain ⟨us, v0, ebs, hus, ⟨un, vp, lq, eu, dvp, elq⟩⟩ := prSplit (show Paired (InAt K HF a c M E) bs (xs.map (·.2) ++ [(pc, sc')]) from hbs)
        have eM' : HF M = some (.lst (us.map V.ref ++ [.ref v0])) := by rw [eMF, ebs, List.map_append]; rfl
        refine ⟨.ref E, rfl, .inl ⟨rfl, _, .inl (.inl eEF)⟩, .ref a, rfl, .ref M, rfl, 1, rfl, M, _, _, .ref v0, rfl, rfl, .inl (.inl eM'), at_last, a, c, v0, 4800 - 100 * j - 4 - 12 * (i + 1), pc, sc', _, rfl, IF.dk.less (by omega), un.1, un.2.1, eu, .cons dvp (.cons (dp_ints (.inl (.inl elq))) .nil), gd.1, fun HG v d p1 f bG DG dv hE => ?_⟩
        have IG := IF.but bG DG
        have ZG := ZF.but IF.dk bG ⟨Wa, Wc⟩
        have eEG := bG _ _ IF.ne.2.2.1 IF.ne.2.2.2.1 eEF
        have dEG := dpAll_kp (Kp.but IF.dk bG) _ _ IF.lf dE
        have evl : evs.length ≤ 80 := by rw [dE.length, List.length_map]; omega
        refine ⟨E, _, v, rfl, rfl, eEG, Nat.lt_of_le_of_lt evl (by decide), ?_⟩
        have IH := IG.setE (evs' := evs ++ [v]) (es' := xs.map (·.1) ++ [d]) eEG (fun H' k => DpAll.append (dpAll_kp k _ _ IG.lf dEG) (.cons (dv.kp k hE.lf) .nil)) (fun x hx => by
          rcases List.mem_append.mp hx with h | h
          · exact IG.lfe x h
          · rw [List.mem_singleton.mp h]; exact ⟨hE.lf, hE.shw gd.1⟩)
        have ZH := ZG.updL (o := .lst (evs ++ [v])) eEG WE
        have dvH := dv.kp (Kp.upd (o := .lst (evs ++ [v])) eEG) hE.lf
        have eEH : upd HG E (.lst (evs ++ [v])) E = some (.lst (evs ++ [v])) := upd_same
        generalize upd HG E (.lst (evs ++ [v])) = HH at IH ZH dvH eEH ⊢
        obtain ⟨bs2, eM2, hbs2⟩ := IH.sl
        obtain ⟨us2, u2, ebs2, hus2, ⟨un2, vp2, lq2, eu2, dvp2, elq2⟩⟩ := prSplit (show Paired (InAt K HH a c M E) bs2 (xs.map (·.2) ++ [(pc, sc')]) from hbs2)
        have eM2' : HH M = some (.lst (us2.map V.ref ++ [.ref u2])) := by rw [eM2, ebs2, List.map_append]; rfl
        refine ⟨.ref M, rfl, .inl ⟨rfl, _, .inl (.inl eM2)⟩, .ref M, rfl, 1, rfl, M, _, _, .ref u2, rfl, rfl, .inl (.inl eM2'), at_last, .ref E, rfl, 1, rfl, E, _, _, v, rfl, rfl, .inl (.inl eEH), at_last, u2, lq2, vp2, v, pc, p1, sc', d, f, rfl, eu2, dvp2, elq2, dvH, gd.1, gd.2.1, hE, fun HI B' vq lq' sI nB' eB' dq elq' => ?_⟩
        have II := IH.same sI
        have eMI := sI _ _ eM2
        have bl2 : bs2.length ≤ 80 := by rw [hbs2.length, List.length_append, List.length_map]; show xs.length + 1 ≤ 80; omega
        refine ⟨M, _, .ref B', rfl, rfl, eMI, Nat.lt_of_le_of_lt (show (bs2.map V.ref).length ≤ 80 by rw [List.length_map]; exact bl2) (by decide), ?_⟩
        have fB' := IH.dk.fresh nB'
        have B'M : B' ≠ M := Ne.symm (ne_of_none eM2 nB')
        have B'E : B' ≠ E := Ne.symm (ne_of_none eEH nB')
        have IJ := II.setS (bs' := bs2 ++ [B']) (ys' := (xs.map (·.2) ++ [(pc, sc')]) ++ [(p1, f sc')]) eMI (prApp (paired_imp (fun _ _ => InAt.same sI) hbs2) (.cons ⟨⟨fB'.1, fB'.2, B'M, B'E⟩, vq, lq', eB', dq, elq'⟩ .nil))
        rw [List.map_append] at IJ
        have ZJ := (ZH.same sI).updL (o := .lst (bs2.map V.ref ++ [V.ref B'])) eMI WM
        refine ⟨p1, f sc', xs ++ [(d, pc, sc')], _, ?_, ZJ, ?_, by rw [List.length_append, xl]; rfl, rfl⟩
        · rw [List.map_append, List.map_append]; exact IJ
        · rw [List.map_append]; exact hEd.snoc hE
      · obtain ⟨pc, sc', xs, x11, IF, ZF, hEd, xl, rfl⟩ := hP
        have gd := eds_good hEd hg hst
        have xlen : (xs.map (·.1)).length = k7 := by rw [List.length_map]; exact xl
        have lim := IF.dk
        refine IF.de.at fun dx fs e1 lk => ?_
        refine ⟨.ref t, rfl, t, dx, fs, rfl, e1, lk _ (by decide +kernel), .ref E, rfl, ZF.tb, rfl, fun fl c' HG eN TG hco => ?_⟩
        have IG := IF.extN eN
        have ZG := ZF.extN eN TG
        have eG := eN _ _ e1 (by intro ps z; cases z)
        refine ⟨t, pan, pc, st, sc', past, xs, .ref E, xs.map (·.1), _, _, rfl, IG.de, by omega, by omega, ?_, hEd, say_L (W := W) (wi := wi), ZG.w, hco, fun HH kk pk sk bH hdn GH => ?_⟩
        · obtain ⟨evs', e', d'⟩ := IG.ed
          exact .lst (.inl (.inl e')) d'
        have IH := IG.do bH GH
        have ZH : Z57 K C pS u W wi HH pan st past := ⟨ZG.du.butO eG ut bH, tabs_butO eG bH ZG.tb, bH _ _ (ne_of ZG.w eG (by intro z; cases z)) ZG.w⟩
        have few : ∀ i : Nat, (past ++ xs.take i).length ≤ 60 := fun i => by rw [List.length_append, List.length_take]; omega
        refine ⟨fun m σ H' => ∃ (i : Nat) (pi : List (List Int)) (si : List Int), i ≤ kk ∧ m = kk - i ∧ Eds pan st ((xs.map (·.1)).take i) pi si (xs.take i) ∧ IV K C H' a c t M E (4800 - 100 * j - 4 - 12 * k7) pk sk (past ++ xs.take kk) (xs.map (·.2) ++ [(pc, sc')]) (xs.map (·.1)) ∧ Z57 K C pS u W wi H' pi si (past ++ xs.take i) ∧ σ = [some (.ref sc), some (.ref a), some (.ref p), some (.int (pan0.length : Int)), some (.ref S), some (.ref t), some (.ref u), some (.int (0 + (j : Int))), some (.ref M), some (.ref E), some (.ref W), x11, some (.int (kk : Int)), some (.int (i : Int))],
          ⟨kk, 0, pan, st, Nat.zero_le _, rfl, .nil, IH, by rw [List.take_zero, List.append_nil]; exact ZH, rfl⟩, ?_⟩
        rintro m σ HI ⟨i, pi, si, hik, rfl, hEi, II, ZI, rfl⟩
        obtain ⟨evs, eE', dE'⟩ := II.ed
        refine (gvt_and (gvt_test (K := K) (gv_lt (gv_var (i := 13) rfl (.int (i : Int))) (gv_lenL (gv_var (i := 9) rfl (.lst (.inl (.inl eE')) dE'))))) (fun HJ sJ _ => gvt_or (gvt_test (K := K) (gv_eqI (gv_var (i := 13) rfl (.int (i : Int))) gv_int)) (fun HK sK _ => gvt_not (gvt_b (gv_Reach (t := u) (W := W) (i := 6) (j := 10) rfl rfl ((ZI.du.same sJ).same sK) (sK _ _ (sJ _ _ ZI.w))))))) HI (Same.refl _) _ fun HJ sJ => ?_
        have key : (decide ((i : Int) < (((xs.map (·.1)).length : Nat) : Int)) && (decide ((i : Int) = 0) || !wishB wi pi si)) = decide (i < kk) := by
          rw [Bool.eq_iff_iff]
          simp only [Bool.and_eq_true, Bool.or_eq_true, decide_eq_true_eq, Bool.not_eq_true']
          constructor
          · rintro ⟨h1, h2⟩
            rcases Nat.lt_or_ge i kk with h | h
            · exact h
            obtain rfl : i = kk := by omega
            rcases hdn.stop with z | ⟨z1, z2⟩
            · omega
            · rcases h2 with h2 | h2
              · omega
              · obtain ⟨e1, e2, _⟩ := hEi.det hdn.at_
                rw [e1, e2] at h2
                have z3 : wishB wi pk sk = true := z2
                rw [z3] at h2
                cases h2
          · intro h
            refine ⟨by have := hdn.le; omega, ?_⟩
            rcases Nat.eq_zero_or_pos i with z | z
            · left; omega
            · right; exact hdn.go i pi si z h hEi
        rw [key]
        have IJ := II.same sJ
        have ZJ := ZI.same sJ
        by_cases hlt : i < kk
        · rw [decide_eq_true hlt]
          refine iteT ?_
          obtain ⟨d, f, p1, hd, hE, htk, hE1⟩ := eds_step hEd i pi si (by have := hdn.le; omega) hEi
          obtain ⟨v, hv, dv⟩ := dpAll_get2 dE' hd
          refine ⟨fun σ' H' => ∃ (pi : List (List Int)) (si : List Int), Eds pan st ((xs.map (·.1)).take (i + 1)) pi si (xs.take (i + 1)) ∧ IV K C H' a c t M E (4800 - 100 * j - 4 - 12 * k7) pk sk (past ++ xs.take kk) (xs.map (·.2) ++ [(pc, sc')]) (xs.map (·.1)) ∧ Z57 K C pS u W wi H' pi si (past ++ xs.take (i + 1)) ∧ σ' = [some (.ref sc), some (.ref a), some (.ref p), some (.int (pan0.length : Int)), some (.ref S), some (.ref t), some (.ref u), some (.int (0 + (j : Int))), some (.ref M), some (.ref E), some (.ref W), x11, some (.int (kk : Int)), some (.int ((i + 1 : Nat) : Int))],
            fun σ' H' ⟨pi', si', g1, g2, g3, g4⟩ => ⟨kk - (i + 1), by omega, i + 1, pi', si', hlt, rfl, g1, g2, g3, g4⟩, ?_⟩
          refine ⟨.ref u, rfl, .ref E, rfl, .int (i : Int), rfl, E, _, _, v, rfl, rfl, .inl (.inl (sJ _ _ eE')), atI_nat hv, u, pi, p1, si, past ++ xs.take i, v, d, f, rfl, ZJ.du, by rw [List.length_append, List.length_take]; omega, dv.sm sJ, hE, fun HK bK GK => ?_⟩
          obtain ⟨du, fu, eu⟩ : ∃ du fu, HJ u = some (.ins C du fu) := ZJ.du.at fun du fu eu _ => ⟨du, fu, eu⟩
          have IK := IJ.butO eu (Ne.symm ut) bK
          have GK' : DeskAt K C HK u p1 (f si) (past ++ xs.take (i + 1)) := by rw [htk, ← List.append_assoc]; exact GK
          have ZK : Z57 K C pS u W wi HK p1 (f si) (past ++ xs.take (i + 1)) := ⟨GK', tabs_butO eu bK ZJ.tb, bK _ _ (ne_of ZJ.w eu (by intro z; cases z)) ZJ.w⟩
          refine (gv_lenD (K := K) (i := 6) rfl GK' (by have := few (i + 1); omega)).at fun vn HL sL dn => ?_
          cases dn
          rw [show (past ++ xs.take (i + 1)).length = (past ++ xs.take i).length + 1 by rw [htk, ← List.append_assoc, List.length_append (as := past ++ xs.take i)]; rfl]
          refine ⟨rfl, false, by rw [decide_eq_true rfl]; rfl, iteF ?_⟩
          refine ⟨.int (i : Int), rfl, _, 1, rfl, rfl, ?_⟩
          exact ⟨p1, f si, hE1, IK.same sL, ZK.same sL, rfl⟩
        · rw [decide_eq_false hlt]
          refine iteF ?_
          obtain rfl : i = kk := by omega
          obtain ⟨rfl, rfl, _⟩ := hEi.det hdn.at_
          obtain ⟨y, hy, hEy⟩ := eds_at hEd i hdn.le
          obtain ⟨e1, e2, _⟩ := hEi.det hEy
          obtain ⟨bs, eM', hbs⟩ := IJ.sl
          obtain ⟨b, hb, bn, vpb, lb, eb, dvpb, elb⟩ := prGet hbs hy
          rw [← e1] at dvpb
          rw [← e2] at elb
          refine ⟨.ref M, rfl, .int (i : Int), rfl, M, _, _, .ref b, rfl, rfl, .inl (.inl eM'), atI_nat (by rw [List.getElem?_map, hb]; rfl), ?_⟩
          have YJ : Y57 K C pS HJ a c t u b (4800 - 100 * j - 4 - 12 * k7) pi si (past ++ xs.take i) := ⟨IJ.dk, IJ.de, ZJ.du, ut, ZJ.tb, ⟨bn.1, bn.2.1⟩, vpb, lb, eb, dvpb, elb⟩
          have gi := eds_good hEi hg hst
          have few' := few i
          have hok : ∀ x ∈ past ++ xs.take i, EdOk x.1 := fun x hx => by
            rcases List.mem_append.mp hx with h | h
            · exact hsh x h
            · exact gi.2.2.2 x h
          have lay := lay_edits (ds := (past ++ xs.take i).map (·.1)) fun d hd => by
            obtain ⟨x, hx, rfl⟩ := List.mem_map.mp hd
            exact hok x hx
          refine gs_no (gvt_or (gvt_test (K := K) (gv_neS (gv_reprAq (i := 12) (N := fun _ => False) rfl (.int (i : Int)) (sq_num (by have := hdn.le; omega))) (gv_reprAq (i := 13) (N := fun _ => False) rfl (.int (i : Int)) (sq_num (by have := hdn.le; omega))))) (fun HK sK _ => gvt_or (gvt_not (gvt_test (gv_Eq (t := t) (u := u) (i := 5) (j := 6) rfl rfl (YJ.dt.same sK) (YJ.du.same sK)))) (fun HL sL _ => gvt_test (gv_neD (gv_EditsD (i := 5) rfl ((YJ.dt.same sK).same sL) (by omega)) (gv_EditsD (i := 6) rfl ((YJ.du.same sK).same sL) (by omega)) (shp_of lay.1 lay.2) (shp_of lay.1 lay.2))))) (by rw [decide_eq_true rfl, decide_eq_true rfl, decide_eq_true rfl, SeqAt.eqv_refl _ lay.1]; rfl) fun HK sK => ?_
          have YK := YJ.same sK
          refine gs_noN (gvt_not (gvt_b (gv_RightU (t := t) (S := b) (u := u) (i := 5) (j := 4) (l := 6) rfl rfl rfl YK few' (fun x hx => (hok x hx).1)))) rfl fun HL sL => ?_
          exact ⟨b, pi, si, past ++ xs.take i, _, _, _, _, _, _, _, (YK.same sL).less (by omega), by rw [List.length_append, List.length_take]; omega, gi.2.2.1.trans hpl, hok, rfl⟩
    · obtain ⟨S, pan, st, past, x7, x8, x9, x10, x11, x12, x13, YB, pl, hpl, hsh, rfl⟩ := hP
      refine (gv_lenD (K := K) (i := 5) rfl YB.dt (by omega)).at fun vn HC sC dn => ?_
      cases dn
      refine ⟨(past.length : Int), rfl, by omega, by omega, ?_⟩
      rw [Int.toNat_natCast]
      have YC := YB.same sC
      refine for_range (n := past.length) (fun j σ H' => ∃ (pan : List (List Int)) (st : List Int) (past' : List (PyData × List (List Int) × List Int)) (x7 : Option V), DeskAt K C H' t pan st past' ∧ DeskAt K C H' u pan st past' ∧ past'.length = past.length - j ∧ σ = [some (.ref sc), some (.ref a), some (.ref p), some (.int (pan0.length : Int)), some (.ref S), some (.ref t), some (.ref u), x7, x8, x9, x10, x11, x12, x13])
        ⟨pan, st, past, _, YC.dt, YC.du, rfl, rfl⟩ (fun j σ HD hj hP => ?_) (fun σ HD hP => q HD)
      obtain ⟨pan2, st2, past2, y7, hT2, hU2, pl2, rfl⟩ := hP
      have hne : past2 ≠ [] := fun z => by rw [z] at pl2; simp at pl2; omega
      refine hT2.at fun dx fs e1 l1 => ?_
      refine ⟨.ref t, rfl, t, dx, fs, rfl, e1, l1 _ (by decide +kernel), t, pan2, st2, past2, rfl, hT2, fun past' y' ep' HE bE GE => ?_, fun z => absurd z hne⟩
      have hU3 := hU2.butO e1 ut bE
      refine hU3.at fun dy gs e2 l2 => ?_
      refine ⟨.ref u, rfl, u, dy, gs, rfl, e2, l2 _ (by decide +kernel), u, pan2, st2, past2, rfl, hU3, fun past'' y'' ep'' HF bF GF => ?_, fun z => absurd z hne⟩
      obtain ⟨rfl, rfl⟩ : past'' = past' ∧ y'' = y' := by
        have := List.append_inj' (ep''.symm.trans ep') rfl
        exact ⟨this.1, by injection this.2⟩
      have hT3 := GE.butO e2 (Ne.symm ut) bF
      refine ⟨rfl, false, by rw [decide_eq_true rfl]; rfl, iteF ?_⟩
      obtain ⟨hs, ih⟩ : ∃ hs, IsHeld y''.2.1 y''.2.2 hs := by
        obtain ⟨⟨dx, pa, p, l, hh, hs, z1, z2, z3, z4, z5, z6⟩, _⟩ := GF
        exact ⟨hs, z6⟩
      refine (gvt_or (gvt_not (gvt_test (K := K) (gv_Eq (t := t) (u := u) (i := 5) (j := 6) rfl rfl hT3 GF))) (fun HG sG _ => gvt_test (gv_neI1 (gv_held T (i := 5) rfl (hT3.same sG) ih) (gv_held T (i := 6) rfl (GF.same sG) ih)))) HF (Same.refl _) _ fun HG sG => ?_
      rw [decide_eq_true rfl, decide_eq_true rfl, decide_eq_true rfl]
      refine iteF ?_
      exact ⟨y''.2.1, y''.2.2, past'', _, hT3.same sG, GF.same sG, by rw [ep', List.length_append] at pl2; simp at pl2; omega, rfl⟩
end
end K57
namespace Pr
open PySem PySem.Spec PyProof.Rows L2
end Pr
namespace Pr
open PySem PySem.Spec PyProof.Rows L2 LamX
/-- nothing is tracked but the script and empty tables -/
def OnlyT (ts : List Addr) (H : Hp) : Prop := ∀ b, H b = none ∨ (b ∈ ts ∧ H b = some (.tbl #[])) ∨ ∃ o xs, H b = some (.frz o (.lst xs))
abbrev tab0 : Obj := { cls := .none, data := .fields #[] }
theorem lawGT {P : Program} {w : World} {K : PySem.W.Frag} {mg mb : Str → Option Value} {k : Nat} {fa a : Addr} {fd : FuncData} {x : Str} {sp : Sp} {s1 : Shared} {vs : List Value} {ns : List Int} {cs : List (Addr × Addr)}
    (kin : K.In s1.heap) (nsg : s1.heap.Ns mainGlobals mg) (nsb : s1.heap.Ns builtinsNs mb) (bb : ∀ y : Str, y ≠ "__name__" → mb y = bootBuiltins y) (lim : s1.heap.NoLimit) (g0 : s1.gens = #[])
    (hT : ∀ p ∈ cs, s1.heap.get? p.2 = some tab0) (nT : ∀ p ∈ cs, K.lookup p.2 = none) (C : ∀ p ∈ cs, PySem.W.CodeHd s1.heap p.1 p.2)
    (hbm : ∃ (bm : Addr) (ob : Obj), mg "__builtins__" = some (.ref bm) ∧ bm ≠ builtinsNs ∧ s1.heap.get? bm = some ob ∧ ob.cls = .type "module" ∧ ob.dict = some builtinsNs ∧ ob.data = .plain)
    (la : s1.heap.get? a = some { cls := .type "list", data := .seq vs.toArray }) (hints : IntsAre vs ns) (few : ns.length ≤ sizeLine) (rm : Room k callerA)
    (F : ∀ base : Heap, K.In base → base.Ns mainGlobals mg → (∀ p ∈ cs, TabB base mg p.1 p.2) → FnG P w K mg base k fa fd [x] sp) (bd : ∀ (s : Shared) (u : Value), BindsTo s fd ⟨[u], []⟩ [(x, u)])
    (wish : ∀ H : Hp, (∀ p ∈ cs, H p.2 = some (.tbl #[])) → SqL K H a (ns.map V.int) → sp [.ref a] H (fun v _ => v = .bl true) E0) :
    codeAny (model P w) callerA (.call (.ref fa) ⟨[.ref a], []⟩) (fun r s' => r = .ok (.ret (.bool true)) ∧ OldK s1.heap s'.heap ∧ s'.os = s1.os ∧ AllBare s'.gens) s1 := by
  have rv := vals_ints hints
  have lv := hints.length
  have tabOf : ∀ b, b ∈ cs.map (·.2) → s1.heap.get? b = some tab0 := fun b hb => by
    obtain ⟨p, hp, rfl⟩ := List.mem_map.mp hb
    exact hT p hp
  have inTs : ∀ p ∈ cs, p.2 ∈ cs.map (·.2) := fun p hp => List.mem_map.mpr ⟨p, hp, rfl⟩
  have aNot : a ∉ cs.map (·.2) := fun z => by
    have e := tabOf a z
    rw [la] at e
    exact nomatch (show Data.seq vs.toArray 0 = Data.fields #[] from congrArg Obj.data (Option.some.inj e))
  have main : ∀ H : Hp, (∀ p ∈ cs, H p.2 = some (.tbl #[])) → OnlyT (cs.map (·.2)) H → SqL K H a (ns.map V.int) → HOk P w H s1.heap → (∀ b, H b ≠ none → b = a ∨ b ∈ cs.map (·.2)) → (H a ≠ none → K.lookup a = none) →
      codeAny (model P w) callerA (.call (.ref fa) ⟨[.ref a], []⟩) (fun r s' => r = .ok (.ret (.bool true)) ∧ OldK s1.heap s'.heap ∧ s'.os = s1.os ∧ AllBare s'.gens) s1 := by
    intro H hTab hO hS hok hA hK
    -- what is neither a list nor an empty table is not tracked
    have free : ∀ {b : Addr} {o : Obj}, s1.heap.get? b = some o → (∀ us n, o.data ≠ .seq us n) → o.data ≠ .fields #[] → H b = none := fun {b o} e n1 n2 => by
      cases q : H b with
      | none => rfl
      | some u =>
        rcases hA b (by rw [q]; simp) with rfl | z
        · rw [la] at e; cases e
          exact absurd rfl (n1 _ _)
        · rw [tabOf b z] at e; cases e
          exact absurd rfl n2
    have dictFree : ∀ {b : Addr} {o : Obj} {es : Array DictEntry} {ep : Nat}, s1.heap.get? b = some o → o.data = .dict es ep → H b = none := fun {b o es ep} e d =>
      free e (fun us n z => nomatch d.symm.trans z) fun z => nomatch d.symm.trans z
    have nsH : ∀ {b : Addr} {m : Str → Option Value}, s1.heap.Ns b m → (hidT s1.heap H).Ns b m := fun {b m} ⟨o, es, ep, e, d, r⟩ => ⟨o, es, ep, hidT_get e (dictFree e d), d, r⟩
    have kinH : K.In (hidT s1.heap H) := fun b o e => hidT_get (kin b o e) (by
      cases q : H b with
      | none => rfl
      | some u =>
        rcases hA b (by rw [q]; simp) with rfl | z
        · rw [hK (by rw [q]; simp)] at e; cases e
        · obtain ⟨p, hp, rfl⟩ := List.mem_map.mp z
          rw [nT p hp] at e; cases e)
    have md : Mod K mg (hidT s1.heap H) := ⟨kinH, nsH nsg, ⟨mb, nsH nsb, bb⟩, let ⟨mc, h1, h2⟩ := lim; ⟨mc, nsH h1, h2⟩⟩
    have tb : ∀ p ∈ cs, TabB (hidT s1.heap H) mg p.1 p.2 := fun p hp => by
      have e2 := hT p hp
      constructor
      · obtain ⟨o, us, fl, t1, fg, t2, b1, tx, t3, g1, r1, r2, r3, r⟩ := C p hp
        have go : H p.1 = none := free g1 (fun us n z => nomatch r2.symm.trans z) fun z => by
          have := Data.fields.inj (r2.symm.trans z)
          rw [this] at r3
          simp at r3
        exact ⟨o, us, fl, t1, fg, t2, b1, tx, t3, hidT_get g1 go, r1, r2, r3, r⟩
      · obtain ⟨bm, ob, b1, b2, b3, b4, b5, b6⟩ := hbm
        refine ⟨bm, ob, b1, b2, fun z => ?_, fun z => ?_, hidT_get b3 (free b3 (fun us n y => nomatch b6.symm.trans y) fun y => nomatch b6.symm.trans y), b4, b5, b6⟩
        · obtain ⟨o, es, ep, e, d, _⟩ := nsg
          rw [← z, b3] at e; cases e
          exact nomatch b6.symm.trans d
        · rw [← z, b3] at e2; cases e2
          exact nomatch b6
      · intro z
        obtain ⟨o, es, ep, e, d, _⟩ := nsg
        rw [z, e2] at e; cases e
        exact nomatch d
    have e0 : Env0 P w K mg (hidT s1.heap H) callerA [] s1 H :=
      ⟨rfl, md, fun b o e => of_hidT e, Nat.le_of_eq (hidT_size _ _), trivial, fun b hb => absurd (show b ∈ ([] : List Addr) from hb) (by simp), hok, .of_eq g0⟩
    refine codeAny_mono ((F _ kinH (nsH nsg) tb).go callerA [] s1 H ⟨[.ref a], []⟩ [.ref a] [.ref a] _ _ rfl rm e0 (bd s1 (.ref a)) (.cons rfl .nil) (wish H hTab hS)) fun r s' h => ?_
    cases r with
    | error e => exact h.elim
    | ok fl =>
      cases fl with
      | next => exact h.elim
      | brk => exact h.elim
      | cont => exact h.elim
      | ret u =>
        obtain ⟨v, H', os, bare, un, hok', r', q⟩ := h
        obtain rfl : v = .bl true := q
        obtain rfl : u = Value.bool true := r'
        have stay : ∀ b o, b ∉ cs.map (·.2) → s1.heap.get? b = some o → s'.heap.get? b = some o := fun b o nb e => by
          rcases hO b with z | ⟨z, _⟩ | ⟨ob, xs, z⟩
          · exact un.keep b o e z (fun y => absurd (show b ∈ ([] : List Addr) from y) (by simp)) (by simp)
          · exact absurd z nb
          · have e1 := (hok b _ z).1
            rw [e] at e1; cases e1
            exact (hok' b _ (un.frzs b o _ z)).1
        have grow : ∀ p ∈ cs, ∃ more : Array Value, s'.heap.get? p.2 = some { cls := .none, data := .fields more } := fun p hp => by
          obtain ⟨more, z⟩ := un.tbls p.2 #[] (hTab p hp)
          exact ⟨_, hok' p.2 _ z⟩
        refine ⟨rfl, ⟨fun b o e => ?_, fun b o e => ?_⟩, os, bare⟩
        · by_cases hb : b ∈ cs.map (·.2)
          · obtain ⟨p, hp, rfl⟩ := List.mem_map.mp hb
            obtain ⟨more, hm⟩ := grow p hp
            have e2 := hT p hp
            rw [e2] at e; cases e
            exact .inr (.inl ⟨((C p hp).tab e2).isCodeTable, rfl, #[], more, rfl, by rw [Array.empty_append]; exact hm⟩)
          · exact .inl (stay b o hb e)
        · by_cases hb : b ∈ cs.map (·.2)
          · obtain ⟨p, hp, rfl⟩ := List.mem_map.mp hb
            obtain ⟨more, hm⟩ := grow p hp
            exact ⟨_, hm⟩
          · exact ⟨o, stay b o hb e⟩
  cases hk : K.lookup a with
  | some o =>
    have e := kin a o hk
    rw [la] at e
    cases e
    refine main (fun b => if b ∈ cs.map (·.2) then some (.tbl #[]) else none) (fun p hp => if_pos (inTs p hp)) (fun b => ?_) (.inr ⟨_, vs.toArray, _, hk, rfl, rfl, rfl, by rw [List.size_toArray, lv]; exact few, by simpa using rv⟩) (fun b u z => ?_) (fun b z => ?_) fun z => absurd (if_neg aNot) z
    · by_cases hb : b ∈ cs.map (·.2)
      · exact .inr (.inl ⟨hb, if_pos hb⟩)
      · exact .inl (if_neg hb)
    · by_cases hb : b ∈ cs.map (·.2)
      · cases (if_pos hb).symm.trans z
        exact tabOf b hb
      · cases (if_neg hb).symm.trans z
    · by_cases hb : b ∈ cs.map (·.2)
      · exact .inr hb
      · exact absurd (if_neg hb) z
  | none =>
    refine main (upd (fun b => if b ∈ cs.map (·.2) then some (.tbl #[]) else none) a (.frz { cls := .type "list", data := .seq vs.toArray } (.lst (ns.map V.int)))) (fun p hp => ?_) (fun b => ?_) (.inl (.inr ⟨_, upd_same⟩)) (fun b u z => ?_) (fun b z => ?_) fun _ => hk
    · rw [upd_ne (fun z : p.2 = a => aNot (by rw [← z]; exact inTs p hp))]; exact if_pos (inTs p hp)
    · by_cases hb : b = a
      · subst hb; exact .inr (.inr ⟨_, _, upd_same⟩)
      · rw [upd_ne hb]
        by_cases hb2 : b ∈ cs.map (·.2)
        · exact .inr (.inl ⟨hb2, if_pos hb2⟩)
        · exact .inl (if_neg hb2)
    · by_cases hb : b = a
      · subst hb
        rw [upd_same] at z
        cases z
        exact ⟨la, by rw [List.length_map]; exact few, vs, _, rv, la⟩
      · rw [upd_ne hb] at z
        by_cases hb2 : b ∈ cs.map (·.2)
        · cases (if_pos hb2).symm.trans z
          exact tabOf b hb2
        · cases (if_neg hb2).symm.trans z
    · by_cases hb : b = a
      · exact .inl hb
      · rw [upd_ne hb] at z
        by_cases hb2 : b ∈ cs.map (·.2)
        · exact .inr hb2
        · exact absurd (if_neg hb2) z
theorem walkGT {l : PySem.W.OpenLaw} {n k : Nat} {q : Program} {loose : List Str} {XP : (Str → Option Value) → Heap → Prop} {YP : World → Heap → Prop} {d : DefRec} {sp : PySem.W.Frag → Sp} {x : Str}
    (hn : l.most = some n) (hn2 : n ≤ sizeLine) (hdf : d.params.defaults = []) (hr : Room k callerA)
    (F : ∀ (w : World) (mg : Str → Option Value) (fa : Addr) (h : Heap), YP w h → h.Ns mainGlobals mg → mg d.name = some (.ref fa) →
      ∃ (K : PySem.W.Frag) (cs : List (Addr × Addr)), K.In h ∧ (∀ p ∈ cs, h.get? p.2 = some tab0) ∧ (∀ p ∈ cs, K.lookup p.2 = none) ∧ (∀ p ∈ cs, PySem.W.CodeHd h p.1 p.2) ∧
        (∀ (H : Hp) (a : Addr) (ns : List Int), ns.length ≤ n → (∀ p ∈ cs, H p.2 = some (.tbl #[])) → SqL K H a (ns.map V.int) → sp K [.ref a] H (fun v _ => v = .bl true) E0) ∧
        ∃ fd : FuncData, (∀ (s : Shared) (u : Value), BindsTo s fd ⟨[u], []⟩ [(x, u)]) ∧ ∀ base : Heap, K.In base → base.Ns mainGlobals mg → (∀ p ∈ cs, TabB base mg p.1 p.2) → FnG l.prog w K mg base k fa fd [x] (sp K)) :
    PySem.W.WalkO q loose XP YP l.row.toRowW d [] (fun f vs => PySem.call f vs) := by
  refine Att.attach_callB hn hdf fun w s0 s1 mg mb fa o pm cd doc a vs ns G Y ho hd hcd hmg hobj hints hlen hbits hg => ?_
  obtain ⟨K, cs, KX, hT, nT, C, hsp, fd, hb, hF⟩ := F w mg fa _ Y G.T.g hmg
  exact lawGT KX G.T.g G.T.b G.T.builtins G.T.nolimit hg hT nT C G.T.bmain hobj hints (Nat.le_trans hlen hn2) hr hF hb fun H hH hS => hsp H a ns hlen hH hS
end Pr
namespace K57
open PySem PySem.Spec PyProof.Rows L2 Pr LamX
theorem all_mk {l : PySem.W.OpenLaw} {w : World} {K : PySem.W.Frag} {h : Heap} {mg : Str → Option Value} {fa f1 f2 f3 f4 f5 f6 f7 f8 f9 f10 f11 f12 f13 f14 f15 f16 f17 f18 f19 f20 f21 f22 f23 f24 f25 f26 f27 : Addr} (X : K.In h) (G : h.Ns mainGlobals mg) (hfa : mg "law" = some (.ref fa))
    {C CV CU : Addr} {tkD : Tok} {fShow : Addr} {ocShow kVShow dcShow pmShow cdShow ctShow : Value} {odShow anShow : Option Addr} {slShow : Array (Option Value)} {fInitD : Addr} {ocInitD kVInitD dcInitD pmInitD cdInitD ctInitD : Value} {odInitD anInitD : Option Addr} {slInitD : Array (Option Value)} {fFree : Addr} {ocFree kVFree dcFree pmFree cdFree ctFree : Value} {odFree anFree : Option Addr} {slFree : Array (Option Value)} {fRoom : Addr} {ocRoom kVRoom dcRoom pmRoom cdRoom ctRoom : Value} {odRoom anRoom : Option Addr} {slRoom : Array (Option Value)} {fAdd : Addr} {ocAdd kVAdd dcAdd pmAdd cdAdd ctAdd : Value} {odAdd anAdd : Option Addr} {slAdd : Array (Option Value)} {fPressD : Addr} {ocPressD kVPressD dcPressD pmPressD cdPressD ctPressD : Value} {odPressD anPressD : Option Addr} {slPressD : Array (Option Value)} {fLink0 : Addr} {ocLink0 kVLink0 dcLink0 pmLink0 cdLink0 ctLink0 : Value} {odLink0 anLink0 : Option Addr} {slLink0 : Array (Option Value)} {fChg : Addr} {ocChg kVChg dcChg pmChg cdChg ctChg : Value} {odChg anChg : Option Addr} {slChg : Array (Option Value)} {fLink : Addr} {ocLink kVLink dcLink pmLink cdLink ctLink : Value} {odLink anLink : Option Addr} {slLink : Array (Option Value)} {fUnlink : Addr} {ocUnlink kVUnlink dcUnlink pmUnlink cdUnlink ctUnlink : Value} {odUnlink anUnlink : Option Addr} {slUnlink : Array (Option Value)} {fState : Addr} {ocState dcState pmState cdState ctState : Value} {odState anState : Option Addr} {slState : Array (Option Value)} {aKState : Addr} {fUndo : Addr} {ocUndo kVUndo dcUndo pmUndo cdUndo ctUndo : Value} {odUndo anUndo : Option Addr} {slUndo : Array (Option Value)} {fEdits : Addr} {ocEdits kVEdits dcEdits pmEdits cdEdits ctEdits : Value} {odEdits anEdits : Option Addr} {slEdits : Array (Option Value)} {fLenD : Addr} {ocLenD kVLenD dcLenD pmLenD cdLenD ctLenD : Value} {odLenD anLenD : Option Addr} {slLenD : Array (Option Value)} {fStrD : Addr} {ocStrD kVStrD dcStrD pmStrD cdStrD ctStrD : Value} {odStrD anStrD : Option Addr} {slStrD : Array (Option Value)} {fEqD : Addr} {ocEqD kVEqD dcEqD pmEqD cdEqD ctEqD : Value} {odEqD anEqD : Option Addr} {slEqD : Array (Option Value)} {fDoEdit : Addr} {ocDoEdit kVDoEdit dcDoEdit pmDoEdit cdDoEdit ctDoEdit : Value} {odDoEdit anDoEdit : Option Addr} {slDoEdit : Array (Option Value)} {fAccBy : Addr} {ocAccBy kVAccBy dcAccBy pmAccBy cdAccBy ctAccBy : Value} {odAccBy anAccBy : Option Addr} {slAccBy : Array (Option Value)} {fDoBatch : Addr} {ocDoBatch kVDoBatch dcDoBatch pmDoBatch cdDoBatch ctDoBatch : Value} {odDoBatch anDoBatch : Option Addr} {slDoBatch : Array (Option Value)} {fAttempt : Addr} {ocAttempt dcAttempt pmAttempt cdAttempt ctAttempt : Value} {odAttempt anAttempt : Option Addr} {slAttempt : Array (Option Value)} {aKAttempt : Addr} {nmV qqV : Str} {NnV : Addr} {bsV : List Value} {snV : List Str} {subV : List Value} {abV : Bool} {colV : Option Bool} {ddV : Option Addr} {q0V q1V q2V q3V q5V : Option Value} {fIV : Addr} {ocIV kVIV dcIV pmIV cdIV ctIV : Value} {odIV anIV : Option Addr} {slIV : Array (Option Value)} {dV : Addr} {tv1 tv2 tv3 : Tok}  {cS pS : Addr} {odcS : Option Addr} {vsS : Array Value} {slcS : Array (Option Value)} {flS : Str} {tfS tgS ttS : Tok} {fgS txS : Int} {inS : Bool}
    {od1 an1 od2 an2 od3 an3 od4 an4 od5 an5 od6 an6 od7 an7 od8 an8 od9 an9 od10 an10 od11 an11 od12 an12 od13 an13 od14 an14 od15 an15 od16 an16 od17 an17 od18 an18 od19 an19 od20 an20 od21 an21 od22 an22 od23 an23 od24 an24 od25 an25 od26 an26 od27 an27 : Option Addr} {sl1 sl2 sl3 sl4 sl5 sl6 sl7 sl8 sl9 sl10 sl11 sl12 sl13 sl14 sl15 sl16 sl17 sl18 sl19 sl20 sl21 sl22 sl23 sl24 sl25 sl26 sl27 : Array (Option Value)} {oc1 kV1 dc1 pm1 cd1 ct1 oc2 kV2 dc2 pm2 cd2 ct2 oc3 kV3 dc3 pm3 cd3 ct3 oc4 kV4 dc4 pm4 cd4 ct4 oc5 kV5 dc5 pm5 cd5 ct5 oc6 kV6 dc6 pm6 cd6 ct6 oc7 kV7 dc7 pm7 cd7 ct7 oc8 kV8 dc8 pm8 cd8 ct8 oc9 kV9 dc9 pm9 cd9 ct9 oc10 kV10 dc10 pm10 cd10 ct10 oc11 kV11 dc11 pm11 cd11 ct11 oc12 kV12 dc12 pm12 cd12 ct12 oc13 kV13 dc13 pm13 cd13 ct13 oc14 kV14 dc14 pm14 cd14 ct14 oc15 kV15 dc15 pm15 cd15 ct15 oc16 kV16 dc16 pm16 cd16 ct16 oc17 kV17 dc17 pm17 cd17 ct17 oc18 kV18 dc18 pm18 cd18 ct18 oc19 kV19 dc19 pm19 cd19 ct19 oc20 kV20 dc20 pm20 cd20 ct20 oc21 kV21 dc21 pm21 cd21 ct21 oc22 kV22 dc22 pm22 cd22 ct22 oc23 kV23 dc23 pm23 cd23 ct23 oc24 kV24 dc24 pm24 cd24 ct24 oc25 kV25 dc25 pm25 cd25 ct25 oc26 kV26 dc26 pm26 cd26 ct26 oc27 kV27 dc27 pm27 ct27 : Value}
    (a1 : PySem.W.nsIn K mainGlobals "with_list" = some (some (.ref f1))) (l1 : K.lookup f1 = some ⟨oc1, od1, .func (PySem.W.fnOf "with_list" "with_list" (defArgs sWl) (defBody sWl) (defScope sWl) .none kV1 dc1 pm1 an1 cd1 ct1), sl1⟩) (c1 : PySem.W.codeIn K cd1 "with_list" = true) (k1 : PySem.W.keepIn K (.ref f1) = true)
    (a2 : PySem.W.nsIn K mainGlobals "linked" = some (some (.ref f2))) (l2 : K.lookup f2 = some ⟨oc2, od2, .func (PySem.W.fnOf "linked" "linked" (defArgs sLi) (defBody sLi) (defScope sLi) .none kV2 dc2 pm2 an2 cd2 ct2), sl2⟩) (c2 : PySem.W.codeIn K cd2 "linked" = true) (k2 : PySem.W.keepIn K (.ref f2) = true)
    (a3 : PySem.W.nsIn K mainGlobals "unlinked" = some (some (.ref f3))) (l3 : K.lookup f3 = some ⟨oc3, od3, .func (PySem.W.fnOf "unlinked" "unlinked" (defArgs sUn) (defBody sUn) (defScope sUn) .none kV3 dc3 pm3 an3 cd3 ct3), sl3⟩) (c3 : PySem.W.codeIn K cd3 "unlinked" = true) (k3 : PySem.W.keepIn K (.ref f3) = true)
    (a4 : PySem.W.nsIn K mainGlobals "is_button" = some (some (.ref f4))) (l4 : K.lookup f4 = some ⟨oc4, od4, .func (PySem.W.fnOf "is_button" "is_button" (defArgs sBtn) (defBody sBtn) (defScope sBtn) .none kV4 dc4 pm4 an4 cd4 ct4), sl4⟩) (c4 : PySem.W.codeIn K cd4 "is_button" = true) (k4 : PySem.W.keepIn K (.ref f4) = true)
    (a5 : PySem.W.nsIn K mainGlobals "is_button_tuple" = some (some (.ref f5))) (l5 : K.lookup f5 = some ⟨oc5, od5, .func (PySem.W.fnOf "is_button_tuple" "is_button_tuple" (defArgs sBtnT) (defBody sBtnT) (defScope sBtnT) .none kV5 dc5 pm5 an5 cd5 ct5), sl5⟩) (c5 : PySem.W.codeIn K cd5 "is_button_tuple" = true) (k5 : PySem.W.keepIn K (.ref f5) = true)
    (a6 : PySem.W.nsIn K mainGlobals "panel_error" = some (some (.ref f6))) (l6 : K.lookup f6 = some ⟨oc6, od6, .func (PySem.W.fnOf "panel_error" "panel_error" (defArgs sPErr) (defBody sPErr) (defScope sPErr) .none kV6 dc6 pm6 an6 cd6 ct6), sl6⟩) (c6 : PySem.W.codeIn K cd6 "panel_error" = true) (k6 : PySem.W.keepIn K (.ref f6) = true)
    (a7 : PySem.W.nsIn K mainGlobals "press_button" = some (some (.ref f7))) (l7 : K.lookup f7 = some ⟨oc7, od7, .func (PySem.W.fnOf "press_button" "press_button" (defArgs sPress) (defBody sPress) (defScope sPress) .none kV7 dc7 pm7 an7 cd7 ct7), sl7⟩) (c7 : PySem.W.codeIn K cd7 "press_button" = true) (k7 : PySem.W.keepIn K (.ref f7) = true)
    (a8 : PySem.W.nsIn K mainGlobals "releases_any" = some (some (.ref f8))) (l8 : K.lookup f8 = some ⟨oc8, od8, .func (PySem.W.fnOf "releases_any" "releases_any" (defArgs sAny) (defBody sAny) (defScope sAny) .none kV8 dc8 pm8 an8 cd8 ct8), sl8⟩) (c8 : PySem.W.codeIn K cd8 "releases_any" = true) (k8 : PySem.W.keepIn K (.ref f8) = true)
    (a9 : PySem.W.nsIn K mainGlobals "held_buttons" = some (some (.ref f9))) (l9 : K.lookup f9 = some ⟨oc9, od9, .func (PySem.W.fnOf "held_buttons" "held_buttons" (defArgs sHeld) (defBody sHeld) (defScope sHeld) .none kV9 dc9 pm9 an9 cd9 ct9), sl9⟩) (c9 : PySem.W.codeIn K cd9 "held_buttons" = true) (k9 : PySem.W.keepIn K (.ref f9) = true)
    (a10 : PySem.W.nsIn K mainGlobals "check_panel" = some (some (.ref f10))) (l10 : K.lookup f10 = some ⟨oc10, od10, .func (PySem.W.fnOf "check_panel" "check_panel" (defArgs sChkP) (defBody sChkP) (defScope sChkP) .none kV10 dc10 pm10 an10 cd10 ct10), sl10⟩) (c10 : PySem.W.codeIn K cd10 "check_panel" = true) (k10 : PySem.W.keepIn K (.ref f10) = true)
    (a11 : PySem.W.nsIn K mainGlobals "check_state" = some (some (.ref f11))) (l11 : K.lookup f11 = some ⟨oc11, od11, .func (PySem.W.fnOf "check_state" "check_state" (defArgs sChkS) (defBody sChkS) (defScope sChkS) .none kV11 dc11 pm11 an11 cd11 ct11), sl11⟩) (c11 : PySem.W.codeIn K cd11 "check_state" = true) (k11 : PySem.W.keepIn K (.ref f11) = true)
    (a12 : PySem.W.nsIn K mainGlobals "check_button" = some (some (.ref f12))) (l12 : K.lookup f12 = some ⟨oc12, od12, .func (PySem.W.fnOf "check_button" "check_button" (defArgs sChkB) (defBody sChkB) (defScope sChkB) .none kV12 dc12 pm12 an12 cd12 ct12), sl12⟩) (c12 : PySem.W.codeIn K cd12 "check_button" = true) (k12 : PySem.W.keepIn K (.ref f12) = true)
    (a13 : PySem.W.nsIn K mainGlobals "is_version" = some (some (.ref f13))) (l13 : K.lookup f13 = some ⟨oc13, od13, .func (PySem.W.fnOf "is_version" "is_version" (defArgs sIsV) (defBody sIsV) (defScope sIsV) .none kV13 dc13 pm13 an13 cd13 ct13), sl13⟩) (c13 : PySem.W.codeIn K cd13 "is_version" = true) (k13 : PySem.W.keepIn K (.ref f13) = true)
    (a14 : PySem.W.nsIn K mainGlobals "is_edit" = some (some (.ref f14))) (l14 : K.lookup f14 = some ⟨oc14, od14, .func (PySem.W.fnOf "is_edit" "is_edit" (defArgs sIsE) (defBody sIsE) (defScope sIsE) .none kV14 dc14 pm14 an14 cd14 ct14), sl14⟩) (c14 : PySem.W.codeIn K cd14 "is_edit" = true) (k14 : PySem.W.keepIn K (.ref f14) = true)
    (a15 : PySem.W.nsIn K mainGlobals "copied_batch" = some (some (.ref f15))) (l15 : K.lookup f15 = some ⟨oc15, od15, .func (PySem.W.fnOf "copied_batch" "copied_batch" (defArgs sCopy) (defBody sCopy) (defScope sCopy) .none kV15 dc15 pm15 an15 cd15 ct15), sl15⟩) (c15 : PySem.W.codeIn K cd15 "copied_batch" = true) (k15 : PySem.W.keepIn K (.ref f15) = true)
    (a16 : PySem.W.nsIn K mainGlobals "_law_deck" = some (some (.ref f16))) (l16 : K.lookup f16 = some ⟨oc16, od16, .func (PySem.W.fnOf "_law_deck" "_law_deck" (defArgs sDeck) (defBody sDeck) (defScope sDeck) .none kV16 dc16 pm16 an16 cd16 ct16), sl16⟩) (c16 : PySem.W.codeIn K cd16 "_law_deck" = true) (k16 : PySem.W.keepIn K (.ref f16) = true)
    (a17 : PySem.W.nsIn K mainGlobals "_law_draw" = some (some (.ref f17))) (l17 : K.lookup f17 = some ⟨oc17, od17, .func (PySem.W.fnOf "_law_draw" "_law_draw" (defArgs sDraw) (defBody sDraw) (defScope sDraw) .none kV17 dc17 pm17 an17 cd17 ct17), sl17⟩) (c17 : PySem.W.codeIn K cd17 "_law_draw" = true) (k17 : PySem.W.keepIn K (.ref f17) = true)
    (a18 : PySem.W.nsIn K mainGlobals "_law_panel" = some (some (.ref f18))) (l18 : K.lookup f18 = some ⟨oc18, od18, .func (PySem.W.fnOf "_law_panel" "_law_panel" (defArgs sPanel) (defBody sPanel) (defScope sPanel) .none kV18 dc18 pm18 an18 cd18 ct18), sl18⟩) (c18 : PySem.W.codeIn K cd18 "_law_panel" = true) (k18 : PySem.W.keepIn K (.ref f18) = true)
    (a19 : PySem.W.nsIn K mainGlobals "_law_state" = some (some (.ref f19))) (l19 : K.lookup f19 = some ⟨oc19, od19, .func (PySem.W.fnOf "_law_state" "_law_state" (defArgs sState0) (defBody sState0) (defScope sState0) .none kV19 dc19 pm19 an19 cd19 ct19), sl19⟩) (c19 : PySem.W.codeIn K cd19 "_law_state" = true) (k19 : PySem.W.keepIn K (.ref f19) = true)
    (a20 : PySem.W.nsIn K mainGlobals "_law_pressed" = some (some (.ref f20))) (l20 : K.lookup f20 = some ⟨oc20, od20, .func (PySem.W.fnOf "_law_pressed" "_law_pressed" (defArgs sPressed) (defBody sPressed) (defScope sPressed) .none kV20 dc20 pm20 an20 cd20 ct20), sl20⟩) (c20 : PySem.W.codeIn K cd20 "_law_pressed" = true) (k20 : PySem.W.keepIn K (.ref f20) = true)
    (a21 : PySem.W.nsIn K mainGlobals "_law_changed" = some (some (.ref f21))) (l21 : K.lookup f21 = some ⟨oc21, od21, .func (PySem.W.fnOf "_law_changed" "_law_changed" (defArgs sChanged) (defBody sChanged) (defScope sChanged) .none kV21 dc21 pm21 an21 cd21 ct21), sl21⟩) (c21 : PySem.W.codeIn K cd21 "_law_changed" = true) (k21 : PySem.W.keepIn K (.ref f21) = true)
    (a22 : PySem.W.nsIn K mainGlobals "_law_after" = some (some (.ref f22))) (l22 : K.lookup f22 = some ⟨oc22, od22, .func (PySem.W.fnOf "_law_after" "_law_after" (defArgs sAfter) (defBody sAfter) (defScope sAfter) .none kV22 dc22 pm22 an22 cd22 ct22), sl22⟩) (c22 : PySem.W.codeIn K cd22 "_law_after" = true) (k22 : PySem.W.keepIn K (.ref f22) = true)
    (a23 : PySem.W.nsIn K mainGlobals "_law_edit" = some (some (.ref f23))) (l23 : K.lookup f23 = some ⟨oc23, od23, .func (PySem.W.fnOf "_law_edit" "_law_edit" (defArgs sEdit) (defBody sEdit) (defScope sEdit) .none kV23 dc23 pm23 an23 cd23 ct23), sl23⟩) (c23 : PySem.W.codeIn K cd23 "_law_edit" = true) (k23 : PySem.W.keepIn K (.ref f23) = true)
    (a24 : PySem.W.nsIn K mainGlobals "_law_do" = some (some (.ref f24))) (l24 : K.lookup f24 = some ⟨oc24, od24, .func (PySem.W.fnOf "_law_do" "_law_do" (defArgs sDo) (defBody sDo) (defScope sDo) .none kV24 dc24 pm24 an24 cd24 ct24), sl24⟩) (c24 : PySem.W.codeIn K cd24 "_law_do" = true) (k24 : PySem.W.keepIn K (.ref f24) = true)
    (a25 : PySem.W.nsIn K mainGlobals "_law_right" = some (some (.ref f25))) (l25 : K.lookup f25 = some ⟨oc25, od25, .func (PySem.W.fnOf "_law_right" "_law_right" (defArgs sRight) (defBody sRight) (defScope sRight) .none kV25 dc25 pm25 an25 cd25 ct25), sl25⟩) (c25 : PySem.W.codeIn K cd25 "_law_right" = true) (k25 : PySem.W.keepIn K (.ref f25) = true)
    (a26 : PySem.W.nsIn K mainGlobals "_law_reached" = some (some (.ref f26))) (l26 : K.lookup f26 = some ⟨oc26, od26, .func (PySem.W.fnOf "_law_reached" "_law_reached" (defArgs sReach) (defBody sReach) (defScope sReach) .none kV26 dc26 pm26 an26 cd26 ct26), sl26⟩) (c26 : PySem.W.codeIn K cd26 "_law_reached" = true) (k26 : PySem.W.keepIn K (.ref f26) = true)
    (a27 : PySem.W.nsIn K mainGlobals "law" = some (some (.ref f27))) (l27 : K.lookup f27 = some ⟨oc27, od27, .func (PySem.W.fnOf "law" "law" (defArgs sLaw) (defBody sLaw) (defScope sLaw) .none kV27 dc27 pm27 an27 (.ref cS) ct27), sl27⟩) (c27 : PySem.W.codeIn K (.ref cS) "law" = true) (k27 : PySem.W.keepIn K (.ref f27) = true)
    {tk_MAX_BUTTONS tk_BATCH : Tok} (y_MAX_BUTTONS : PySem.W.nsIn K mainGlobals "MAX_BUTTONS" = some (some (.int 10 tk_MAX_BUTTONS))) (y_BATCH : PySem.W.nsIn K mainGlobals "BATCH" = some (some (.int 20 tk_BATCH)))
    (uD : PySem.W.nsIn K mainGlobals "Desk" = some (some (.ref C)))
    (pgD : PySem.W.plainGet K C Str.empty = true)
    (hdD : PySem.W.hasDictIn K C = true)
    (poD : PySem.W.plainOver K C = true)
    (saD : PySem.W.findIn K (.ref C) "__setattr__" = some (some (.builtin "object.__setattr__")))
    (mkD : PySem.W.makesIn K C = true)
    (kcD : PySem.W.keepIn K (.ref C) = true)
    (nAD : PySem.W.findIn K (.ref C) "past" = some none)
    (nWD : PySem.W.findIn K (.ref C) "watched" = some none)
    (nPD : PySem.W.findIn K (.ref C) "panel" = some none)
    (nLD : PySem.W.findIn K (.ref C) "latched" = some none)
    (nHD : PySem.W.findIn K (.ref C) "held" = some none)
    (cM : PySem.W.findIn K (.ref C) "MOST_EDITS" = some (some (.int 60 tkD)))
    (cG : PySem.W.specialIn K (.int 60 tkD) "__get__" = some none)
    (cC : PySem.W.copiedNames.contains ("MOST_EDITS" : Str) = false)
    (wShow : PySem.W.findIn K (.ref C) "show" = some (some (.ref fShow)))
    (vfShow : PySem.W.isFn K (.ref fShow) = true)
    (lShow : K.lookup fShow = some ⟨ocShow, odShow, .func (PySem.W.fnOf "show" "Desk.show" (defArgs sShow) (defBody sShow) (defScope sShow) .none kVShow dcShow pmShow anShow cdShow ctShow), slShow⟩)
    (cShow : PySem.W.codeIn K cdShow "Desk.show" = true)
    (kShow : PySem.W.keepIn K (.ref fShow) = true)
    (wInitD : PySem.W.findIn K (.ref C) "__init__" = some (some (.ref fInitD)))
    (vfInitD : PySem.W.isFn K (.ref fInitD) = true)
    (lInitD : K.lookup fInitD = some ⟨ocInitD, odInitD, .func (PySem.W.fnOf "__init__" "Desk.__init__" (defArgs sInitD) (defBody sInitD) (defScope sInitD) .none kVInitD dcInitD pmInitD anInitD cdInitD ctInitD), slInitD⟩)
    (cInitD : PySem.W.codeIn K cdInitD "Desk.__init__" = true)
    (kInitD : PySem.W.keepIn K (.ref fInitD) = true)
    (wFree : PySem.W.findIn K (.ref C) "check_free" = some (some (.ref fFree)))
    (vfFree : PySem.W.isFn K (.ref fFree) = true)
    (lFree : K.lookup fFree = some ⟨ocFree, odFree, .func (PySem.W.fnOf "check_free" "Desk.check_free" (defArgs sFree) (defBody sFree) (defScope sFree) .none kVFree dcFree pmFree anFree cdFree ctFree), slFree⟩)
    (cFree : PySem.W.codeIn K cdFree "Desk.check_free" = true)
    (kFree : PySem.W.keepIn K (.ref fFree) = true)
    (wRoom : PySem.W.findIn K (.ref C) "check_room" = some (some (.ref fRoom)))
    (vfRoom : PySem.W.isFn K (.ref fRoom) = true)
    (lRoom : K.lookup fRoom = some ⟨ocRoom, odRoom, .func (PySem.W.fnOf "check_room" "Desk.check_room" (defArgs sRoom) (defBody sRoom) (defScope sRoom) .none kVRoom dcRoom pmRoom anRoom cdRoom ctRoom), slRoom⟩)
    (cRoom : PySem.W.codeIn K cdRoom "Desk.check_room" = true)
    (kRoom : PySem.W.keepIn K (.ref fRoom) = true)
    (wAdd : PySem.W.findIn K (.ref C) "add_edit" = some (some (.ref fAdd)))
    (vfAdd : PySem.W.isFn K (.ref fAdd) = true)
    (lAdd : K.lookup fAdd = some ⟨ocAdd, odAdd, .func (PySem.W.fnOf "add_edit" "Desk.add_edit" (defArgs sAdd) (defBody sAdd) (defScope sAdd) .none kVAdd dcAdd pmAdd anAdd cdAdd ctAdd), slAdd⟩)
    (cAdd : PySem.W.codeIn K cdAdd "Desk.add_edit" = true)
    (kAdd : PySem.W.keepIn K (.ref fAdd) = true)
    (wPressD : PySem.W.findIn K (.ref C) "press" = some (some (.ref fPressD)))
    (vfPressD : PySem.W.isFn K (.ref fPressD) = true)
    (lPressD : K.lookup fPressD = some ⟨ocPressD, odPressD, .func (PySem.W.fnOf "press" "Desk.press" (defArgs sPressD) (defBody sPressD) (defScope sPressD) .none kVPressD dcPressD pmPressD anPressD cdPressD ctPressD), slPressD⟩)
    (cPressD : PySem.W.codeIn K cdPressD "Desk.press" = true)
    (kPressD : PySem.W.keepIn K (.ref fPressD) = true)
    (wLink0 : PySem.W.findIn K (.ref C) "check_link" = some (some (.ref fLink0)))
    (vfLink0 : PySem.W.isFn K (.ref fLink0) = true)
    (lLink0 : K.lookup fLink0 = some ⟨ocLink0, odLink0, .func (PySem.W.fnOf "check_link" "Desk.check_link" (defArgs sLink0) (defBody sLink0) (defScope sLink0) .none kVLink0 dcLink0 pmLink0 anLink0 cdLink0 ctLink0), slLink0⟩)
    (cLink0 : PySem.W.codeIn K cdLink0 "Desk.check_link" = true)
    (kLink0 : PySem.W.keepIn K (.ref fLink0) = true)
    (wChg : PySem.W.findIn K (.ref C) "change_panel" = some (some (.ref fChg)))
    (vfChg : PySem.W.isFn K (.ref fChg) = true)
    (lChg : K.lookup fChg = some ⟨ocChg, odChg, .func (PySem.W.fnOf "change_panel" "Desk.change_panel" (defArgs sChg) (defBody sChg) (defScope sChg) .none kVChg dcChg pmChg anChg cdChg ctChg), slChg⟩)
    (cChg : PySem.W.codeIn K cdChg "Desk.change_panel" = true)
    (kChg : PySem.W.keepIn K (.ref fChg) = true)
    (wLink : PySem.W.findIn K (.ref C) "link" = some (some (.ref fLink)))
    (vfLink : PySem.W.isFn K (.ref fLink) = true)
    (lLink : K.lookup fLink = some ⟨ocLink, odLink, .func (PySem.W.fnOf "link" "Desk.link" (defArgs sLink) (defBody sLink) (defScope sLink) .none kVLink dcLink pmLink anLink cdLink ctLink), slLink⟩)
    (cLink : PySem.W.codeIn K cdLink "Desk.link" = true)
    (kLink : PySem.W.keepIn K (.ref fLink) = true)
    (wUnlink : PySem.W.findIn K (.ref C) "unlink" = some (some (.ref fUnlink)))
    (vfUnlink : PySem.W.isFn K (.ref fUnlink) = true)
    (lUnlink : K.lookup fUnlink = some ⟨ocUnlink, odUnlink, .func (PySem.W.fnOf "unlink" "Desk.unlink" (defArgs sUnlink) (defBody sUnlink) (defScope sUnlink) .none kVUnlink dcUnlink pmUnlink anUnlink cdUnlink ctUnlink), slUnlink⟩)
    (cUnlink : PySem.W.codeIn K cdUnlink "Desk.unlink" = true)
    (kUnlink : PySem.W.keepIn K (.ref fUnlink) = true)
    (wState : PySem.W.findIn K (.ref C) "state" = some (some (.ref fState)))
    (vfState : PySem.W.isFn K (.ref fState) = true)
    (lState : K.lookup fState = some ⟨ocState, odState, .func (PySem.W.fnOf "state" "Desk.state" (defArgs sState) (defBody sState) (defScope sState) .none (.ref aKState) dcState pmState anState cdState ctState), slState⟩)
    (cState : PySem.W.codeIn K cdState "Desk.state" = true)
    (kState : PySem.W.keepIn K (.ref fState) = true)
    (eKState : PySem.W.nsIn K aKState "version" = some (some .none))
    (wUndo : PySem.W.findIn K (.ref C) "undo" = some (some (.ref fUndo)))
    (vfUndo : PySem.W.isFn K (.ref fUndo) = true)
    (lUndo : K.lookup fUndo = some ⟨ocUndo, odUndo, .func (PySem.W.fnOf "undo" "Desk.undo" (defArgs sUndo) (defBody sUndo) (defScope sUndo) .none kVUndo dcUndo pmUndo anUndo cdUndo ctUndo), slUndo⟩)
    (cUndo : PySem.W.codeIn K cdUndo "Desk.undo" = true)
    (kUndo : PySem.W.keepIn K (.ref fUndo) = true)
    (wEdits : PySem.W.findIn K (.ref C) "edits" = some (some (.ref fEdits)))
    (vfEdits : PySem.W.isFn K (.ref fEdits) = true)
    (lEdits : K.lookup fEdits = some ⟨ocEdits, odEdits, .func (PySem.W.fnOf "edits" "Desk.edits" (defArgs sEdits) (defBody sEdits) (defScope sEdits) .none kVEdits dcEdits pmEdits anEdits cdEdits ctEdits), slEdits⟩)
    (cEdits : PySem.W.codeIn K cdEdits "Desk.edits" = true)
    (kEdits : PySem.W.keepIn K (.ref fEdits) = true)
    (wLenD : PySem.W.findIn K (.ref C) "__len__" = some (some (.ref fLenD)))
    (vfLenD : PySem.W.isFn K (.ref fLenD) = true)
    (lLenD : K.lookup fLenD = some ⟨ocLenD, odLenD, .func (PySem.W.fnOf "__len__" "Desk.__len__" (defArgs sLenD) (defBody sLenD) (defScope sLenD) .none kVLenD dcLenD pmLenD anLenD cdLenD ctLenD), slLenD⟩)
    (cLenD : PySem.W.codeIn K cdLenD "Desk.__len__" = true)
    (kLenD : PySem.W.keepIn K (.ref fLenD) = true)
    (wStrD : PySem.W.findIn K (.ref C) "__str__" = some (some (.ref fStrD)))
    (vfStrD : PySem.W.isFn K (.ref fStrD) = true)
    (lStrD : K.lookup fStrD = some ⟨ocStrD, odStrD, .func (PySem.W.fnOf "__str__" "Desk.__str__" (defArgs sStrD) (defBody sStrD) (defScope sStrD) .none kVStrD dcStrD pmStrD anStrD cdStrD ctStrD), slStrD⟩)
    (cStrD : PySem.W.codeIn K cdStrD "Desk.__str__" = true)
    (kStrD : PySem.W.keepIn K (.ref fStrD) = true)
    (wEqD : PySem.W.findIn K (.ref C) "__eq__" = some (some (.ref fEqD)))
    (vfEqD : PySem.W.isFn K (.ref fEqD) = true)
    (lEqD : K.lookup fEqD = some ⟨ocEqD, odEqD, .func (PySem.W.fnOf "__eq__" "Desk.__eq__" (defArgs sEqD) (defBody sEqD) (defScope sEqD) .none kVEqD dcEqD pmEqD anEqD cdEqD ctEqD), slEqD⟩)
    (cEqD : PySem.W.codeIn K cdEqD "Desk.__eq__" = true)
    (kEqD : PySem.W.keepIn K (.ref fEqD) = true)
    (wDoEdit : PySem.W.findIn K (.ref C) "do_edit" = some (some (.ref fDoEdit)))
    (vfDoEdit : PySem.W.isFn K (.ref fDoEdit) = true)
    (lDoEdit : K.lookup fDoEdit = some ⟨ocDoEdit, odDoEdit, .func (PySem.W.fnOf "do_edit" "Desk.do_edit" (defArgs sDoEdit) (defBody sDoEdit) (defScope sDoEdit) .none kVDoEdit dcDoEdit pmDoEdit anDoEdit cdDoEdit ctDoEdit), slDoEdit⟩)
    (cDoEdit : PySem.W.codeIn K cdDoEdit "Desk.do_edit" = true)
    (kDoEdit : PySem.W.keepIn K (.ref fDoEdit) = true)
    (wAccBy : PySem.W.findIn K (.ref C) "accepted_by" = some (some (.ref fAccBy)))
    (vfAccBy : PySem.W.isFn K (.ref fAccBy) = true)
    (lAccBy : K.lookup fAccBy = some ⟨ocAccBy, odAccBy, .func (PySem.W.fnOf "accepted_by" "Desk.accepted_by" (defArgs sAccBy) (defBody sAccBy) (defScope sAccBy) .none kVAccBy dcAccBy pmAccBy anAccBy cdAccBy ctAccBy), slAccBy⟩)
    (cAccBy : PySem.W.codeIn K cdAccBy "Desk.accepted_by" = true)
    (kAccBy : PySem.W.keepIn K (.ref fAccBy) = true)
    (wDoBatch : PySem.W.findIn K (.ref C) "do_batch" = some (some (.ref fDoBatch)))
    (vfDoBatch : PySem.W.isFn K (.ref fDoBatch) = true)
    (lDoBatch : K.lookup fDoBatch = some ⟨ocDoBatch, odDoBatch, .func (PySem.W.fnOf "do_batch" "Desk.do_batch" (defArgs sDoBatch) (defBody sDoBatch) (defScope sDoBatch) .none kVDoBatch dcDoBatch pmDoBatch anDoBatch cdDoBatch ctDoBatch), slDoBatch⟩)
    (cDoBatch : PySem.W.codeIn K cdDoBatch "Desk.do_batch" = true)
    (kDoBatch : PySem.W.keepIn K (.ref fDoBatch) = true)
    (wAttempt : PySem.W.findIn K (.ref C) "attempt" = some (some (.ref fAttempt)))
    (vfAttempt : PySem.W.isFn K (.ref fAttempt) = true)
    (lAttempt : K.lookup fAttempt = some ⟨ocAttempt, odAttempt, .func (PySem.W.fnOf "attempt" "Desk.attempt" (defArgs sAttempt) (defBody sAttempt) (defScope sAttempt) .none (.ref aKAttempt) dcAttempt pmAttempt anAttempt cdAttempt ctAttempt), slAttempt⟩)
    (cAttempt : PySem.W.codeIn K cdAttempt "Desk.attempt" = true)
    (kAttempt : PySem.W.keepIn K (.ref fAttempt) = true)
    (eKAttempt : PySem.W.nsIn K aKAttempt "watch" = some (some .none))
    (uCV : PySem.W.nsIn K mainGlobals "NoVersion" = some (some (.ref CV)))
    (xLV : K.lookup CV = some (excClassObj nmV qqV CV NnV bsV [.type "LookupError", .type "Exception", .type "BaseException", .type "object"] true snV subV abV colV ddV q0V q1V q2V q3V q5V "LookupError.__new__"))
    (saV : PySem.W.findIn K (.ref CV) "__setattr__" = some (some (.builtin "object.__setattr__")))
    (exCV : PySem.W.subIn K (.ref CV) (.type "BaseException") = some true)
    (tyCV : PySem.W.typeIn K (.ref CV) = some (.type "type"))
    (kCV : PySem.W.keepIn K (.ref CV) = true)
    (iCV : PySem.W.findIn K (.ref CV) "__init__" = some (some (.ref fIV)))
    (tIV : PySem.W.typeIn K (.ref fIV) = some (.type "function"))
    (noNV : PySem.W.findIn K (.ref CV) "value" = some none)
    (lIV : K.lookup fIV = some ⟨ocIV, odIV, .func (PySem.W.fnOf "__init__" "NoVersion.__init__" (defArgs sInitV) (defBody sInitV) (defScope sInitV) .none kVIV dcIV pmIV anIV cdIV ctIV), slIV⟩)
    (cIV : PySem.W.codeIn K cdIV "NoVersion.__init__" = true)
    (kIV : PySem.W.keepIn K (.ref fIV) = true)
    (hgV : PySem.W.findIn K (.ref CV) "__getattribute__" = some (some (.builtin "BaseException.__getattribute__")))
    (hkV : PySem.W.findIn K (.ref CV) "__getattr__" = some none)
    (hdV : PySem.W.hasDictIn K CV = true)
    (sPV : PySem.W.subIn K (.ref CV) (.ref CV) = some true)
    (u_NothingToUndo : PySem.W.nsIn K mainGlobals "NothingToUndo" = some (some (.ref CU)))
    (q_NothingToUndo : PySem.W.excIn K CU [.type "ValueError", .type "Exception", .type "BaseException", .type "object"] "ValueError.__new__" = true)
    (kp_NothingToUndo : PySem.W.keepIn K (.ref CU) = true)
    (s_NothingToUndo : PySem.W.subIn K (.ref CU) (.type "BaseException") = some true)
    (t_NothingToUndo : PySem.W.typeIn K (.ref CU) = some (.type "type"))
    (uVA : PySem.W.nsIn K mainGlobals "VALUES" = some (some (.ref dV)))
    (kVA : He.dicW K dV = some (He.keysIn w.params ["press", "link", "unlink"]))
    (v1A : PySem.W.nsIn K dV "press" = some (some (.int 1 tv1)))
    (v2A : PySem.W.nsIn K dV "link" = some (some (.int 2 tv2)))
    (v3A : PySem.W.nsIn K dV "unlink" = some (some (.int 2 tv3)))
    (oa : PySem.W.findIn K (.ref C) "__class__" = some (some (.builtin "object.__class__")))
    (on : PySem.W.specialIn K (.builtin "object.__class__") "__get__" = some (some (.builtin "getset_descriptor.__get__")))
    (ot : PySem.W.takesIn K (.builtin "object.__class__") = some true)
    (om : PySem.W.mroIn K C (.type "object") = some true)
    (kCC : PySem.W.kitOne K (.ref C) (.ref C) = some true)
    (nfD : PySem.W.notFirst K C (.ref C) = true)
    (lCS : K.lookup cS = some ⟨.type "code", odcS, .fields vsS, slcS⟩)
    (g11S : vsS[11]? = some (.ref pS))
    (d11S : vsS.getD 11 .none = .ref pS)
    (d18S : vsS.getD 18 .none = .str flS tfS)
    (d7S : vsS.getD 7 .none = .int fgS tgS)
    (d9S : vsS.getD 9 .none = .bool inS)
    (d10S : vsS.getD 10 .none = .int txS ttS)
    (ncPS : cS ≠ pS)
    (z1 : PySem.W.nsIn K mainGlobals "abs" = some none) (z2 : PySem.W.nsIn K mainGlobals "any" = some none) (z3 : PySem.W.nsIn K mainGlobals "bool" = some none) (z4 : PySem.W.nsIn K mainGlobals "enumerate" = some none) (z5 : PySem.W.nsIn K mainGlobals "int" = some none) (z6 : PySem.W.nsIn K mainGlobals "isinstance" = some none) (z7 : PySem.W.nsIn K mainGlobals "len" = some none) (z8 : PySem.W.nsIn K mainGlobals "list" = some none) (z9 : PySem.W.nsIn K mainGlobals "min" = some none) (z10 : PySem.W.nsIn K mainGlobals "range" = some none) (z11 : PySem.W.nsIn K mainGlobals "repr" = some none) (z12 : PySem.W.nsIn K mainGlobals "sorted" = some none) (z13 : PySem.W.nsIn K mainGlobals "str" = some none) (z14 : PySem.W.nsIn K mainGlobals "tuple" = some none) :
    PySem.W.CodeHd h cS pS ∧ ∃ fd : FuncData, (∀ (s : Shared) (v : Value), BindsTo s fd ⟨[v], []⟩ [("_law_script", v)]) ∧ ∀ base : Heap, K.In base → base.Ns mainGlobals mg → TabB base mg cS pS → FnG l.prog w K mg base 30 fa fd ["_law_script"] (spLaw K pS) := by
  have e := hfa.symm.trans (PySem.W.mg_of X G a27)
  cases e
  have F1 := fun_mk (st := sWl) l1 c1 k1
  have F2 := fun_mk (st := sLi) l2 c2 k2
  have F3 := fun_mk (st := sUn) l3 c3 k3
  have F4 := fun_mk (st := sBtn) l4 c4 k4
  have F5 := fun_mk (st := sBtnT) l5 c5 k5
  have F6 := fun_mk (st := sPErr) l6 c6 k6
  have F7 := fun_mk (st := sPress) l7 c7 k7
  have F8 := fun_mk (st := sAny) l8 c8 k8
  have F9 := fun_mk (st := sHeld) l9 c9 k9
  have F10 := fun_mk (st := sChkP) l10 c10 k10
  have F11 := fun_mk (st := sChkS) l11 c11 k11
  have F12 := fun_mk (st := sChkB) l12 c12 k12
  have F13 := fun_mk (st := sIsV) l13 c13 k13
  have F14 := fun_mk (st := sIsE) l14 c14 k14
  have F15 := fun_mk (st := sCopy) l15 c15 k15
  have F16 := fun_mk (st := sDeck) l16 c16 k16
  have F17 := fun_mk (st := sDraw) l17 c17 k17
  have F18 := fun_mk (st := sPanel) l18 c18 k18
  have F19 := fun_mk (st := sState0) l19 c19 k19
  have F20 := fun_mk (st := sPressed) l20 c20 k20
  have F21 := fun_mk (st := sChanged) l21 c21 k21
  have F22 := fun_mk (st := sAfter) l22 c22 k22
  have F23 := fun_mk (st := sEdit) l23 c23 k23
  have F24 := fun_mk (st := sDo) l24 c24 k24
  have F25 := fun_mk (st := sRight) l25 c25 k25
  have F26 := fun_mk (st := sReach) l26 c26 k26
  have F27 := fun_mk (st := sLaw) l27 c27 k27
  have b1 := F1.binds (ps := ["panel", "button", "released"]) fun _ _ _ _ _ _ us hl => match us, hl with | [_, _, _], _ => rfl
  have b2 := F2.binds (ps := ["panel", "one", "other"]) fun _ _ _ _ _ _ us hl => match us, hl with | [_, _, _], _ => rfl
  have b3 := F3.binds (ps := ["panel", "one", "other"]) fun _ _ _ _ _ _ us hl => match us, hl with | [_, _, _], _ => rfl
  have b4 := F4.binds (ps := ["value", "many"]) fun _ _ _ _ _ _ us hl => match us, hl with | [_, _], _ => rfl
  have b5 := F5.binds (ps := ["value", "many"]) fun _ _ _ _ _ _ us hl => match us, hl with | [_, _], _ => rfl
  have b6 := F6.binds (ps := ["value"]) fun _ _ _ _ _ _ us hl => match us, hl with | [_], _ => rfl
  have b7 := F7.binds (ps := ["panel", "state", "button"]) fun _ _ _ _ _ _ us hl => match us, hl with | [_, _, _], _ => rfl
  have b8 := F8.binds (ps := ["panel", "button", "others"]) fun _ _ _ _ _ _ us hl => match us, hl with | [_, _, _], _ => rfl
  have b9 := F9.binds (ps := ["panel", "state"]) fun _ _ _ _ _ _ us hl => match us, hl with | [_, _], _ => rfl
  have b10 := F10.binds (ps := ["value"]) fun _ _ _ _ _ _ us hl => match us, hl with | [_], _ => rfl
  have b11 := F11.binds (ps := ["panel", "value"]) fun _ _ _ _ _ _ us hl => match us, hl with | [_, _], _ => rfl
  have b12 := F12.binds (ps := ["panel", "value"]) fun _ _ _ _ _ _ us hl => match us, hl with | [_, _], _ => rfl
  have b13 := F13.binds (ps := ["value", "latest"]) fun _ _ _ _ _ _ us hl => match us, hl with | [_, _], _ => rfl
  have b14 := F14.binds (ps := ["value"]) fun _ _ _ _ _ _ us hl => match us, hl with | [_], _ => rfl
  have b15 := F15.binds (ps := ["value"]) fun _ _ _ _ _ _ us hl => match us, hl with | [_], _ => rfl
  have b16 := F16.binds (ps := ["_law_script"]) fun _ _ _ _ _ _ us hl => match us, hl with | [_], _ => rfl
  have b17 := F17.binds (ps := ["_law_deck_here", "_law_many"]) fun _ _ _ _ _ _ us hl => match us, hl with | [_, _], _ => rfl
  have b18 := F18.binds (ps := ["_law_deck_here", "_law_most"]) fun _ _ _ _ _ _ us hl => match us, hl with | [_, _], _ => rfl
  have b19 := F19.binds (ps := ["_law_deck_here", "_law_n"]) fun _ _ _ _ _ _ us hl => match us, hl with | [_, _], _ => rfl
  have b20 := F20.binds (ps := ["_law_panel_here", "_law_state_here", "_law_button"]) fun _ _ _ _ _ _ us hl => match us, hl with | [_, _, _], _ => rfl
  have b21 := F21.binds (ps := ["_law_panel_here", "_law_one", "_law_other", "_law_is_link"]) fun _ _ _ _ _ _ us hl => match us, hl with | [_, _, _, _], _ => rfl
  have b22 := F22.binds (ps := ["_law_state_here", "_law_edit_here"]) fun _ _ _ _ _ _ us hl => match us, hl with | [_, _], _ => rfl
  have b23 := F23.binds (ps := ["_law_deck_here", "_law_state_here"]) fun _ _ _ _ _ _ us hl => match us, hl with | [_, _], _ => rfl
  have b24 := F24.binds (ps := ["_law_table", "_law_edit_here"]) fun _ _ _ _ _ _ us hl => match us, hl with | [_, _], _ => rfl
  have b25 := F25.binds (ps := ["_law_table", "_law_state_here", "_law_edits"]) fun _ _ _ _ _ _ us hl => match us, hl with | [_, _, _], _ => rfl
  have b26 := F26.binds (ps := ["_law_table", "_law_wish"]) fun _ _ _ _ _ _ us hl => match us, hl with | [_, _], _ => rfl
  have FShow := fun_mk (st := sShow) lShow cShow kShow
  have bShow := FShow.binds (ps := ["self", "panel", "latched"]) fun _ _ _ _ _ _ us hl => match us, hl with | [_, _, _], _ => rfl
  have hShow : Meth K C "show" fShow := ⟨wShow, vfShow, kShow⟩
  have FInitD := fun_mk (st := sInitD) lInitD cInitD kInitD
  have bInitD := FInitD.binds (ps := ["self", "panel", "state"]) fun _ _ _ _ _ _ us hl => match us, hl with | [_, _, _], _ => rfl
  have FFree := fun_mk (st := sFree) lFree cFree kFree
  have bFree := FFree.binds (ps := ["self"]) fun _ _ _ _ _ _ us hl => match us, hl with | [_], _ => rfl
  have hFree : Meth K C "check_free" fFree := ⟨wFree, vfFree, kFree⟩
  have FRoom := fun_mk (st := sRoom) lRoom cRoom kRoom
  have bRoom := FRoom.binds (ps := ["self"]) fun _ _ _ _ _ _ us hl => match us, hl with | [_], _ => rfl
  have hRoom : Meth K C "check_room" fRoom := ⟨wRoom, vfRoom, kRoom⟩
  have FAdd := fun_mk (st := sAdd) lAdd cAdd kAdd
  have bAdd := FAdd.binds (ps := ["self", "edit", "panel", "latched"]) fun _ _ _ _ _ _ us hl => match us, hl with | [_, _, _, _], _ => rfl
  have hAdd : Meth K C "add_edit" fAdd := ⟨wAdd, vfAdd, kAdd⟩
  have FPressD := fun_mk (st := sPressD) lPressD cPressD kPressD
  have bPressD := FPressD.binds (ps := ["self", "button"]) fun _ _ _ _ _ _ us hl => match us, hl with | [_, _], _ => rfl
  have hPressD : Meth K C "press" fPressD := ⟨wPressD, vfPressD, kPressD⟩
  have FLink0 := fun_mk (st := sLink0) lLink0 cLink0 kLink0
  have bLink0 := FLink0.binds (ps := ["self", "one", "other"]) fun _ _ _ _ _ _ us hl => match us, hl with | [_, _, _], _ => rfl
  have hLink0 : Meth K C "check_link" fLink0 := ⟨wLink0, vfLink0, kLink0⟩
  have FChg := fun_mk (st := sChg) lChg cChg kChg
  have bChg := FChg.binds (ps := ["self", "edit", "panel"]) fun _ _ _ _ _ _ us hl => match us, hl with | [_, _, _], _ => rfl
  have hChg : Meth K C "change_panel" fChg := ⟨wChg, vfChg, kChg⟩
  have FLink := fun_mk (st := sLink) lLink cLink kLink
  have bLink := FLink.binds (ps := ["self", "one", "other"]) fun _ _ _ _ _ _ us hl => match us, hl with | [_, _, _], _ => rfl
  have hLink : Meth K C "link" fLink := ⟨wLink, vfLink, kLink⟩
  have FUnlink := fun_mk (st := sUnlink) lUnlink cUnlink kUnlink
  have bUnlink := FUnlink.binds (ps := ["self", "one", "other"]) fun _ _ _ _ _ _ us hl => match us, hl with | [_, _, _], _ => rfl
  have hUnlink : Meth K C "unlink" fUnlink := ⟨wUnlink, vfUnlink, kUnlink⟩
  have FState : FunD K "state" "Desk.state" (defArgs sState) (defBody sState) (defScope sState) [] [("version", .non)] fState _ := ⟨⟨ocState, odState, .none, .ref aKState, dcState, pmState, anState, cdState, ctState, slState, rfl, lState, cState, .inl ⟨rfl, rfl⟩, .inr ⟨aKState, rfl, fun q hq => by cases List.mem_singleton.mp hq; exact ⟨.none, eKState, rfl⟩⟩⟩, kState⟩
  obtain ⟨dsState, vState, bState⟩ := FState.binds0 (ps := ["self", "version"]) 1 (by simp) rfl fun D doc pm an cdv ct us ks hu hk => match us, hu, ks, hk with | [_], _, [_], _ => ⟨_, _, _, _, _, _, rfl, rfl, rfl⟩
  have kbState : KBn K _ ["self", "version"] 1 ["version"] (fun us ws => us ++ ws) (fun vs zs => vs ++ zs) := kb_one FState 1 "version" (by simp) fun D doc pm an cdv ct us v hu => match us, hu with | [_], _ => rfl
  have hState : Meth K C "state" fState := ⟨wState, vfState, kState⟩
  have FUndo := fun_mk (st := sUndo) lUndo cUndo kUndo
  have bUndo := FUndo.binds (ps := ["self"]) fun _ _ _ _ _ _ us hl => match us, hl with | [_], _ => rfl
  have hUndo : Meth K C "undo" fUndo := ⟨wUndo, vfUndo, kUndo⟩
  have FEdits := fun_mk (st := sEdits) lEdits cEdits kEdits
  have bEdits := FEdits.binds (ps := ["self"]) fun _ _ _ _ _ _ us hl => match us, hl with | [_], _ => rfl
  have hEdits : Meth K C "edits" fEdits := ⟨wEdits, vfEdits, kEdits⟩
  have FLenD := fun_mk (st := sLenD) lLenD cLenD kLenD
  have bLenD := FLenD.binds (ps := ["self"]) fun _ _ _ _ _ _ us hl => match us, hl with | [_], _ => rfl
  have FStrD := fun_mk (st := sStrD) lStrD cStrD kStrD
  have bStrD := FStrD.binds (ps := ["self"]) fun _ _ _ _ _ _ us hl => match us, hl with | [_], _ => rfl
  have FEqD := fun_mk (st := sEqD) lEqD cEqD kEqD
  have bEqD := FEqD.binds (ps := ["self", "other"]) fun _ _ _ _ _ _ us hl => match us, hl with | [_, _], _ => rfl
  have hEqD : Meth K C "__eq__" fEqD := ⟨wEqD, vfEqD, kEqD⟩
  have FDoEdit := fun_mk (st := sDoEdit) lDoEdit cDoEdit kDoEdit
  have bDoEdit := FDoEdit.binds (ps := ["self", "index", "edit"]) fun _ _ _ _ _ _ us hl => match us, hl with | [_, _, _], _ => rfl
  have hDoEdit : Meth K C "do_edit" fDoEdit := ⟨wDoEdit, vfDoEdit, kDoEdit⟩
  have FAccBy := fun_mk (st := sAccBy) lAccBy cAccBy kAccBy
  have bAccBy := FAccBy.binds (ps := ["self", "watch"]) fun _ _ _ _ _ _ us hl => match us, hl with | [_, _], _ => rfl
  have hAccBy : Meth K C "accepted_by" fAccBy := ⟨wAccBy, vfAccBy, kAccBy⟩
  have FDoBatch := fun_mk (st := sDoBatch) lDoBatch cDoBatch kDoBatch
  have bDoBatch := FDoBatch.binds (ps := ["self", "batch", "watch"]) fun _ _ _ _ _ _ us hl => match us, hl with | [_, _, _], _ => rfl
  have hDoBatch : Meth K C "do_batch" fDoBatch := ⟨wDoBatch, vfDoBatch, kDoBatch⟩
  have FAttempt : FunD K "attempt" "Desk.attempt" (defArgs sAttempt) (defBody sAttempt) (defScope sAttempt) [] [("watch", .non)] fAttempt _ := ⟨⟨ocAttempt, odAttempt, .none, .ref aKAttempt, dcAttempt, pmAttempt, anAttempt, cdAttempt, ctAttempt, slAttempt, rfl, lAttempt, cAttempt, .inl ⟨rfl, rfl⟩, .inr ⟨aKAttempt, rfl, fun q hq => by cases List.mem_singleton.mp hq; exact ⟨.none, eKAttempt, rfl⟩⟩⟩, kAttempt⟩
  obtain ⟨dsAttempt, vAttempt, bAttempt⟩ := FAttempt.binds0 (ps := ["self", "edits", "watch"]) 2 (by simp) rfl fun D doc pm an cdv ct us ks hu hk => match us, hu, ks, hk with | [_, _], _, [_], _ => ⟨_, _, _, _, _, _, rfl, rfl, rfl⟩
  have kbAttempt : KBn K _ ["self", "edits", "watch"] 2 ["watch"] (fun us ws => us ++ ws) (fun vs zs => vs ++ zs) := kb_one FAttempt 2 "watch" (by simp) fun D doc pm an cdv ct us v hu => match us, hu with | [_, _], _ => rfl
  have hAttempt : Meth K C "attempt" fAttempt := ⟨wAttempt, vfAttempt, kAttempt⟩
  have T : TxtD K mg C := ⟨⟨pgD, hdD, poD, saD⟩, nAD, nWD, nPD, nLD, nHD, ⟨_, cM, ⟨tkD, rfl⟩, cG, cC⟩, PySem.W.mg_of X G uD⟩
  have FWl := F1
  have bWl := b1
  have gWl := PySem.W.mg_of X G a1
  have FLi := F2
  have bLi := b2
  have gLi := PySem.W.mg_of X G a2
  have FUn := F3
  have bUn := b3
  have gUn := PySem.W.mg_of X G a3
  have FBtn := F4
  have bBtn := b4
  have gBtn := PySem.W.mg_of X G a4
  have FBtnT := F5
  have bBtnT := b5
  have gBtnT := PySem.W.mg_of X G a5
  have FPErr := F6
  have bPErr := b6
  have gPErr := PySem.W.mg_of X G a6
  have FPress := F7
  have bPress := b7
  have gPress := PySem.W.mg_of X G a7
  have FAny := F8
  have bAny := b8
  have gAny := PySem.W.mg_of X G a8
  have FHeld := F9
  have bHeld := b9
  have gHeld := PySem.W.mg_of X G a9
  have FChkP := F10
  have bChkP := b10
  have gChkP := PySem.W.mg_of X G a10
  have FChkS := F11
  have bChkS := b11
  have gChkS := PySem.W.mg_of X G a11
  have FChkB := F12
  have bChkB := b12
  have gChkB := PySem.W.mg_of X G a12
  have FIsV := F13
  have bIsV := b13
  have gIsV := PySem.W.mg_of X G a13
  have FIsE := F14
  have bIsE := b14
  have gIsE := PySem.W.mg_of X G a14
  have FCopy := F15
  have bCopy := b15
  have gCopy := PySem.W.mg_of X G a15
  have FDeck := F16
  have bDeck := b16
  have gDeck := PySem.W.mg_of X G a16
  have FDraw := F17
  have bDraw := b17
  have gDraw := PySem.W.mg_of X G a17
  have FPanel := F18
  have bPanel := b18
  have gPanel := PySem.W.mg_of X G a18
  have FState0 := F19
  have bState0 := b19
  have gState0 := PySem.W.mg_of X G a19
  have FPressed := F20
  have bPressed := b20
  have gPressed := PySem.W.mg_of X G a20
  have FChanged := F21
  have bChanged := b21
  have gChanged := PySem.W.mg_of X G a21
  have FAfter := F22
  have bAfter := b22
  have gAfter := PySem.W.mg_of X G a22
  have FEdit := F23
  have bEdit := b23
  have gEdit := PySem.W.mg_of X G a23
  have FDo := F24
  have bDo := b24
  have gDo := PySem.W.mg_of X G a24
  have FRight := F25
  have bRight := b25
  have gRight := PySem.W.mg_of X G a25
  have FReach := F26
  have bReach := b26
  have gReach := PySem.W.mg_of X G a26
  have m_abs := PySem.W.mg_none_of X G z1
  have m_any := PySem.W.mg_none_of X G z2
  have m_bool := PySem.W.mg_none_of X G z3
  have m_enumerate := PySem.W.mg_none_of X G z4
  have m_int := PySem.W.mg_none_of X G z5
  have m_isinstance := PySem.W.mg_none_of X G z6
  have m_len := PySem.W.mg_none_of X G z7
  have m_list := PySem.W.mg_none_of X G z8
  have m_min := PySem.W.mg_none_of X G z9
  have m_range := PySem.W.mg_none_of X G z10
  have m_repr := PySem.W.mg_none_of X G z11
  have m_sorted := PySem.W.mg_none_of X G z12
  have m_str := PySem.W.mg_none_of X G z13
  have m_tuple := PySem.W.mg_none_of X G z14
  have y_MAX := PySem.W.mg_of X G y_MAX_BUTTONS
  have y_BATCH := PySem.W.mg_of X G y_BATCH
  have FIV := fun_mk (st := sInitV) lIV cIV kIV
  have bIV := FIV.binds (ps := ["self", "value"]) fun _ _ _ _ _ _ us hl => match us, hl with | [_, _], _ => rfl
  have TV : ExL K mg "NoVersion" "value" "NoVersion.__init__" sInitV CV fIV _ := { oex := ⟨⟨nmV, qqV, NnV, bsV, snV, subV, abV, colV, ddV, q0V, q1V, q2V, q3V, q5V, xLV⟩, saV, exCV, tyCV, kCV⟩, iC := iCV, tI := tIV, noN := noNV, g := PySem.W.mg_of X G uCV, FI := FIV, bI := bIV }
  have T_NothingToUndo : Ex0 K mg "NothingToUndo" CU := ⟨q_NothingToUndo, PySem.W.mg_of X G u_NothingToUndo, kp_NothingToUndo, s_NothingToUndo, t_NothingToUndo⟩
  have VA : KVal K w mg dV := ⟨PySem.W.mg_of X G uVA, He.dicW_ok kVA, ⟨_, v1A⟩, ⟨_, v2A⟩, ⟨_, v3A⟩⟩
  exact ⟨⟨_, vsS, flS, tfS, fgS, tgS, inS, txS, ttS, X _ _ lCS, rfl, rfl, g11S, d11S, d18S, d7S, d9S, d10S, ncPS⟩, _, fun s v => .of_eq rfl, fun base _ _ tbS => ok_law F27 F1 b1 (PySem.W.mg_of X G a1) F2 b2 (PySem.W.mg_of X G a2) F3 b3 (PySem.W.mg_of X G a3) F4 b4 (PySem.W.mg_of X G a4) F5 b5 (PySem.W.mg_of X G a5) F6 b6 (PySem.W.mg_of X G a6) F7 b7 (PySem.W.mg_of X G a7) F8 b8 (PySem.W.mg_of X G a8) F9 b9 (PySem.W.mg_of X G a9) F10 b10 (PySem.W.mg_of X G a10) F11 b11 (PySem.W.mg_of X G a11) F12 b12 (PySem.W.mg_of X G a12) F13 b13 (PySem.W.mg_of X G a13) F14 b14 (PySem.W.mg_of X G a14) F15 b15 (PySem.W.mg_of X G a15) F16 b16 (PySem.W.mg_of X G a16) F17 b17 (PySem.W.mg_of X G a17) F18 b18 (PySem.W.mg_of X G a18) F19 b19 (PySem.W.mg_of X G a19) F20 b20 (PySem.W.mg_of X G a20) F21 b21 (PySem.W.mg_of X G a21) F22 b22 (PySem.W.mg_of X G a22) F23 b23 (PySem.W.mg_of X G a23) F24 b24 (PySem.W.mg_of X G a24) F25 b25 (PySem.W.mg_of X G a25) F26 b26 (PySem.W.mg_of X G a26) (PySem.W.mg_none_of X G z1) (PySem.W.mg_none_of X G z2) (PySem.W.mg_none_of X G z3) (PySem.W.mg_none_of X G z4) (PySem.W.mg_none_of X G z5) (PySem.W.mg_none_of X G z6) (PySem.W.mg_none_of X G z7) (PySem.W.mg_none_of X G z8) (PySem.W.mg_none_of X G z9) (PySem.W.mg_none_of X G z10) (PySem.W.mg_none_of X G z11) (PySem.W.mg_none_of X G z12) (PySem.W.mg_none_of X G z13) (PySem.W.mg_none_of X G z14) T ⟨fInitD, _, bInitD, ⟨mkD, wInitD, vfInitD, kcD⟩, ok_InitD FInitD T FBtn bBtn gBtn FBtnT bBtnT gBtnT FPErr bPErr gPErr FAny bAny gAny FHeld bHeld gHeld FChkP bChkP gChkP FChkS bChkS gChkS FShow bShow hShow m_any m_bool m_enumerate m_int m_isinstance m_len m_tuple y_MAX, fPressD, _, bPressD, hPressD, ok_PressD FPressD T FBtn bBtn gBtn FPress bPress gPress FAny bAny gAny FHeld bHeld gHeld FChkB bChkB gChkB FFree bFree hFree FRoom bRoom hRoom FShow bShow hShow FAdd bAdd hAdd m_any m_bool m_int m_isinstance m_len m_sorted m_tuple, fLink, _, bLink, hLink, ok_Link FLink T FWl bWl gWl FLi bLi gLi FBtn bBtn gBtn FAny bAny gAny FHeld bHeld gHeld FChkB bChkB gChkB FFree bFree hFree FRoom bRoom hRoom FLink0 bLink0 hLink0 FShow bShow hShow FAdd bAdd hAdd FChg bChg hChg m_any m_bool m_enumerate m_int m_isinstance m_len m_sorted m_tuple, fUnlink, _, bUnlink, hUnlink, ok_Unlink FUnlink T FWl bWl gWl FUn bUn gUn FBtn bBtn gBtn FAny bAny gAny FHeld bHeld gHeld FChkB bChkB gChkB FFree bFree hFree FRoom bRoom hRoom FLink0 bLink0 hLink0 FShow bShow hShow FAdd bAdd hAdd FChg bChg hChg m_any m_bool m_enumerate m_int m_isinstance m_len m_tuple, fState, _, dsState, vState, kbState, bState, hState, ok_State FState T TV FBtn bBtn gBtn FIsV bIsV gIsV m_bool m_int m_isinstance m_len, fUndo, _, bUndo, hUndo, ok_Undo FUndo T T_NothingToUndo FAny bAny gAny FHeld bHeld gHeld FFree bFree hFree FShow bShow hShow m_any m_len m_tuple, fEdits, _, bEdits, hEdits, ok_Edits FEdits T   m_tuple, fLenD, _, bLenD, wLenD, vfLenD, ok_LenD FLenD T   m_len, fStrD, _, bStrD, wStrD, vfStrD, ok_StrD FStrD T   m_len, fEqD, _, bEqD, wEqD, vfEqD, ok_EqD FEqD T ⟨oa, on, ot, om⟩ T.g kCC m_isinstance, nfD, fAttempt, _, hAttempt, kbAttempt, (fun LK MW => ok_AttemptW (k := 11) FAttempt T FWl bWl gWl FLi bLi gLi FUn bUn gUn FBtn bBtn gBtn FPress bPress gPress FAny bAny gAny FHeld bHeld gHeld FChkB bChkB gChkB FIsE bIsE gIsE FCopy bCopy gCopy FFree bFree hFree FRoom bRoom hRoom FShow bShow hShow FAdd bAdd hAdd FPressD bPressD hPressD FLink0 bLink0 hLink0 FChg bChg hChg FLink bLink hLink FUnlink bUnlink hUnlink FDoEdit bDoEdit hDoEdit FAccBy bAccBy hAccBy FDoBatch bDoBatch hDoBatch m_any m_bool m_enumerate m_int m_isinstance m_len m_list m_sorted m_str m_tuple VA y_BATCH (LK.mono (by omega)) MW)⟩ rfl tbS⟩
theorem endT {l : PySem.W.OpenLaw} {w : World} {K : PySem.W.Frag} {h : Heap} {mg : Str → Option Value} {fa : Addr} {cS pS : Addr} (KX : K.In h) (TS : h.get? pS = some tab0) (NS : K.lookup pS = none) (A : PySem.W.CodeHd h cS pS ∧ ∃ fd : FuncData, (∀ (s : Shared) (v : Value), BindsTo s fd ⟨[v], []⟩ [("_law_script", v)]) ∧ ∀ base : Heap, K.In base → base.Ns mainGlobals mg → TabB base mg cS pS → FnG l.prog w K mg base 30 fa fd ["_law_script"] (spLaw K pS)) :
    ∃ (K : PySem.W.Frag) (cs : List (Addr × Addr)), K.In h ∧ (∀ p ∈ cs, h.get? p.2 = some tab0) ∧ (∀ p ∈ cs, K.lookup p.2 = none) ∧ (∀ p ∈ cs, PySem.W.CodeHd h p.1 p.2) ∧
      (∀ (H : Hp) (a : Addr) (ns : List Int), ns.length ≤ 63 → (∀ p ∈ cs, H p.2 = some (.tbl #[])) → SqL K H a (ns.map V.int) → spLaw K pS [.ref a] H (fun v _ => v = .bl true) E0) ∧
      ∃ fd : FuncData, (∀ (s : Shared) (u : Value), BindsTo s fd ⟨[u], []⟩ [("_law_script", u)]) ∧ ∀ base : Heap, K.In base → base.Ns mainGlobals mg → (∀ p ∈ cs, TabB base mg p.1 p.2) → FnG l.prog w K mg base 30 fa fd ["_law_script"] (spLaw K pS) := by
  obtain ⟨CS, fd, bd, F⟩ := A
  refine ⟨K, [(cS, pS)], KX, ?_, ?_, ?_, fun H a ns hl hT hS => ?_, fd, bd, fun base k1 k2 hB => F base k1 k2 (hB (cS, pS) (List.mem_cons_self))⟩
  · exact fun p hp => by
      simp only [List.mem_cons, List.not_mem_nil, or_false] at hp
      subst hp
      · exact TS
  · exact fun p hp => by
      simp only [List.mem_cons, List.not_mem_nil, or_false] at hp
      subst hp
      · exact NS
  · exact fun p hp => by
      simp only [List.mem_cons, List.not_mem_nil, or_false] at hp
      subst hp
      · exact CS
  · exact ⟨a, ns, rfl, hS, hl, fun p hp => by
      simp only [List.mem_cons, List.not_mem_nil, or_false] at hp
      subst hp
      exact TabS.nil (hT (cS, pS) List.mem_cons_self), fun _ => rfl⟩
end K57
open PySem PySem.W PyProof.Rows
theorem PySem.Challenge.cw_pressrelease_k57_whole_watches_and_singl_holds : PySem.Challenge.rw_pressrelease_k57_whole_watches_and_singl.Holds := by
  w_on; o_law; k_head; (case hw => w_witness2)
  k_fill
  refine Pr.walkGT (l := PySem.Challenge.rw_pressrelease_k57_whole_watches_and_singl) (n := 63) (k := 30) (x := "_law_script") (sp := fun K => K57.spLaw K 616) rfl (by decide) rfl ⟨rfl, by decide, by decide⟩ ?F
  case F =>
    intro w mg fa h Y G hmg
    have KX := PySem.W.km_in_of Y
    have KT := PySem.W.km_tabs_of Y
    refine' K57.endT KX (KT 616 (by decide)) ?NS (K57.all_mk KX G hmg ?a1 ?l1 ?c1 ?k1 ?a2 ?l2 ?c2 ?k2 ?a3 ?l3 ?c3 ?k3 ?a4 ?l4 ?c4 ?k4 ?a5 ?l5 ?c5 ?k5 ?a6 ?l6 ?c6 ?k6 ?a7 ?l7 ?c7 ?k7 ?a8 ?l8 ?c8 ?k8 ?a9 ?l9 ?c9 ?k9 ?a10 ?l10 ?c10 ?k10 ?a11 ?l11 ?c11 ?k11 ?a12 ?l12 ?c12 ?k12 ?a13 ?l13 ?c13 ?k13 ?a14 ?l14 ?c14 ?k14 ?a15 ?l15 ?c15 ?k15 ?a16 ?l16 ?c16 ?k16 ?a17 ?l17 ?c17 ?k17 ?a18 ?l18 ?c18 ?k18 ?a19 ?l19 ?c19 ?k19 ?a20 ?l20 ?c20 ?k20 ?a21 ?l21 ?c21 ?k21 ?a22 ?l22 ?c22 ?k22 ?a23 ?l23 ?c23 ?k23 ?a24 ?l24 ?c24 ?k24 ?a25 ?l25 ?c25 ?k25 ?a26 ?l26 ?c26 ?k26 ?a27 ?l27 ?c27 ?k27 ?y_MAX_BUTTONS ?y_BATCH ?uD ?pgD ?hdD ?poD ?saD ?mkD ?kcD ?nAD ?nWD ?nPD ?nLD ?nHD ?cM ?cG ?cC ?wShow ?vfShow ?lShow ?cShow ?kShow ?wInitD ?vfInitD ?lInitD ?cInitD ?kInitD ?wFree ?vfFree ?lFree ?cFree ?kFree ?wRoom ?vfRoom ?lRoom ?cRoom ?kRoom ?wAdd ?vfAdd ?lAdd ?cAdd ?kAdd ?wPressD ?vfPressD ?lPressD ?cPressD ?kPressD ?wLink0 ?vfLink0 ?lLink0 ?cLink0 ?kLink0 ?wChg ?vfChg ?lChg ?cChg ?kChg ?wLink ?vfLink ?lLink ?cLink ?kLink ?wUnlink ?vfUnlink ?lUnlink ?cUnlink ?kUnlink ?wState ?vfState ?lState ?cState ?kState ?eKState ?wUndo ?vfUndo ?lUndo ?cUndo ?kUndo ?wEdits ?vfEdits ?lEdits ?cEdits ?kEdits ?wLenD ?vfLenD ?lLenD ?cLenD ?kLenD ?wStrD ?vfStrD ?lStrD ?cStrD ?kStrD ?wEqD ?vfEqD ?lEqD ?cEqD ?kEqD ?wDoEdit ?vfDoEdit ?lDoEdit ?cDoEdit ?kDoEdit ?wAccBy ?vfAccBy ?lAccBy ?cAccBy ?kAccBy ?wDoBatch ?vfDoBatch ?lDoBatch ?cDoBatch ?kDoBatch ?wAttempt ?vfAttempt ?lAttempt ?cAttempt ?kAttempt ?eKAttempt ?uCV ?xLV ?saV ?exCV ?tyCV ?kCV ?iCV ?tIV ?noNV ?lIV ?cIV ?kIV ?hgV ?hkV ?hdV ?sPV ?u_NothingToUndo ?q_NothingToUndo ?kp_NothingToUndo ?s_NothingToUndo ?t_NothingToUndo ?uVA ?kVA ?v1A ?v2A ?v3A ?oa ?on ?ot ?om ?kCC ?nfD ?lCS ?g11S ?d11S ?d18S ?d7S ?d9S ?d10S ?ncPS ?z1 ?z2 ?z3 ?z4 ?z5 ?z6 ?z7 ?z8 ?z9 ?z10 ?z11 ?z12 ?z13 ?z14)
    (case NS => first | rfl | decide +kernel | kernel_rfl)
    (case a1 => k_is); (case l1 => k_is); (case c1 => k_is); (case k1 => k_is); (case a2 => k_is); (case l2 => k_is); (case c2 => k_is); (case k2 => k_is); (case a3 => k_is); (case l3 => k_is); (case c3 => k_is); (case k3 => k_is)
    (case a4 => k_is); (case l4 => k_is); (case c4 => k_is); (case k4 => k_is); (case a5 => k_is); (case l5 => k_is); (case c5 => k_is); (case k5 => k_is); (case a6 => k_is); (case l6 => k_is); (case c6 => k_is); (case k6 => k_is)
    (case a7 => k_is); (case l7 => k_is); (case c7 => k_is); (case k7 => k_is); (case a8 => k_is); (case l8 => k_is); (case c8 => k_is); (case k8 => k_is); (case a9 => k_is); (case l9 => k_is); (case c9 => k_is); (case k9 => k_is)
    (case a10 => k_is); (case l10 => k_is); (case c10 => k_is); (case k10 => k_is); (case a11 => k_is); (case l11 => k_is); (case c11 => k_is); (case k11 => k_is); (case a12 => k_is); (case l12 => k_is); (case c12 => k_is); (case k12 => k_is)
    (case a13 => k_is); (case l13 => k_is); (case c13 => k_is); (case k13 => k_is); (case a14 => k_is); (case l14 => k_is); (case c14 => k_is); (case k14 => k_is); (case a15 => k_is); (case l15 => k_is); (case c15 => k_is); (case k15 => k_is)
    (case a16 => k_is); (case l16 => k_is); (case c16 => k_is); (case k16 => k_is); (case a17 => k_is); (case l17 => k_is); (case c17 => k_is); (case k17 => k_is); (case a18 => k_is); (case l18 => k_is); (case c18 => k_is); (case k18 => k_is)
    (case a19 => k_is); (case l19 => k_is); (case c19 => k_is); (case k19 => k_is); (case a20 => k_is); (case l20 => k_is); (case c20 => k_is); (case k20 => k_is); (case a21 => k_is); (case l21 => k_is); (case c21 => k_is); (case k21 => k_is)
    (case a22 => k_is); (case l22 => k_is); (case c22 => k_is); (case k22 => k_is); (case a23 => k_is); (case l23 => k_is); (case c23 => k_is); (case k23 => k_is); (case a24 => k_is); (case l24 => k_is); (case c24 => k_is); (case k24 => k_is)
    (case a25 => k_is); (case l25 => k_is); (case c25 => k_is); (case k25 => k_is); (case a26 => k_is); (case l26 => k_is); (case c26 => k_is); (case k26 => k_is); (case a27 => k_is); (case l27 => k_is); (case c27 => k_is); (case k27 => k_is)
    (case y_MAX_BUTTONS => k_is); (case y_BATCH => k_is); (case uD => first | k_is | k_exc | rfl | decide +kernel | kernel_rfl); (case pgD => first | k_is | k_exc | rfl | decide +kernel | kernel_rfl); (case hdD => first | k_is | k_exc | rfl | decide +kernel | kernel_rfl); (case poD => first | k_is | k_exc | rfl | decide +kernel | kernel_rfl); (case saD => first | k_is | k_exc | rfl | decide +kernel | kernel_rfl); (case mkD => first | k_is | k_exc | rfl | decide +kernel | kernel_rfl); (case kcD => first | k_is | k_exc | rfl | decide +kernel | kernel_rfl); (case nAD => first | k_is | k_exc | rfl | decide +kernel | kernel_rfl); (case nWD => first | k_is | k_exc | rfl | decide +kernel | kernel_rfl); (case nPD => first | k_is | k_exc | rfl | decide +kernel | kernel_rfl)
    (case nLD => first | k_is | k_exc | rfl | decide +kernel | kernel_rfl); (case nHD => first | k_is | k_exc | rfl | decide +kernel | kernel_rfl); (case cM => first | k_is | k_exc | rfl | decide +kernel | kernel_rfl); (case cG => first | k_is | k_exc | rfl | decide +kernel | kernel_rfl); (case cC => first | k_is | k_exc | rfl | decide +kernel | kernel_rfl); (case wShow => first | k_is | k_exc | rfl | decide +kernel | kernel_rfl); (case vfShow => first | k_is | k_exc | rfl | decide +kernel | kernel_rfl); (case lShow => first | k_is | k_exc | rfl | decide +kernel | kernel_rfl); (case cShow => first | k_is | k_exc | rfl | decide +kernel | kernel_rfl); (case kShow => first | k_is | k_exc | rfl | decide +kernel | kernel_rfl); (case wInitD => first | k_is | k_exc | rfl | decide +kernel | kernel_rfl); (case vfInitD => first | k_is | k_exc | rfl | decide +kernel | kernel_rfl)
    (case lInitD => first | k_is | k_exc | rfl | decide +kernel | kernel_rfl); (case cInitD => first | k_is | k_exc | rfl | decide +kernel | kernel_rfl); (case kInitD => first | k_is | k_exc | rfl | decide +kernel | kernel_rfl); (case wFree => first | k_is | k_exc | rfl | decide +kernel | kernel_rfl); (case vfFree => first | k_is | k_exc | rfl | decide +kernel | kernel_rfl); (case lFree => first | k_is | k_exc | rfl | decide +kernel | kernel_rfl); (case cFree => first | k_is | k_exc | rfl | decide +kernel | kernel_rfl); (case kFree => first | k_is | k_exc | rfl | decide +kernel | kernel_rfl); (case wRoom => first | k_is | k_exc | rfl | decide +kernel | kernel_rfl); (case vfRoom => first | k_is | k_exc | rfl | decide +kernel | kernel_rfl); (case lRoom => first | k_is | k_exc | rfl | decide +kernel | kernel_rfl); (case cRoom => first | k_is | k_exc | rfl | decide +kernel | kernel_rfl)
    (case kRoom => first | k_is | k_exc | rfl | decide +kernel | kernel_rfl); (case wAdd => first | k_is | k_exc | rfl | decide +kernel | kernel_rfl); (case vfAdd => first | k_is | k_exc | rfl | decide +kernel | kernel_rfl); (case lAdd => first | k_is | k_exc | rfl | decide +kernel | kernel_rfl); (case cAdd => first | k_is | k_exc | rfl | decide +kernel | kernel_rfl); (case kAdd => first | k_is | k_exc | rfl | decide +kernel | kernel_rfl); (case wPressD => first | k_is | k_exc | rfl | decide +kernel | kernel_rfl); (case vfPressD => first | k_is | k_exc | rfl | decide +kernel | kernel_rfl); (case lPressD => first | k_is | k_exc | rfl | decide +kernel | kernel_rfl); (case cPressD => first | k_is | k_exc | rfl | decide +kernel | kernel_rfl); (case kPressD => first | k_is | k_exc | rfl | decide +kernel | kernel_rfl); (case wLink0 => first | k_is | k_exc | rfl | decide +kernel | kernel_rfl)
    (case vfLink0 => first | k_is | k_exc | rfl | decide +kernel | kernel_rfl); (case lLink0 => first | k_is | k_exc | rfl | decide +kernel | kernel_rfl); (case cLink0 => first | k_is | k_exc | rfl | decide +kernel | kernel_rfl); (case kLink0 => first | k_is | k_exc | rfl | decide +kernel | kernel_rfl); (case wChg => first | k_is | k_exc | rfl | decide +kernel | kernel_rfl); (case vfChg => first | k_is | k_exc | rfl | decide +kernel | kernel_rfl); (case lChg => first | k_is | k_exc | rfl | decide +kernel | kernel_rfl); (case cChg => first | k_is | k_exc | rfl | decide +kernel | kernel_rfl); (case kChg => first | k_is | k_exc | rfl | decide +kernel | kernel_rfl); (case wLink => first | k_is | k_exc | rfl | decide +kernel | kernel_rfl); (case vfLink => first | k_is | k_exc | rfl | decide +kernel | kernel_rfl); (case lLink => first | k_is | k_exc | rfl | decide +kernel | kernel_rfl)
    (case cLink => first | k_is | k_exc | rfl | decide +kernel | kernel_rfl); (case kLink => first | k_is | k_exc | rfl | decide +kernel | kernel_rfl); (case wUnlink => first | k_is | k_exc | rfl | decide +kernel | kernel_rfl); (case vfUnlink => first | k_is | k_exc | rfl | decide +kernel | kernel_rfl); (case lUnlink => first | k_is | k_exc | rfl | decide +kernel | kernel_rfl); (case cUnlink => first | k_is | k_exc | rfl | decide +kernel | kernel_rfl); (case kUnlink => first | k_is | k_exc | rfl | decide +kernel | kernel_rfl); (case wState => first | k_is | k_exc | rfl | decide +kernel | kernel_rfl); (case vfState => first | k_is | k_exc | rfl | decide +kernel | kernel_rfl); (case lState => first | k_is | k_exc | rfl | decide +kernel | kernel_rfl); (case cState => first | k_is | k_exc | rfl | decide +kernel | kernel_rfl); (case kState => first | k_is | k_exc | rfl | decide +kernel | kernel_rfl)
    (case eKState => first | k_is | k_exc | rfl | decide +kernel | kernel_rfl); (case wUndo => first | k_is | k_exc | rfl | decide +kernel | kernel_rfl); (case vfUndo => first | k_is | k_exc | rfl | decide +kernel | kernel_rfl); (case lUndo => first | k_is | k_exc | rfl | decide +kernel | kernel_rfl); (case cUndo => first | k_is | k_exc | rfl | decide +kernel | kernel_rfl); (case kUndo => first | k_is | k_exc | rfl | decide +kernel | kernel_rfl); (case wEdits => first | k_is | k_exc | rfl | decide +kernel | kernel_rfl); (case vfEdits => first | k_is | k_exc | rfl | decide +kernel | kernel_rfl); (case lEdits => first | k_is | k_exc | rfl | decide +kernel | kernel_rfl); (case cEdits => first | k_is | k_exc | rfl | decide +kernel | kernel_rfl); (case kEdits => first | k_is | k_exc | rfl | decide +kernel | kernel_rfl); (case wLenD => first | k_is | k_exc | rfl | decide +kernel | kernel_rfl)
    (case vfLenD => first | k_is | k_exc | rfl | decide +kernel | kernel_rfl); (case lLenD => first | k_is | k_exc | rfl | decide +kernel | kernel_rfl); (case cLenD => first | k_is | k_exc | rfl | decide +kernel | kernel_rfl); (case kLenD => first | k_is | k_exc | rfl | decide +kernel | kernel_rfl); (case wStrD => first | k_is | k_exc | rfl | decide +kernel | kernel_rfl); (case vfStrD => first | k_is | k_exc | rfl | decide +kernel | kernel_rfl); (case lStrD => first | k_is | k_exc | rfl | decide +kernel | kernel_rfl); (case cStrD => first | k_is | k_exc | rfl | decide +kernel | kernel_rfl); (case kStrD => first | k_is | k_exc | rfl | decide +kernel | kernel_rfl); (case wEqD => first | k_is | k_exc | rfl | decide +kernel | kernel_rfl); (case vfEqD => first | k_is | k_exc | rfl | decide +kernel | kernel_rfl); (case lEqD => first | k_is | k_exc | rfl | decide +kernel | kernel_rfl)
    (case cEqD => first | k_is | k_exc | rfl | decide +kernel | kernel_rfl); (case kEqD => first | k_is | k_exc | rfl | decide +kernel | kernel_rfl); (case wDoEdit => first | k_is | k_exc | rfl | decide +kernel | kernel_rfl); (case vfDoEdit => first | k_is | k_exc | rfl | decide +kernel | kernel_rfl); (case lDoEdit => first | k_is | k_exc | rfl | decide +kernel | kernel_rfl); (case cDoEdit => first | k_is | k_exc | rfl | decide +kernel | kernel_rfl); (case kDoEdit => first | k_is | k_exc | rfl | decide +kernel | kernel_rfl); (case wAccBy => first | k_is | k_exc | rfl | decide +kernel | kernel_rfl); (case vfAccBy => first | k_is | k_exc | rfl | decide +kernel | kernel_rfl); (case lAccBy => first | k_is | k_exc | rfl | decide +kernel | kernel_rfl); (case cAccBy => first | k_is | k_exc | rfl | decide +kernel | kernel_rfl); (case kAccBy => first | k_is | k_exc | rfl | decide +kernel | kernel_rfl)
    (case wDoBatch => first | k_is | k_exc | rfl | decide +kernel | kernel_rfl); (case vfDoBatch => first | k_is | k_exc | rfl | decide +kernel | kernel_rfl); (case lDoBatch => first | k_is | k_exc | rfl | decide +kernel | kernel_rfl); (case cDoBatch => first | k_is | k_exc | rfl | decide +kernel | kernel_rfl); (case kDoBatch => first | k_is | k_exc | rfl | decide +kernel | kernel_rfl); (case wAttempt => first | k_is | k_exc | rfl | decide +kernel | kernel_rfl); (case vfAttempt => first | k_is | k_exc | rfl | decide +kernel | kernel_rfl); (case lAttempt => first | k_is | k_exc | rfl | decide +kernel | kernel_rfl); (case cAttempt => first | k_is | k_exc | rfl | decide +kernel | kernel_rfl); (case kAttempt => first | k_is | k_exc | rfl | decide +kernel | kernel_rfl); (case eKAttempt => first | k_is | k_exc | rfl | decide +kernel | kernel_rfl); (case uCV => first | k_is | k_exc | rfl | decide +kernel | kernel_rfl)
    (case xLV => first | k_is | k_exc | rfl | decide +kernel | kernel_rfl); (case saV => first | k_is | k_exc | rfl | decide +kernel | kernel_rfl); (case exCV => first | k_is | k_exc | rfl | decide +kernel | kernel_rfl); (case tyCV => first | k_is | k_exc | rfl | decide +kernel | kernel_rfl); (case kCV => first | k_is | k_exc | rfl | decide +kernel | kernel_rfl); (case iCV => first | k_is | k_exc | rfl | decide +kernel | kernel_rfl); (case tIV => first | k_is | k_exc | rfl | decide +kernel | kernel_rfl); (case noNV => first | k_is | k_exc | rfl | decide +kernel | kernel_rfl); (case lIV => first | k_is | k_exc | rfl | decide +kernel | kernel_rfl); (case cIV => first | k_is | k_exc | rfl | decide +kernel | kernel_rfl); (case kIV => first | k_is | k_exc | rfl | decide +kernel | kernel_rfl); (case hgV => first | k_is | k_exc | rfl | decide +kernel | kernel_rfl)
    (case hkV => first | k_is | k_exc | rfl | decide +kernel | kernel_rfl); (case hdV => first | k_is | k_exc | rfl | decide +kernel | kernel_rfl); (case sPV => first | k_is | k_exc | rfl | decide +kernel | kernel_rfl); (case u_NothingToUndo => first | k_is | k_exc | rfl | decide +kernel | kernel_rfl); (case q_NothingToUndo => first | k_is | k_exc | rfl | decide +kernel | kernel_rfl); (case kp_NothingToUndo => first | k_is | k_exc | rfl | decide +kernel | kernel_rfl); (case s_NothingToUndo => first | k_is | k_exc | rfl | decide +kernel | kernel_rfl); (case t_NothingToUndo => first | k_is | k_exc | rfl | decide +kernel | kernel_rfl); (case uVA => first | k_is | k_exc | rfl | decide +kernel | kernel_rfl); (case kVA => first | k_is | k_exc | rfl | decide +kernel | kernel_rfl); (case v1A => first | k_is | k_exc | rfl | decide +kernel | kernel_rfl); (case v2A => first | k_is | k_exc | rfl | decide +kernel | kernel_rfl)
    (case v3A => first | k_is | k_exc | rfl | decide +kernel | kernel_rfl); (case oa => first | k_is | k_exc | rfl | decide +kernel | kernel_rfl); (case on => first | k_is | k_exc | rfl | decide +kernel | kernel_rfl); (case ot => first | k_is | k_exc | rfl | decide +kernel | kernel_rfl); (case om => first | k_is | k_exc | rfl | decide +kernel | kernel_rfl); (case kCC => first | k_is | k_exc | rfl | decide +kernel | kernel_rfl); (case nfD => first | k_is | k_exc | rfl | decide +kernel | kernel_rfl); (case lCS => first | k_is | k_exc | rfl | decide +kernel | kernel_rfl); (case g11S => first | k_is | k_exc | rfl | decide +kernel | kernel_rfl); (case d11S => first | k_is | k_exc | rfl | decide +kernel | kernel_rfl); (case d18S => first | k_is | k_exc | rfl | decide +kernel | kernel_rfl); (case d7S => first | k_is | k_exc | rfl | decide +kernel | kernel_rfl)
    (case d9S => first | k_is | k_exc | rfl | decide +kernel | kernel_rfl); (case d10S => first | k_is | k_exc | rfl | decide +kernel | kernel_rfl); (case ncPS => first | k_is | k_exc | rfl | decide +kernel | kernel_rfl); (case z1 => k_is); (case z2 => k_is); (case z3 => k_is); (case z4 => k_is); (case z5 => k_is); (case z6 => k_is); (case z7 => k_is); (case z8 => k_is); (case z9 => k_is)
    (case z10 => k_is); (case z11 => k_is); (case z12 => k_is); (case z13 => k_is); (case z14 => k_is)
