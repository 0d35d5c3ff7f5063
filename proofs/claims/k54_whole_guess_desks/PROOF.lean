import PyProof.Rows.All
import Wide.All
import OpenK.AllK
import Wide.FinOn
import HandS.ForMost
import HandS.TupMul
import HandS.TupAny
import HandS.SetFor
import HandS.Walk
import HandS.EndBits
import KE.GoesEnum
import PyProof.ReprRoads
import HandS.IsInst
import HandS.Strs
import HandS.Conv
import HandS.Zip
import HandS.NoneIn
import PyProof.ListNew
import PyProof.Rows.CountFlat
import HandS.More
import KE.DataMinMax
import HandS.Star
import HandS.SortRule
import HandS.NamedTupSort
import HandS.TupLe
import KE.KSortTup
import KE.SortData
import HandS.CallLocal
import KE.KDictDisplayH
import HandS.Style
import HandS.Dict
import KE.KExcIs
import HandS.Exc
import HandS.ExcIs
import HandS.ExcInit
import HandS.ExcField
import HandS.ExcOwn
import HandS.WordsExc
import HandS.RaiseMore
import HandS.FStr
import PyProof.StrLaws
import KE.KCallOwn
import HandS.Call
import HandS.List
import HandS.Defaults
import HandS.MakeKwOnly
import HandS.CallSlots
import PyProof.InstStoreFacts
import PyProof.ExcBaseAll.LookupError
import HandS.Base
import HandS.Words
import HandS.Nested
import HandS.ClsMeth
import KE.KSuper
import HandS.Finally
import HandS.HeadHook3
import HandS.SuiteRaise
import HandS.RaiseFrom
import HandS.ExcInitHot
import KE.KTryMore
import KE.DataMinKey
import KE.DataCmp
import KE.LtData
import HandS.Lambda
import HandS.SortKw
import HandS.DictComp
import PyProof.StrLawsRepr
import HandS.Text
import HandS.Head0
import HandS.Head1
import HandS.Head2
import HandS.HeadHook1
import HandS.EndTab
import PySem.Challenge.RW_pressrelease_k54_whole_guess_desks
set_option Elab.async false
set_option linter.all false
set_option maxRecDepth 100000
set_option maxHeartbeats 4000000
set_option genInjectivity false
set_option genSizeOfSpec false
namespace Pr
open PySem PySem.Spec PyProof.Rows L2
structure FnG (P : Program) (w : World) (K : PySem.W.Frag) (mg : Str → Option Value) (base : Heap) (k : Nat) (f : Addr) (fd : FuncData) (ps : List Str) (sp : Sp) : Prop where
  len : ∀ vs H Q E, sp vs H Q E → vs.length = ps.length
  go : ∀ (A : Around) (outer : List Env) (s : Shared) (H : Hp) (args : Args) (us : List Value) (vs : List V) (Q : VK) (E : XK), A.guards = some [] → Room k A →
    Env0 P w K mg base A outer s H → BindsTo s fd args (ps.zip us) → Vals vs us → sp vs H Q E →
    codeAny (model P w) A (.call (.ref f) args) (CR CX0 outer P w H s Q E) s
section
variable {P : Program} {w : World} {K : PySem.W.Frag} {mg : Str → Option Value} {base : Heap}
theorem FnG.of {k : Nat} {f : Addr} {fd : FuncData} {ps : List Str} {sp : Sp} (F : FnOk P w K mg base CX0 k f fd ps sp) : FnG P w K mg base k f fd ps sp :=
  ⟨F.len, fun A outer s H args us vs Q E _ hr => F.run A outer s H args us vs Q E hr⟩
/-- a def by its body, where no repr is under way -/
theorem okG {x qual : Str} {st : Stmt} {f : Addr} {fd : FuncData} {N ps : List Str} {k : Nat} {sp : Sp} (F : Fun K x qual st f fd) (S : FnScope N ps (defScope st))
    (len : ∀ vs H Q E, sp vs H Q E → vs.length = ps.length)
    (body : ∀ (cdv : Value) (A : Around) (outer : List Env) (s : Shared) (H : Hp) (vs : List V) (Q : VK) (E : XK), A.guards = some [] →
      Room k (A.deeper (envOfC qual (defScope st) s.heap.objs.size f cdv)) → sp vs H Q E →
      ∃ t, PSs (cxOf CX0 P w K mg base N qual (defScope st) f cdv A outer s H E).nox (defBody st) t ∧ t { nx := fun _ H' => Q .non H', rt := Q } (start N vs) H) :
    FnG P w K mg base (k + 1) f fd ps sp := by
  obtain ⟨oc, od, kV, doc, pm, an, cdv, ct, osl, rfl, lk, hcd⟩ := F.ex
  refine ⟨len, fun A outer s H args us vs Q E hg hr e0 hb r hsp => ?_⟩
  have hin : K.In s.heap := e0.mod.kin.keeps fun b o e => (e0.bs b o e).1
  have hlm : s.heap.NoLimit := e0.mod.nolimit.keeps fun b o e => (e0.bs b o e).1
  refine codeAny_call_function hr.depth (hin _ _ lk) rfl S.co S.gen rfl (PySem.W.codeRec_of hin hcd) (hb _ _ _ _ ?_)
  refine wpAny_newFunctionEnv_cells S.kind (fun ⟨n, v⟩ hy => ?_) fun env he s1 x => ?_
  · rcases S.par n (List.of_mem_zip hy).1 with q | q
    · exact .inl q
    · exact .inr ⟨q, PySem.W.cellsFrom_some _ _ _ (.inl q)⟩
  · subst he
    refine ⟨hlm.keeps x.toInCall.keep, codeAny_func ?_⟩
    obtain ⟨t, ht, hq⟩ := body cdv A outer s H vs Q E hg (hr.deeper _) hsp
    have I := inv_start (CX := CX0) (E := E) S hr.hd e0 (len _ _ _ _ hsp) r x
    refine wpAny_mono (ht.nox.run [] s1 (start N vs) H _ I hq) (fun fl s' hs => ?_) fun e s' hs => hs
    cases fl with
    | ret u => obtain ⟨v, σ', H', J, rv, q⟩ := hs; exact ⟨v, H', J.os, J.bare, J.base, J.hok, rv, q⟩
    | next => obtain ⟨σ', H', J, q⟩ := hs; exact ⟨V.non, H', J.os, J.bare, J.base, J.hok, rfl, q⟩
    | brk => obtain ⟨_, _, _, q⟩ := hs; exact q.elim
    | cont => obtain ⟨_, _, _, q⟩ := hs; exact q.elim
end
section
variable {X : Cx} {k : Nat} {f : Addr} {fd : FuncData} {ps : List Str} {sp : Sp} {x : Str} {p pos : Pos} {e : Expr} {es : List Expr} {t : TA}
/-- f(e, ..) of such a def -/
theorem pe_callG (F : FnG X.prog X.w X.K X.mg X.base k f fd ps sp) (gd : X.A.guards = some []) (hr : Room k X.A) (hg : Gl X x) (hm : X.mg x = some (.ref f)) (hk : PySem.W.keepIn X.K (.ref f) = true) (hb : Binds X.K fd ps [])
    (ha : PA X (e :: es) t) (hdb : (x == ("__debug__" : Str)) = false := by decide) (he : starEach (e :: es) X.env = (false, eval e X.env) :: starEach es X.env := by rfl)
    (hpl : (backTo pos (starEach es X.env)).any (·.1) = false := by rfl) : PE X (.Call (.Name x p) (e :: es) [] pos) (tCall sp [] E0 t) := by
  refine ⟨fun pins s σ H Q I h => wpAny_Call_Name_kw (ld_glob I hg hm ?_ hdb)⟩
  refine PySem.W.callWith_K (h₀ := X.base) I.ok.mod.kin hk (thn (ha.run pos pins s σ H _ I h) fun us s1 ⟨vs, H1, I1, r, q⟩ => ⟨I1.kIn, ?_⟩) he hpl
  have q1 : sp vs H1 Q E0 := by
    have q0 : sp (vs ++ []) H1 Q E0 := q
    rwa [List.append_nil] at q0
  have hl : us.length = ps.length := by rw [← r.length]; exact F.len _ _ _ _ q1
  have hb1 : BindsTo s1 fd ⟨us, []⟩ (ps.zip us) := by
    have := hb s1 us I1.kIn (by rw [List.append_nil]; exact hl)
    rwa [List.append_nil] at this
  refine wpAny_call (codeAny_mono (F.go X.A X.stack s1 H1 ⟨us, []⟩ us vs Q E0 gd hr I1.env0 hb1 r q1) fun r' s' hq => ?_)
  cases r' with
  | error e' => exact hq.elim
  | ok fl =>
    cases fl with
    | ret u => exact I1.after hq
    | next => exact hq.elim
    | brk => exact hq.elim
    | cont => exact hq.elim
end
def rRepr (K : PySem.W.Frag) : List V → Hp → VK → Prop := fun xs H Q => ∃ (a : Addr) (d : PyData), xs = [.ref a] ∧ Dp K H (.ref a) d ∧ d.showable = true ∧ d.hasDict = false ∧ d.depth ≤ 60 ∧ d.shown.length ≤ sizeLine ∧ Q (.str d.shown) H
theorem call_repr {X : Cx} {k : Nat} (gd : X.A.guards = some []) (hr : Room k X.A) : CallR X (.builtin "repr") (rRepr X.K) := by
  intro pins s σ H xs us Q I rv h
  obtain ⟨a, d, rfl, hd, hs, hn, hdep, hz, q⟩ := h
  obtain ⟨u, rfl, rx⟩ := vals1 rv
  cases rx
  obtain ⟨as, r⟩ := Dp.reads I d _ _ hd rfl
  exact repr_of_reads' r hs (PyData.noDict_hsm hn) gd (by have := hr.un; omega) (fun _ _ e => e) (fun h' t tk hk => ⟨.str d.shown, H, I.kept hk, ⟨t, rfl⟩, q⟩) hz
end Pr
namespace Pr
open PySem PySem.Spec PyProof.Rows L2
/-- a tuple of which it is known that it has no attributes of its own -/
def FT (H : Hp) (a : Addr) (xs : List V) : Prop := ∃ o : Obj, H a = some (.frz o (.tup xs)) ∧ o.dict = none
theorem FT.sq {K : PySem.W.Frag} {H : Hp} {a : Addr} {xs : List V} (h : FT H a xs) : SqT K H a xs := let ⟨o, e, _⟩ := h; .inl (.inr ⟨o, e⟩)
theorem FT.same {H H' : Hp} {a : Addr} {xs : List V} (e : Same H H') (h : FT H a xs) : FT H' a xs := let ⟨o, q, z⟩ := h; ⟨o, e _ _ q, z⟩
theorem same_sqT {K : PySem.W.Frag} {H H' : Hp} {a : Addr} {xs : List V} (e : Same H H') (h : SqT K H a xs) : SqT K H' a xs := by
  rcases h with (h | ⟨o, h⟩) | h
  · exact .inl (.inl (e _ _ h))
  · exact .inl (.inr ⟨o, e _ _ h⟩)
  · exact .inr h
section
variable {X : Cx}
def rTupF (K : PySem.W.Frag) : List V → Hp → VK → Prop := fun xs H Q => ∃ p ys, xs = [.ref p] ∧ SqL K H p ys ∧ ∀ l o, H l = none → o.dict = none → Q (.ref l) (upd H l (.frz o (.tup ys)))
theorem call_tupF : CallR X (.type "tuple") (rTupF X.K) := by
  intro pins s σ H xs us Q I r h
  obtain ⟨p, ys, rfl, hq, q⟩ := h
  obtain ⟨u, rfl, rx⟩ := vals1 r
  cases rx
  obtain ⟨its, r', pl, hz⟩ := I.list hq
  have hlen := r'.length
  refine call_tuple_list pl.isList (fun h' kp => ?_) (by simp only [List.size_toArray] <;> omega)
  have I1 : Inv X pins σ H { s with heap := h' } := I.kept (t' := s.toks) kp
  have I2 := I1.laid (t' := s.toks) (h' := h'.push { cls := .type "tuple", data := .seq its.toArray }) (a := h'.objs.size)
    (o := .frz { cls := .type "tuple", data := .seq its.toArray } (.tup ys)) (fun b o e => Heap.get?_push_of_some _ e) (Nat.le_refl _) ⟨Heap.get?_push_size _ rfl, hz, its, r', IsTup.new _ _⟩
  exact ⟨.ref h'.objs.size, _, I2, rfl, q _ _ (I1.hok.fresh (Nat.le_refl _)) rfl⟩
end
theorem tup_mul0 (l : Addr) (y : Value) (n : Nat) (dd : Option Addr) (sl : Array (Option Value)) (u : Tok) :
    Meets (Builtin.«tuple.__mul__» ⟨[.ref l, .int 0 u], []⟩) (fun _ R s => s.heap.get? l = some { cls := .type "tuple", dict := dd, data := .seq #[y] n, slots := sl } ∧
      R (.ok (.ret (Value.ref s.heap.objs.size))) { s with heap := s.heap.push { cls := Value.type "tuple", data := Data.seq #[] }, toks := s.toks }) :=
  .of_wp fun prog w A R s h => by
    obtain ⟨hp, g, d, tk, os⟩ := s
    obtain ⟨hl, h⟩ := h
    have f1 := AutoSeq1.idx_int
    wp_walk using AutoSeq1.wpAny_loadPart' hl
    exact ⟨_, rfl, h⟩
theorem tup_mul1 (l : Addr) (y : Value) (n : Nat) (dd : Option Addr) (sl : Array (Option Value)) (u : Tok) :
    Meets (Builtin.«tuple.__mul__» ⟨[.ref l, .int 1 u], []⟩) (fun _ R s => s.heap.get? l = some { cls := .type "tuple", dict := dd, data := .seq #[y] n, slots := sl } ∧ R (.ok (.ret (.ref l))) s) :=
  .of_wp fun prog w A R s h => by
    obtain ⟨hp, g, d, tk, os⟩ := s
    obtain ⟨hl, h⟩ := h
    have f1 := AutoSeq1.idx_int
    wp_walk using AutoSeq1.wpAny_loadPart' hl
    exact ⟨_, rfl, h⟩
section
variable {X : Cx}
def rRep1 (K : PySem.W.Frag) : R2 := fun x y H Q => ∃ l v, x = .ref l ∧ SqT K H l [v] ∧ ((y = .int 1 ∧ Q (.ref l) H) ∨ (y = .int 0 ∧ ∀ p, H p = none → Q (.ref p) (upd H p (.tup []))))
theorem op_rep1 : OpR X (binaryOp .Mult) (rRep1 X.K) := by
  intro pins s σ H x y v u Q I rx ry h
  obtain ⟨l, z, rfl, hT, h⟩ := h
  cases rx
  obtain ⟨its, r, ⟨⟨cls, dd, data, sl⟩, ho, hc, n, hd⟩, hs⟩ := I.tuple hT
  simp only at hc hd
  subst hc hd
  obtain ⟨a, rfl, ra⟩ := vals1 r
  rcases h with ⟨rfl, q⟩ | ⟨rfl, q⟩
  · obtain ⟨t, rfl⟩ := ry
    refine wpAny_binaryOp_repeat_ref (T := "tuple") (U := "int") (by decide) ⟨_, ho, rfl⟩ (fun s' => typeIs_int s' 1 t) noFill_tuple_mul F.fills_int_mul F.slot_int_rmul repeat_tuple F.slot_int_index.lookup
      (call_meets F.slot_int_rmul (typeIs_int s 1 t) F.entry_int_rmul (F.args_int_rmul_2 _ _) (int_rmul_tuple 1 t l #[a] n dd sl)
        ⟨ho, rfl, ⟨_, ho, rfl⟩, call_meets F.slot_tuple_mul ⟨_, ho, rfl⟩ F.entry_tuple_mul (F.args_tuple_mul_2 _ _) (tup_mul1 l a n dd sl t) ⟨ho, ?_⟩⟩)
    exact ⟨.ref l, H, I, rfl, q⟩
  · obtain ⟨t, rfl⟩ := ry
    refine wpAny_binaryOp_repeat_ref (T := "tuple") (U := "int") (by decide) ⟨_, ho, rfl⟩ (fun s' => typeIs_int s' 0 t) noFill_tuple_mul F.fills_int_mul F.slot_int_rmul repeat_tuple F.slot_int_index.lookup
      (call_meets F.slot_int_rmul (typeIs_int s 0 t) F.entry_int_rmul (F.args_int_rmul_2 _ _) (int_rmul_tuple 0 t l #[a] n dd sl)
        ⟨ho, rfl, ⟨_, ho, rfl⟩, call_meets F.slot_tuple_mul ⟨_, ho, rfl⟩ F.entry_tuple_mul (F.args_tuple_mul_2 _ _) (tup_mul0 l a n dd sl t) ⟨ho, ?_⟩⟩)
    refine ⟨.ref s.heap.objs.size, _, I.laid (t' := s.toks) (o := .tup []) (fun b ob q => Heap.get?_push_of_some _ q) (Nat.le_refl _) ?_, rfl, q _ (I.hok.fresh (Nat.le_refl _))⟩
    exact ⟨Nat.zero_le _, [], .nil, IsTup.new _ _⟩
end
theorem enum_newT (l : Addr) (items : Array Value) (n : Nat) (dct : Option Addr) (sl : Array (Option Value)) :
    Meets (Builtin.«enumerate.__new__» ⟨[.type "enumerate", .ref l], []⟩) (fun _ R s => s.heap.get? l = some { cls := .type "tuple", dict := dct, data := .seq items n, slots := sl } ∧
      R (.ok (.ret (.ref (s.heap.push { cls := .type "tuple_iterator", data := .fields #[.ref l, .int 0 0] }).objs.size)))
        { s with heap := (s.heap.push { cls := .type "tuple_iterator", data := .fields #[.ref l, .int 0 0] }).push { cls := .type "enumerate", data := .fields #[.none, .bool false, .ref s.heap.objs.size, rawInt 0, .none, .none] } }) :=
  .of_wp fun prog w A R s h => by
    obtain ⟨hp, g, d, tk, os⟩ := s; obtain ⟨hl, h⟩ := h
    have hsub := sub_enumerate
    have hL : Heap.IsTuple (Shared.heap ⟨hp, g, d, tk, os⟩) l items := ⟨_, hl, rfl, n, rfl⟩
    wp_walk using AutoSeq1.wpAny_loadPart' hl
    refine wpAny_stack_any fun st => wpAny_pure ?_
    split
    · rename_i c _ _ _ _ _
      cases (c == Value.type "enumerate") <;> (wp_walk using AutoSeq1.wpAny_loadPart' hl, wpAny_pyIter_tuple hL; exact ⟨_, rfl, h⟩)
    · wp_walk using AutoSeq1.wpAny_loadPart' hl, wpAny_pyIter_tuple hL
      exact ⟨_, rfl, h⟩
theorem call_enumT {prog : Program} {w : World} {A : Around} {E : Value → Shared → Prop} {s : Shared} {l : Addr} {items : Array Value} {Q : Value → Shared → Prop} (hL : s.heap.IsTuple l items)
    (h : ∀ h', IsEnum h' (s.heap.objs.size + 1) s.heap.objs.size 0 .none → h'.IsTupleIter s.heap.objs.size l 0 → h'.objs.size = s.heap.objs.size + 2 →
      (∀ b o, s.heap.get? b = some o → h'.get? b = some o) → Q (.ref (s.heap.objs.size + 1)) { s with heap := h' }) :
    wpAny (model prog w) A (call (.type "enumerate") [.ref l]) Q E s := by
  obtain ⟨⟨c, dct, dt, sl⟩, hl, hc, n, hd⟩ := hL
  simp only at hc hd
  subst hc hd
  refine callType_new F.called_enumerate (by decide) (F.typeCall_enumerate_1 _) (F.newCall_enumerate_1 _) (fun obj => F.args_object_init_2 obj _) F.entry_enumerate_new (enum_newT l items n dct sl) ⟨hl, ?_⟩
  generalize ho : ({ cls := .type "tuple_iterator", data := .fields #[.ref l, .int 0 0] } : Obj) = o1
  have f1 : o1.isFreed = false := by rw [← ho]; rfl
  generalize hp : ({ cls := .type "enumerate", data := .fields #[.none, .bool false, .ref s.heap.objs.size, rawInt 0, .none, .none] } : Obj) = o2
  have f2 : o2.isFreed = false := by rw [← hp]; rfl
  have hz : (s.heap.push o1).objs.size = s.heap.objs.size + 1 := Heap.size_push ..
  have hg := Heap.get?_push_size (s.heap.push o1) (o := o2) f2
  show _ ∧ _
  rw [hz] at hg ⊢
  have he : IsEnum ((s.heap.push o1).push o2) (s.heap.objs.size + 1) s.heap.objs.size 0 .none := by rw [hp.symm] at hg ⊢; exact hg
  refine ⟨⟨_, he, rfl⟩, h _ he ⟨_, Heap.get?_push_of_some _ (Heap.get?_push_size _ f1), by rw [← ho], by rw [← ho]; rfl⟩ (by rw [Heap.size_push, hz]) fun b o x => Heap.get?_push_of_some _ (Heap.get?_push_of_some _ x)⟩
/-- the tuple at a, each item in a new pair -/
def Itet (K : PySem.W.Frag) (a : Addr) : It :=
  ⟨fun i H => ∃ (xs : List V) (x : V), SqT K H a xs ∧ xs[i]? = some x, fun i H v H' => ∃ T x, v = .ref T ∧ H T = none ∧ H' = upd H T (.tup [.int (i : Nat), x]) ∧ ∀ xs, SqT K H a xs → xs[i]? = some x,
    fun i H => ∃ xs : List V, SqT K H a xs ∧ xs.length ≤ i⟩
theorem turn_enumT {P : Program} {w : World} {K : PySem.W.Frag} {elts : List Expr} {kk : Nat} {tpos : Pos} (a e it : Addr) :
    Turn P w K (.Tuple elts kk tpos) (Itet K a) [e, it] e (fun i h => (∃ old, IsEnum h e it ((i : Nat) : Int) old) ∧ h.IsTupleIter it a i ∧ e ≠ it) where
  mem := by simp
  obj := fun i h st b hb => by
    obtain ⟨⟨old, he⟩, ⟨o, ho, hc, hd⟩, _⟩ := st
    rcases (show b = e ∨ b = it by simpa using hb) with rfl | rfl
    · exact ⟨_, he, fun v q => nomatch q⟩
    · exact ⟨o, ho, fun v q => by rw [hd] at q; cases q⟩
  keep := fun i h h' st k => let ⟨⟨old, he⟩, hi, hne⟩ := st; ⟨⟨old, k e (by simp) _ he⟩, hi.at fun o q => k it (by simp) o q, hne⟩
  item := by
    intro X hP hw hK hc i pins s σ H E I hf st hg
    subst hP hw hK
    obtain ⟨⟨old, he⟩, hit, hne⟩ := st
    obtain ⟨xs, x, hq, hx⟩ := hg
    obtain ⟨its, rv, pt, hz⟩ := I.tuple hq
    have hT : s.heap.IsTuple a its.toArray := pt
    obtain ⟨u, hu, ru⟩ := rv.get hx
    have hel : e < s.heap.objs.size := Heap.lt_size he
    have hil : it < s.heap.objs.size := by obtain ⟨_, q, _⟩ := hit; exact Heap.lt_size q
    have nai : a ≠ it := fun z => by
      subst z
      obtain ⟨o1, q1, c1, _⟩ := hit
      obtain ⟨o2, q2, c2, _⟩ := hT
      rw [q1] at q2; cases q2
      rw [c1] at c2; exact absurd c2 (by decide)
    have nea : e ≠ a := fun z => by
      subst z
      obtain ⟨o2, q2, c2, _⟩ := hT
      have he' : s.heap.get? e = _ := he
      rw [he'] at q2; cases q2
      exact absurd (show Value.type "enumerate" = Value.type "tuple" from c2) (by decide)
    have hi : i < its.toArray.size := by
      have := (List.getElem?_eq_some_iff.mp hu).1
      simpa using this
    refine wpAny_pyNext_enum_itemD (Draws.tuple (A := X.A.in1) (I.ok.hd hc) it a nai its.toArray) he ⟨hit, hT⟩ hi hne (by simp [hne, nea]) fun y h' tk hy ho hit' hT' hsz hk => ?_
    obtain rfl : y = u := by
      have hy' : its.toArray[i]? = some y := hy
      rw [List.getElem?_toArray, hu] at hy'
      exact (Option.some.inj hy').symm
    refine ⟨_, rfl, wpAny_letOwnedTupleGo_enum (s := { s with heap := h', toks := tk + 1 }) ho fun h'' he' sb => ?_⟩
    have hT2 : h''.get? s.heap.objs.size = some { cls := .type "tuple", data := .seq #[.int i tk, y] } := (sb.2 _ (Nat.ne_of_gt hel)).trans hT'
    have new : ObjOk X.prog X.w (upd H s.heap.objs.size (.tup [.int (i : Nat), x])) h'' s.heap.objs.size (.tup [.int (i : Nat), x]) :=
      ⟨by show 2 ≤ sizeLine; decide, [.int i tk, y], .cons ⟨_, rfl⟩ (.cons ru .nil), ⟨_, hT2, rfl, _, rfl⟩⟩
    have I1 := I.turnedNew (t' := tk + 1) (ch := [e, it]) (fun b ob hb q => (sb.2 b (fun z => hb (by simp [z]))).trans (hk b ob (fun z => hb (by simp [z])) (fun z => hb (by simp [z])) q)) hf (Nat.le_refl _) new
    refine ⟨.ref s.heap.objs.size, _, I1, rfl, ⟨_, x, rfl, I.hok.fresh (Nat.le_refl _), rfl, fun ys hys => by rw [I.tuple_inj hys hq]; exact hx⟩, ⟨⟨y, ?_⟩, hit'.1.at fun o q => (sb.2 it (Ne.symm hne)).trans q, hne⟩, fun b hb => ?_⟩
    · rw [show ((i + 1 : Nat) : Int) = (i : Int) + 1 by omega]; exact he'
    · have hb' : b < s.heap.objs.size := by
        rcases (show b = e ∨ b = it by simpa using hb) with rfl | rfl
        · exact hel
        · exact hil
      rw [upd_ne (Nat.ne_of_lt hb')]
      exact (hf b hb).1
  done := by
    intro X hP hw hK hc i pins s σ H E I hf st hg
    subst hP hw hK
    obtain ⟨⟨old, he⟩, hit, hne⟩ := st
    obtain ⟨xs, hq, hx⟩ := hg
    obtain ⟨its, rv, pt, hz⟩ := I.tuple hq
    have hT : s.heap.IsTuple a its.toArray := pt
    obtain ⟨f0, f1, f2, f3, f4, f5⟩ := hf it (by simp)
    have hl := rv.length
    have hT : s.TypeIs (.ref e) "enumerate" := ⟨_, he, rfl⟩
    unfold pyNext
    refine wpAny_bind (wpAny_attempt (wpAny_callSpecial?_slot (name := Str.ofString "__next__") hT F.slot_enumerate_next (wpAny_call_entry F.slot_enumerate_next hT F.entry_enumerate_next ?_ (F.args_enumerate_next_1 _))))
    show wpAny _ _ (field (.ref e) 2 >>= _) _ _ _
    refine wpAny_bind (wpAny_field he rfl (x := .ref it) rfl ?_)
    refine wpAny_bind (wpAny_nextOf_tuple_end (I.ok.hd hc) hit pt (by simp; omega) fun h' x eb hx' => ?_)
    obtain ⟨o, ho, hcx⟩ := hx'
    refine wpAny_bind (wpAny_isInstance (T := "StopIteration") (b := true) ⟨o, ho, hcx⟩ isSubtype_stop ?_)
    exact wpAny_pure ⟨rfl, I.turned (t' := s.toks) (fun b o hb q => eb b o hb q) f0 f1 f3 f4 f5⟩
  self := fun A i s Q E st h => let ⟨⟨_, he⟩, _⟩ := st; wpAny_pyIter_enum he h
def iEnumT (K : PySem.W.Frag) (ta : TA) : TI := fun σ H R => ta σ H fun vs H1 => ∃ a xs, vs = [.ref a] ∧ SqT K H1 a xs ∧ R (Itet K a) H1
theorem pi_enumT {X : Cx} {e : Expr} {ta : TA} {p pos tpos : Pos} {elts : List Expr} {kk : Nat} (hg : Gl X "enumerate") (hm : X.mg "enumerate" = none) (ha : PA X [e] ta)
    (hs : starEach [e] X.env = [(false, eval e X.env)] := by rfl) : PI X (.Tuple elts kk tpos) (.Call (.Name "enumerate" p) [e] [] pos) (iEnumT X.K ta) := by
  refine ⟨fun pins s σ H R I h => Call_ (ld_blt I hg hm boot_enumerate (PyProof.Rows.callWith_type1 (thn (ha.run pos pins s σ H _ I h) fun us s1 ⟨vs, H1, I1, r1, a, xs, ex, hq, q⟩ => ?_) hs rfl))⟩
  subst ex
  obtain ⟨u, rfl, rx⟩ := vals1 r1
  cases rx
  obtain ⟨its, rv, pt, hz⟩ := I1.tuple hq
  refine call_enumT pt fun h' he hit hsz hk => wpAny_pyIter_enum he ?_
  refine ⟨s1.heap.objs.size + 1, [s1.heap.objs.size + 1, s1.heap.objs.size], _, _, H1, rfl, I1.kept (t' := s1.toks) hk, turn_enumT a (s1.heap.objs.size + 1) s1.heap.objs.size, ⟨⟨.none, he⟩, hit, Nat.succ_ne_self _⟩, fun b hb => ?_, q⟩
  have hle : s1.heap.objs.size ≤ b := by
    rcases (show b = s1.heap.objs.size + 1 ∨ b = s1.heap.objs.size by simpa using hb) with rfl | rfl
    · exact Nat.le_add_right _ _
    · exact Nat.le_refl _
  exact I1.fpOk hle (I1.hok.fresh hle)
theorem walk_enumT {K : PySem.W.Frag} {a : Addr} {xs : List V} : Walk (Itet K a) xs.length (fun H => SqT K H a xs) (YPair (fun i => some (.int (i : Nat))) (fun i => xs[i]?)) := by
  refine ⟨fun i _ hi q => ⟨xs, xs[i], q, by simp [hi]⟩, fun _ q => ⟨xs, q, Nat.le_refl _⟩, fun i H v H' _ q y => ?_⟩
  obtain ⟨T, x, h1, h2, h3, h4⟩ := y
  exact ⟨T, .int (i : Nat), x, h1, h2, h3, rfl, h4 xs q⟩
end Pr
namespace Pr
open PySem PySem.Spec PyProof.Rows L2
structure Shw (dep n : Nat) (d : PyData) : Prop where
  sh : d.showable = true
  nd : d.hasDict = false
  dp : d.depth ≤ dep
  ln : d.shown.length ≤ n
theorem Shw.mono {dep dep' n n' : Nat} {d : PyData} (h : Shw dep n d) (h1 : dep ≤ dep') (h2 : n ≤ n') : Shw dep' n' d := ⟨h.sh, h.nd, Nat.le_trans h.dp h1, Nat.le_trans h.ln h2⟩
theorem Shw.int {i : Int} {k : Nat} (h0 : 0 ≤ i) (hk : 0 < k) (hk2 : k ≤ 100) (h : i < 10 ^ k) : Shw 0 k (.int i) := by
  refine ⟨?_, by simp only [PyData.hasDict], by simp [PyData.depth], ?_⟩
  · simp only [PyData.showable, decide_eq_true_eq]
    by_cases hz : i.natAbs = 0
    · rw [hz]; decide
    · refine (Nat.log2_lt hz).mpr ?_
      have h1 : (i.natAbs : Int) < ((10 ^ k : Nat) : Int) := by
        rw [Int.natCast_pow]
        have : ((i.natAbs : Nat) : Int) = i := Int.natAbs_of_nonneg h0
        rw [this]; exact h
      have h2 : i.natAbs < 10 ^ k := by exact_mod_cast h1
      have h3 : (10 : Nat) ^ k ≤ 10 ^ 100 := Nat.pow_le_pow_right (by decide) hk2
      have h4 : (10 : Nat) ^ 100 < 2 ^ 1920 := by decide +kernel
      omega
  · simp only [PyData.shown]
    exact toString_length_le h0 hk h
theorem shownAll_map : ∀ ds : List PyData, PyData.shownAll ds = ds.map PyData.shown
  | [] => rfl
  | d :: r => by simp only [PyData.shownAll, List.map_cons, shownAll_map r]
theorem piled_le {n : Nat} : ∀ {ds : List PyData}, (∀ d ∈ ds, d.shown.length ≤ n) → piled (ds.map PyData.shown) ≤ ds.length * (n + 2)
  | [], _ => by simp [piled_nil]
  | d :: r, h => by
    have h1 := piled_le (ds := r) fun x hx => h x (List.mem_cons_of_mem _ hx)
    have h2 := h d List.mem_cons_self
    rw [List.map_cons, piled_cons, List.length_cons, Nat.succ_mul]
    omega
theorem showAll_of {dep n : Nat} : ∀ {ds : List PyData}, (∀ d ∈ ds, Shw dep n d) → PyData.showableAll ds = true ∧ PyData.hasDictAll ds = false ∧ PyData.depthAll ds ≤ dep
  | [], _ => ⟨by simp only [PyData.showableAll], by simp only [PyData.hasDictAll], by simp [PyData.depthAll]⟩
  | d :: r, h => by
    obtain ⟨h1, h2, h3⟩ := showAll_of (ds := r) fun x hx => h x (List.mem_cons_of_mem _ hx)
    have g := h d List.mem_cons_self
    refine ⟨by simp only [PyData.showableAll, g.sh, h1, Bool.and_self], by simp only [PyData.hasDictAll, g.nd, h2, Bool.or_self], ?_⟩
    simp only [PyData.depthAll]
    exact Nat.max_le.mpr ⟨g.dp, h3⟩
theorem tupleText_len (ts : List Str) : (tupleText ts).length ≤ piled ts + 3 := by
  unfold tupleText
  rw [strLen_append, strLen_append]
  have e1 : (("(" : Str)).length = 1 := by decide +kernel
  have e2 : ((if ts.length == 1 then ",)" else ")" : String) : Str).length ≤ 2 := by
    cases ts.length == 1 <;> decide +kernel
  by_cases h : ts = []
  · subst h
    have : (Str.join ", " ([] : List Str)).length = 0 := by decide +kernel
    omega
  · have := join_length_add ts h
    omega
theorem textFrom_le : ∀ (ts : List Str) (k : Nat) (acc : Str), (textFrom k acc ts).length ≤ acc.length + piled ts
  | [], k, acc => by simp [textFrom, piled_nil]
  | t :: r, k, acc => by
    have h := textFrom_le r (k + 1) (acc ++ (if k > 0 then ", " else "" : String) ++ t)
    rw [piled_cons]
    show (textFrom (k + 1) _ r).length ≤ _
    have e : ((if k > 0 then ", " else "" : String) : Str).length ≤ 2 := by split <;> decide +kernel
    rw [strLen_append, strLen_append] at h
    omega
theorem listText_len (ts : List Str) : (listText ts).length ≤ piled ts + 2 := by
  unfold listText
  rw [strLen_append]
  have h := textFrom_le ts 0 "["
  have e1 : (("[" : Str)).length = 1 := by decide +kernel
  have e2 : (("]" : Str)).length = 1 := by decide +kernel
  omega
theorem Shw.tuple {dep n m : Nat} {ds : List PyData} (h : ∀ d ∈ ds, Shw dep n d) (hm : ds.length ≤ m) : Shw (dep + 1) (m * (n + 2) + 3) (.tuple ds) := by
  obtain ⟨h1, h2, h3⟩ := showAll_of h
  refine ⟨by simp only [PyData.showable, h1], by simp only [PyData.hasDict, h2], by simp only [PyData.depth]; omega, ?_⟩
  simp only [PyData.shown]
  rw [shownAll_map]
  have a1 := tupleText_len (ds.map PyData.shown)
  have a2 := piled_le fun d hd => (h d hd).ln
  have a3 : ds.length * (n + 2) ≤ m * (n + 2) := Nat.mul_le_mul_right _ hm
  omega
theorem Shw.list {dep n m : Nat} {ds : List PyData} (h : ∀ d ∈ ds, Shw dep n d) (hm : ds.length ≤ m) : Shw (dep + 1) (m * (n + 2) + 3) (.list ds) := by
  obtain ⟨h1, h2, h3⟩ := showAll_of h
  refine ⟨by simp only [PyData.showable, h1], by simp only [PyData.hasDict, h2], by simp only [PyData.depth]; omega, ?_⟩
  simp only [PyData.shown]
  rw [shownAll_map]
  have a1 := listText_len (ds.map PyData.shown)
  have a2 := piled_le fun d hd => (h d hd).ln
  have a3 : ds.length * (n + 2) ≤ m * (n + 2) := Nat.mul_le_mul_right _ hm
  omega
/-- only what stands at a and c may have changed -/
def But (a c : Addr) (H H' : Hp) : Prop := ∀ b o, b ≠ a → b ≠ c → H b = some o → H' b = some o
theorem But.refl (a c : Addr) (H : Hp) : But a c H H := fun _ _ _ _ h => h
theorem But.trans {a c : Addr} {H H1 H2 : Hp} (x : But a c H H1) (y : But a c H1 H2) : But a c H H2 := fun b o h1 h2 h => y b o h1 h2 (x b o h1 h2 h)
theorem But.of {a c : Addr} {H H' : Hp} (x : Same H H') : But a c H H' := fun b o _ _ h => x b o h
theorem same_new {H : Hp} {p : Addr} {o : HO} (h : H p = none) : Same H (upd H p o) := fun b x e => by
  rw [upd_ne (ne_of_none e h)]; exact e
/-- the deck at a, its cells at c, m draws may still be made -/
def Deck (H : Hp) (a c : Addr) (m : Nat) : Prop :=
  ∃ (cells : List Int) (n : Nat), H a = some (.lst [.ref c, .int (n : Int)]) ∧ H c = some (.lst (cells.map V.int)) ∧ a ≠ c ∧ cells.length ≤ 63 ∧ n + m ≤ 1000000
theorem Deck.same {H H' : Hp} {a c : Addr} {m : Nat} (e : Same H H') (h : Deck H a c m) : Deck H' a c m :=
  let ⟨cs, n, h1, h2, h3⟩ := h; ⟨cs, n, e _ _ h1, e _ _ h2, h3⟩
theorem Deck.less {H : Hp} {a c : Addr} {m m' : Nat} (h : Deck H a c m) (z : m' ≤ m) : Deck H a c m' :=
  let ⟨cs, n, h1, h2, h3, h4, h5⟩ := h; ⟨cs, n, h1, h2, h3, h4, by omega⟩
theorem Deck.apart {H : Hp} {a c : Addr} {m : Nat} (h : Deck H a c m) {b : Addr} {o : HO} (e : H b = some o) (ho : ∀ xs, o ≠ .lst xs) : b ≠ a ∧ b ≠ c := by
  obtain ⟨cs, n, h1, h2, _⟩ := h
  exact ⟨ne_of e h1 (ho _), ne_of e h2 (ho _)⟩
theorem Deck.fresh {H : Hp} {a c : Addr} {m : Nat} (h : Deck H a c m) {b : Addr} (e : H b = none) : b ≠ a ∧ b ≠ c := by
  obtain ⟨cs, n, h1, h2, _⟩ := h
  exact ⟨Ne.symm (ne_of_none h1 e), Ne.symm (ne_of_none h2 e)⟩
theorem FT.but {H H' : Hp} {a c p : Addr} {m : Nat} {xs : List V} (d : Deck H a c m) (b : But a c H H') (h : FT H p xs) : FT H' p xs := by
  obtain ⟨o, e, z⟩ := h
  have q := d.apart e (fun _ => by intro z; cases z)
  exact ⟨o, b _ _ q.1 q.2 e, z⟩
/-- a panel at p -/
def PanAt (H : Hp) (p : Addr) (pan : List (List Int)) : Prop := ∃ qs : List Addr, FT H p (qs.map V.ref) ∧ Paired (fun q l => FT H q (l.map V.int)) qs pan
theorem PanAt.same {H H' : Hp} {p : Addr} {pan : List (List Int)} (e : Same H H') (h : PanAt H p pan) : PanAt H' p pan :=
  let ⟨qs, h1, h2⟩ := h; ⟨qs, h1.same e, h2.mono fun _ _ x => x.same e⟩
theorem PanAt.but {H H' : Hp} {a c p : Addr} {m : Nat} {pan : List (List Int)} (d : Deck H a c m) (b : But a c H H') (h : PanAt H p pan) : PanAt H' p pan :=
  let ⟨qs, h1, h2⟩ := h; ⟨qs, h1.but d b, h2.mono fun _ _ x => x.but d b⟩
theorem paired_get {α β : Type} {F : α → β → Prop} : ∀ {l1 : List α} {l2 : List β}, Paired F l1 l2 → ∀ (i : Nat) (y : β), l2[i]? = some y → ∃ x, l1[i]? = some x ∧ F x y
  | _, _, .nil, i, y, h => by simp at h
  | _, _, .cons r t, 0, y, h => by simp at h; subst h; exact ⟨_, rfl, r⟩
  | _, _, .cons r t, i + 1, y, h => by
    obtain ⟨x, h1, h2⟩ := paired_get t i y (by simpa using h)
    exact ⟨x, by simpa using h1, h2⟩
/-- what the document calls a panel of at most ten buttons -/
structure Good (pan : List (List Int)) : Prop where
  pos : 1 ≤ pan.length
  few : pan.length ≤ 10
  up : ∀ l ∈ pan, l.Pairwise (· < ·)
  rng : ∀ l ∈ pan, ∀ x ∈ l, 0 ≤ x ∧ x < (pan.length : Int)
  own : ∀ (i : Nat) (l : List Int), pan[i]? = some l → (i : Int) ∉ l
def dInts (l : List Int) : PyData := .tuple (l.map PyData.int)
def dPan (pan : List (List Int)) : PyData := .tuple (pan.map dInts)
section
variable {K : PySem.W.Frag} {H : Hp}
theorem dpAll_ints : ∀ l : List Int, DpAll K H (l.map V.int) (l.map PyData.int)
  | [] => .nil
  | x :: r => .cons (.int x) (dpAll_ints r)
theorem dp_ints {q : Addr} {l : List Int} (h : SqT K H q (l.map V.int)) : Dp K H (.ref q) (dInts l) := .tup h (dpAll_ints l)
theorem dpAll_pan : ∀ {qs : List Addr} {pan : List (List Int)}, Paired (fun q l => FT H q (l.map V.int)) qs pan → DpAll K H (qs.map V.ref) (pan.map dInts)
  | _, _, .nil => .nil
  | _, _, .cons r t => .cons (dp_ints r.sq) (dpAll_pan t)
theorem PanAt.dp {p : Addr} {pan : List (List Int)} (h : PanAt H p pan) : Dp K H (.ref p) (dPan pan) := by
  obtain ⟨qs, h1, h2⟩ := h
  exact .tup h1.sq (dpAll_pan h2)
end
theorem pw_length {n : Nat} : ∀ {l : List Int} {lo : Int}, l.Pairwise (· < ·) → (∀ x ∈ l, lo ≤ x ∧ x < lo + n) → l.length ≤ n := by
  induction n with
  | zero =>
    intro l lo _ h
    cases l with
    | nil => exact Nat.le_refl _
    | cons x r => have := h x List.mem_cons_self; omega
  | succ n ih =>
    intro l lo hp h
    cases l with
    | nil => exact Nat.zero_le _
    | cons x r =>
      have hx := h x List.mem_cons_self
      rw [List.pairwise_cons] at hp
      have := ih (l := r) (lo := lo + 1) hp.2 fun y hy => by
        have h1 := hp.1 y hy
        have h2 := h y (List.mem_cons_of_mem _ hy)
        omega
      rw [List.length_cons]; omega
theorem shw_ints {l : List Int} {m : Nat} (hl : l.length ≤ m) (h : ∀ x ∈ l, 0 ≤ x ∧ x < 10) : Shw 1 (m * 3 + 3) (dInts l) := by
  refine Shw.tuple (fun d hd => ?_) (by rw [List.length_map]; exact hl)
  obtain ⟨x, hx, rfl⟩ := List.mem_map.mp hd
  exact Shw.int (h x hx).1 (by decide) (by decide) (h x hx).2
theorem Good.shw {pan : List (List Int)} (g : Good pan) : Shw 2 353 (dPan pan) := by
  have := Shw.tuple (dep := 1) (n := 33) (m := 10) (ds := pan.map dInts) (fun d hd => ?_) (by rw [List.length_map]; exact g.few)
  · exact this
  · obtain ⟨l, hl, rfl⟩ := List.mem_map.mp hd
    have hf := g.few
    refine shw_ints (m := 10) (pw_length (n := 10) (lo := 0) (g.up l hl) fun x hx => ?_) fun x hx => ?_
    · have := g.rng l hl x hx; omega
    · have := g.rng l hl x hx; omega
end Pr
namespace Pr
open PySem PySem.Spec PyProof.Rows L2
def intL (n : Nat) : List Int := (List.range n).map fun i : Nat => (i : Int)
theorem mem_intL {n : Nat} {x : Int} : x ∈ intL n ↔ 0 ≤ x ∧ x < (n : Int) := by
  unfold intL
  rw [List.mem_map]
  constructor
  · rintro ⟨i, hi, rfl⟩
    have := List.mem_range.mp hi
    omega
  · rintro ⟨h0, h1⟩
    exact ⟨x.toNat, List.mem_range.mpr (by omega), Int.toNat_of_nonneg h0⟩
theorem intL_up (n : Nat) : (intL n).Pairwise (· < ·) := by
  unfold intL
  rw [List.pairwise_map]
  exact List.pairwise_lt_range.imp fun {a b} (h : a < b) => by omega
/-- a state of n buttons -/
structure Asc (n : Nat) (st : List Int) : Prop where
  up : st.Pairwise (· < ·)
  rng : ∀ x ∈ st, 0 ≤ x ∧ x < (n : Int)
theorem Asc.nil (n : Nat) : Asc n [] := ⟨List.Pairwise.nil, fun _ h => by cases h⟩
theorem Asc.full (n : Nat) : Asc n (intL n) := ⟨intL_up n, fun _ h => mem_intL.mp h⟩
theorem Asc.filter (n : Nat) (f : Int → Bool) : Asc n ((intL n).filter f) := ⟨(intL_up n).filter f, fun _ h => mem_intL.mp (List.mem_filter.mp h).1⟩
theorem Asc.len {n : Nat} {st : List Int} (h : Asc n st) : st.length ≤ n := pw_length (lo := 0) h.up fun x hx => by have := h.rng x hx; omega
theorem asc_ext : ∀ {l1 l2 : List Int}, l1.Pairwise (· < ·) → l2.Pairwise (· < ·) → (∀ x, x ∈ l1 ↔ x ∈ l2) → l1 = l2
  | [], [], _, _, _ => rfl
  | [], y :: r, _, _, h => absurd ((h y).mpr List.mem_cons_self) (by simp)
  | x :: r, [], _, _, h => absurd ((h x).mp List.mem_cons_self) (by simp)
  | x :: r, y :: t, h1, h2, h => by
    rw [List.pairwise_cons] at h1 h2
    have exy : x = y := by
      rcases List.mem_cons.mp ((h x).mp List.mem_cons_self) with e | e
      · exact e
      · rcases List.mem_cons.mp ((h y).mpr List.mem_cons_self) with e' | e'
        · exact e'.symm
        · have a1 := h2.1 x e
          have a2 := h1.1 y e'
          omega
    subst exy
    have : r = t := asc_ext h1.2 h2.2 fun z => by
      constructor
      · intro hz
        rcases List.mem_cons.mp ((h z).mp (List.mem_cons_of_mem _ hz)) with e | e
        · have := h1.1 z hz; omega
        · exact e
      · intro hz
        rcases List.mem_cons.mp ((h z).mpr (List.mem_cons_of_mem _ hz)) with e | e
        · have := h2.1 z hz; omega
        · exact e
    rw [this]
theorem Asc.eq {n : Nat} {st : List Int} (h : Asc n st) : (intL n).filter (fun x => decide (x ∈ st)) = st :=
  asc_ext ((intL_up n).filter _) h.up fun x => by
    rw [List.mem_filter, decide_eq_true_eq, mem_intL]
    exact ⟨fun q => q.2, fun q => ⟨h.rng x q, q⟩⟩
def pressM (pan : List (List Int)) (st : List Int) (b : Int) : List Int := (intL pan.length).filter fun x => decide (x = b ∨ (x ∈ st ∧ x ∉ pan.getD b.toNat []))
theorem pressM_asc (pan : List (List Int)) (st : List Int) (b : Int) : Asc pan.length (pressM pan st b) := Asc.filter _ _
theorem mem_pressM {pan : List (List Int)} {st : List Int} {b x : Int} : x ∈ pressM pan st b ↔ (0 ≤ x ∧ x < (pan.length : Int)) ∧ (x = b ∨ (x ∈ st ∧ x ∉ pan.getD b.toNat [])) := by
  unfold pressM
  rw [List.mem_filter, decide_eq_true_eq, mem_intL]
/-- what press_button makes: the kept ones and the button, sorted -/
theorem press_sorted {pan : List (List Int)} {st : List Int} {b : Int} {ns : List Int} (hs : Asc pan.length st) (h0 : 0 ≤ b) (h1 : b < (pan.length : Int))
    (hp : ns.Perm (st.filter (fun x => decide (x ≠ b ∧ x ∉ pan.getD b.toNat [])) ++ [b])) (hle : ns.Pairwise (· ≤ ·)) : ns = pressM pan st b := by
  have nd0 : (st.filter (fun x => decide (x ≠ b ∧ x ∉ pan.getD b.toNat [])) ++ [b]).Nodup := by
    refine List.nodup_append.mpr ⟨(hs.up.imp fun {x y} (q : x < y) => by omega : st.Nodup).filter _, by simp, fun x hx y hy e => ?_⟩
    rw [List.mem_singleton] at hy
    have := (List.mem_filter.mp hx).2
    rw [decide_eq_true_eq] at this
    exact this.1 (e.trans hy)
  have nd : ns.Nodup := hp.nodup_iff.mpr nd0
  have up : ns.Pairwise (· < ·) := (hle.and nd).imp fun {x y} (q : x ≤ y ∧ x ≠ y) => by omega
  refine asc_ext up (pressM_asc pan st b).up fun x => ?_
  rw [hp.mem_iff, mem_pressM, List.mem_append, List.mem_filter, decide_eq_true_eq, List.mem_singleton]
  constructor
  · rintro (⟨a1, a2⟩ | a)
    · exact ⟨hs.rng x a1, .inr ⟨a1, a2.2⟩⟩
    · subst a; exact ⟨⟨h0, h1⟩, .inl rfl⟩
  · rintro ⟨_, a | a⟩
    · exact .inr a
    · by_cases e : x = b
      · exact .inr e
      · exact .inl ⟨a.1, e, a.2⟩
end Pr
namespace Pr
open PySem PySem.Spec PyProof.Rows L2
mutual
inductive Dq (K : PySem.W.Frag) (N : Addr → Prop) (H : Hp) : V → PyData → Prop
  | non : Dq K N H .non .none
  | bl (b : Bool) : Dq K N H (.bl b) (.bool b)
  | int (i : Int) : Dq K N H (.int i) (.int i)
  | str (x : Str) : Dq K N H (.str x) (.str x)
  | lst {l : Addr} {xs : List V} {ds : List PyData} : l ≠ sysModules → ¬ N l → H l = some (.lst xs) → DqAll K N H xs ds → Dq K N H (.ref l) (.list ds)
  | tup {l : Addr} {xs : List V} {ds : List PyData} : SqT K H l xs → DqAll K N H xs ds → Dq K N H (.ref l) (.tuple ds)
  | dct0 {l : Addr} : H l = some (.dK []) → Dq K N H (.ref l) (.dict [])
  | dct1 {l : Addr} {x : Str} {i : Int} : H l = some (.dK [(Sum.inr x, .int i)]) → Dq K N H (.ref l) (.dict [(.str x, .int i)])
  | dctN {l : Addr} {x : Str} : H l = some (.dK [(Sum.inr x, .non)]) → Dq K N H (.ref l) (.dict [(.str x, .none)])
  | dct2 {l : Addr} {x y : Str} {i j : Int} : H l = some (.dK [(Sum.inr x, .int i), (Sum.inr y, .int j)]) → Dq K N H (.ref l) (.dict [(.str x, .int i), (.str y, .int j)])
inductive DqAll (K : PySem.W.Frag) (N : Addr → Prop) (H : Hp) : List V → List PyData → Prop
  | nil : DqAll K N H [] []
  | cons {v : V} {vs : List V} {d : PyData} {ds : List PyData} : Dq K N H v d → DqAll K N H vs ds → DqAll K N H (v :: vs) (d :: ds)
end
section
variable {K : PySem.W.Frag} {N : Addr → Prop} {a c : Addr} {H H' : Hp}
theorem DqAll.length : ∀ {vs : List V} {ds : List PyData}, DqAll K N H vs ds → vs.length = ds.length
  | _, _, .nil => rfl
  | _, _, .cons _ t => by rw [List.length_cons, List.length_cons, t.length]
theorem DqAll.append : ∀ {vs us : List V} {ds es : List PyData}, DqAll K N H vs ds → DqAll K N H us es → DqAll K N H (vs ++ us) (ds ++ es)
  | _, _, _, _, .nil, h => h
  | _, _, _, _, .cons r t, h => .cons r (t.append h)
theorem DqAll.get : ∀ {vs : List V} {ds : List PyData}, DqAll K N H vs ds → ∀ (i : Nat) (v : V), vs[i]? = some v → ∃ d, ds[i]? = some d ∧ Dq K N H v d
  | _, _, .nil, i, v, h => by simp at h
  | _, _, .cons r t, 0, v, h => by simp at h; subst h; exact ⟨_, rfl, r⟩
  | _, _, .cons r t, i + 1, v, h => by
    obtain ⟨d, h1, h2⟩ := t.get i v (by simpa using h)
    exact ⟨d, by simpa using h1, h2⟩
theorem DqAll.take : ∀ (n : Nat) {vs : List V} {ds : List PyData}, DqAll K N H vs ds → DqAll K N H (vs.take n) (ds.take n)
  | 0, _, _, _ => by simpa using DqAll.nil
  | n + 1, _, _, .nil => .nil
  | n + 1, _, _, .cons r t => .cons r (t.take n)
theorem DqAll.drop : ∀ (n : Nat) {vs : List V} {ds : List PyData}, DqAll K N H vs ds → DqAll K N H (vs.drop n) (ds.drop n)
  | 0, _, _, h => h
  | n + 1, _, _, .nil => .nil
  | n + 1, _, _, .cons r t => t.drop n
theorem DqAll.rep (n : Nat) {vs : List V} {ds : List PyData} (h : DqAll K N H vs ds) : DqAll K N H (List.replicate n vs).flatten (List.replicate n ds).flatten := by
  induction n with
  | zero => exact .nil
  | succ n ih => rw [List.replicate_succ, List.replicate_succ, List.flatten_cons, List.flatten_cons]; exact h.append ih
theorem dqAll_ints : ∀ l : List Int, DqAll K N H (l.map V.int) (l.map PyData.int)
  | [] => .nil
  | x :: r => .cons (.int x) (dqAll_ints r)
theorem dq_ints {q : Addr} {l : List Int} (h : SqT K H q (l.map V.int)) : Dq K N H (.ref q) (dInts l) := .tup h (dqAll_ints l)
mutual
theorem Dq.keep (hs : ∀ l o, ¬ N l → H l = some o → H' l = some o) (ht : ∀ l xs, SqT K H l xs → SqT K H' l xs) (hk : ∀ l kvs, H l = some (.dK kvs) → H' l = some (.dK kvs)) : ∀ (d : PyData) (v : V), Dq K N H v d → Dq K N H' v d
  | .none, _, h => by cases h; exact .non
  | .bool b, _, h => by cases h; exact .bl b
  | .int i, _, h => by cases h; exact .int i
  | .str x, _, h => by cases h; exact .str x
  | .list ds, _, h => by
    cases h with
    | lst h1 h2 e q => exact .lst h1 h2 (hs _ _ h2 e) (Dq.keepAll hs ht hk ds _ q)
  | .tuple ds, _, h => by
    cases h with
    | tup e q => exact .tup (ht _ _ e) (Dq.keepAll hs ht hk ds _ q)
  | .dict kvs, _, h => by
    cases h with
    | dct0 e => exact .dct0 (hk _ _ e)
    | dct1 e => exact .dct1 (hk _ _ e)
    | dctN e => exact .dctN (hk _ _ e)
    | dct2 e => exact .dct2 (hk _ _ e)
theorem Dq.keepAll (hs : ∀ l o, ¬ N l → H l = some o → H' l = some o) (ht : ∀ l xs, SqT K H l xs → SqT K H' l xs) (hk : ∀ l kvs, H l = some (.dK kvs) → H' l = some (.dK kvs)) : ∀ (ds : List PyData) (vs : List V), DqAll K N H vs ds → DqAll K N H' vs ds
  | [], _, h => by cases h; exact .nil
  | d :: ds, _, h => by
    cases h with
    | cons r t => exact .cons (Dq.keep hs ht hk d _ r) (Dq.keepAll hs ht hk ds _ t)
end
theorem Deck.sqT {m : Nat} (D : Deck H a c m) (b : But a c H H') {l : Addr} {xs : List V} (h : SqT K H l xs) : SqT K H' l xs := by
  rcases h with (h | ⟨o, h⟩) | h
  · exact .inl (.inl (b _ _ (D.apart h (fun _ => by intro z; cases z)).1 (D.apart h (fun _ => by intro z; cases z)).2 h))
  · exact .inl (.inr ⟨o, b _ _ (D.apart h (fun _ => by intro z; cases z)).1 (D.apart h (fun _ => by intro z; cases z)).2 h⟩)
  · exact .inr h
theorem Deck.dk {m : Nat} (D : Deck H a c m) (l : Addr) (kvs : List (Key × V)) (h : H l = some (.dK kvs)) : l ≠ a ∧ l ≠ c := D.apart h (fun _ => by intro z; cases z)
theorem apart_N (na : N a) (nc : N c) {l : Addr} (h : ¬ N l) : l ≠ a ∧ l ≠ c := ⟨fun e => h (by rw [e]; exact na), fun e => h (by rw [e]; exact nc)⟩
theorem Dq.but {m : Nat} (na : N a) (nc : N c) (D : Deck H a c m) (b : But a c H H') {v : V} {d : PyData} (h : Dq K N H v d) : Dq K N H' v d :=
  Dq.keep (fun l o h1 e => b l o (apart_N na nc h1).1 (apart_N na nc h1).2 e) (fun _ _ e => D.sqT b e) (fun l kvs e => b _ _ (D.dk l kvs e).1 (D.dk l kvs e).2 e) d v h
theorem DqAll.but {m : Nat} (na : N a) (nc : N c) (D : Deck H a c m) (b : But a c H H') {v : List V} {d : List PyData} (h : DqAll K N H v d) : DqAll K N H' v d :=
  Dq.keepAll (fun l o h1 e => b l o (apart_N na nc h1).1 (apart_N na nc h1).2 e) (fun _ _ e => D.sqT b e) (fun l kvs e => b _ _ (D.dk l kvs e).1 (D.dk l kvs e).2 e) d v h
mutual
theorem Dq.same (e : Same H H') : ∀ (d : PyData) (v : V), Dq K N H v d → Dq K N H' v d
  | .none, _, h => by cases h; exact .non
  | .bool b, _, h => by cases h; exact .bl b
  | .int i, _, h => by cases h; exact .int i
  | .str x, _, h => by cases h; exact .str x
  | .list ds, _, h => by
    cases h with
    | lst h1 h2 q r => exact .lst h1 h2 (e _ _ q) (Dq.sameAll e ds _ r)
  | .tuple ds, _, h => by
    cases h with
    | tup q r => exact .tup (same_sqT e q) (Dq.sameAll e ds _ r)
  | .dict kvs, _, h => by
    cases h with
    | dct0 q => exact .dct0 (e _ _ q)
    | dct1 q => exact .dct1 (e _ _ q)
    | dctN q => exact .dctN (e _ _ q)
    | dct2 q => exact .dct2 (e _ _ q)
theorem Dq.sameAll (e : Same H H') : ∀ (ds : List PyData) (vs : List V), DqAll K N H vs ds → DqAll K N H' vs ds
  | [], _, h => by cases h; exact .nil
  | d :: ds, _, h => by
    cases h with
    | cons r t => exact .cons (Dq.same e d _ r) (Dq.sameAll e ds _ t)
end
/-- its built-in type -/
def tyD : PyData → String
  | .none => "NoneType"
  | .bool _ => "bool"
  | .int _ => "int"
  | .str _ => "str"
  | .list _ => "list"
  | .tuple _ => "tuple"
  | .dict _ => "dict"
theorem tyT {l : Addr} {xs : List V} (h : SqT K H l xs) : TyX K H (.ref l) (.type "tuple") := by
  rcases h with (h | ⟨o, h⟩) | ⟨o, its, n, h, hc, _⟩
  · exact .base (.tup h)
  · exact .fTuple h
  · exact .kTuple h hc
theorem Dq.ty {v : V} {d : PyData} (h : Dq K N H v d) : TyX K H v (.type (tyD d)) := by
  cases h with
  | non => exact .base .non
  | bl b => exact .base (.bl b)
  | int i => exact .base (.int i)
  | str x => exact .base (.str x)
  | lst _ _ e _ => exact .base (.lst e)
  | tup e _ => exact tyT e
  | dct0 e => exact .base (.dK e)
  | dct1 e => exact .base (.dK e)
  | dctN e => exact .base (.dK e)
  | dct2 e => exact .base (.dK e)
end
section
variable {X : Cx} {pins : List (Addr × Obj)} {σ : L2.St} {H : Hp} {s : Shared} {N : Addr → Prop}
mutual
theorem Dq.reads (I : Inv X pins σ H s) : ∀ (d : PyData) (v : V) (u : Value), Dq X.K N H v d → RelV v u → ∃ as, Reads s.heap u d as ∧ sysModules ∉ as
  | .none, _, _, h, r => by
    cases h; cases r; exact ⟨_, Reads.none, by simp⟩
  | .bool b, _, _, h, r => by
    cases h; cases r; exact ⟨_, Reads.bool b, by simp⟩
  | .int i, _, _, h, r => by
    cases h; obtain ⟨t, rfl⟩ := r; exact ⟨_, Reads.int i t, by simp⟩
  | .str x, _, _, h, r => by
    cases h; obtain ⟨t, rfl⟩ := r; exact ⟨_, Reads.str x t, by simp⟩
  | .list ds, _, _, h, r => by
    cases h with
    | lst h1 _ hs ha =>
      cases r
      obtain ⟨_, its, n, rv, ho⟩ := I.hok _ _ hs
      obtain ⟨as, hr, hn⟩ := Dq.readsAll I ds _ its ha rv
      exact ⟨_, Reads.list ho rfl rfl hr, by simp [hn, Ne.symm h1]⟩
  | .tuple ds, _, _, h, r => by
    cases h with
    | tup hs ha =>
      cases r
      obtain ⟨its, rv, ⟨o, ho, hc, n, hd⟩, _⟩ := I.tuple hs
      obtain ⟨as, hr, hn⟩ := Dq.readsAll I ds _ its ha rv
      exact ⟨_, Reads.tuple ho hc hd hr, hn⟩
  | .dict _, _, _, h, r => by
    cases h with
    | dct0 e =>
      cases r
      obtain ⟨_, ns, vs, kv, o, es, ep, ho, hc, hd, _, hp, _⟩ := I.hok _ _ e
      cases kv
      have he : es.toList = [] := by cases hes : es.toList with
        | nil => rfl
        | cons x y => rw [hes] at hp; cases hp
      have ns' := of_decide_eq_false (show decide (_ = sysModules) = false by simpa using ns)
      refine ⟨_, Reads.dict (kvs := []) ho hc.1 hd (by rw [he]; exact .nil) (by rw [he]; exact .nil), ?_⟩
      simp [Ne.symm ns']
    | @dct1 l x i e =>
      cases r
      obtain ⟨_, ns, vs, kv, o, es, ep, ho, hc, hd, _, hp, _⟩ := I.hok _ _ e
      cases kv with
      | @cons p q l1 l2 kq kr =>
        cases kr
        obtain ⟨h1, t, h2⟩ := kq
        obtain ⟨en, he, hk, hv⟩ : ∃ en, es.toList = [en] ∧ keyIs q.1 en.key = true ∧ en.val = q.2 := by
          cases hes : es.toList with
          | nil => rw [hes] at hp; cases hp
          | cons x y =>
            rw [hes] at hp
            cases hp with
            | cons p1 p2 p3 => cases p3; exact ⟨x, rfl, p1, p2⟩
        have h1' : (Sum.inr x : Key) = q.1 := h1
        rw [← h1'] at hk
        obtain ⟨t', hk'⟩ := Value.isStrOf_shape (show Value.isStrOf x en.key = true from hk)
        have ns' := of_decide_eq_false (show decide (_ = sysModules) = false by simpa using ns)
        refine ⟨_, Reads.dict (kvs := [(.str x, .int i)]) ho hc.1 hd (as := [] ++ []) (bs := [] ++ []) ?_ ?_, ?_⟩
        · rw [he]; show ReadsAll _ [en.key] _ _; rw [hk']; exact .cons (.str x t') .nil
        · rw [he]; show ReadsAll _ [en.val] _ _; rw [hv, h2]; exact .cons (.int i t) .nil
        · simp [Ne.symm ns']
    | @dctN l x e =>
      cases r
      obtain ⟨_, ns, vs, kv, o, es, ep, ho, hc, hd, _, hp, _⟩ := I.hok _ _ e
      cases kv with
      | @cons p q l1 l2 kq kr =>
        cases kr
        obtain ⟨h1, h2⟩ := kq
        obtain ⟨en, he, hk, hv⟩ : ∃ en, es.toList = [en] ∧ keyIs q.1 en.key = true ∧ en.val = q.2 := by
          cases hes : es.toList with
          | nil => rw [hes] at hp; cases hp
          | cons x y =>
            rw [hes] at hp
            cases hp with
            | cons p1 p2 p3 => cases p3; exact ⟨x, rfl, p1, p2⟩
        have h1' : (Sum.inr x : Key) = q.1 := h1
        rw [← h1'] at hk
        obtain ⟨t', hk'⟩ := Value.isStrOf_shape (show Value.isStrOf x en.key = true from hk)
        have ns' := of_decide_eq_false (show decide (_ = sysModules) = false by simpa using ns)
        refine ⟨_, Reads.dict (kvs := [(.str x, .none)]) ho hc.1 hd (as := [] ++ []) (bs := [] ++ []) ?_ ?_, ?_⟩
        · rw [he]; show ReadsAll _ [en.key] _ _; rw [hk']; exact .cons (.str x t') .nil
        · rw [he]; show ReadsAll _ [en.val] _ _; rw [hv, h2]; exact .cons .none .nil
        · simp [Ne.symm ns']
    | @dct2 l x y i j e =>
      cases r
      obtain ⟨_, ns, vs, kv, o, es, ep, ho, hc, hd, _, hp, _⟩ := I.hok _ _ e
      cases kv with
      | @cons p q l1 l2 kq kr =>
        cases kr with
        | @cons p2 q2 l3 l4 kq2 kr2 =>
        cases kr2
        obtain ⟨h1, t, h2⟩ := kq
        obtain ⟨g1, u, g2⟩ := kq2
        obtain ⟨en, en2, he, hk, hv, hk2, hv2⟩ : ∃ en en2, es.toList = [en, en2] ∧ keyIs q.1 en.key = true ∧ en.val = q.2 ∧ keyIs q2.1 en2.key = true ∧ en2.val = q2.2 := by
          cases hes : es.toList with
          | nil => rw [hes] at hp; cases hp
          | cons x y =>
            rw [hes] at hp
            cases hp with
            | cons p1 p2 p3 =>
              cases p3 with
              | cons p4 p5 p6 => cases p6; exact ⟨_, _, rfl, p1, p2, p4, p5⟩
        have h1' : (Sum.inr x : Key) = q.1 := h1
        have g1' : (Sum.inr y : Key) = q2.1 := g1
        rw [← h1'] at hk
        rw [← g1'] at hk2
        obtain ⟨t', hk'⟩ := Value.isStrOf_shape (show Value.isStrOf x en.key = true from hk)
        obtain ⟨u', hk2'⟩ := Value.isStrOf_shape (show Value.isStrOf y en2.key = true from hk2)
        have ns' := of_decide_eq_false (show decide (_ = sysModules) = false by simpa using ns)
        refine ⟨_, Reads.dict (kvs := [(.str x, .int i), (.str y, .int j)]) ho hc.1 hd (as := [] ++ ([] ++ [])) (bs := [] ++ ([] ++ [])) ?_ ?_, ?_⟩
        · rw [he]; show ReadsAll _ [en.key, en2.key] _ _; rw [hk', hk2']; exact .cons (.str x t') (.cons (.str y u') .nil)
        · rw [he]; show ReadsAll _ [en.val, en2.val] _ _; rw [hv, h2, hv2, g2]; exact .cons (.int i t) (.cons (.int j u) .nil)
        · simp [Ne.symm ns']
theorem Dq.readsAll (I : Inv X pins σ H s) : ∀ (ds : List PyData) (vs : List V) (us : List Value), DqAll X.K N H vs ds → Vals vs us → ∃ as, ReadsAll s.heap us ds as ∧ sysModules ∉ as
  | [], _, _, h, r => by
    cases h; cases r; exact ⟨_, ReadsAll.nil, by simp⟩
  | d :: ds, _, _, h, r => by
    cases h with
    | cons h1 h2 =>
      cases r with
      | cons r1 r2 =>
        obtain ⟨as, q1, n1⟩ := Dq.reads I d _ _ h1 r1
        obtain ⟨bs, q2, n2⟩ := Dq.readsAll I ds _ _ h2 r2
        exact ⟨_, ReadsAll.cons q1 q2, by simp [n1, n2]⟩
end
end
structure Shq (dep n : Nat) (d : PyData) : Prop where
  sh : d.showable = true
  dp : d.depth ≤ dep
  ln : d.shown.length ≤ n
theorem Shq.mono {dep dep' n n' : Nat} {d : PyData} (h : Shq dep n d) (h1 : dep ≤ dep') (h2 : n ≤ n') : Shq dep' n' d := ⟨h.sh, Nat.le_trans h.dp h1, Nat.le_trans h.ln h2⟩
theorem Shw.q {dep n : Nat} {d : PyData} (h : Shw dep n d) : Shq dep n d := ⟨h.sh, h.dp, h.ln⟩
theorem shqAll {dep n : Nat} : ∀ {ds : List PyData}, (∀ d ∈ ds, Shq dep n d) → PyData.showableAll ds = true ∧ PyData.depthAll ds ≤ dep
  | [], _ => ⟨by simp only [PyData.showableAll], by simp [PyData.depthAll]⟩
  | d :: r, h => by
    obtain ⟨h1, h3⟩ := shqAll (ds := r) fun x hx => h x (List.mem_cons_of_mem _ hx)
    have g := h d List.mem_cons_self
    refine ⟨by simp only [PyData.showableAll, g.sh, h1, Bool.and_self], ?_⟩
    simp only [PyData.depthAll]
    exact Nat.max_le.mpr ⟨g.dp, h3⟩
theorem Shq.tuple {dep n m : Nat} {ds : List PyData} (h : ∀ d ∈ ds, Shq dep n d) (hm : ds.length ≤ m) : Shq (dep + 1) (m * (n + 2) + 3) (.tuple ds) := by
  obtain ⟨h1, h3⟩ := shqAll h
  refine ⟨by simp only [PyData.showable, h1], by simp only [PyData.depth]; omega, ?_⟩
  simp only [PyData.shown]
  rw [shownAll_map]
  have a1 := tupleText_len (ds.map PyData.shown)
  have a2 := piled_le fun d hd => (h d hd).ln
  have a3 : ds.length * (n + 2) ≤ m * (n + 2) := Nat.mul_le_mul_right _ hm
  omega
theorem Shq.list {dep n m : Nat} {ds : List PyData} (h : ∀ d ∈ ds, Shq dep n d) (hm : ds.length ≤ m) : Shq (dep + 1) (m * (n + 2) + 3) (.list ds) := by
  obtain ⟨h1, h3⟩ := shqAll h
  refine ⟨by simp only [PyData.showable, h1], by simp only [PyData.depth]; omega, ?_⟩
  simp only [PyData.shown]
  rw [shownAll_map]
  have a1 := listText_len (ds.map PyData.shown)
  have a2 := piled_le fun d hd => (h d hd).ln
  have a3 : ds.length * (n + 2) ≤ m * (n + 2) := Nat.mul_le_mul_right _ hm
  omega
def rReprQ (K : PySem.W.Frag) : List V → Hp → VK → Prop := fun xs H Q => ∃ (N : Addr → Prop) (v : V) (d : PyData), xs = [v] ∧ Dq K N H v d ∧ Shq 60 sizeLine d ∧ Q (.str d.shown) H
theorem call_reprQ {X : Cx} {k : Nat} (gd : X.A.guards = some []) (hr : Room k X.A) : CallR X (.builtin "repr") (rReprQ X.K) := by
  intro pins s σ H xs us Q I rv h
  obtain ⟨N, v, d, rfl, hd, hs, q⟩ := h
  obtain ⟨u, rfl, rx⟩ := vals1 rv
  have isref : ∀ (l : Addr), v = .ref l → wpAny (model X.prog X.w) X.A (call (.builtin "repr") [u]) (EP X pins σ Q) X.xe s := fun l e => by
    subst e
    obtain ⟨as, r, hn⟩ := Dq.reads I d _ _ hd rx
    obtain rfl : u = .ref l := rx
    exact repr_of_reads' r hs.sh (fun _ => hn) gd (by have := hr.un; have := hs.dp; omega) (fun _ _ e => e) (fun h' t tk hk => ⟨.str d.shown, H, I.kept hk, ⟨t, rfl⟩, q⟩) hs.ln
  cases hd with
  | non => obtain rfl : u = .none := rx; exact PySem.P.repr_of_none ⟨.str "None", H, I.tok _, ⟨_, rfl⟩, by simpa only [PyData.shown] using q⟩
  | bl b => obtain rfl : u = .bool b := rx; exact PySem.P.repr_of_bool ⟨.str _, H, I.tok _, ⟨_, rfl⟩, by simpa only [PyData.shown] using q⟩
  | int i =>
    obtain ⟨t, rfl⟩ := rx
    have h1 : i.natAbs.log2 < 1920 := by simpa only [PyData.showable, decide_eq_true_eq] using hs.sh
    exact PySem.P.repr_of_int h1 ⟨.str _, H, I.tok _, ⟨_, rfl⟩, by simpa only [PyData.shown] using q⟩
  | str x =>
    obtain ⟨t, rfl⟩ := rx
    have h1 : (reprText x).length ≤ sizeLine := by simpa only [PyData.shown] using hs.ln
    exact PySem.P.repr_of_str ⟨.str _, H, I.tok _, ⟨_, rfl⟩, by simpa only [PyData.shown] using q⟩ h1
  | lst _ _ _ _ => exact isref _ rfl
  | tup _ _ => exact isref _ rfl
  | dct0 _ => exact isref _ rfl
  | dct1 _ => exact isref _ rfl
  | dctN _ => exact isref _ rfl
  | dct2 _ => exact isref _ rfl
end Pr
namespace Pr
open PySem PySem.Spec PyProof.Rows L2
end Pr
namespace Pr
open PySem PySem.Spec PyProof.Rows L2
abbrev wSame : Str := "same"
abbrev wOn : Str := "on"
abbrev wOff : Str := "off"
/-- a press of b behind, where c had the word w -/
def wordM (pan : List (List Int)) (c : Int) (w : Str) (b : Int) : Str := if b = c then wOn else if c ∈ pan.getD b.toNat [] then wOff else w
def wordsM (pan : List (List Int)) (row : List Int) (c : Int) : Str := row.foldl (wordM pan c) wSame
def effM (pan : List (List Int)) (row : List Int) : List Str := (List.range pan.length).map fun c : Nat => wordsM pan row (c : Int)
def onM (l : List Int) (b : Int) (c : Nat) : Str := if (c : Int) ∈ l then wOff else if (c : Int) = b then wOn else wSame
def pressW (pan : List (List Int)) (b : Int) : List Str := (List.range pan.length).map (onM (pan.getD b.toNat []) b)
def joinM (xs ys : List Str) : List Str := List.zipWith (fun e l => if l = wSame then e else l) xs ys
theorem effM_len (pan : List (List Int)) (row : List Int) : (effM pan row).length = pan.length := by unfold effM; rw [List.length_map, List.length_range]
theorem pressW_len (pan : List (List Int)) (b : Int) : (pressW pan b).length = pan.length := by unfold pressW; rw [List.length_map, List.length_range]
theorem joinM_len {xs ys : List Str} (h : xs.length = ys.length) : (joinM xs ys).length = ys.length := by unfold joinM; rw [List.length_zipWith, h, Nat.min_self]
theorem effM_nil (pan : List (List Int)) : effM pan [] = List.replicate pan.length wSame := by
  unfold effM
  show (List.range pan.length).map (fun _ => wSame) = _
  rw [List.map_const', List.length_range]
theorem same_ne_on : wSame ≠ wOn := by decide +kernel
theorem same_ne_off : wSame ≠ wOff := by decide +kernel
theorem Good.own' {pan : List (List Int)} (g : Good pan) {b : Int} (h0 : 0 ≤ b) (h1 : b < (pan.length : Int)) : b ∉ pan.getD b.toNat [] := by
  have hb : b.toNat < pan.length := by omega
  have := g.own b.toNat pan[b.toNat] (List.getElem?_eq_getElem hb)
  rw [List.getD_eq_getElem?_getD, List.getElem?_eq_getElem hb]
  rw [Int.toNat_of_nonneg h0] at this
  exact this
theorem set_map_range {α : Type} (f : Nat → α) (n j : Nat) (v : α) : ((List.range n).map f).set j v = (List.range n).map fun c => if c = j then v else f c := by
  refine List.ext_getElem? fun i => ?_
  rw [List.getElem?_set, List.getElem?_map]
  by_cases h : i < n
  · rw [List.getElem?_map, List.getElem?_range h, List.length_map, List.length_range]
    by_cases e : j = i
    · subst e; rw [if_pos rfl, if_pos h]; simp
    · rw [if_neg e]; simp [Ne.symm e]
  · rw [List.getElem?_map, List.getElem?_eq_none (by rw [List.length_range]; omega), List.length_map, List.length_range]
    by_cases e : j = i
    · subst e; rw [if_pos rfl, if_neg h]; rfl
    · rw [if_neg e]; rfl
theorem replicate_map_range {α : Type} (n : Nat) (v : α) : List.replicate n v = (List.range n).map fun _ => v := by
  rw [List.map_const', List.length_range]
def dStrs (l : List Str) : PyData := .tuple (l.map PyData.str)
theorem dpAll_strs {K : PySem.W.Frag} {H : Hp} : ∀ l : List Str, DpAll K H (l.map V.str) (l.map PyData.str)
  | [] => .nil
  | x :: r => .cons (.str x) (dpAll_strs r)
theorem dp_strs {K : PySem.W.Frag} {H : Hp} {q : Addr} {l : List Str} (h : SqT K H q (l.map V.str)) : Dp K H (.ref q) (dStrs l) := .tup h (dpAll_strs l)
theorem shw_word {x : Str} (h : x = wSame ∨ x = wOn ∨ x = wOff) : Shw 0 6 (.str x) := by
  refine ⟨by simp only [PyData.showable], by simp only [PyData.hasDict], by simp [PyData.depth], ?_⟩
  simp only [PyData.shown]
  rcases h with rfl | rfl | rfl <;> decide +kernel
theorem shw_words {l : List Str} {m : Nat} (hl : l.length ≤ m) (h : ∀ x ∈ l, x = wSame ∨ x = wOn ∨ x = wOff) : Shw 1 (m * 8 + 3) (dStrs l) := by
  refine Shw.tuple (fun d hd => ?_) (by rw [List.length_map]; exact hl)
  obtain ⟨x, hx, rfl⟩ := List.mem_map.mp hd
  exact shw_word (h x hx)
theorem rep_flat {α : Type} (n : Nat) (v : α) : (List.replicate n [v]).flatten = List.replicate n v := by
  induction n with
  | zero => rfl
  | succ n ih => rw [List.replicate_succ, List.flatten_cons, ih]; rfl
theorem walk_zipT {K : PySem.W.Frag} {a b : Addr} {xs ys : List V} {n : Nat} (hn : n = min xs.length ys.length) : Walk (RZ.ItzT K a b) n (fun H => SqT K H a xs ∧ SqT K H b ys) (YPair (fun i => xs[i]?) (fun i => ys[i]?)) := by
  subst hn
  refine ⟨fun i _ hi q => ?_, fun _ q => ⟨xs, ys, q.1, q.2, by omega⟩, fun i H v H' _ q y => ?_⟩
  · have h1 : i < xs.length := by omega
    have h2 : i < ys.length := by omega
    exact ⟨xs, ys, xs[i], ys[i], q.1, q.2, by simp [h1], by simp [h2]⟩
  · obtain ⟨T, x, z, h1, h2, h3, h4, h5⟩ := y
    exact ⟨T, x, z, h1, h2, h3, h4 xs q.1, h5 ys q.2⟩
theorem str_get {os : List Str} {k : Nat} {x : V} (h : (os.map V.str)[k]? = some x) : ∃ z, os[k]? = some z ∧ x = .str z := by
  rw [List.getElem?_map] at h
  cases e : os[k]? with
  | none => rw [e] at h; cases h
  | some z => rw [e] at h; exact ⟨z, rfl, (Option.some.inj h).symm⟩
theorem int_get {os : List Int} {k : Nat} {x : V} (h : (os.map V.int)[k]? = some x) : ∃ z, os[k]? = some z ∧ x = .int z := by
  rw [List.getElem?_map] at h
  cases e : os[k]? with
  | none => rw [e] at h; cases h
  | some z => rw [e] at h; exact ⟨z, rfl, (Option.some.inj h).symm⟩
theorem joinM_get {xs ys : List Str} {i : Nat} {x y : Str} (hx : xs[i]? = some x) (hy : ys[i]? = some y) : (joinM xs ys)[i]? = some (if y = wSame then x else y) := by
  unfold joinM
  rw [List.getElem?_zipWith, hx, hy]
theorem ixN_nat {n j : Nat} (h : j < n) : ixN n (j : Int) = some j := by
  unfold ixN
  rw [if_pos (by omega), if_pos (by omega)]; rfl
theorem gen_heap {X : Hp} {R : Hp → Prop} (C : Hp → Prop) (hX : C X) (h : ∀ H', C H' → R H') : R X := h X hX
theorem gen_name {i : Nat} {v : V} {σ : L2.St} {X : Hp} {D : L2.St → Hp → Prop} (C : Hp → Prop) (hX : C X) (h : ∀ H', C H' → gName i v σ H' D) : gName i v σ X D := h X hX
theorem tyes {σ : L2.St} {H : Hp} {Q : Bool → Hp → Prop} (h : Q true H) : tYes σ H Q := h
theorem inV_ints {b : Int} (l : List Int) : inV (.int b) (l.map V.int) = decide (b ∈ l) := by
  unfold inV
  rw [List.any_map, Bool.eq_iff_iff, List.any_eq_true, decide_eq_true_eq]
  constructor
  · rintro ⟨x, hx, e⟩
    have e' : x = b := by simpa [eqV] using e
    rw [← e']; exact hx
  · intro h
    exact ⟨b, h, by simp [eqV]⟩
theorem flat_ints : ∀ l : List Int, (l.map V.int).all flatV = true
  | [] => rfl
  | x :: r => by rw [List.map_cons, List.all_cons, flat_ints r]; rfl
end Pr
namespace Pr
open PySem PySem.Spec PyProof.Rows L2
def PanT (K : PySem.W.Frag) (H : Hp) (p : Addr) (pan : List (List Int)) : Prop := ∃ qs : List Addr, SqT K H p (qs.map V.ref) ∧ Paired (fun q l => SqT K H q (l.map V.int)) qs pan
section
variable {K : PySem.W.Frag} {H H' : Hp} {p : Addr} {pan : List (List Int)}
theorem PanT.same (e : Same H H') (h : PanT K H p pan) : PanT K H' p pan :=
  let ⟨qs, h1, h2⟩ := h; ⟨qs, same_sqT e h1, h2.mono fun _ _ x => same_sqT e x⟩
theorem PanAt.t (h : PanAt H p pan) : PanT K H p pan :=
  let ⟨qs, h1, h2⟩ := h; ⟨qs, h1.sq, h2.mono fun _ _ x => x.sq⟩
theorem panT_at (h : PanT K H p pan) {b : Int} (h0 : 0 ≤ b) (h1 : b < (pan.length : Int)) :
    ∃ (qs : List Addr) (q : Addr), SqT K H p (qs.map V.ref) ∧ atI (qs.map V.ref) b = some (.ref q) ∧ SqT K H q ((pan.getD b.toNat []).map V.int) ∧ qs.length = pan.length := by
  obtain ⟨qs, hq, hqs⟩ := h
  obtain ⟨n, rfl⟩ : ∃ n : Nat, b = (n : Int) := ⟨b.toNat, (Int.toNat_of_nonneg h0).symm⟩
  have hn : n < pan.length := by omega
  obtain ⟨q', g1, g2⟩ := paired_get hqs n pan[n] (List.getElem?_eq_getElem hn)
  refine ⟨qs, q', hq, atI_nat (by rw [List.getElem?_map, g1]; rfl), ?_, hqs.length⟩
  rw [Int.toNat_natCast, List.getD_eq_getElem?_getD, List.getElem?_eq_getElem hn]
  exact g2
theorem PanT.len (h : PanT K H p pan) : ∃ xs : List V, SqT K H p xs ∧ xs.length = pan.length :=
  let ⟨qs, h1, h2⟩ := h; ⟨_, h1, by rw [List.length_map, h2.length]⟩
theorem dpAll_panT : ∀ {qs : List Addr} {pan : List (List Int)}, Paired (fun q l => SqT K H q (l.map V.int)) qs pan → DpAll K H (qs.map V.ref) (pan.map dInts)
  | _, _, .nil => .nil
  | _, _, .cons r t => .cons (dp_ints r) (dpAll_panT t)
theorem PanT.dp (h : PanT K H p pan) : Dp K H (.ref p) (dPan pan) := let ⟨_, h1, h2⟩ := h; .tup h1 (dpAll_panT h2)
end
end Pr
namespace Pr
open PySem PySem.Spec PyProof.Rows L2
theorem nodup_few : ∀ (m : Nat) (l : List Int), l.Nodup → (∀ x ∈ l, 0 ≤ x ∧ x < (m : Int)) → l.length ≤ m
  | 0, l, _, h => by
    cases l with
    | nil => exact Nat.le_refl _
    | cons x r => have := h x List.mem_cons_self; omega
  | m + 1, l, hn, h => by
    have ih := nodup_few m (l.erase (m : Int)) (hn.erase _) fun x hx => by
      have h1 := (hn.mem_erase_iff.mp hx)
      have h2 := h x h1.2
      have h3 := h1.1
      omega
    have hl := List.length_erase (a := (m : Int)) (l := l)
    split at hl <;> omega
end Pr
namespace Pr
open PySem PySem.Spec PyProof.Rows L2
section
variable {X : Cx}
def tTupF (t : TA) : TE := fun σ H Q => t σ H fun xs H1 => xs.length ≤ sizeLine ∧ ∀ p o, H1 p = none → o.dict = none → Q (.ref p) (upd H1 p (.frz o (.tup xs)))
theorem pe_tupF {es : List Expr} {t : TA} {x1 : Nat} {pos : Pos} (h : PA X es t) : PE X (.Tuple es x1 pos) (tTupF t) :=
  ⟨fun pins s σ H Q I hq => wpAny_Tuple_spliced (thn (h.run pos pins s σ H _ I hq) fun us s1 ⟨xs, H1, I1, r, z, q⟩ => ⟨r.length ▸ z,
    ⟨.ref s1.heap.objs.size, _, I1.laid (t' := s1.toks) (o := .frz { cls := .type "tuple", data := .seq us.toArray } (.tup xs)) (fun _ _ e => Heap.get?_push_of_some _ e) (Nat.le_refl _) ⟨Heap.get?_push_size _ rfl, z, us, r, IsTup.new _ _⟩, rfl,
      q _ _ (I1.hok.fresh (Nat.le_refl _)) rfl⟩⟩)⟩
/-- (v,) * k of a known tuple -/
def rRepF : R2 := fun x y H Q => ∃ (l : Addr) (v : V) (k : Nat), x = .ref l ∧ y = .int (k : Int) ∧ FT H l [v] ∧ 1 ≤ k ∧ k ≤ 1000 ∧ ∀ p H', Same H H' → FT H' p (List.replicate k v) → Q (.ref p) H'
theorem op_repF : OpR X (binaryOp .Mult) rRepF := by
  intro pins s σ H x y u1 u2 Q I rx ry h
  obtain ⟨l, v, k, rfl, rfl, hF, h1, h2, q⟩ := h
  by_cases e1 : k = 1
  · subst e1
    exact op_rep1 pins s σ H _ _ u1 u2 Q I rx ry ⟨l, v, rfl, hF.sq, .inl ⟨rfl, q l H (Same.refl _) hF⟩⟩
  · cases rx
    obtain ⟨tk, rfl⟩ := ry
    obtain ⟨its, r, ⟨⟨cls, dd, data, sl⟩, ho, hc, n, hd⟩, hs⟩ := I.tuple (hF.sq (K := X.K))
    simp only at hc hd
    subst hc hd
    obtain ⟨a, rfl, ra⟩ := vals1 r
    have big : (List.replicate k [a]).flatten.length ≤ sizeLine := by
      rw [rep_flat, List.length_replicate, sizeLine_eq]; omega
    have sz : (([a] : List Value).toArray.size : Int) * (k : Int) = (k : Int) := by
      show (1 : Int) * (k : Int) = _
      omega
    have big2 : (List.foldl (fun x1 x2 => x1 ++ x2) #[] (List.replicate ((k : Int)).toNat ([a] : List Value).toArray)).size ≤ sizeLine := by
      rw [size_rep, List.size_toArray, Int.toNat_natCast]; exact big
    refine wpAny_binaryOp_repeat_ref (T := "tuple") (U := "int") (by decide) ⟨_, ho, rfl⟩ (fun s' => typeIs_int s' (k : Int) tk) noFill_tuple_mul F.fills_int_mul F.slot_int_rmul repeat_tuple F.slot_int_index.lookup ?_
    refine call_meets F.slot_int_rmul (typeIs_int s (k : Int) tk) F.entry_int_rmul (F.args_int_rmul_2 _ _) (int_rmul_tuple (k : Int) tk l _ n dd sl) ⟨ho, rfl, ⟨_, ho, rfl⟩, ?_⟩
    refine call_meets F.slot_tuple_mul ⟨_, ho, rfl⟩ F.entry_tuple_mul (F.args_tuple_mul_2 _ _) (tuple_mulW l _ n dd sl (k : Int) tk ?_ ?_ ?_ ?_ ?_ big2) ⟨ho, ?_⟩
    · rw [decide_eq_false (by omega), decide_eq_false (by omega)]; rfl
    · show (false || ((k : Int) == 1)) = false
      rw [Bool.false_or]; exact beq_eq_false_iff_ne.mpr (by omega)
    · rw [decide_eq_false (by omega)]; rfl
    · rw [sz]; omega
    · unfold Builtin.Tuple.tupleTooMany
      rw [sz, sizeLine_eq]; exact decide_eq_false (by omega)
    · rw [size_rep, Int.toNat_natCast]
      have rr := r.rep k
      refine ⟨.ref s.heap.objs.size, _, I.laid (t' := s.toks) (o := .frz { cls := .type "tuple", data := .seq (List.replicate k [a]).flatten.toArray } (.tup (List.replicate k [v]).flatten)) (fun _ _ e => Heap.get?_push_of_some _ e) (Nat.le_refl _) ⟨Heap.get?_push_size _ rfl, ?_, _, rr, IsTup.new _ _⟩, rfl,
        q _ _ (same_new (I.hok.fresh (Nat.le_refl _))) ⟨_, by rw [upd_same, rep_flat (v := v)], rfl⟩⟩
      rw [rep_flat, List.length_replicate, sizeLine_eq]; omega
/-- t + u, one way on -/
def rCatS (K : PySem.W.Frag) : R2 := fun x y H Q => ∃ a b xs ys, x = .ref a ∧ y = .ref b ∧ SqT K H a xs ∧ SqT K H b ys ∧ xs.length + ys.length ≤ sizeLine ∧ ∀ p H', Same H H' → SqT K H' p (xs ++ ys) → Q (.ref p) H'
theorem op_catS : OpR X (binaryOp .Add) (rCatS X.K) := by
  intro pins s σ H x y u1 u2 Q I rx ry h
  obtain ⟨a, b, xs, ys, rfl, rfl, ha, hb, hz, q⟩ := h
  refine op_catA pins s σ H _ _ u1 u2 Q I rx ry ⟨a, b, xs, ys, rfl, rfl, ha, hb, hz, fun e => q b H (Same.refl _) ?_, fun _ e => q a H (Same.refl _) ?_, fun _ _ p np => q p _ (same_new np) (.inl (.inl upd_same))⟩
  · rw [e]; exact hb
  · rw [e, List.append_nil]; exact ha
/-- t[lo:hi], one way on -/
def rSlS (K : PySem.W.Frag) : V → Option Int → Option Int → Hp → VK → Prop := fun x lo hi H Q => ∃ a xs, x = .ref a ∧ SqT K H a xs ∧ ∀ p H', Same H H' → SqT K H' p (cutV xs lo hi) → Q (.ref p) H'
theorem sl_tupS : SlR X (rSlS X.K) := by
  intro pins s σ H x v vl vu lo hi sl Q I rx hs pl pu h
  obtain ⟨a, xs, rfl, ha, q⟩ := h
  refine sl_tupA pins s σ H _ v vl vu lo hi sl Q I rx hs pl pu ⟨a, xs, rfl, ha, fun e => q a H (Same.refl _) ?_, fun _ p np => q p _ (same_new np) (.inl (.inl upd_same))⟩
  have : cutV xs lo hi = xs := by
    unfold cutV
    rw [e.1, e.2, List.drop_zero, Nat.sub_zero, List.take_length]
  rw [this]; exact ha
end
end Pr
namespace Pr
open PySem PySem.Spec PyProof.Rows L2
end Pr
namespace Pr
open PySem PySem.Spec PyProof.Rows L2
theorem list_neL1 (l : Addr) (items : Array Value) (n : Nat) (b : Addr) (items2 : Array Value) (n2 : Nat) (hc0 : (items.size != items2.size) = true) :
    Meets (Builtin.«list.__ne__» ⟨[.ref l, .ref b], []⟩) (fun _ R s => s.heap.get? l = some { cls := .type "list", dict := none, data := .seq items n, slots := #[] } ∧ s.heap.get? b = some { cls := .type "list", dict := none, data := .seq items2 n2, slots := #[] } ∧ R (.ok (.ret (Value.bool (CmpOp.NotEq == CmpOp.NotEq)))) { s with heap := s.heap, toks := s.toks }) :=
  .of_wp fun prog w A R s h => by
    obtain ⟨hp, g, d, tk, os⟩ := s; obtain ⟨hl, hb, h⟩ := h
    have f3 := AutoSeq1.sub_list_list
    wp_walk using AutoSeq1.wpAny_loadPart' hl, AutoSeq1.wpAny_loadPart' hb
    exact ⟨_, rfl, h⟩
section
variable {X : Cx}
/-- xs != [], two lists that stand -/
def rNeE1 : R2 := fun x y H Q => ∃ l b xs, x = .ref l ∧ y = .ref b ∧ H l = some (.lst xs) ∧ H b = some (.lst []) ∧ Q (.bl (!xs.isEmpty)) H
theorem op_neE1 (hu : X.A.units + 64 < cLine) : OpR X (compareOp .NotEq) rNeE1 := by
  intro pins s σ H x y v u Q I rx ry h
  obtain ⟨l, b, xs, rfl, rfl, hl, hb, q⟩ := h
  by_cases e : xs = []
  · subst e
    exact op_neD hu pins s σ H _ _ v u Q I rx ry ⟨.list [], .list [], .lst (.inl (.inl hl)) .nil, .lst (.inl (.inl hb)) .nil, rfl, rfl, q⟩
  · cases rx
    cases ry
    obtain ⟨_, its, n, rv, ho⟩ := I.hok _ _ hl
    obtain ⟨_, its2, n2, rv2, ho2⟩ := I.hok _ _ hb
    cases rv2
    have hlen := rv.length
    have hne : its.toArray.size ≠ 0 := by
      rw [List.size_toArray, ← hlen]
      exact fun z => e (List.eq_nil_of_length_eq_zero z)
    have q' : Q (.bl true) H := by
      have : xs.isEmpty = false := by
        cases xs with
        | nil => exact absurd rfl e
        | cons _ _ => rfl
      rw [this] at q; exact q
    exact richCompare_meets_room (op := .NotEq) ⟨_, ho, rfl⟩ ⟨_, ho2, rfl⟩ PySem.F.slot_list_ne PySem.F.entry_list_ne (PySem.F.args_list_ne_2 _ _) (list_neL1 l its.toArray n b ([] : List Value).toArray n2 (by simpa using hne))
      ⟨ho, ho2, show Value.bool (CmpOp.NotEq == CmpOp.NotEq) ≠ Value.notImplemented ∧ _ from ⟨(fun z => nomatch z), .bl true, H, I, rfl, q'⟩⟩ (by omega)
end
end Pr
namespace Pr
open PySem PySem.Spec PyProof.Rows L2
mutual
def lf : PyData → Bool
  | .list _ => false
  | .dict _ => false
  | .tuple ds => lfAll ds
  | .none => true
  | .bool _ => true
  | .int _ => true
  | .str _ => true
def lfAll : List PyData → Bool
  | [] => true
  | d :: r => lf d && lfAll r
end
theorem lfAll_of {ds : List PyData} (h : ∀ d ∈ ds, lf d = true) : lfAll ds = true := by
  induction ds with
  | nil => simp [lfAll]
  | cons d r ih => simp [lfAll, h d List.mem_cons_self, ih fun x hx => h x (List.mem_cons_of_mem _ hx)]
theorem lf_tup {ds : List PyData} (h : ∀ d ∈ ds, lf d = true) : lf (.tuple ds) = true := by simp only [lf]; exact lfAll_of h
theorem lf_ints (l : List Int) : lf (dInts l) = true := lf_tup fun d hd => by
  obtain ⟨x, _, rfl⟩ := List.mem_map.mp hd
  simp only [lf]
theorem lf_pan (p : List (List Int)) : lf (dPan p) = true := lf_tup fun d hd => by
  obtain ⟨x, _, rfl⟩ := List.mem_map.mp hd
  exact lf_ints x
theorem lf_strs (l : List Str) : lf (dStrs l) = true := lf_tup fun d hd => by
  obtain ⟨x, _, rfl⟩ := List.mem_map.mp hd
  simp only [lf]
def Kp (H H' : Hp) : Prop := (∀ b xs, H b = some (.tup xs) → H' b = some (.tup xs)) ∧ ∀ b o u, H b = some (.frz o u) → H' b = some (.frz o u)
theorem Kp.refl (H : Hp) : Kp H H := ⟨fun _ _ h => h, fun _ _ _ h => h⟩
theorem Kp.trans {H H1 H2 : Hp} (x : Kp H H1) (y : Kp H1 H2) : Kp H H2 := ⟨fun b xs h => y.1 b xs (x.1 b xs h), fun b o u h => y.2 b o u (x.2 b o u h)⟩
theorem Kp.of {H H' : Hp} (x : Same H H') : Kp H H' := ⟨fun b xs h => x b _ h, fun b o u h => x b _ h⟩
theorem Kp.upd {H : Hp} {D : Addr} {xs : List V} {o : HO} (h : H D = some (.lst xs)) : Kp H (upd H D o) :=
  ⟨fun b ys e => by rw [upd_ne (ne_of e h (by intro z; cases z))]; exact e, fun b q u e => by rw [upd_ne (ne_of e h (by intro z; cases z))]; exact e⟩
theorem Kp.but {H H' : Hp} {a c : Addr} {m : Nat} (d : Deck H a c m) (b : But a c H H') : Kp H H' :=
  ⟨fun p xs e => let q := d.apart e (fun _ => by intro z; cases z); b _ _ q.1 q.2 e, fun p o u e => let q := d.apart e (fun _ => by intro z; cases z); b _ _ q.1 q.2 e⟩
theorem FT.kp {H H' : Hp} {a : Addr} {xs : List V} (e : Kp H H') (h : FT H a xs) : FT H' a xs := let ⟨o, q, z⟩ := h; ⟨o, e.2 _ _ _ q, z⟩
theorem PanAt.kp {H H' : Hp} {p : Addr} {pan : List (List Int)} (e : Kp H H') (h : PanAt H p pan) : PanAt H' p pan :=
  let ⟨qs, h1, h2⟩ := h; ⟨qs, h1.kp e, h2.mono fun _ _ x => x.kp e⟩
section
variable {K : PySem.W.Frag} {H H' : Hp}
theorem sqT_kp {a : Addr} {xs : List V} (e : Kp H H') (h : SqT K H a xs) : SqT K H' a xs := by
  rcases h with (h | ⟨o, h⟩) | h
  · exact .inl (.inl (e.1 _ _ h))
  · exact .inl (.inr ⟨o, e.2 _ _ _ h⟩)
  · exact .inr h
mutual
theorem dp_same (e : Same H H') : ∀ (d : PyData) (v : V), Dp K H v d → Dp K H' v d
  | .none, _, h => by cases h; exact .non
  | .bool _, _, h => by cases h; exact .bl _
  | .int _, _, h => by cases h; exact .int _
  | .str _, _, h => by cases h; exact .str _
  | .list ds, _, h => by cases h with | lst q r => exact .lst (e.seq q) (dpAll_same e ds _ r)
  | .tuple ds, _, h => by cases h with | tup q r => exact .tup (same_sqT e q) (dpAll_same e ds _ r)
  | .dict _, _, h => by cases h
theorem dpAll_same (e : Same H H') : ∀ (ds : List PyData) (vs : List V), DpAll K H vs ds → DpAll K H' vs ds
  | [], _, h => by cases h; exact .nil
  | d :: r, _, h => by cases h with | cons x y => exact .cons (dp_same e d _ x) (dpAll_same e r _ y)
end
mutual
theorem dp_kp (e : Kp H H') : ∀ (d : PyData) (v : V), lf d = true → Dp K H v d → Dp K H' v d
  | .none, _, _, h => by cases h; exact .non
  | .bool _, _, _, h => by cases h; exact .bl _
  | .int _, _, _, h => by cases h; exact .int _
  | .str _, _, _, h => by cases h; exact .str _
  | .list ds, _, z, h => by simp [lf] at z
  | .tuple ds, _, z, h => by cases h with | tup q r => exact .tup (sqT_kp e q) (dpAll_kp e ds _ (by simpa [lf] using z) r)
  | .dict _, _, _, h => by cases h
theorem dpAll_kp (e : Kp H H') : ∀ (ds : List PyData) (vs : List V), lfAll ds = true → DpAll K H vs ds → DpAll K H' vs ds
  | [], _, _, h => by cases h; exact .nil
  | d :: r, _, z, h => by
    simp only [lfAll, Bool.and_eq_true] at z
    cases h with | cons x y => exact .cons (dp_kp e d _ z.1 x) (dpAll_kp e r _ z.2 y)
end
theorem _root_.L2.Dp.sm {d : PyData} {v : V} (h : Dp K H v d) (e : Same H H') : Dp K H' v d := dp_same e d v h
theorem _root_.L2.DpAll.sm {ds : List PyData} {vs : List V} (h : DpAll K H vs ds) (e : Same H H') : DpAll K H' vs ds := dpAll_same e ds vs h
theorem _root_.L2.Dp.kp {d : PyData} {v : V} (h : Dp K H v d) (e : Kp H H') (z : lf d = true := by first | exact lf_pan _ | exact lf_ints _ | exact lf_strs _ | rfl | assumption) : Dp K H' v d := dp_kp e d v z h
theorem _root_.L2.DpAll.length {ds : List PyData} : ∀ {vs : List V}, DpAll K H vs ds → vs.length = ds.length := by
  induction ds with
  | nil => intro vs h; cases h; rfl
  | cons d r ih => intro vs h; cases h with | cons x y => simp [ih y]
theorem _root_.L2.DpAll.get {ds : List PyData} : ∀ {vs : List V}, DpAll K H vs ds → ∀ (i : Nat) (d : PyData), ds[i]? = some d → ∃ v, vs[i]? = some v ∧ Dp K H v d := by
  induction ds with
  | nil => intro vs h i d e; simp at e
  | cons d' r ih =>
    intro vs h i d e
    cases h with
    | cons x y =>
      cases i with
      | zero => simp at e; subst e; exact ⟨_, rfl, x⟩
      | succ i => obtain ⟨v, h1, h2⟩ := ih y i d (by simpa using e); exact ⟨v, by simpa using h1, h2⟩
theorem _root_.L2.DpAll.append {d1 d2 : List PyData} : ∀ {v1 v2 : List V}, DpAll K H v1 d1 → DpAll K H v2 d2 → DpAll K H (v1 ++ v2) (d1 ++ d2) := by
  induction d1 with
  | nil => intro v1 v2 h g; cases h; exact g
  | cons d r ih => intro v1 v2 h g; cases h with | cons x y => exact .cons x (ih y g)
theorem _root_.L2.DpAll.take {ds : List PyData} : ∀ {vs : List V} (n : Nat), DpAll K H vs ds → DpAll K H (vs.take n) (ds.take n) := by
  induction ds with
  | nil => intro vs n h; cases h; simp; exact .nil
  | cons d r ih =>
    intro vs n h
    cases h with
    | cons x y =>
      cases n with
      | zero => simp; exact .nil
      | succ n => simpa using DpAll.cons x (ih n y)
theorem _root_.L2.DpAll.drop {ds : List PyData} : ∀ {vs : List V} (n : Nat), DpAll K H vs ds → DpAll K H (vs.drop n) (ds.drop n) := by
  induction ds with
  | nil => intro vs n h; cases h; simp; exact .nil
  | cons d r ih =>
    intro vs n h
    cases h with
    | cons x y =>
      cases n with
      | zero => simpa using DpAll.cons x y
      | succ n => simpa using ih n y
theorem dpAll_intsV : ∀ {l : List Int} {vs : List V}, DpAll K H vs (l.map PyData.int) → vs = l.map V.int
  | [], _, h => by cases h; rfl
  | x :: r, _, h => by
    rw [List.map_cons] at h
    cases h with | cons a b => cases a; rw [dpAll_intsV b]; rfl
theorem _root_.L2.Dp.tupI {v : V} {ds : List PyData} (h : Dp K H v (.tuple ds)) : ∃ a xs, v = .ref a ∧ SqT K H a xs ∧ DpAll K H xs ds := by cases h with | tup q r => exact ⟨_, _, rfl, q, r⟩
theorem _root_.L2.Dp.lstI {v : V} {ds : List PyData} (h : Dp K H v (.list ds)) : ∃ a xs, v = .ref a ∧ SqL K H a xs ∧ DpAll K H xs ds := by cases h with | lst q r => exact ⟨_, _, rfl, q, r⟩
theorem _root_.L2.Dp.intsI {v : V} {l : List Int} (h : Dp K H v (dInts l)) : ∃ a, v = .ref a ∧ SqT K H a (l.map V.int) := by
  obtain ⟨a, xs, rfl, q, r⟩ := Dp.tupI h
  rw [dpAll_intsV r] at q
  exact ⟨a, rfl, q⟩
end
section
variable (K : PySem.W.Frag)
def Gv (t : TE) (σ : L2.St) (H : Hp) (d : PyData) : Prop := ∀ H1, Same H H1 → ∀ Q : VK, (∀ v H', Same H1 H' → Dp K H' v d → Q v H') → t σ H1 Q
/-- a list that is tracked -/
def GvL (t : TE) (σ : L2.St) (H : Hp) (ds : List PyData) : Prop := ∀ H1, Same H H1 → ∀ Q : VK, (∀ a vs H', Same H1 H' → H' a = some (.lst vs) → DpAll K H' vs ds → Q (.ref a) H') → t σ H1 Q
/-- a new list -/
def GvN (t : TE) (σ : L2.St) (H : Hp) (ds : List PyData) : Prop := ∀ H1, Same H H1 → ∀ Q : VK, (∀ a vs H', Same H1 H' → H1 a = none → H' a = some (.lst vs) → DpAll K H' vs ds → Q (.ref a) H') → t σ H1 Q
def GvA (t : TA) (σ : L2.St) (H : Hp) (ds : List PyData) : Prop := ∀ H1, Same H H1 → ∀ Q : List V → Hp → Prop, (∀ vs H', Same H1 H' → DpAll K H' vs ds → Q vs H') → t σ H1 Q
def GvT (t : TT) (σ : L2.St) (H : Hp) (b : Bool) : Prop := ∀ H1, Same H H1 → ∀ Q : Bool → Hp → Prop, (∀ H', Same H1 H' → Q b H') → t σ H1 Q
/-- what a walk gives, while what it goes over stays as R says -/
def GvI (R : Hp → Hp → Prop) (wi : TI) (σ : L2.St) (H : Hp) (ds : List PyData) : Prop := ∀ H1, Same H H1 → ∀ Q : It → Hp → Prop,
  (∀ J H', Same H1 H' → Walk J ds.length (R H') (fun i h x h' => Same h h' ∧ ∃ d, ds[i]? = some d ∧ Dp K h' x d) → Q J H') → wi σ H1 Q
end
section
variable {K : PySem.W.Frag} {σ : L2.St} {H H' : Hp} {t ta tb : TE} {d e : PyData} {ds : List PyData} {ta' : TA} {tt uu : TT} {b c : Bool}
theorem GvN.gl (h : GvN K t σ H ds) : GvL K t σ H ds := fun H1 s Q q => h H1 s Q fun a vs H' s' _ e dv => q a vs H' s' e dv
theorem GvN.at (h : GvN K t σ H ds) {Q : VK} (q : ∀ a vs H', Same H H' → H a = none → H' a = some (.lst vs) → DpAll K H' vs ds → Q (.ref a) H') : t σ H Q := h H (Same.refl _) Q q
theorem GvN.to {es : List PyData} (h : GvN K t σ H ds) (q : ds = es) : GvN K t σ H es := q ▸ h
theorem GvN.gv (h : GvN K t σ H ds) : Gv K t σ H (.list ds) := fun H1 s Q q => h H1 s Q fun a vs H' s' _ e dv => q _ H' s' (.lst (.inl (.inl e)) dv)
theorem GvL.gv (h : GvL K t σ H ds) : Gv K t σ H (.list ds) := fun H1 s Q q => h H1 s Q fun a vs H' s' e dv => q _ H' s' (.lst (.inl (.inl e)) dv)
theorem GvL.at (h : GvL K t σ H ds) {Q : VK} (q : ∀ a vs H', Same H H' → H' a = some (.lst vs) → DpAll K H' vs ds → Q (.ref a) H') : t σ H Q := h H (Same.refl _) Q q
theorem GvL.to {es : List PyData} (h : GvL K t σ H ds) (q : ds = es) : GvL K t σ H es := q ▸ h
theorem gl_var {i : Nat} {a : Addr} {vs : List V} (h : σ[i]? = some (some (.ref a))) (e : H a = some (.lst vs)) (hd : DpAll K H vs ds) : GvL K (tVar i) σ H ds := fun H1 s Q q => ⟨_, h, q a vs H1 (Same.refl _) (s _ _ e) (hd.sm s)⟩
theorem Gv.at (h : Gv K t σ H d) {Q : VK} (q : ∀ v H', Same H H' → Dp K H' v d → Q v H') : t σ H Q := h H (Same.refl _) Q q
theorem Gv.sm (h : Gv K t σ H d) (s : Same H H') : Gv K t σ H' d := fun H1 s1 => h H1 (s.trans s1)
theorem Gv.to (h : Gv K t σ H d) (q : d = e) : Gv K t σ H e := q ▸ h
theorem GvT.at (h : GvT tt σ H b) {Q : Bool → Hp → Prop} (q : ∀ H', Same H H' → Q b H') : tt σ H Q := h H (Same.refl _) Q q
theorem GvT.to (h : GvT tt σ H b) (q : b = c) : GvT tt σ H c := q ▸ h
theorem gv_var {i : Nat} {v : V} (h : σ[i]? = some (some v)) (hd : Dp K H v d) : Gv K (tVar i) σ H d := fun H1 s Q q => ⟨v, h, q v H1 (Same.refl _) (hd.sm s)⟩
theorem gv_int {i : Int} : Gv K (tC (.int i)) σ H (.int i) := fun H1 _ Q q => q _ H1 (Same.refl _) (.int i)
theorem gv_str {x : Str} : Gv K (tC (.str x)) σ H (.str x) := fun H1 _ Q q => q _ H1 (Same.refl _) (.str x)
theorem gv_non : Gv K (tC .non) σ H .none := fun H1 _ Q q => q _ H1 (Same.refl _) .non
theorem gva_nil : GvA K tNil σ H [] := fun H1 _ Q q => q [] H1 (Same.refl _) .nil
theorem gva_cons {tr : TA} (h : Gv K t σ H d) (g : GvA K tr σ H ds) : GvA K (tCons t tr) σ H (d :: ds) := fun H1 s Q q =>
  h H1 s _ fun v H2 s2 d2 => g H2 (s.trans s2) _ fun vs H3 s3 d3 => q _ H3 (s2.trans s3) (.cons (d2.sm s3) d3)
theorem gva_starT {es : List PyData} {tr : TA} (h : Gv K t σ H (.tuple es)) (g : GvA K tr σ H ds) : GvA K (StX.tStar K t tr) σ H (es ++ ds) := fun H1 s Q q =>
  h H1 s _ fun v H2 s2 d2 => by
    obtain ⟨a, xs, rfl, hq, hr⟩ := d2.tupI
    exact ⟨a, xs, rfl, .inl hq, g H2 (s.trans s2) _ fun vs H3 s3 d3 => q _ H3 (s2.trans s3) (DpAll.append (hr.sm s3) d3)⟩
theorem gva_starL {es : List PyData} {tr : TA} (h : Gv K t σ H (.list es)) (g : GvA K tr σ H ds) : GvA K (StX.tStar K t tr) σ H (es ++ ds) := fun H1 s Q q =>
  h H1 s _ fun v H2 s2 d2 => by
    obtain ⟨a, xs, rfl, hq, hr⟩ := d2.lstI
    exact ⟨a, xs, rfl, .inr hq, g H2 (s.trans s2) _ fun vs H3 s3 d3 => q _ H3 (s2.trans s3) (DpAll.append (hr.sm s3) d3)⟩
theorem small5 {n : Nat} (h : n ≤ 100000) : n < sizeLine := Nat.lt_of_le_of_lt h (by decide)
theorem gv_tup (h : GvA K ta' σ H ds) (hl : ds.length ≤ sizeLine := by first | decide | exact Nat.le_of_lt (small5 (by simp only [List.length_cons, List.length_nil]; decide))) : Gv K (tTup ta') σ H (.tuple ds) := fun H1 s Q q => h H1 s _ fun vs H2 s2 d2 =>
  ⟨by rw [d2.length]; exact hl, fun p np => q _ _ (s2.trans (same_new np)) (.tup (.inl (.inl upd_same)) (d2.sm (same_new np)))⟩
theorem gn_lst (h : GvA K ta' σ H ds) (hl : ds.length ≤ sizeLine := by first | decide | exact Nat.le_of_lt (small5 (by simp only [List.length_cons, List.length_nil]; decide))) : GvN K (tLst ta') σ H ds := fun H1 s Q q => h H1 s _ fun vs H2 s2 d2 =>
  ⟨by rw [d2.length]; exact hl, fun p np => q _ _ _ (s2.trans (same_new np)) (s2.free np) upd_same (d2.sm (same_new np))⟩
theorem gl_lst (h : GvA K ta' σ H ds) (hl : ds.length ≤ sizeLine := by first | decide | exact Nat.le_of_lt (small5 (by simp only [List.length_cons, List.length_nil]; decide))) : GvL K (tLst ta') σ H ds := (gn_lst h hl).gl
theorem gv_lst (h : GvA K ta' σ H ds) (hl : ds.length ≤ sizeLine := by first | decide | exact Nat.le_of_lt (small5 (by simp only [List.length_cons, List.length_nil]; decide))) : Gv K (tLst ta') σ H (.list ds) := (gl_lst h hl).gv
theorem gv_op2 {r : R2} (ha : Gv K ta σ H d) (hb : Gv K tb σ H e) {f : PyData} (hr : ∀ x y H1 Q, Same H H1 → Dp K H1 x d → Dp K H1 y e → (∀ v H', Same H1 H' → Dp K H' v f → Q v H') → r x y H1 Q) : Gv K (tOp r ta tb) σ H f := fun H1 s Q q =>
  ha H1 s _ fun x H2 s2 d2 => hb H2 (s.trans s2) _ fun y H3 s3 d3 => hr x y H3 Q ((s.trans s2).trans s3) (d2.sm s3) d3 fun v H4 s4 d4 => q v H4 ((s2.trans s3).trans s4) d4
theorem gv_I0 {g : Int → Int → V} {i j : Int} (ha : Gv K ta σ H (.int i)) (hb : Gv K tb σ H (.int j)) {f : PyData} (hf : ∀ H, Dp K H (g i j) f) : Gv K (tOp (rI0 g) ta tb) σ H f :=
  gv_op2 ha hb fun x y H1 Q s hx hy q => by cases hx; cases hy; exact ⟨i, j, rfl, rfl, q _ _ (Same.refl _) (hf _)⟩
theorem gv_add {i j : Int} (ha : Gv K ta σ H (.int i)) (hb : Gv K tb σ H (.int j)) : Gv K (tOp (rI0 fun i j => V.int (i + j)) ta tb) σ H (.int (i + j)) := gv_I0 ha hb fun _ => .int _
theorem gv_sub {i j : Int} (ha : Gv K ta σ H (.int i)) (hb : Gv K tb σ H (.int j)) : Gv K (tOp (rI0 fun i j => V.int (i - j)) ta tb) σ H (.int (i - j)) := gv_I0 ha hb fun _ => .int _
theorem gv_eqI {i j : Int} (ha : Gv K ta σ H (.int i)) (hb : Gv K tb σ H (.int j)) : Gv K (tOp rEq ta tb) σ H (.bool (decide (i = j))) :=
  gv_op2 ha hb fun x y H1 Q s hx hy q => by
    cases hx; cases hy
    refine ⟨rfl, q _ _ (Same.refl _) ?_⟩
    rw [show decide (V.int i = V.int j) = decide (i = j) from decide_eq_decide.mpr ⟨fun h => V.int.inj h, fun h => by rw [h]⟩]
    exact .bl _
theorem gv_neI {i j : Int} (ha : Gv K ta σ H (.int i)) (hb : Gv K tb σ H (.int j)) : Gv K (tOp rNe ta tb) σ H (.bool (!decide (i = j))) :=
  gv_op2 ha hb fun x y H1 Q s hx hy q => by
    cases hx; cases hy
    refine ⟨rfl, q _ _ (Same.refl _) ?_⟩
    rw [show decide (V.int i = V.int j) = decide (i = j) from decide_eq_decide.mpr ⟨fun h => V.int.inj h, fun h => by rw [h]⟩]
    exact .bl _
theorem gv_eqS {i j : Str} (ha : Gv K ta σ H (.str i)) (hb : Gv K tb σ H (.str j)) : Gv K (tOp rEq ta tb) σ H (.bool (decide (i = j))) :=
  gv_op2 ha hb fun x y H1 Q s hx hy q => by
    cases hx; cases hy
    refine ⟨rfl, q _ _ (Same.refl _) ?_⟩
    rw [show decide (V.str i = V.str j) = decide (i = j) from decide_eq_decide.mpr ⟨fun h => V.str.inj h, fun h => by rw [h]⟩]
    exact .bl _
theorem gv_neS {i j : Str} (ha : Gv K ta σ H (.str i)) (hb : Gv K tb σ H (.str j)) : Gv K (tOp rNe ta tb) σ H (.bool (!decide (i = j))) :=
  gv_op2 ha hb fun x y H1 Q s hx hy q => by
    cases hx; cases hy
    refine ⟨rfl, q _ _ (Same.refl _) ?_⟩
    rw [show decide (V.str i = V.str j) = decide (i = j) from decide_eq_decide.mpr ⟨fun h => V.str.inj h, fun h => by rw [h]⟩]
    exact .bl _
theorem gv_eqD (ha : Gv K ta σ H d) (hb : Gv K tb σ H e) (h1 : SeqAt.shaped d = true) (h2 : SeqAt.shaped e = true) : Gv K (tOp (rEqD K) ta tb) σ H (.bool (PyData.eqv d e)) :=
  gv_op2 ha hb fun x y H1 Q s hx hy q => ⟨d, e, hx, hy, h1, h2, q _ _ (Same.refl _) (.bl _)⟩
theorem inV_intsG {b : Int} (l : List Int) : inV (.int b) (l.map V.int) = decide (b ∈ l) := by
  unfold inV
  rw [List.any_map, Bool.eq_iff_iff, List.any_eq_true, decide_eq_true_eq]
  constructor
  · rintro ⟨x, hx, e⟩
    have e' : x = b := by simpa [eqV] using e
    rw [← e']; exact hx
  · intro h
    exact ⟨b, h, by simp [eqV]⟩
theorem flat_intsG : ∀ l : List Int, (l.map V.int).all flatV = true
  | [] => rfl
  | x :: r => by rw [List.map_cons, List.all_cons, flat_intsG r]; rfl
theorem gv_inT {neg : Bool} {i : Int} {l : List Int} (ha : Gv K ta σ H (.int i)) (hb : Gv K tb σ H (dInts l)) : Gv K (tOp (rIn K neg) ta tb) σ H (.bool (if neg then !decide (i ∈ l) else decide (i ∈ l))) :=
  gv_op2 ha hb fun x y H1 Q s hx hy q => by
    cases hx
    obtain ⟨a, rfl, hq⟩ := hy.intsI
    refine ⟨a, _, rfl, .inr hq, rfl, flat_intsG l, ?_⟩
    rw [inV_intsG]
    exact q _ _ (Same.refl _) (.bl _)
theorem gv_ixT {i : Int} {j : Nat} (ha : Gv K ta σ H (.tuple ds)) (hb : Gv K tb σ H (.int i)) (hi : i = (j : Int)) (hj : ds[j]? = some d) : Gv K (tOp (rIxT K) ta tb) σ H d :=
  gv_op2 ha hb fun x y H1 Q s hx hy q => by
    cases hy
    obtain ⟨a, xs, rfl, hq, hr⟩ := hx.tupI
    obtain ⟨v, hv, dv⟩ := hr.get j d hj
    exact ⟨a, xs, i, v, rfl, rfl, hq, by rw [hi]; exact atI_nat hv, q _ _ (Same.refl _) dv⟩
theorem gv_ixL {i : Int} {j : Nat} (ha : Gv K ta σ H (.list ds)) (hb : Gv K tb σ H (.int i)) (hi : i = (j : Int)) (hj : ds[j]? = some d) : Gv K (tOp (rIxL K) ta tb) σ H d :=
  gv_op2 ha hb fun x y H1 Q s hx hy q => by
    cases hy
    obtain ⟨a, xs, rfl, hq, hr⟩ := hx.lstI
    obtain ⟨v, hv, dv⟩ := hr.get j d hj
    exact ⟨a, xs, i, v, rfl, rfl, hq, by rw [hi]; exact atI_nat hv, q _ _ (Same.refl _) dv⟩
theorem gv_pan {i : Int} {pan : List (List Int)} (ha : Gv K ta σ H (dPan pan)) (hb : Gv K tb σ H (.int i)) (h0 : 0 ≤ i) (h1 : i < (pan.length : Int)) : Gv K (tOp (rIxT K) ta tb) σ H (dInts (pan.getD i.toNat [])) := by
  refine gv_ixT (j := i.toNat) ha hb (by omega) ?_
  rw [List.getElem?_map, List.getD_eq_getElem?_getD, List.getElem?_eq_getElem (by omega)]; rfl
theorem gv_cb {r : List V → Hp → VK → Prop} (h : GvA K ta' σ H ds) {f : PyData} (hr : ∀ vs H1 Q, Same H H1 → DpAll K H1 vs ds → (∀ v H', Same H1 H' → Dp K H' v f → Q v H') → r vs H1 Q) : Gv K (tCB r ta') σ H f := fun H1 s Q q =>
  h H1 s _ fun vs H2 s2 d2 => hr vs H2 Q (s.trans s2) d2 fun v H3 s3 d3 => q v H3 (s2.trans s3) d3
theorem dpAll1 {vs : List V} (h : DpAll K H vs [d]) : ∃ v, vs = [v] ∧ Dp K H v d := by
  cases h with | cons x y => cases y; exact ⟨_, rfl, x⟩
theorem dpAll2 {vs : List V} (h : DpAll K H vs [d, e]) : ∃ v u, vs = [v, u] ∧ Dp K H v d ∧ Dp K H u e := by
  cases h with | cons x y => obtain ⟨u, rfl, z⟩ := dpAll1 y; exact ⟨_, _, rfl, x, z⟩
theorem dpAll3 {f : PyData} {vs : List V} (h : DpAll K H vs [d, e, f]) : ∃ v u w, vs = [v, u, w] ∧ Dp K H v d ∧ Dp K H u e ∧ Dp K H w f := by
  cases h with | cons x y => obtain ⟨u, w, rfl, z⟩ := dpAll2 y; exact ⟨_, _, _, rfl, x, z⟩
theorem dpAll4 {f g : PyData} {vs : List V} (h : DpAll K H vs [d, e, f, g]) : ∃ v u w z, vs = [v, u, w, z] ∧ Dp K H v d ∧ Dp K H u e ∧ Dp K H w f ∧ Dp K H z g := by
  cases h with | cons x y => obtain ⟨u, w, q, rfl, z⟩ := dpAll3 y; exact ⟨_, _, _, _, rfl, x, z⟩
def rLenG (K : PySem.W.Frag) : List V → Hp → VK → Prop := fun xs H Q => ∃ p ys, xs = [V.ref p] ∧ (SqL K H p ys ∨ SqT K H p ys) ∧ Q (.int ys.length) H
theorem cr_lenG {X : Cx} : CallR X (.builtin "len") (rLenG X.K) := call_len_seq
def rTupG (K : PySem.W.Frag) : List V → Hp → VK → Prop := fun xs H Q => ∃ p ys, xs = [V.ref p] ∧ ((SqL K H p ys ∧ ∀ l, H l = none → Q (.ref l) (upd H l (.tup ys))) ∨ (SqT K H p ys ∧ Q (.ref p) H))
theorem cr_tupG {X : Cx} : CallR X (.type "tuple") (rTupG X.K) := call_tuple_of
theorem gv_lenT (h : Gv K t σ H (.tuple ds)) : Gv K (tCB (rLenG K) (tCons t tNil)) σ H (.int ds.length) :=
  gv_cb (gva_cons h gva_nil) fun vs H1 Q s hd q => by
    obtain ⟨v, rfl, hv⟩ := dpAll1 hd
    obtain ⟨a, xs, rfl, hq, hr⟩ := hv.tupI
    exact ⟨a, xs, rfl, .inr hq, by rw [hr.length]; exact q _ _ (Same.refl _) (.int _)⟩
theorem gv_lenL (h : Gv K t σ H (.list ds)) : Gv K (tCB (rLenG K) (tCons t tNil)) σ H (.int ds.length) :=
  gv_cb (gva_cons h gva_nil) fun vs H1 Q s hd q => by
    obtain ⟨v, rfl, hv⟩ := dpAll1 hd
    obtain ⟨a, xs, rfl, hq, hr⟩ := hv.lstI
    exact ⟨a, xs, rfl, .inl hq, by rw [hr.length]; exact q _ _ (Same.refl _) (.int _)⟩
theorem gv_tupL (h : Gv K t σ H (.list ds)) : Gv K (tCB (rTupG K) (tCons t tNil)) σ H (.tuple ds) :=
  gv_cb (gva_cons h gva_nil) fun vs H1 Q s hd q => by
    obtain ⟨v, rfl, hv⟩ := dpAll1 hd
    obtain ⟨a, xs, rfl, hq, hr⟩ := hv.lstI
    exact ⟨a, xs, rfl, .inl ⟨hq, fun l nl => q _ _ (same_new nl) (.tup (.inl (.inl upd_same)) (hr.sm (same_new nl)))⟩⟩
/-- the ascending one of the same numbers -/
def srt (l : List Int) : List Int := l.mergeSort (fun a b => decide (a ≤ b))
theorem srt_perm (l : List Int) : (srt l).Perm l := List.mergeSort_perm _ _
theorem srt_up (l : List Int) : (srt l).Pairwise (· ≤ ·) := by
  have := List.pairwise_mergeSort (le := fun a b : Int => decide (a ≤ b)) (fun a b c h1 h2 => by simp at *; omega) (fun a b => by simp; omega) l
  exact this.imp fun h => by simpa using h
theorem perm_up_eq : ∀ {l1 l2 : List Int}, l1.Perm l2 → l1.Pairwise (· ≤ ·) → l2.Pairwise (· ≤ ·) → l1 = l2 := by
  intro l1
  induction l1 with
  | nil => intro l2 h _ _; exact (List.nil_perm.mp h).symm
  | cons x r ih =>
    intro l2 h h1 h2
    cases l2 with
    | nil => exact absurd h.symm (by simp)
    | cons y s =>
      rw [List.pairwise_cons] at h1 h2
      have hxy : x = y := by
        have hx : x ∈ y :: s := h.subset List.mem_cons_self
        have hy : y ∈ x :: r := h.symm.subset List.mem_cons_self
        rcases List.mem_cons.mp hx with e | e
        · exact e
        · rcases List.mem_cons.mp hy with e' | e'
          · exact e'.symm
          · have := h1.1 y e'
            have := h2.1 x e
            omega
      subst hxy
      rw [ih (List.Perm.cons_inv h) h1.2 h2.2]
theorem srt_eq {l m : List Int} (h : m.Perm l) (u : m.Pairwise (· ≤ ·)) : srt l = m := perm_up_eq ((srt_perm l).trans h.symm) (srt_up l) u
theorem srt_self {l : List Int} (u : l.Pairwise (· < ·)) : srt l = l := srt_eq (List.Perm.refl _) (u.imp fun h => by omega)
theorem gv_sortL {l : List Int} (h : Gv K t σ H (.list (l.map PyData.int))) (hl : l.length < 64) : Gv K (tCB (rSorted K) (tCons t tNil)) σ H (.list ((srt l).map PyData.int)) :=
  gv_cb (gva_cons h gva_nil) fun vs H1 Q s hd q => by
    obtain ⟨v, rfl, hv⟩ := dpAll1 hd
    obtain ⟨a, xs, rfl, hq, hr⟩ := hv.lstI
    rw [dpAll_intsV hr] at hq
    refine ⟨a, l, rfl, hq, hl, fun ns' p hp hu np => ?_⟩
    rw [← srt_eq hp hu]
    exact q _ _ (same_new np) (.lst (.inl (.inl upd_same)) (dpAll_ints _))
theorem gvt_test (h : Gv K t σ H (.bool b)) : GvT (tTest t) σ H b := fun H1 s Q q => h H1 s _ fun v H2 s2 d2 => by cases d2; exact ⟨b, rfl, q _ s2⟩
theorem gvt_b (h : Gv K t σ H (.bool b)) : GvT (tB t) σ H b := fun H1 s Q q => h H1 s _ fun v H2 s2 d2 => by cases d2; exact ⟨b, rfl, q _ s2⟩
theorem gvt_not (h : GvT tt σ H b) : GvT (tNot tt) σ H (!b) := fun H1 s Q q => h H1 s _ fun H2 s2 => q _ s2
theorem gvt_yes : GvT tYes σ H true := fun H1 s Q q => q H1 (Same.refl _)
theorem gvt_and (h : GvT tt σ H b) (g : ∀ H', Same H H' → b = true → GvT uu σ H' c) : GvT (tAnd tt uu) σ H (b && c) := fun H1 s Q q => h H1 s _ fun H2 s2 => by
  cases b with
  | true => rw [if_pos rfl]; exact g H2 (s.trans s2) rfl H2 (Same.refl _) _ fun H3 s3 => q _ (s2.trans s3)
  | false => rw [if_neg Bool.false_ne_true]; exact q _ s2
theorem gvt_or (h : GvT tt σ H b) (g : ∀ H', Same H H' → b = false → GvT uu σ H' c) : GvT (tOr tt uu) σ H (b || c) := fun H1 s Q q => h H1 s _ fun H2 s2 => by
  cases b with
  | true => rw [if_pos rfl]; exact q _ s2
  | false => rw [if_neg Bool.false_ne_true]; exact g H2 (s.trans s2) rfl H2 (Same.refl _) _ fun H3 s3 => q _ (s2.trans s3)
theorem gv_if (h : GvT tt σ H b) (h1 : b = true → Gv K ta σ H d) (h2 : b = false → Gv K tb σ H e) : Gv K (tIf tt ta tb) σ H (if b then d else e) := fun H1 s Q q => h H1 s _ fun H2 s2 => by
  cases b with
  | true => rw [if_pos rfl]; exact h1 rfl H2 (s.trans s2) _ fun v H3 s3 d3 => q v H3 (s2.trans s3) d3
  | false => rw [if_neg Bool.false_ne_true]; exact h2 rfl H2 (s.trans s2) _ fun v H3 s3 d3 => q v H3 (s2.trans s3) d3
/-- a def that only computes -/
def spP (K : PySem.W.Frag) {α : Type} (δ : α → List PyData) (C : α → Prop) (f : α → PyData) : Sp := fun vs H Q _ => ∃ a, DpAll K H vs (δ a) ∧ C a ∧ ∀ v H', Same H H' → Dp K H' v (f a) → Q v H'
theorem gv_call {α : Type} {δ : α → List PyData} {C : α → Prop} {f : α → PyData} {E : XK} (a : α) (h : GvA K ta' σ H (δ a)) (hc : C a) : Gv K (tCall (spP K δ C f) [] E ta') σ H (f a) := fun H1 s Q q =>
  h H1 s _ fun vs H2 s2 d2 => ⟨a, by rw [List.append_nil]; exact d2, hc, fun v H3 s3 d3 => q v H3 (s2.trans s3) d3⟩
end
section
variable {K : PySem.W.Frag} {R : Hp → Hp → Prop} {σ : L2.St} {H : Hp} {t : TE} {ta : TA} {ds : List PyData}
theorem gvi_list (h : Gv K t σ H (.list ds)) : GvI K Same (iList K t) σ H ds := fun H1 s Q q => h H1 s _ fun v H2 s2 d2 => by
  obtain ⟨a, xs, rfl, hq, hr⟩ := d2.lstI
  refine ⟨a, rfl, ⟨xs, hq⟩, q _ H2 s2 ?_⟩
  rw [← hr.length]
  refine walk_list.mono (fun h e => e.seq hq) fun i h x h' hi e y => ?_
  obtain ⟨rfl, y⟩ := y
  have hi' : i < ds.length := by rw [← hr.length]; exact hi
  obtain ⟨v, hv, dv⟩ := hr.get i ds[i] (List.getElem?_eq_getElem hi')
  rw [hv] at y; cases y
  exact ⟨Same.refl _, ds[i], List.getElem?_eq_getElem hi', dv.sm e⟩
theorem gvi_tup (h : Gv K t σ H (.tuple ds)) : GvI K Same (iTup K t) σ H ds := fun H1 s Q q => h H1 s _ fun v H2 s2 d2 => by
  obtain ⟨a, xs, rfl, hq, hr⟩ := d2.tupI
  refine ⟨a, rfl, ⟨xs, hq⟩, q _ H2 s2 ?_⟩
  rw [← hr.length]
  refine walk_tup.mono (fun h e => same_sqT e hq) fun i h x h' hi e y => ?_
  obtain ⟨rfl, y⟩ := y
  have hi' : i < ds.length := by rw [← hr.length]; exact hi
  obtain ⟨v, hv, dv⟩ := hr.get i ds[i] (List.getElem?_eq_getElem hi')
  rw [hv] at y; cases y
  exact ⟨Same.refl _, ds[i], List.getElem?_eq_getElem hi', dv.sm e⟩
theorem gvi_enumT {α : Type} {δ : α → PyData} {as : List α} (h : Gv K t σ H (.tuple (as.map δ))) : GvI K Same (iEnumT K (tCons t tNil)) σ H (as.zipIdx.map fun x => .tuple [.int (x.2 : Nat), δ x.1]) := fun H1 s Q q => h H1 s _ fun v H2 s2 d2 => by
  obtain ⟨a, xs, rfl, hq, hr⟩ := d2.tupI
  refine ⟨a, xs, rfl, hq, q _ H2 s2 ?_⟩
  have hl : xs.length = as.length := by rw [hr.length, List.length_map]
  rw [List.length_map, List.length_zipIdx, ← hl]
  refine walk_enumT.mono (fun h e => same_sqT e hq) fun i h x h' hi e y => ?_
  obtain ⟨T, x1, x2, rfl, nT, rfl, e1, e2⟩ := y
  cases e1
  have hi' : i < as.length := by omega
  obtain ⟨v, hv, dv⟩ := hr.get i (δ as[i]) (by rw [List.getElem?_map, List.getElem?_eq_getElem hi']; rfl)
  replace e2 : xs[i]? = some x2 := e2
  rw [hv] at e2; cases e2
  have sT : Same h (upd h T (.tup [.int (i : Nat), x2])) := same_new nT
  refine ⟨sT, .tuple [.int (i : Nat), δ as[i]], ?_, .tup (.inl (.inl upd_same)) (.cons (.int _) (.cons ((dv.sm e).sm sT) .nil))⟩
  rw [List.getElem?_map, List.getElem?_zipIdx, List.getElem?_eq_getElem hi']
  simp
theorem gvi_enumTK {α : Type} {δ : α → PyData} {as : List α} (h : Gv K t σ H (.tuple (as.map δ))) (z : ∀ a ∈ as, lf (δ a) = true) : GvI K Kp (iEnumT K (tCons t tNil)) σ H (as.zipIdx.map fun x => .tuple [.int (x.2 : Nat), δ x.1]) := fun H1 s Q q => h H1 s _ fun v H2 s2 d2 => by
  obtain ⟨a, xs, rfl, hq, hr⟩ := d2.tupI
  refine ⟨a, xs, rfl, hq, q _ H2 s2 ?_⟩
  have hl : xs.length = as.length := by rw [hr.length, List.length_map]
  rw [List.length_map, List.length_zipIdx, ← hl]
  refine walk_enumT.mono (fun h e => sqT_kp e hq) fun i h x h' hi e y => ?_
  obtain ⟨T, x1, x2, rfl, nT, rfl, e1, e2⟩ := y
  cases e1
  have hi' : i < as.length := by omega
  obtain ⟨v, hv, dv⟩ := hr.get i (δ as[i]) (by rw [List.getElem?_map, List.getElem?_eq_getElem hi']; rfl)
  replace e2 : xs[i]? = some x2 := e2
  rw [hv] at e2; cases e2
  have sT : Same h (upd h T (.tup [.int (i : Nat), x2])) := same_new nT
  refine ⟨sT, .tuple [.int (i : Nat), δ as[i]], ?_, .tup (.inl (.inl upd_same)) (.cons (.int _) (.cons ((dv.kp e (z _ (List.getElem_mem _))).sm sT) .nil))⟩
  rw [List.getElem?_map, List.getElem?_zipIdx, List.getElem?_eq_getElem hi']
  simp
/-- what a comprehension has gathered when D is the new list -/
def LcP (K : PySem.W.Frag) (H1 : Hp) (D : Addr) (ds : Nat → List PyData) (k : Nat) (H2 : Hp) : Prop := (∀ b o, b ≠ D → H1 b = some o → H2 b = some o) ∧ ∃ acc, H2 D = some (.lst acc) ∧ DpAll K H2 acc (ds k) ∧ acc.length ≤ k
theorem lcP_yes {H1 H5 H2 : Hp} {D : Addr} {ds : Nat → List PyData} {k : Nat} {acc : List V} {y : V} {d : PyData} (h : ∀ b o, b ≠ D → H1 b = some o → H2 b = some o) (s25 : Same H2 H5) (eD : H2 D = some (.lst acc)) (ha : DpAll K H2 acc (ds k)) (la : acc.length ≤ k) (dy : Dp K H5 y d)
    (e : ds (k + 1) = ds k ++ [d]) (z : lfAll (ds (k + 1)) = true) : LcP K H1 D ds (k + 1) (upd H5 D (.lst (acc ++ [y]))) := by
  refine ⟨fun b o hb q => by rw [upd_ne hb]; exact s25 _ _ (h b o hb q), acc ++ [y], upd_same, ?_, by rw [List.length_append]; show acc.length + 1 ≤ k + 1; omega⟩
  refine dpAll_kp (Kp.upd (s25 _ _ eD)) _ _ z ?_
  rw [e]
  exact DpAll.append (ha.sm s25) (.cons dy .nil)
theorem lcP_no {H1 H3 H2 : Hp} {D : Addr} {ds : Nat → List PyData} {k : Nat} {acc : List V} (h : ∀ b o, b ≠ D → H1 b = some o → H2 b = some o) (s23 : Same H2 H3) (eD : H2 D = some (.lst acc)) (ha : DpAll K H2 acc (ds k)) (la : acc.length ≤ k)
    (e : ds (k + 1) = ds k) : LcP K H1 D ds (k + 1) H3 :=
  ⟨fun b o hb q => s23 _ _ (h b o hb q), acc, s23 _ _ eD, by rw [e]; exact ha.sm s23, by omega⟩
theorem fil_take {α : Type} {as : List α} {p : α → Bool} {f : α → PyData} {k : Nat} (hk : k < as.length) : (((as.take (k + 1)).filter p).map f) = ((as.take k).filter p).map f ++ if p as[k] then [f as[k]] else [] := by
  rw [List.take_add_one, List.getElem?_eq_getElem hk, Option.toList_some, List.filter_append, List.map_append]
  cases h : p as[k] with
  | true => rw [List.filter_cons_of_pos h]; rfl
  | false => rw [List.filter_cons_of_neg (by rw [h]; exact Bool.false_ne_true)]; rfl
theorem lf_fil {α : Type} {as : List α} {p : α → Bool} {f : α → PyData} (h : ∀ a ∈ as, lf (f a) = true) (k : Nat) : lfAll (((as.take k).filter p).map f) = true := lfAll_of fun d hd => by
  obtain ⟨a, ha, rfl⟩ := List.mem_map.mp hd
  exact h a (List.mem_of_mem_take (List.mem_filter.mp ha).1)
/-- a comprehension, its target one name -/
theorem gn_lc {wi : TI} {tt : TT} {te : TE} {i : Nat} {α : Type} {δ : α → PyData} {as : List α} {p : α → Bool} {f : α → PyData} (hI : GvI K Same wi σ H (as.map δ))
    (hb : ∀ a v H1, a ∈ as → Same H H1 → Dp K H1 v (δ a) → GvT tt ((σ.set i none).set i (some v)) H1 (p a) ∧ (p a = true → Gv K te ((σ.set i none).set i (some v)) H1 (f a)))
    (hf : ∀ a ∈ as, lf (f a) = true) (hn : as.length ≤ 100000) : GvN K (tLc wi (gName i) tt te [i]) σ H ((as.filter p).map f) := by
  intro H0 s0 Q q
  refine hI H0 s0 _ fun J H1 s1 w D nD => ?_
  rw [List.length_map] at w
  refine lc_it w (LcP K H1 D fun k => ((as.take k).filter p).map f) ⟨fun b o hb e => by rw [upd_ne hb]; exact e, [], upd_same, .nil, Nat.zero_le _⟩ (fun k H2 _ hP b o e => hP.1 b o (ne_of_none e nD) e) (fun k x H2 H3 hk hP hY => ?_) (fun H2 hP => ?_)
  · obtain ⟨s2, acc, eD, hacc, la⟩ := hP
    obtain ⟨s3, d, hd, dx⟩ := hY
    rw [List.getElem?_map, List.getElem?_eq_getElem hk] at hd
    cases hd
    have sH : Same H H3 := (s0.trans s1).trans fun b o e => s3 _ _ (s2 b o (ne_of_none e nD) e)
    obtain ⟨g1, g2⟩ := hb as[k] x H3 (List.getElem_mem _) sH dx
    refine ⟨by show ((σ.set i none).set i (some x)).set i none = σ.set i none; rw [List.set_set, List.set_set], g1.at fun H4 s4 => ?_⟩
    cases hp : p as[k] with
    | true =>
      rw [if_pos rfl]
      refine (g2 hp).sm s4 |>.at fun y H5 s5 dy => ⟨acc, s5 _ _ (s4 _ _ (s3 _ _ eD)), small5 (by omega), ?_⟩
      exact lcP_yes s2 ((s3.trans s4).trans s5) eD hacc la dy (by rw [fil_take hk, hp]; rfl) (lf_fil hf _)
    | false =>
      rw [if_neg Bool.false_ne_true]
      exact lcP_no s2 (s3.trans s4) eD hacc la (by rw [fil_take hk, hp]; exact List.append_nil _)
  · obtain ⟨s2, acc, eD, hacc, la⟩ := hP
    replace hacc : DpAll K H2 acc (((as.take as.length).filter p).map f) := hacc
    rw [List.take_length] at hacc
    exact q _ _ H2 (s1.trans fun b o e => s2 b o (ne_of_none e nD) e) (s1.free nD) eD hacc
theorem gl_lc {wi : TI} {tt : TT} {te : TE} {i : Nat} {α : Type} {δ : α → PyData} {as : List α} {p : α → Bool} {f : α → PyData} (hI : GvI K Same wi σ H (as.map δ))
    (hb : ∀ a v H1, a ∈ as → Same H H1 → Dp K H1 v (δ a) → GvT tt ((σ.set i none).set i (some v)) H1 (p a) ∧ (p a = true → Gv K te ((σ.set i none).set i (some v)) H1 (f a)))
    (hf : ∀ a ∈ as, lf (f a) = true) (hn : as.length ≤ 100000) : GvL K (tLc wi (gName i) tt te [i]) σ H ((as.filter p).map f) := (gn_lc hI hb hf hn).gl
theorem gv_lc {wi : TI} {tt : TT} {te : TE} {i : Nat} {α : Type} {δ : α → PyData} {as : List α} {p : α → Bool} {f : α → PyData} (hI : GvI K Same wi σ H (as.map δ))
    (hb : ∀ a v H1, a ∈ as → Same H H1 → Dp K H1 v (δ a) → GvT tt ((σ.set i none).set i (some v)) H1 (p a) ∧ (p a = true → Gv K te ((σ.set i none).set i (some v)) H1 (f a)))
    (hf : ∀ a ∈ as, lf (f a) = true) (hn : as.length ≤ 100000) : Gv K (tLc wi (gName i) tt te [i]) σ H (.list ((as.filter p).map f)) := (gl_lc hI hb hf hn).gv
theorem set_two {i j : Nat} (σ : L2.St) (v u : V) : (((((σ.set j none).set i none).set i (some v)).set j (some u)).set j none).set i none = (σ.set j none).set i none := by
  refine List.ext_getElem? fun k => ?_
  simp only [List.getElem?_set, List.length_set]
  split <;> split <;> (try split) <;> simp_all
/-- the same, its target two names -/
theorem gn_lc2 {wi : TI} {tt : TT} {te : TE} {i j : Nat} {α : Type} {δ1 δ2 : α → PyData} {as : List α} {p : α → Bool} {f : α → PyData} (hI : GvI K Same wi σ H (as.map fun a => .tuple [δ1 a, δ2 a]))
    (hb : ∀ a v u H1, a ∈ as → Same H H1 → Dp K H1 v (δ1 a) → Dp K H1 u (δ2 a) → GvT tt ((((σ.set j none).set i none).set i (some v)).set j (some u)) H1 (p a) ∧ (p a = true → Gv K te ((((σ.set j none).set i none).set i (some v)).set j (some u)) H1 (f a)))
    (hf : ∀ a ∈ as, lf (f a) = true) (hn : as.length ≤ 100000) (hij : i ≠ j) : GvN K (tLc wi (gTup K 2 (gCons (gName i) (gCons (gName j) gNil))) tt te [i, j]) σ H ((as.filter p).map f) := by
  intro H0 s0 Q q
  refine hI H0 s0 _ fun J H1 s1 w D nD => ?_
  rw [List.length_map] at w
  refine lc_it w (LcP K H1 D fun k => ((as.take k).filter p).map f) ⟨fun b o hb e => by rw [upd_ne hb]; exact e, [], upd_same, .nil, Nat.zero_le _⟩ (fun k H2 _ hP b o e => hP.1 b o (ne_of_none e nD) e) (fun k x H2 H3 hk hP hY => ?_) (fun H2 hP => ?_)
  · obtain ⟨s2, acc, eD, hacc, la⟩ := hP
    obtain ⟨s3, d, hd, dx⟩ := hY
    rw [List.getElem?_map, List.getElem?_eq_getElem hk] at hd
    cases hd
    have sH : Same H H3 := (s0.trans s1).trans fun b o e => s3 _ _ (s2 b o (ne_of_none e nD) e)
    obtain ⟨T, xs, rfl, hT, hr⟩ := dx.tupI
    obtain ⟨v, u, rfl, dv, du⟩ := dpAll2 hr
    obtain ⟨g1, g2⟩ := hb as[k] v u H3 (List.getElem_mem _) sH dv du
    refine ⟨T, [v, u], rfl, hT, rfl, v, [u], rfl, u, [], rfl, rfl, ?_, g1.at fun H4 s4 => ?_⟩
    · show (((((σ.set j none).set i none).set i (some v)).set j (some u)).set j none).set i none = (σ.set j none).set i none
      exact set_two _ _ _
    cases hp : p as[k] with
    | true =>
      rw [if_pos rfl]
      refine (g2 hp).sm s4 |>.at fun y H5 s5 dy => ⟨acc, s5 _ _ (s4 _ _ (s3 _ _ eD)), small5 (by omega), ?_⟩
      exact lcP_yes s2 ((s3.trans s4).trans s5) eD hacc la dy (by rw [fil_take hk, hp]; rfl) (lf_fil hf _)
    | false =>
      rw [if_neg Bool.false_ne_true]
      exact lcP_no s2 (s3.trans s4) eD hacc la (by rw [fil_take hk, hp]; exact List.append_nil _)
  · obtain ⟨s2, acc, eD, hacc, la⟩ := hP
    replace hacc : DpAll K H2 acc (((as.take as.length).filter p).map f) := hacc
    rw [List.take_length] at hacc
    exact q _ _ H2 (s1.trans fun b o e => s2 b o (ne_of_none e nD) e) (s1.free nD) eD hacc
theorem gl_lc2 {wi : TI} {tt : TT} {te : TE} {i j : Nat} {α : Type} {δ1 δ2 : α → PyData} {as : List α} {p : α → Bool} {f : α → PyData} (hI : GvI K Same wi σ H (as.map fun a => .tuple [δ1 a, δ2 a]))
    (hb : ∀ a v u H1, a ∈ as → Same H H1 → Dp K H1 v (δ1 a) → Dp K H1 u (δ2 a) → GvT tt ((((σ.set j none).set i none).set i (some v)).set j (some u)) H1 (p a) ∧ (p a = true → Gv K te ((((σ.set j none).set i none).set i (some v)).set j (some u)) H1 (f a)))
    (hf : ∀ a ∈ as, lf (f a) = true) (hn : as.length ≤ 100000) (hij : i ≠ j) : GvL K (tLc wi (gTup K 2 (gCons (gName i) (gCons (gName j) gNil))) tt te [i, j]) σ H ((as.filter p).map f) := (gn_lc2 hI hb hf hn hij).gl
theorem gv_lc2 {wi : TI} {tt : TT} {te : TE} {i j : Nat} {α : Type} {δ1 δ2 : α → PyData} {as : List α} {p : α → Bool} {f : α → PyData} (hI : GvI K Same wi σ H (as.map fun a => .tuple [δ1 a, δ2 a]))
    (hb : ∀ a v u H1, a ∈ as → Same H H1 → Dp K H1 v (δ1 a) → Dp K H1 u (δ2 a) → GvT tt ((((σ.set j none).set i none).set i (some v)).set j (some u)) H1 (p a) ∧ (p a = true → Gv K te ((((σ.set j none).set i none).set i (some v)).set j (some u)) H1 (f a)))
    (hf : ∀ a ∈ as, lf (f a) = true) (hn : as.length ≤ 100000) (hij : i ≠ j) : Gv K (tLc wi (gTup K 2 (gCons (gName i) (gCons (gName j) gNil))) tt te [i, j]) σ H (.list ((as.filter p).map f)) := (gl_lc2 hI hb hf hn hij).gv
theorem gs_set {t : TE} {i : Nat} {d : PyData} {D : Ends} (h : Gv K t σ H d) (q : ∀ v H', Same H H' → Dp K H' v d → D.nx (σ.set i (some v)) H') : tAsg t (gName i) D σ H := h.at fun v H' s dv => q v H' s dv
theorem gs_ret {t : TE} {d : PyData} {D : Ends} (h : Gv K t σ H d) (q : ∀ v H', Same H H' → Dp K H' v d → D.rt v H') : tRet t D σ H := h.at q
theorem gs_if {c : TT} {b : Bool} {t u : TS} {D : Ends} (h : GvT c σ H b) (h1 : b = true → ∀ H', Same H H' → t D σ H') (h2 : b = false → ∀ H', Same H H' → u D σ H') : tIfS c t u D σ H := h.at fun H' s => by
  cases b with
  | true => rw [if_pos rfl]; exact h1 rfl H' s
  | false => rw [if_neg Bool.false_ne_true]; exact h2 rfl H' s
/-- a loop: Pv by the heap at its start, the turn, the slots and the heap -/
theorem gs_for {wi : TI} {g : TG} {tb : TS} {D : Ends} {ds : List PyData} (hI : GvI K R wi σ H ds) (Pv : Hp → Nat → L2.St → Hp → Prop) (h0 : ∀ H1, Same H H1 → Pv H1 0 σ H1) (hS : ∀ H1 k σ' H', Same H H1 → Pv H1 k σ' H' → R H1 H')
    (hs : ∀ H1 k x d σ' H' H'', Same H H1 → ds[k]? = some d → Pv H1 k σ' H' → Same H' H'' → Dp K H'' x d → g x σ' H'' fun σ2 H2 => tb { D with nx := Pv H1 (k + 1), ct := Pv H1 (k + 1), bk := D.nx } σ2 H2)
    (hd : ∀ H1 σ' H', Same H H1 → Pv H1 ds.length σ' H' → D.nx σ' H') : tFor wi g tb D σ H := by
  refine hI H (Same.refl _) _ fun J H1 s1 w => ?_
  refine for_it w (Pv H1) (h0 H1 s1) (fun k σ' H' _ hP => hS H1 k σ' H' s1 hP) (fun k x σ' H' H'' hk hP hY => ?_) (fun σ' H' hP => hd H1 σ' H' s1 hP)
  obtain ⟨s3, d, hd', dx⟩ := hY
  exact hs H1 k x d σ' H' H'' s1 hd' hP s3 dx
end
end Pr
namespace Pr
open PySem PySem.Spec PyProof.Rows L2
section
variable {K : PySem.W.Frag} {σ : L2.St} {H : Hp} {t ta tb : TE} {d e : PyData} {ds es : List PyData}
theorem dpAll_set {K : PySem.W.Frag} {H : Hp} {v : V} {d : PyData} (hd : Dp K H v d) : ∀ {vs : List V} {ds : List PyData} (i : Nat), DpAll K H vs ds → DpAll K H (vs.set i v) (ds.set i d)
  | [], [], _, .nil => .nil
  | _ :: _, _ :: _, 0, .cons _ t => .cons hd t
  | _ :: _, _ :: _, i + 1, .cons q t => .cons q (dpAll_set hd i t)
theorem gs_if1 {c : TT} {b : Bool} {t u : TS} {D : Ends} (h : GvT c σ H b) (h1 : b = true → ∀ H', Same H H' → t { D with nx := u D } σ H') (h2 : b = false → ∀ H', Same H H' → u D σ H') : tSeq (tIfS c t tNext) u D σ H := gs_if h h1 h2
theorem gs_set1 {i : Nat} {u : TS} {D : Ends} (h : Gv K t σ H d) (q : ∀ v H', Same H H' → Dp K H' v d → u D (σ.set i (some v)) H') : tSeq (tAsg t (gName i)) u D σ H := h.at fun v H' s dv => q v H' s dv
/-- a test that comes out false, what stands under it not reached -/
theorem gs_no {c : TT} {t u : TS} {D : Ends} {b : Bool} (h : GvT c σ H b) (hb : b = false) (h2 : ∀ H', Same H H' → u D σ H') : tSeq (tIfS c t tNext) u D σ H := gs_if h (fun e => by rw [hb] at e; cases e) fun _ => h2
theorem gs_noN {c : TT} {t : TS} {D : Ends} {b : Bool} (h : GvT c σ H b) (hb : b = false) (h2 : ∀ H', Same H H' → D.nx σ H') : tIfS c t tNext D σ H := gs_if h (fun e => by rw [hb] at e; cases e) fun _ => h2
/-- for x in a list or a tuple -/
theorem gs_each {i : Nat} {tb : TS} {D : Ends} {R : Hp → Hp → Prop} {wi : TI} {α : Type} {δ : α → PyData} {as : List α} (hI : GvI K R wi σ H (as.map δ)) (Pv : Hp → Nat → L2.St → Hp → Prop) (h0 : ∀ H1, Same H H1 → Pv H1 0 σ H1) (hS : ∀ H1 k σ' H', Same H H1 → Pv H1 k σ' H' → R H1 H')
    (hs : ∀ H1 k a v σ' H' H'', Same H H1 → as[k]? = some a → Pv H1 k σ' H' → Same H' H'' → Dp K H'' v (δ a) → tb { D with nx := Pv H1 (k + 1), ct := Pv H1 (k + 1), bk := D.nx } (σ'.set i (some v)) H'')
    (hd : ∀ H1 σ' H', Same H H1 → Pv H1 as.length σ' H' → D.nx σ' H') : tFor wi (gName i) tb D σ H := by
  refine gs_for hI Pv h0 hS (fun H1 k x d σ' H' H'' s1 hd' hP s2 dx => ?_) (fun H1 σ' H' s1 hP => hd H1 σ' H' s1 (by rwa [List.length_map] at hP))
  rw [List.getElem?_map] at hd'
  cases e : as[k]? with
  | none => rw [e] at hd'; cases hd'
  | some a => rw [e] at hd'; cases hd'; exact hs H1 k a x σ' H' H'' s1 e hP s2 dx
/-- for a, b in pairs -/
theorem gs_each2 {i j : Nat} {tb : TS} {D : Ends} {R : Hp → Hp → Prop} {wi : TI} {α : Type} {δ1 δ2 : α → PyData} {as : List α} (hI : GvI K R wi σ H (as.map fun a => .tuple [δ1 a, δ2 a])) (Pv : Hp → Nat → L2.St → Hp → Prop) (h0 : ∀ H1, Same H H1 → Pv H1 0 σ H1) (hS : ∀ H1 k σ' H', Same H H1 → Pv H1 k σ' H' → R H1 H')
    (hs : ∀ H1 k a v u σ' H' H'', Same H H1 → as[k]? = some a → Pv H1 k σ' H' → Same H' H'' → Dp K H'' v (δ1 a) → Dp K H'' u (δ2 a) → tb { D with nx := Pv H1 (k + 1), ct := Pv H1 (k + 1), bk := D.nx } ((σ'.set i (some v)).set j (some u)) H'')
    (hd : ∀ H1 σ' H', Same H H1 → Pv H1 as.length σ' H' → D.nx σ' H') : tFor wi (gTup K 2 (gCons (gName i) (gCons (gName j) gNil))) tb D σ H := by
  refine gs_for hI Pv h0 hS (fun H1 k x d σ' H' H'' s1 hd' hP s2 dx => ?_) (fun H1 σ' H' s1 hP => hd H1 σ' H' s1 (by rwa [List.length_map] at hP))
  rw [List.getElem?_map] at hd'
  cases e : as[k]? with
  | none => rw [e] at hd'; cases hd'
  | some a =>
    rw [e] at hd'; cases hd'
    obtain ⟨T, xs, rfl, hT, hr⟩ := dx.tupI
    obtain ⟨v, u, rfl, dv, du⟩ := dpAll2 hr
    exact ⟨T, [v, u], rfl, hT, rfl, v, [u], rfl, u, [], rfl, rfl, hs H1 k a v u σ' H' H'' s1 e hP s2 dv du⟩
theorem gn_cat (ha : GvL K ta σ H ds) (hb : GvL K tb σ H es) (hn : ds.length + es.length ≤ 100000) : GvN K (tOp rCat ta tb) σ H (ds ++ es) := fun H1 s Q q =>
  ha H1 s _ fun a xs H2 s2 ea da => hb H2 (s.trans s2) _ fun b ys H3 s3 eb db =>
    ⟨a, b, xs, ys, rfl, rfl, s3 _ _ ea, eb, by rw [da.length, db.length]; exact Nat.le_of_lt (small5 hn), fun p np => q _ _ _ ((s2.trans s3).trans (same_new np)) ((s2.trans s3).free np) upd_same (DpAll.append (da.sm (s3.trans (same_new np))) (db.sm (same_new np)))⟩
theorem gs_setN {i : Nat} {u : TS} {D : Ends} (h : GvN K t σ H ds) (q : ∀ a vs H', Same H H' → H a = none → H' a = some (.lst vs) → DpAll K H' vs ds → u D (σ.set i (some (.ref a))) H') : tSeq (tAsg t (gName i)) u D σ H := h.at fun a vs H' s n e dv => q a vs H' s n e dv
theorem gs_setL {i : Nat} {u : TS} {D : Ends} (h : GvL K t σ H ds) (q : ∀ a vs H', Same H H' → H' a = some (.lst vs) → DpAll K H' vs ds → u D (σ.set i (some (.ref a))) H') : tSeq (tAsg t (gName i)) u D σ H := h.at fun a vs H' s e dv => q a vs H' s e dv
theorem gv_catT (ha : Gv K ta σ H (.tuple ds)) (hb : Gv K tb σ H (.tuple es)) (hn : ds.length + es.length ≤ 100000) : Gv K (tOp (rCatS K) ta tb) σ H (.tuple (ds ++ es)) :=
  gv_op2 ha hb fun x y H1 Q s hx hy q => by
    obtain ⟨a, xs, rfl, hq, hr⟩ := hx.tupI
    obtain ⟨b, ys, rfl, hq2, hr2⟩ := hy.tupI
    exact ⟨a, b, xs, ys, rfl, rfl, hq, hq2, by rw [hr.length, hr2.length]; exact Nat.le_of_lt (small5 hn), fun p H' s' hp => q _ _ s' (.tup hp (DpAll.append (hr.sm s') (hr2.sm s')))⟩
theorem cut_dp {ds : List PyData} {xs : List V} (h : DpAll K H xs ds) (lo hi : Option Int) : DpAll K H (cutV xs lo hi) ((ds.drop (HT.sIx ds.length 0 lo)).take (HT.sIx ds.length ds.length hi - HT.sIx ds.length 0 lo)) := by
  unfold cutV
  rw [h.length]
  exact (h.drop _).take _
end
end Pr
namespace Pr
open PySem PySem.Spec PyProof.Rows L2
theorem hideD {t : TS} {D : Ends} {σ : L2.St} {H : Hp} (h : ∀ D' : Ends, (∀ σ H, D.nx σ H → D'.nx σ H) → t D' σ H) : t D σ H := h D fun _ _ z => z
theorem hideR {t : TS} {D : Ends} {σ : L2.St} {H : Hp} (h : ∀ D' : Ends, (∀ σ H, D.nx σ H → D'.nx σ H) → (∀ v H, D.rt v H → D'.rt v H) → t D' σ H) : t D σ H := h D (fun _ _ z => z) fun _ _ z => z
theorem seq_hide {t u : TS} {D : Ends} {σ : L2.St} {H : Hp} (h : ∀ u' : TS, (∀ D σ H, u D σ H → u' D σ H) → tSeq t u' D σ H) : tSeq t u D σ H := h u fun _ _ _ z => z
theorem hide1 {t : TS} {D : Ends} {σ : L2.St} {H : Hp} (h : ∀ t' : TS, (∀ D σ H, t D σ H → t' D σ H) → t' D σ H) : t D σ H := h t fun _ _ _ z => z
theorem next_of {D : Ends} {σ : L2.St} {H : Hp} (h : D.nx σ H) : tNext D σ H := h
end Pr
namespace Pr
open PySem PySem.Spec PyProof.Rows L2
def Rel (pan : List (List Int)) (st : List Int) (x y : Int) : Prop := x ∈ st ∧ y ∈ st ∧ y ∈ pan.getD x.toNat []
def Pth (pan : List (List Int)) (st : List Int) : Nat → Int → Int → Prop
  | 0, x, y => x = y
  | m + 1, x, y => ∃ z, Rel pan st x z ∧ Pth pan st m z y
section
variable {pan : List (List Int)} {st : List Int}
theorem Pth.join : ∀ {a b : Nat} {x y z : Int}, Pth pan st a x y → Pth pan st b y z → Pth pan st (a + b) x z
  | 0, b, x, y, z, h1, h2 => by rw [Nat.zero_add]; rw [show x = y from h1]; exact h2
  | a + 1, b, x, y, z, ⟨u, r, h1⟩, h2 => by
    rw [show a + 1 + b = (a + b) + 1 by omega]
    exact ⟨u, r, Pth.join h1 h2⟩
theorem Pth.split : ∀ {a b : Nat} {x z : Int}, Pth pan st (a + b) x z → ∃ y, Pth pan st a x y ∧ Pth pan st b y z
  | 0, b, x, z, h => ⟨x, rfl, by rw [Nat.zero_add] at h; exact h⟩
  | a + 1, b, x, z, h => by
    rw [show a + 1 + b = (a + b) + 1 by omega] at h
    obtain ⟨u, r, h⟩ := h
    obtain ⟨y, h1, h2⟩ := Pth.split h
    exact ⟨y, ⟨u, r, h1⟩, h2⟩
theorem Pth.one {x y : Int} (r : Rel pan st x y) : Pth pan st 1 x y := ⟨y, r, rfl⟩
theorem Pth.ends : ∀ {m : Nat} {x y : Int}, Pth pan st (m + 1) x y → x ∈ st ∧ y ∈ st
  | 0, x, y, ⟨z, r, h⟩ => ⟨r.1, by rw [← show z = y from h]; exact r.2.1⟩
  | m + 1, x, y, ⟨z, r, h⟩ => ⟨r.1, (Pth.ends h).2⟩
end
def Closed (pan : List (List Int)) (C : List Int) : Prop := ∀ b ∈ C, ∃ c ∈ pan.getD b.toNat [], c ∈ C
structure IsHeld (pan : List (List Int)) (st hs : List Int) : Prop where
  up : hs.Pairwise (· < ·)
  sub : ∀ x ∈ hs, x ∈ st
  closed : Closed pan hs
  most : ∀ C : List Int, Closed pan C → (∀ x ∈ C, x ∈ st) → ∀ x ∈ C, x ∈ hs
def relB (pan : List (List Int)) (os : List Int) (b : Int) : Bool := (pan.getD b.toNat []).any fun c => decide (c ∈ os)
theorem relB_iff {pan : List (List Int)} {os : List Int} {b : Int} : relB pan os b = true ↔ ∃ c ∈ pan.getD b.toNat [], c ∈ os := by
  unfold relB
  rw [List.any_eq_true]
  exact ⟨fun ⟨c, h1, h2⟩ => ⟨c, h1, of_decide_eq_true h2⟩, fun ⟨c, h1, h2⟩ => ⟨c, h1, decide_eq_true h2⟩⟩
/-- on the way to the held buttons -/
structure Hold (pan : List (List Int)) (st hs : List Int) : Prop where
  up : hs.Pairwise (· < ·)
  sub : ∀ x ∈ hs, x ∈ st
  most : ∀ C : List Int, Closed pan C → (∀ x ∈ C, x ∈ st) → ∀ x ∈ C, x ∈ hs
theorem Hold.step {pan : List (List Int)} {st hs : List Int} (h : Hold pan st hs) : Hold pan st (hs.filter (relB pan hs)) := by
  refine ⟨h.up.filter _, fun x hx => h.sub x (List.mem_filter.mp hx).1, fun C hC hs' x hx => List.mem_filter.mpr ⟨h.most C hC hs' x hx, relB_iff.mpr ?_⟩⟩
  obtain ⟨c, h1, h2⟩ := hC x hx
  exact ⟨c, h1, h.most C hC hs' c h2⟩
theorem Hold.done {pan : List (List Int)} {st hs : List Int} (h : Hold pan st hs) (hl : ¬ (hs.filter (relB pan hs)).length < hs.length) : IsHeld pan st hs := by
  have e : (hs.filter (relB pan hs)).length = hs.length := Nat.le_antisymm (List.length_filter_le _ _) (by omega)
  exact ⟨h.up, h.sub, fun b hb => relB_iff.mp (List.length_filter_eq_length_iff.mp e b hb), h.most⟩
/-- rows[x] holds the ends of ways of at most 2 ^ k links, and ends of ways only -/
structure Rch (pan : List (List Int)) (st : List Int) (k : Nat) (rows : List (List Int)) : Prop where
  len : rows.length = pan.length
  sound : ∀ (x : Nat) (l : List Int) (y : Int), rows[x]? = some l → y ∈ l → ∃ m, 1 ≤ m ∧ Pth pan st m (x : Int) y
  full : ∀ (x : Nat) (l : List Int) (y : Int) (m : Nat), rows[x]? = some l → 1 ≤ m → m ≤ 2 ^ k → Pth pan st m (x : Int) y → y ∈ l
theorem Rch.rng {pan : List (List Int)} {st : List Int} {k : Nat} {rows : List (List Int)} (h : Rch pan st k rows) (hs : ∀ x ∈ st, 0 ≤ x ∧ x < (pan.length : Int)) {x : Nat} {l : List Int} (hl : rows[x]? = some l) {y : Int} (hy : y ∈ l) : 0 ≤ y ∧ y < (pan.length : Int) := by
  obtain ⟨m, hm, p⟩ := h.sound x l y hl hy
  obtain ⟨m, rfl⟩ : ∃ k, m = k + 1 := ⟨m - 1, by omega⟩
  exact hs y (Pth.ends p).2
theorem Rch.next {pan : List (List Int)} {st : List Int} {k : Nat} {rows rows' : List (List Int)} (h : Rch pan st k rows) (hs : ∀ x ∈ st, 0 ≤ x ∧ x < (pan.length : Int)) (hl : rows'.length = rows.length)
    (hm : ∀ (x : Nat) (l l' : List Int), rows[x]? = some l → rows'[x]? = some l' → ∀ y, y ∈ l' ↔ (y ∈ l ∨ ∃ z ∈ l, y ∈ rows.getD z.toNat [])) : Rch pan st (k + 1) rows' := by
  have get : ∀ (x : Nat) (l' : List Int), rows'[x]? = some l' → ∃ l, rows[x]? = some l := fun x l' hx => by
    have := (List.getElem?_eq_some_iff.mp hx).1
    exact ⟨rows[x], List.getElem?_eq_getElem (by omega)⟩
  have nth : ∀ (z : Int), 0 ≤ z → z < (pan.length : Int) → rows[z.toNat]? = some (rows.getD z.toNat []) := fun z h0 h1 => by
    have : z.toNat < rows.length := by have := h.len; omega
    rw [List.getD_eq_getElem?_getD, List.getElem?_eq_getElem this]; rfl
  refine ⟨hl.trans h.len, fun x l' y hx hy => ?_, fun x l' y m hx h1 h2 hp => ?_⟩
  · obtain ⟨l, hl'⟩ := get x l' hx
    rcases (hm x l l' hl' hx y).mp hy with q | ⟨z, hz, q⟩
    · exact h.sound x l y hl' q
    · obtain ⟨a, ha, pa⟩ := h.sound x l z hl' hz
      have zr := h.rng hs hl' hz
      obtain ⟨b, hb, pb⟩ := h.sound z.toNat _ y (nth z zr.1 zr.2) q
      rw [Int.toNat_of_nonneg zr.1] at pb
      exact ⟨a + b, by omega, pa.join pb⟩
  · obtain ⟨l, hl'⟩ := get x l' hx
    refine (hm x l l' hl' hx y).mpr ?_
    by_cases hk : m ≤ 2 ^ k
    · exact .inl (h.full x l y m hl' h1 hk hp)
    · have e2 : 2 ^ (k + 1) = 2 ^ k + 2 ^ k := by rw [Nat.pow_succ]; omega
      have p2 : 1 ≤ 2 ^ k := Nat.one_le_two_pow
      rw [show m = 2 ^ k + (m - 2 ^ k) by omega] at hp
      obtain ⟨z, pa, pb⟩ := Pth.split hp
      have hz := h.full x l z (2 ^ k) hl' p2 (Nat.le_refl _) pa
      have zr := h.rng hs hl' hz
      refine .inr ⟨z, hz, h.full z.toNat _ y (m - 2 ^ k) (nth z zr.1 zr.2) (by omega) (by omega) ?_⟩
      rw [Int.toNat_of_nonneg zr.1]; exact pb
end Pr
namespace K54
open PySem PySem.Spec PyProof.Rows L2 Pr
def topS (i : Nat) : Stmt := PySem.Challenge.pw_pressrelease_k54_whole_guess_desks.main.body.getD i (.Pass ⟨0, 0, 0, 0⟩)
abbrev sWl : Stmt := topS 20
abbrev sLi : Stmt := topS 21
abbrev sUn : Stmt := topS 22
abbrev sNo : Stmt := topS 24
abbrev sPressE : Stmt := topS 25
abbrev sJoin : Stmt := topS 26
abbrev sWith : Stmt := topS 27
abbrev sBtn : Stmt := topS 29
abbrev sBtnT : Stmt := topS 30
abbrev sPErr : Stmt := topS 31
abbrev sPress : Stmt := topS 32
abbrev sAny : Stmt := topS 34
abbrev sHeld : Stmt := topS 35
abbrev sChkP : Stmt := topS 43
abbrev sChkS : Stmt := topS 44
abbrev sChkB : Stmt := topS 45
abbrev sIsV : Stmt := topS 46
abbrev sIsE : Stmt := topS 47
abbrev sCopy : Stmt := topS 48
abbrev sKAft : Stmt := topS 49
abbrev sDeck : Stmt := topS 54
abbrev sDraw : Stmt := topS 55
abbrev sPanel : Stmt := topS 56
abbrev sState0 : Stmt := topS 57
abbrev sPressed : Stmt := topS 58
abbrev sChanged : Stmt := topS 59
abbrev sAfter : Stmt := topS 60
abbrev sEdit : Stmt := topS 61
abbrev sDo : Stmt := topS 62
abbrev sRight : Stmt := topS 63
abbrev sKnown : Stmt := topS 64
abbrev sLocked : Stmt := topS 65
abbrev sAttd : Stmt := topS 66
abbrev sBatch : Stmt := topS 67
abbrev sLaw : Stmt := topS 68
theorem scDeck : FnScope ["_law_script", "_law_cell"] ["_law_script"] (defScope sDeck) := ⟨rfl, rfl, rfl, by decide +kernel, rfl, by decide +kernel, by decide +kernel⟩
theorem scDraw : FnScope ["_law_deck_here", "_law_many", "_law_cell", "_law_place"] ["_law_deck_here", "_law_many"] (defScope sDraw) := ⟨rfl, rfl, rfl, by decide +kernel, rfl, by decide +kernel, by decide +kernel⟩
theorem cut_ints (ns : List Int) (lo hi : Option Int) : ∃ ms : List Int, cutV (ns.map V.int) lo hi = ms.map V.int ∧ ms.length ≤ ns.length := by
  refine ⟨(ns.drop (HT.sIx ns.length 0 lo)).take (HT.sIx ns.length ns.length hi - HT.sIx ns.length 0 lo), ?_, ?_⟩
  · unfold cutV
    rw [List.length_map, List.map_take, List.map_drop]
  · rw [List.length_take, List.length_drop]; omega
section
variable {P : Program} {w : World} {K : PySem.W.Frag} {mg : Str → Option Value} {base : Heap}
def spDeck (K : PySem.W.Frag) : Sp := fun vs H Q _ => ∃ (s : Addr) (ns : List Int), vs = [.ref s] ∧ SqL K H s (ns.map V.int) ∧ ns.length ≤ 63 ∧
  ∀ H' a c, Same H H' → Deck H' a c 1000000 → Q (.ref a) H'
theorem ok_deck {f : Addr} {fd : FuncData} {k : Nat} (F : Fun K "_law_deck" "_law_deck" sDeck f fd) (ma : mg "abs" = none) : FnOk P w K mg base CX0 (k + 1) f fd ["_law_script"] (spDeck K) := by
  refine F.ok scDeck (fun vs H Q E h => ?_) (fun cdv A outer s H vs Q E hr h => ?_)
  · obtain ⟨s, ns, rfl, _⟩ := h
    rfl
  · obtain ⟨sa, ns, rfl, hS, hlen, q⟩ := h
    refine ⟨_, pss_one (ps_ret (pe_lst (pa_cons
      (pe_lc (own := [("_law_cell", 1)]) (g := gName 1) (tt := tYes) rfl scDeck.nd (pi_list (pe_slice sl_list (pv 0) po_none (po_some pe_int)))
        (blkOk_by (own := [("_law_cell", 1)]) (N := ["_law_script", "_law_cell"]) (sc := defScope sDeck) (by decide +kernel))
        (fun _ _ _ _ _ => pg_name (i := 1) scDeck.nd rfl (Or.inl rfl)) (fun _ _ _ _ _ => pts_nil)
        (fun _ _ _ _ _ => pe_callB call_abs (by rfl) ma (by decide +kernel) (pa_cons (pv 1) pa_nil)))
      (pa_cons pe_int pa_nil)))), ?_⟩
    refine ⟨.ref sa, rfl, 63, rfl, sa, ns.map V.int, rfl, hS, fun l nl => ?_⟩
    obtain ⟨ms, em, lm⟩ := cut_ints ns none (some 63)
    rw [em]
    have s1 : Same H (upd H l (.lst (ms.map V.int))) := same_new nl
    refine ⟨l, rfl, ⟨_, .inl (.inl upd_same)⟩, fun D nD => ?_⟩
    refine lc_list (xs := ms.map V.int) (fun i H3 => Same (upd H l (.lst (ms.map V.int))) H3 ∧ ∃ cells : List Int, cells.length = i ∧ H3 D = some (.lst (cells.map V.int)))
      ⟨same_new nD, [], rfl, upd_same⟩ (fun i H3 _ hP => hP.1.seq (.inl (.inl upd_same))) (fun i x H3 hx hP => ?_) (fun H3 hP => ?_)
    · obtain ⟨sm, cells, hc, eD⟩ := hP
      rw [List.getElem?_map] at hx
      obtain ⟨z, hz, rfl⟩ : ∃ z, ms[i]? = some z ∧ x = V.int z := by
        cases e : ms[i]? with
        | none => rw [e] at hx; cases hx
        | some z => rw [e] at hx; exact ⟨z, rfl, (Option.some.inj hx).symm⟩
      have hi : i < ms.length := (List.getElem?_eq_some_iff.mp hz).1
      refine ⟨rfl, tyes (iteT ⟨_, rfl, _, rfl, cells.map V.int, eD, ?_, ?_, cells ++ [if z < 0 then -z else z], ?_, ?_⟩)⟩
      · rw [List.length_map]; exact small1000 (by omega)
      · intro b o e
        rw [upd_ne (ne_of_none e nD)]
        exact sm _ _ e
      · rw [List.length_append, hc]; rfl
      · rw [upd_same, List.map_append]; rfl
    · obtain ⟨sm, cells, hc, eD⟩ := hP
      rw [List.length_map] at hc
      refine ⟨by show 2 ≤ sizeLine; decide, fun p np => ?_⟩
      have nDp : D ≠ p := ne_of_none eD np
      refine q _ p D ((s1.trans sm).trans (same_new np)) ⟨cells, 0, upd_same, ?_, Ne.symm nDp, by omega, by omega⟩
      rw [upd_ne nDp]; exact eD
def spDraw : Sp := fun vs H Q _ => ∃ (a c : Addr) (m : Nat) (lim : Int), vs = [.ref a, .int lim] ∧ Deck H a c (m + 1) ∧ 0 < lim ∧ lim < 1000000 ∧
  ∀ H' r, But a c H H' → Deck H' a c m → 0 ≤ r → r < lim → Q (.int r) H'
theorem ok_draw {f : Addr} {fd : FuncData} {k : Nat} (F : Fun K "_law_draw" "_law_draw" sDraw f fd) (ml : mg "len" = none) : FnOk P w K mg base CX0 (k + 1) f fd ["_law_deck_here", "_law_many"] spDraw := by
  refine F.ok scDraw (fun vs H Q E h => ?_) (fun cdv A outer s H vs Q E hr h => ?_)
  · obtain ⟨a, c, m, lim, rfl, _⟩ := h
    rfl
  · obtain ⟨a, c, m, lim, rfl, hD, l0, l1, q⟩ := h
    refine ⟨_, pss_cons (ps_asg (pe_op op_add (pe_ix ix_list (pv 0) pe_int (fun _ _ => rfl)) pe_int) (pg_sub (pv 0) pe_int set_list))
      (pss_cons (ps_set (i := 2) scDraw.nd rfl (.inl rfl) pe_int)
      (pss_cons (ps_set (i := 3) scDraw.nd rfl (.inl rfl) (pe_un un_neg pe_int))
      (pss_cons (ps_if (pt_cmpR op_gt (pe_callB call_len_seq (by rfl) ml PySem.boot_len (pa_cons (pe_ix ix_list (pv 0) pe_int (fun _ _ => rfl)) pa_nil)) pe_int (nomark _))
        (pss_cons (ps_set (i := 3) scDraw.nd rfl (.inl rfl) (pe_op op_mod (pe_ix ix_list (pv 0) pe_int (fun _ _ => rfl)) (pe_callB call_len_seq (by rfl) ml PySem.boot_len (pa_cons (pe_ix ix_list (pv 0) pe_int (fun _ _ => rfl)) pa_nil))))
          (pss_one (ps_set (i := 2) scDraw.nd rfl (.inl rfl) (pe_ix ix_list (pe_ix ix_list (pv 0) pe_int (fun _ _ => rfl)) (pv 3) (fun _ _ => rfl)))))
        pss_nil)
      (pss_cons (ps_if (pt_cmpR op_ge (pv 2) (pe_op op_pow pe_int pe_int) (nomark _))
        (pss_cons (ps_asg (pe_op op_fdiv (pv 2) (pv 1)) (pg_sub (pe_ix ix_list (pv 0) pe_int (fun _ _ => rfl)) (pv 3) set_list))
          (pss_one (ps_ret (pe_op op_mod (pv 2) (pv 1)))))
        pss_nil)
      (pss_one (ps_ret (pe_op op_mod (pe_op op_mod (pe_op op_pow (pe_op op_add (pe_op op_add (pe_op op_mod (pv 2) pe_int) (pe_op op_mul pe_int (pe_ix ix_list (pv 0) pe_int (fun _ _ => rfl)))) pe_int) pe_int) pe_int) (pv 1)))))))), ?_⟩
    obtain ⟨cells, n, ha, hc, nac, hlen, hn⟩ := hD
    refine ⟨.ref a, rfl, a, _, 1, .int n, rfl, rfl, .inl (.inl ha), atI_nat (j := 1) rfl, n, 1, rfl, rfl, .ref a, rfl, a, _, 1, 1, rfl, rfl, ha, rfl, ?_⟩
    refine gen_heap (fun H1 => H1 a = some (.lst [.ref c, .int ((n : Int) + 1)]) ∧ H1 c = some (.lst (cells.map V.int)) ∧ But a c H H1) ⟨upd_same, by rw [upd_ne (Ne.symm nac)]; exact hc, fun b o h1 _ e => by rw [upd_ne h1]; exact e⟩ fun H1 ⟨ha1, hc1, b1⟩ => ?_
    refine ⟨1, rfl, ?_⟩
    have ha2 := ha1
    have hc2 := hc1
    have b2 := b1
    have hcs : SqL K H1 c (cells.map V.int) := .inl (.inl hc2)
    have has : SqL K H1 a [.ref c, .int ((n : Int) + 1)] := .inl (.inl ha2)
    -- the end of the walk, from any cell
    have fin : ∀ (z ix : Int) (j : Nat), (10 ^ 18 ≤ z → ixN cells.length ix = some j) →
        tSeq (tIfS (tTest (tOp (rI0 fun i j => V.bl (decide (j ≤ i))) (tVar 2) (tOp (rI CPow fun i j => V.int (i ^ j.toNat)) (tC (V.int 10)) (tC (V.int 18)))))
          (tSeq (tAsg (tOp (rI CDiv fun i j => V.int (i / j)) (tVar 2) (tVar 1)) (gSub (tOp (rIxL K) (tVar 0) (tC (V.int 0))) (tVar 3) rSetL))
            (tRet (tOp (rI (fun x j => 0 < j) fun i j => V.int (i % j)) (tVar 2) (tVar 1)))) tNext)
        (tRet (tOp (rI (fun x j => 0 < j) fun i j => V.int (i % j)) (tOp (rI (fun x j => 0 < j) fun i j => V.int (i % j)) (tOp (rI CPow fun i j => V.int (i ^ j.toNat))
          (tOp (rI0 fun i j => V.int (i + j)) (tOp (rI0 fun i j => V.int (i + j)) (tOp (rI (fun x j => 0 < j) fun i j => V.int (i % j)) (tVar 2) (tC (V.int 2147483587)))
            (tOp (rI CMul fun i j => V.int (i * j)) (tC (V.int 7919)) (tOp (rIxL K) (tVar 0) (tC (V.int 1))))) (tC (V.int 1))) (tC (V.int 5))) (tC (V.int 2147483647))) (tVar 1)))
        { nx := fun _ H' => Q .non H', rt := Q } [some (.ref a), some (.int lim), some (.int z), some (.int ix)] H1 := by
      intro z ix j hj
      refine ⟨.int z, rfl, 10, 18, rfl, rfl, ⟨by decide, by decide, by decide⟩, z, _, rfl, rfl, _, rfl, ite2 (fun e => ?_) (fun e => ?_)⟩
      · have ez : (10 : Int) ^ 18 ≤ z := of_decide_eq_true e
        refine ⟨.int z, rfl, .int lim, rfl, z, lim, rfl, rfl, ⟨l0, by omega⟩, .ref a, rfl, a, _, 0, .ref c, rfl, rfl, has, rfl, .int ix, rfl, c, _, ix, j, rfl, rfl, hc2, by rw [List.length_map]; exact hj ez,
          .int z, rfl, .int lim, rfl, z, lim, rfl, rfl, l0, ?_⟩
        refine q _ _ (b2.trans fun b o _ h2 e => by rw [upd_ne h2]; exact e) ⟨cells.set j (z / lim), n + 1, ?_, ?_, nac, by rw [List.length_set]; exact hlen, by omega⟩ (Int.emod_nonneg _ (by omega)) (Int.emod_lt_of_pos _ l0)
        · rw [upd_ne nac, ha2]; rfl
        · rw [upd_same, List.map_set]
      · have m1 : 0 ≤ z % 2147483587 := Int.emod_nonneg _ (by decide)
        have m2 : z % 2147483587 < 2147483587 := Int.emod_lt_of_pos _ (by decide)
        refine ⟨.int z, rfl, z, 2147483587, rfl, rfl, (by show (0 : Int) < 2147483587; decide), .ref a, rfl, a, _, 1, .int ((n : Int) + 1), rfl, rfl, has, rfl, 7919, (n : Int) + 1, rfl, rfl, .inl ⟨by decide, by decide⟩, _, _, rfl, rfl, _, 1, rfl, rfl, _, 5, rfl, rfl, ⟨by decide, by decide, ?_⟩,
          _, 2147483647, rfl, rfl, (by show (0 : Int) < 2147483647; decide), .int lim, rfl, _, lim, rfl, rfl, l0, ?_⟩
        · omega
        · exact q _ _ b2 ⟨cells, n + 1, by rw [ha2]; rfl, hc2, nac, hlen, by omega⟩ (Int.emod_nonneg _ (by omega)) (Int.emod_lt_of_pos _ l0)
    refine ⟨.ref a, rfl, a, _, 0, .ref c, rfl, rfl, has, rfl, c, _, rfl, .inl hcs, _, 0, rfl, rfl, _, rfl, ite2 (fun e => ?_) (fun e => ?_)⟩
    · have ez : (0 : Int) < ((cells.map V.int).length : Int) := of_decide_eq_true e
      rw [List.length_map] at ez
      have l2 := Int.emod_nonneg ((n : Int) + 1) (show ((cells.length : Int)) ≠ 0 by omega)
      have l3 := Int.emod_lt_of_pos ((n : Int) + 1) ez
      obtain ⟨j, hj⟩ : ∃ j : Nat, ((n : Int) + 1) % (cells.length : Int) = (j : Int) := ⟨_, (Int.toNat_of_nonneg l2).symm⟩
      have hjl : j < cells.length := by omega
      have gj : (cells.map V.int)[j]? = some (.int cells[j]) := by rw [List.getElem?_map, List.getElem?_eq_getElem hjl]; rfl
      refine ⟨.ref a, rfl, a, _, 1, .int ((n : Int) + 1), rfl, rfl, has, rfl, .ref a, rfl, a, _, 0, .ref c, rfl, rfl, has, rfl, c, _, rfl, .inl hcs, _, _, rfl, rfl, by rw [List.length_map]; exact ez, ?_⟩
      refine ⟨.ref a, rfl, a, _, 0, .ref c, rfl, rfl, has, rfl, _, rfl, c, _, _, _, rfl, rfl, hcs, by rw [List.length_map, hj]; exact atI_nat gj, ?_⟩
      rw [List.length_map]
      refine fin _ (((n : Int) + 1) % (cells.length : Int)) j fun _ => ?_
      rw [hj]
      unfold ixN
      rw [if_pos (by omega), if_pos (by omega)]; rfl
    · refine fin 0 (-1) 0 fun h => ?_
      exact absurd h (by decide)
end
end K54
namespace Pr
open PySem PySem.Spec PyProof.Rows L2
theorem rgV_intL (n : Nat) : rgV 0 (n : Int) = (intL n).map V.int := by
  unfold rgV intL
  rw [List.map_map, Int.sub_zero, Int.toNat_natCast]
  refine List.map_congr_left fun i _ => ?_
  show V.int (0 + (i : Int)) = V.int (i : Int)
  rw [Int.zero_add]
/-- each of 0 .. n - 1 once -/
structure IsP (n : Nat) (nm : List Int) : Prop where
  len : nm.length = n
  nd : nm.Nodup
  rng : ∀ x ∈ nm, 0 ≤ x ∧ x < (n : Int)
theorem IsP.mem {n : Nat} {nm : List Int} (h : IsP n nm) {x : Int} (h0 : 0 ≤ x) (h1 : x < (n : Int)) : x ∈ nm := Classical.byContradiction fun hx => by
  have := nodup_few n (x :: nm) (List.nodup_cons.mpr ⟨hx, h.nd⟩) fun y hy => by
    rcases List.mem_cons.mp hy with rfl | hy
    · exact ⟨h0, h1⟩
    · exact h.rng y hy
  rw [List.length_cons, h.len] at this
  omega
/-- what button b is called -/
def nmOf (nm : List Int) (x : Int) : Int := nm.getD x.toNat 0
theorem IsP.at {n : Nat} {nm : List Int} (h : IsP n nm) {x : Int} (h0 : 0 ≤ x) (h1 : x < (n : Int)) : nm[x.toNat]? = some (nmOf nm x) := by
  unfold nmOf
  rw [List.getD_eq_getElem?_getD, List.getElem?_eq_getElem (by rw [h.len]; omega)]; rfl
theorem nd_get {l : List Int} (h : l.Nodup) {i j : Nat} {x : Int} (hi : l[i]? = some x) (hj : l[j]? = some x) : i = j := by
  obtain ⟨w1, z1⟩ := List.getElem?_eq_some_iff.mp hi
  obtain ⟨w2, z2⟩ := List.getElem?_eq_some_iff.mp hj
  have hp := List.pairwise_iff_getElem.mp h
  rcases Nat.lt_trichotomy i j with lt | e | lt
  · exact absurd (z1.trans z2.symm) (hp _ _ w1 w2 lt)
  · exact e
  · exact absurd (z2.trans z1.symm) (hp _ _ w2 w1 lt)
theorem IsP.inj {n : Nat} {nm : List Int} (h : IsP n nm) {x y : Int} (h0 : 0 ≤ x) (h1 : x < (n : Int)) (h2 : 0 ≤ y) (h3 : y < (n : Int)) (e : nmOf nm x = nmOf nm y) : x = y := by
  have a := h.at h0 h1
  have b := h.at h2 h3
  rw [← e] at b
  have := nd_get h.nd a b
  omega
end Pr
namespace Pr
open PySem PySem.Spec PyProof.Rows L2
section
variable {κ : Type} [DecidableEq κ]
abbrev BL (κ : Type) := List (κ × List Int)
variable {step : κ → Nat → κ} {n : Nat} {s : κ}
end
end Pr
namespace Pr
open PySem PySem.Spec PyProof.Rows L2 PySem.W
/-- v is a tuple that holds these numbers -/
def IsTI (h : Heap) (v : Value) (ns : List Int) : Prop :=
  ∃ (a : Addr) (dd : Option Addr) (items : Array Value) (n : Nat) (sl : Array (Option Value)), v = .ref a ∧ h.get? a = some { cls := .type "tuple", dict := dd, data := .seq items n, slots := sl } ∧ IntsAre items.toList ns
theorem IsTI.keeps {h h' : Heap} {v : Value} {ns : List Int} (x : IsTI h v ns) (k : ∀ b o, v = .ref b → h.get? b = some o → h'.get? b = some o) : IsTI h' v ns := by
  obtain ⟨a, dd, items, n, sl, e, g, i⟩ := x
  exact ⟨a, dd, items, n, sl, e, k _ _ e g, i⟩
theorem IsTI.type {M : Model} {h : Heap} {v : Value} {ns : List Int} (x : IsTI h v ns) : Looks M h (typeOf v) (.type "tuple") := by
  obtain ⟨a, dd, items, n, sl, rfl, g, i⟩ := x
  exact (Looks.ld g).andThen .now
end Pr
namespace Pr
open PySem PySem.Spec PyProof.Rows L2 PySem.W
end Pr
namespace Pr
open PySem PySem.Spec PyProof.Rows L2
theorem val_zip {κ : Type} [DecidableEq κ] : ∀ {ks : List κ} {vs : List V} {i : Nat} {k : κ} {v : V}, ks.Nodup → ks[i]? = some k → vs[i]? = some v → valV (ks.zip vs) k = some v
  | [], _, _, _, _, _, h, _ => by simp at h
  | _ :: _, [], _, _, _, _, _, h => by simp at h
  | a :: ks, b :: vs, 0, k, v, nd, h1, h2 => by
    simp at h1 h2; subst h1 h2
    rw [List.zip_cons_cons]; exact valV_pos rfl
  | a :: ks, b :: vs, i + 1, k, v, nd, h1, h2 => by
    rw [List.nodup_cons] at nd
    have h1' : ks[i]? = some k := by simpa using h1
    rw [List.zip_cons_cons, valV_neg (fun e => nd.1 (by rw [show a = k from e]; exact List.mem_of_getElem? h1'))]
    exact val_zip nd.2 h1' (by simpa using h2)
theorem val_zip_none {κ : Type} [DecidableEq κ] : ∀ {ks : List κ} {vs : List V} {k : κ}, k ∉ ks → valV (ks.zip vs) k = none
  | [], _, _, _ => rfl
  | _ :: _, [], _, _ => by rw [List.zip_nil_right]; rfl
  | a :: ks, b :: vs, k, h => by
    rw [List.zip_cons_cons, valV_neg (fun e => h (by rw [show a = k from e]; exact List.mem_cons_self))]
    exact val_zip_none fun z => h (List.mem_cons_of_mem _ z)
/-- the dict of the things found, each with its row -/
def DictB (K : PySem.W.Frag) (H : Hp) (d : Addr) (L : BL (List Key)) : Prop := ∃ vs, H d = some (.dT ((L.map (·.1)).zip vs)) ∧ DpAll K H vs (L.map fun x => dInts x.2)
theorem DictB.same {K : PySem.W.Frag} {H H' : Hp} {d : Addr} {L : BL (List Key)} (h : DictB K H d L) (s : Same H H') : DictB K H' d L := let ⟨vs, e, dv⟩ := h; ⟨vs, s _ _ e, dv.sm s⟩
theorem DictB.get {K : PySem.W.Frag} {H : Hp} {d a : Addr} {L : BL (List Key)} {i : Nat} {x : List Key × List Int} (h : DictB K H d L) (nd : (L.map (·.1)).Nodup) (hx : L[i]? = some x) (ea : H a = some (.tup (x.1.map kV))) : ∃ v, DGet H d (.ref a) (some v) ∧ Dp K H v (dInts x.2) := by
  obtain ⟨vs, e, dv⟩ := h
  obtain ⟨v, hv, dx⟩ := dv.get i (dInts x.2) (by rw [List.getElem?_map, hx]; rfl)
  refine ⟨v, ?_, dx⟩
  have := DGet.t (k := x.1) e ea
  rwa [val_zip nd (by rw [List.getElem?_map, hx]; rfl) hv] at this
theorem DictB.none {K : PySem.W.Frag} {H : Hp} {d a : Addr} {L : BL (List Key)} {k : List Key} (h : DictB K H d L) (hk : k ∉ L.map (·.1)) (ea : H a = some (.tup (k.map kV))) : DGet H d (.ref a) none := by
  obtain ⟨vs, e, dv⟩ := h
  have := DGet.t (k := k) e ea
  rwa [val_zip_none hk] at this
theorem DictB.some {K : PySem.W.Frag} {H : Hp} {d a : Addr} {L : BL (List Key)} {k : List Key} (h : DictB K H d L) (nd : (L.map (·.1)).Nodup) (hk : k ∈ L.map (·.1)) (ea : H a = some (.tup (k.map kV))) : ∃ v, DGet H d (.ref a) (some v) := by
  obtain ⟨x, hx, rfl⟩ := List.mem_map.mp hk
  obtain ⟨i, hi⟩ := List.getElem?_of_mem hx
  obtain ⟨v, g, _⟩ := h.get nd hi ea
  exact ⟨v, g⟩
end Pr
namespace Pr
open PySem PySem.Spec PyProof.Rows L2
theorem ok_app {a b : Str} (ha : PyData.strOk a = true) (hb : PyData.strOk b = true) : PyData.strOk (a ++ b) = true := by
  unfold PyData.strOk at ha hb ⊢
  show (a.cps ++ b.cps).all _ = true
  rw [Array.all_append, ha, hb]; rfl
theorem ok_join {sep : Str} (hs : PyData.strOk sep = true) : ∀ {ts : List Str}, (∀ t ∈ ts, PyData.strOk t = true) → PyData.strOk (Str.join sep ts) = true
  | [], _ => by show PyData.strOk Str.empty = true; decide +kernel
  | [x], h => h x List.mem_cons_self
  | x :: y :: r, h => by
    show PyData.strOk (x ++ sep ++ Str.join sep (y :: r)) = true
    exact ok_app (ok_app (h x List.mem_cons_self) hs) (ok_join hs fun t ht => h t (List.mem_cons_of_mem _ ht))
end Pr
namespace Pr
open PySem PySem.Spec PyProof.Rows L2
/-- a new tuple -/
def GvU (K : PySem.W.Frag) (t : TE) (σ : L2.St) (H : Hp) (ds : List PyData) : Prop := ∀ H1, Same H H1 → ∀ Q : VK, (∀ a vs H', Same H1 H' → H1 a = none → H' a = some (.tup vs) → DpAll K H' vs ds → Q (.ref a) H') → t σ H1 Q
section
variable {K : PySem.W.Frag} {σ : L2.St} {H : Hp} {t ta tb : TE} {d e : PyData} {ds es : List PyData}
theorem GvU.at (h : GvU K t σ H ds) {Q : VK} (q : ∀ a vs H', Same H H' → H a = none → H' a = some (.tup vs) → DpAll K H' vs ds → Q (.ref a) H') : t σ H Q := h H (Same.refl _) Q q
theorem GvU.gv (h : GvU K t σ H ds) : Gv K t σ H (.tuple ds) := fun H1 s Q q => h H1 s Q fun a vs H' s' _ e dv => q _ H' s' (.tup (.inl (.inl e)) dv)
theorem gu_tupL (h : Gv K t σ H (.list ds)) : GvU K (tCB (rTupG K) (tCons t tNil)) σ H ds := fun H1 s Q q => h H1 s _ fun v H2 s2 d2 => by
  obtain ⟨a, xs, rfl, hq, hr⟩ := d2.lstI
  exact ⟨a, xs, rfl, .inl ⟨hq, fun l nl => q _ _ _ (s2.trans (same_new nl)) (s2.free nl) upd_same (hr.sm (same_new nl))⟩⟩
theorem gu_tupRg {n : Nat} (h : Gv K t σ H (.int n)) (hn : n ≤ 100000) : GvU K (tTupRg (tRg1 t)) σ H ((intL n).map PyData.int) := fun H1 s Q q => h H1 s _ fun v H2 s2 d2 => by
  cases d2
  refine ⟨_, rfl, ⟨by omega, by omega, by omega, by omega, ?_⟩, fun p np => q _ _ _ (s2.trans (same_new np)) (s2.free np) upd_same ?_⟩
  · have := small5 hn; omega
  · rw [rgV_intL]; exact dpAll_ints _
end
section
variable {X : Cx}
theorem rep_flatA {v : V} : ∀ k : Nat, (List.replicate k [v]).flatten = List.replicate k v
  | 0 => rfl
  | k + 1 => by rw [List.replicate_succ, List.flatten_cons, rep_flatA k]; rfl
end
end Pr
namespace Pr
open PySem PySem.Spec PyProof.Rows L2
end Pr
namespace L2
end L2
namespace Pr
open PySem PySem.Spec PyProof.Rows L2
def rReprN (K : PySem.W.Frag) : List V → Hp → VK → Prop := fun xs H Q => rRepr K xs H Q ∨ (xs = [.non] ∧ Q (.str (PyData.shown .none)) H)
theorem shq_none : Shq 60 sizeLine .none := ⟨by simp only [PyData.showable], by simp [PyData.depth], by simp only [PyData.shown]; decide⟩
theorem cr_reprN {X : Cx} {k : Nat} (gd : X.A.guards = some []) (hr : Room k X.A) : CallR X (.builtin "repr") (rReprN X.K) := by
  intro pins s σ H xs us Q I rv h
  rcases h with h | ⟨rfl, q⟩
  · exact call_repr gd hr pins s σ H xs us Q I rv h
  · exact call_reprQ gd hr pins s σ H _ us Q I rv ⟨fun _ => False, .non, .none, rfl, .non, shq_none, q⟩
section
variable {K : PySem.W.Frag} {σ : L2.St} {H : Hp} {t ta tb : TE} {d e : PyData}
/-- what repr takes -/
def RepOk (d : PyData) : Prop := d = .none ∨ (Shw 60 sizeLine d ∧ ∃ ds, d = .tuple ds ∨ d = .list ds)
theorem gv_reprN (h : Gv K t σ H d) (hd : RepOk d) : Gv K (tCB (rReprN K) (tCons t tNil)) σ H (.str d.shown) := by
  rcases hd with rfl | ⟨hs, hr⟩
  · exact gv_cb (gva_cons h gva_nil) fun vs H1 Q s hd' q => by
      obtain ⟨v, rfl, hv⟩ := dpAll1 hd'
      cases hv
      exact .inr ⟨rfl, q _ _ (Same.refl _) (.str _)⟩
  · exact gv_cb (gva_cons h gva_nil) fun vs H1 Q s hd' q => by
      obtain ⟨v, rfl, hv⟩ := dpAll1 hd'
      obtain ⟨a, rfl⟩ : ∃ a, v = V.ref a := by
        obtain ⟨ds, rfl | rfl⟩ := hr
        · obtain ⟨a, _, e, _⟩ := hv.tupI; exact ⟨a, e⟩
        · obtain ⟨a, _, e, _⟩ := hv.lstI; exact ⟨a, e⟩
      exact .inl ⟨a, d, rfl, hv, hs.sh, hs.nd, hs.dp, hs.ln, q _ _ (Same.refl _) (.str _)⟩
end
end Pr
namespace K54
open PySem PySem.Spec PyProof.Rows L2 Pr
def rMin2 : List V → Hp → VK → Prop := fun xs H Q => ∃ i j, xs = [.int i, .int j] ∧ Q (.int (if j < i then j else i)) H
theorem gs_seqJ {t u : TS} {D : Ends} {σ : L2.St} {H : Hp} (J : L2.St → Hp → Prop) (hk : ∀ σ' H', J σ' H' → u D σ' H') (h : (∀ σ' H', J σ' H' → u D σ' H') → t { D with nx := u D } σ H) : tSeq t u D σ H := h hk
theorem Deck.upd' {H : Hp} {a c b : Addr} {m : Nat} {o : HO} (d : Deck H a c m) (n : b ≠ a ∧ b ≠ c) : Deck (upd H b o) a c m := by
  obtain ⟨cs, k, h1, h2, h3⟩ := d
  exact ⟨cs, k, by rw [upd_ne (Ne.symm n.1)]; exact h1, by rw [upd_ne (Ne.symm n.2)]; exact h2, h3⟩
def nPanel : List Str := ["_law_deck_here", "_law_most", "_law_n", "_law_way", "_law_share", "_law_found", "_law_button", "_law_own", "_law_one"]
theorem scPanel : FnScope nPanel ["_law_deck_here", "_law_most"] (defScope sPanel) := ⟨rfl, rfl, rfl, by decide +kernel, rfl, by decide +kernel, by decide +kernel⟩
section
variable {P : Program} {w : World} {K : PySem.W.Frag} {mg : Str → Option Value} {base : Heap}
def spPanel (K : PySem.W.Frag) : Sp := fun vs H Q _ => ∃ (a c : Addr) (m : Nat) (most : Int), vs = [.ref a, .int most] ∧ Deck H a c (m + 300) ∧ 1 ≤ most ∧ most ≤ 10 ∧
  ∀ H' v pan, But a c H H' → Deck H' a c m → Dp K H' v (dPan pan) → Good pan → (pan.length : Int) ≤ most → Q v H'
theorem ok_Panel {fDraw : Addr} {fdDraw : FuncData} {f : Addr} {fd : FuncData} {k : Nat} (F : Fun K "_law_panel" "_law_panel" sPanel f fd)
    (FDraw : Fun K "_law_draw" "_law_draw" sDraw fDraw fdDraw) (bDraw : Binds K fdDraw ["_law_deck_here", "_law_many"] []) (gDraw : mg "_law_draw" = some (.ref fDraw))
    (m_len : mg "len" = none) (m_list : mg "list" = none) (m_min : mg "min" = none) (m_range : mg "range" = none) (m_tuple : mg "tuple" = none) : FnOk P w K mg base CX0 (k + 2) f fd ["_law_deck_here", "_law_most"] (spPanel K) := by
  have GDraw : FnOk P w K mg base CX0 (k + 1) fDraw fdDraw ["_law_deck_here", "_law_many"] spDraw := ok_draw FDraw m_len
  refine F.ok scPanel (fun vs H Q E h => ?_) (fun cdv A outer s H vs Q E hr h => ?_)
  · obtain ⟨a, c, m, most, rfl, _⟩ := h
    rfl
  · refine ⟨_, pss_cons (ps_set (i := 2) scPanel.nd rfl (.inl rfl) (pe_ix (show IxR _ (rIxL K) from ix_list) (pe_lst (pa_cons (pe_op op_add pe_int (pe_call GDraw (hr.mono (by omega)) (by rfl) gDraw FDraw.kp bDraw .nil pass0 (pa_cons (pv 0) (pa_cons (pv 1) pa_nil)))) (pa_cons (pv 1) (pa_cons (pe_op op_add pe_int (pe_call GDraw (hr.mono (by omega)) (by rfl) gDraw FDraw.kp bDraw .nil pass0 (pa_cons (pv 0) (pa_cons (pe_callB (show CallR _ _ rMin2 from call_min2 rfl) (by rfl) m_min (by decide +kernel) (pa_cons pe_int (pa_cons (pv 1) pa_nil))) pa_nil)))) pa_nil)))) (pe_call GDraw (hr.mono (by omega)) (by rfl) gDraw FDraw.kp bDraw .nil pass0 (pa_cons (pv 0) (pa_cons pe_int pa_nil))) (fun _ _ => rfl)))
      (pss_cons (ps_asg (pe_tup (pa_cons (pe_call GDraw (hr.mono (by omega)) (by rfl) gDraw FDraw.kp bDraw .nil pass0 (pa_cons (pv 0) (pa_cons pe_int pa_nil))) (pa_cons (pe_op op_add pe_int (pe_call GDraw (hr.mono (by omega)) (by rfl) gDraw FDraw.kp bDraw .nil pass0 (pa_cons (pv 0) (pa_cons pe_int pa_nil)))) (pa_cons (pe_lst pa_nil) pa_nil)))) (pg_tup rfl (pgs_cons (pg_name (i := 3) scPanel.nd rfl (Or.inl rfl)) (pgs_cons (pg_name (i := 4) scPanel.nd rfl (Or.inr rfl)) (pgs_cons (pg_name (i := 5) scPanel.nd rfl (Or.inl rfl)) pgs_nil)))))
      (pss_cons (ps_for PassesOwn.never rfl (pi_range1 (by rfl) m_range (pa_cons (pv 2) pa_nil)) (pg_name (i := 6) scPanel.nd rfl (Or.inr rfl)) (pss_cons (ps_setLc (i := 7) (own := [("_law_one", 8)]) (g := gName 8) rfl scPanel.nd rfl rfl (sw_true rfl rfl rfl (by decide +kernel)) (pi_range1 (by rfl) m_range (pa_cons (pv 2) pa_nil)) (blkOk_by (own := [("_law_one", 8)]) (N := nPanel) (sc := defScope sPanel) (by decide +kernel)) (fun _ _ _ _ _ => pg_name (i := 8) scPanel.nd rfl (Or.inl rfl)) (fun _ _ _ _ _ => pts_one (pt_cmpR op_lt (pe_call GDraw (hr.mono (by omega)) (by rfl) gDraw FDraw.kp bDraw .nil pass0 (pa_cons (pv 0) (pa_cons pe_int pa_nil))) (pv 4) (nomark _))) (fun _ _ _ _ _ => pv 8))
      (pss_cons (ps_if (pt_cmpR op_eq (pv 3) pe_int (nomark _)) (pss_one (ps_set (i := 7) scPanel.nd rfl (.inl rfl) (pe_lst (pa_cons (pe_op op_mod (pe_op op_add (pv 6) pe_int) (pv 2)) pa_nil)))) pss_nil)
      (pss_cons (ps_if (PW.pt (pw_and (pt_cmpR op_eq (pv 3) pe_int (nomark _)) (pw_and1 (pt_cmpR op_eq (pe_call GDraw (hr.mono (by omega)) (by rfl) gDraw FDraw.kp bDraw .nil pass0 (pa_cons (pv 0) (pa_cons pe_int pa_nil))) pe_int (nomark _))))) (pss_one (ps_set (i := 7) scPanel.nd rfl (.inl rfl) (pe_listRg rfl (by rfl) m_list (prg_1 (by rfl) m_range (pv 2))))) pss_nil)
      (pss_cons (ps_if (pt_cmpR op_eq (pv 3) pe_int (nomark _)) (pss_one (ps_setLc (i := 7) (own := [("_law_one", 8)]) (g := gName 8) rfl scPanel.nd rfl rfl (sw_true rfl rfl rfl (by decide +kernel)) (show PI _ _ _ (iList K _) from pi_list (pv 7)) (blkOk_by (own := [("_law_one", 8)]) (N := nPanel) (sc := defScope sPanel) (by decide +kernel)) (fun _ _ _ _ _ => pg_name (i := 8) scPanel.nd rfl (Or.inl rfl)) (fun _ _ _ _ _ => pts_one (pt_cmpR op_gt (pv 8) (pv 6) (nomark _))) (fun _ _ _ _ _ => pv 8))) pss_nil)
      (pss_one (ps_expr (show PE _ _ (tBM K "list" rAppend _ _) from pe_bm PySem.F.plainAttrs_list PySem.F.slot_list_append PySem.F.type_list_append mt_append (pv 5) (pa_cons (pe_callTy (show CallR _ _ (rTupG K) from cr_tupG) (by rfl) m_tuple (by decide +kernel) (pa_cons (pe_lc (own := [("_law_one", 8)]) (g := gName 8) rfl scPanel.nd (show PI _ _ _ (iList K _) from pi_list (pv 7)) (blkOk_by (own := [("_law_one", 8)]) (N := nPanel) (sc := defScope sPanel) (by decide +kernel)) (fun _ _ _ _ _ => pg_name (i := 8) scPanel.nd rfl (Or.inl rfl)) (fun _ _ _ _ _ => pts_one (pt_cmpR op_ne (pv 8) (pv 6) (nomark _))) (fun _ _ _ _ _ => pv 8)) pa_nil)) pa_nil)))))))))
      (pss_one (ps_ret (pe_callTy (show CallR _ _ (rTupG K) from cr_tupG) (by rfl) m_tuple (by decide +kernel) (pa_cons (pv 5) pa_nil)))))), hide1 fun t0 ht0 => ?_⟩
    obtain ⟨a, c, m, most, rfl, hD, m1, m2, q⟩ := h
    refine ht0 _ _ _ ?_
    refine ⟨.ref a, rfl, .int most, rfl, a, c, m + 299, most, rfl, hD.less (by omega), by omega, by omega, fun H1 r1 b1 D1 r1a r1b => ?_⟩
    refine ⟨1, r1, rfl, rfl, .int most, rfl, .ref a, rfl, .int most, rfl, 4, most, rfl, a, c, m + 298, _, rfl, D1.less (by omega), by split <;> omega, by split <;> omega, fun H2 r2 b2 D2 r2a r2b => ?_⟩
    refine ⟨1, r2, rfl, rfl, by show 3 ≤ sizeLine; decide, fun L nL => ?_⟩
    have sL : Same H2 (upd H2 L (.lst [.int (1 + r1), .int most, .int (1 + r2)])) := same_new nL
    refine ⟨.ref a, rfl, a, c, m + 297, 3, rfl, (D2.same sL).less (by omega), by decide, by decide, fun H3 r3 b3 D3 r3a r3b => ?_⟩
    have hL : H3 L = some (.lst [.int (1 + r1), .int most, .int (1 + r2)]) := b3 _ _ (D2.fresh nL).1 (D2.fresh nL).2 upd_same
    have r2c : r2 < most := by revert r2b; split <;> intro r2b <;> omega
    obtain ⟨nn, hnn, nn1, nn2⟩ : ∃ nn : Nat, atI [V.int (1 + r1), .int most, .int (1 + r2)] r3 = some (.int (nn : Int)) ∧ 1 ≤ nn ∧ (nn : Int) ≤ most := by
      obtain rfl | rfl | rfl : r3 = 0 ∨ r3 = 1 ∨ r3 = 2 := by omega
      · exact ⟨(1 + r1).toNat, by rw [Int.toNat_of_nonneg (by omega)]; rfl, by omega, by omega⟩
      · exact ⟨most.toNat, by rw [Int.toNat_of_nonneg (by omega)]; rfl, by omega, by omega⟩
      · exact ⟨(1 + r2).toNat, by rw [Int.toNat_of_nonneg (by omega)]; rfl, by omega, by omega⟩
    have nn3 : nn ≤ 10 := by omega
    refine ⟨L, _, _, .int (nn : Int), rfl, rfl, .inl (.inl hL), hnn, ?_⟩
    refine ⟨.ref a, rfl, a, c, m + 296, 5, rfl, D3.less (by omega), by decide, by decide, fun H4 r4 b4 D4 r4a r4b => ?_⟩
    refine ⟨.ref a, rfl, a, c, m + 295, 4, rfl, D4.less (by omega), by decide, by decide, fun H5 r5 b5 D5 r5a r5b => ⟨1, r5, rfl, rfl, ?_⟩⟩
    refine ⟨Nat.zero_le _, fun F nF => ⟨by show 3 ≤ sizeLine; decide, fun T nT => ⟨T, _, rfl, .inl (.inl upd_same), rfl, _, _, rfl, _, _, rfl, _, _, rfl, rfl, ?_⟩⟩⟩
    dsimp only
    have b05 : But a c H H5 := (((b1.trans b2).trans (But.of sL)).trans b3).trans (b4.trans b5)
    have hnF : H F = none := by
      cases e : H F with
      | none => rfl
      | some o => have := b05 F o (D5.fresh nF).1 (D5.fresh nF).2 e; rw [nF] at this; cases this
    have FD' := D5.fresh nF
    refine gen_heap (fun H6 => But a c H H6 ∧ Deck H6 a c (m + 200) ∧ H6 F = some (.lst [])) ⟨(b05.trans (But.of (same_new nF))).trans (But.of (same_new nT)), ((D5.same (same_new nF)).same (same_new nT)).less (by omega), same_new nT _ _ upd_same⟩ fun H6 ⟨b6, D6, eF6⟩ => ?_
    refine ⟨.int (nn : Int), rfl, (nn : Int), rfl, by omega, by omega, ?_⟩
    refine for_range (n := nn) (fun i σ H7 => But a c H H7 ∧ Deck H7 a c (m + 12 * (10 - i)) ∧ i ≤ nn ∧
        (∃ (vs : List V) (pan : List (List Int)), H7 F = some (.lst vs) ∧ DpAll K H7 vs (pan.map dInts) ∧ pan.length = i ∧ ∀ (j : Nat) (l : List Int), pan[j]? = some l → Asc nn l ∧ (j : Int) ∉ l) ∧
        ∃ x6 x7 x8, σ = [some (.ref a), some (.int most), some (.int (nn : Int)), some (.int r4), some (.int (1 + r5)), some (.ref F), x6, x7, x8]) ⟨b6, D6.less (by omega), Nat.zero_le _, ⟨[], [], eF6, .nil, rfl, fun j l h => by simp at h⟩, none, none, none, rfl⟩ (fun i σ H7 hi hP => ?_) (fun σ H7 hP => ?_)
    · obtain ⟨b7, D7, hin, ⟨vs, pan, eF7, dvs, hpl, hpan⟩, x6, x7, x8, rfl⟩ := hP
      rw [Int.zero_add]
      have vl : vs.length ≤ 10 := by rw [dvs.length, List.length_map, hpl]; omega
      let J : L2.St → Hp → Prop := fun σ H' => But a c H7 H' ∧ Deck H' a c (m + 12 * (10 - i) - 12) ∧ ∃ (O : Addr) (acc : List Int) (x8 : Option V), H' O = some (.lst (acc.map V.int)) ∧ (O ≠ a ∧ O ≠ c) ∧ Asc nn acc ∧ σ = [some (.ref a), some (.int most), some (.int (nn : Int)), some (.int r4), some (.int (1 + r5)), some (.ref F), some (.int (i : Int)), some (.ref O), x8]
      let J0 : L2.St → Hp → Prop := fun σ H' => But a c H7 H' ∧ Deck H' a c (m + 12 * (10 - i) - 11) ∧ ∃ (O : Addr) (acc : List Int) (x8 : Option V), H' O = some (.lst (acc.map V.int)) ∧ (O ≠ a ∧ O ≠ c) ∧ Asc nn acc ∧ σ = [some (.ref a), some (.int most), some (.int (nn : Int)), some (.int r4), some (.int (1 + r5)), some (.ref F), some (.int (i : Int)), some (.ref O), x8]
      refine gs_seqJ (J := J0) (fun σ8 H8 hJ => ?_) (fun hk => ?_)
      · refine gs_seqJ (J := J0) (fun σ9 H9 hJ => ?_) (fun hk => ?_)
        · refine gs_seqJ (J := J) (fun σ9 H9 hJ => ?_) (fun hk => ?_)
          · refine gs_seqJ (J := J) (fun σ9 H9 hJ => ?_) (fun hk => ?_)
            · -- append
              obtain ⟨b9, D9, O, acc, x8, eO, nO, hacc, rfl⟩ := hJ
              have al := hacc.len
              have eF9 := b9 _ _ FD'.1 FD'.2 eF7
              refine ⟨.ref F, rfl, .inl ⟨rfl, _, .inl (.inl eF9)⟩, (gu_tupL (K := K) (gv_lc (δ := PyData.int) (as := acc) (p := fun z => !decide (z = (i : Int))) (f := PyData.int) (gvi_list (gv_var rfl (.lst (.inl (.inl eO)) (dpAll_ints acc)))) (fun z vz Hz hz sz dz => ⟨gvt_test (gv_neI (gv_var rfl dz) (gv_var rfl (.int (i : Int)))), fun _ => gv_var rfl dz⟩) (fun _ _ => rfl) (by omega))).at fun p ws HA sA np ep dp => ?_⟩
              have eFA := sA _ _ eF9
              refine ⟨F, _, .ref p, rfl, rfl, eFA, Nat.lt_of_le_of_lt vl (by decide), ?_⟩
              have kF := Kp.upd (o := .lst (vs ++ [.ref p])) eFA
              have k7A : Kp H7 HA := (Kp.but D7 b9).trans (Kp.of sA)
              have hne : ∀ b o, b ≠ a → b ≠ c → H b = some o → HA b = some o := fun b o h1 h2 e => sA _ _ (b9 b o h1 h2 (b7 b o h1 h2 e))
              refine ⟨fun b o h1 h2 e => by rw [upd_ne (ne_of_none e hnF)]; exact hne b o h1 h2 e, (Deck.upd' (D9.same sA) FD').less (by omega), hi, ⟨vs ++ [.ref p], pan ++ [acc.filter fun z => !decide (z = (i : Int))], upd_same, ?_, by rw [List.length_append, hpl]; rfl, fun j l hj => ?_⟩, _, _, _, rfl⟩
              · rw [List.map_append]
                refine DpAll.append (dpAll_kp (k7A.trans kF) _ _ (lfAll_of fun d hd => by obtain ⟨l, _, rfl⟩ := List.mem_map.mp hd; exact lf_ints l) dvs) (.cons ?_ .nil)
                have pF : p ≠ F := fun z => by rw [z, eF9] at np; cases np
                rw [dpAll_intsV dp] at ep
                exact dp_ints (.inl (.inl (by rw [upd_ne pF]; exact ep)))
              · by_cases hji : j < i
                · rw [List.getElem?_append_left (by omega)] at hj
                  exact hpan j l hj
                · rw [List.getElem?_append_right (by omega), hpl] at hj
                  obtain rfl : j = i := by
                    have := (List.getElem?_eq_some_iff.mp hj).1
                    rw [List.length_singleton] at this; omega
                  rw [Nat.sub_self] at hj
                  obtain rfl : (acc.filter fun z => !decide (z = (j : Int))) = l := by simpa using hj
                  exact ⟨⟨hacc.up.filter _, fun x hx => hacc.rng x (List.mem_filter.mp hx).1⟩, fun h => by simpa using (List.mem_filter.mp h).2⟩
            · -- way == 2
              obtain ⟨b9, D9, O, acc, x8, eO, nO, hacc, rfl⟩ := hJ
              have al := hacc.len
              refine gs_if (gvt_test (K := K) (gv_eqI (gv_var rfl (.int r4)) gv_int)) (fun e H' s' => ?_) (fun e H' s' => ?_)
              · refine (gn_lc (K := K) (δ := PyData.int) (as := acc) (p := fun z => decide ((i : Int) < z)) (f := PyData.int) (gvi_list (gv_var rfl (.lst (.inl (.inl (s' _ _ eO))) (dpAll_ints acc)))) (fun z vz Hz hz sz dz => ⟨gvt_test (gv_I0 (gv_var rfl dz) (gv_var rfl (.int (i : Int))) fun _ => .bl _), fun _ => gv_var rfl dz⟩) (fun _ _ => rfl) (by omega)).at fun O2 ws HA sA nA eA dA => ?_
                rw [dpAll_intsV dA] at eA
                exact hk _ _ ⟨b9.trans (But.of (s'.trans sA)), (D9.same (s'.trans sA)), O2, _, _, eA, D9.fresh (s'.free nA), ⟨hacc.up.filter _, fun x hx => hacc.rng x (List.mem_filter.mp hx).1⟩, rfl⟩
              · exact hk _ _ ⟨b9.trans (But.of s'), D9.same s', O, acc, _, s' _ _ eO, nO, hacc, rfl⟩
          · -- way == 1 and a draw
            obtain ⟨b9, D9, O, acc, x8, eO, nO, hacc, rfl⟩ := hJ
            refine ⟨.int r4, rfl, rfl, _, rfl, ite2 (fun e => ?_) (fun e => ?_)⟩
            · refine ⟨.ref a, rfl, a, c, m + 12 * (10 - i) - 12, 2, rfl, D9.less (by omega), by decide, by decide, fun HA rA bA DA rAa rAb => ⟨rfl, _, rfl, ite2 (fun e2 => ?_) (fun e2 => ?_)⟩⟩
              · refine ⟨.int (nn : Int), rfl, (nn : Int), rfl, ⟨by omega, by omega, by omega, by omega, by have := small5 (n := nn) (by omega); omega⟩, fun O2 nO2 => ?_⟩
                have eR : rgV 0 (nn : Int) = (intL nn).map V.int := by
                  unfold rgV intL
                  rw [List.map_map, Int.sub_zero, Int.toNat_natCast]
                  exact List.map_congr_left fun z _ => by simp
                exact hk _ _ ⟨(b9.trans bA).trans (But.of (same_new nO2)), DA.same (same_new nO2), O2, intL nn, _, by rw [upd_same, eR], DA.fresh nO2, by have := Asc.filter (n := nn) (fun _ => true); rwa [List.filter_eq_self.mpr (fun _ _ => rfl)] at this, rfl⟩
              · exact hk _ _ ⟨b9.trans bA, DA, O, acc, _, bA _ _ nO.1 nO.2 eO, nO, hacc, rfl⟩
            · exact hk _ _ ⟨b9, D9.less (by omega), O, acc, _, eO, nO, hacc, rfl⟩
        · -- way == 0
          obtain ⟨b9, D9, O, acc, x8, eO, nO, hacc, rfl⟩ := hJ
          refine gs_if (gvt_test (K := K) (gv_eqI (gv_var rfl (.int r4)) gv_int)) (fun e H' s' => ?_) (fun e H' s' => ?_)
          · refine ⟨.int (i : Int), rfl, _, 1, rfl, rfl, .int (nn : Int), rfl, _, _, rfl, rfl, (by show (0 : Int) < (nn : Int); omega), by show 1 ≤ sizeLine; decide, fun O2 nO2 => ?_⟩
            exact hk _ _ ⟨b9.trans (But.of (s'.trans (same_new nO2))), D9.same (s'.trans (same_new nO2)), O2, [((i : Int) + 1) % (nn : Int)], _, upd_same, D9.fresh (s'.free nO2), ⟨List.pairwise_singleton _ _, fun x hx => by rw [List.mem_singleton.mp hx]; exact ⟨Int.emod_nonneg _ (by omega), Int.emod_lt_of_pos _ (by omega)⟩⟩, rfl⟩
          · exact hk _ _ ⟨b9.trans (But.of s'), D9.same s', O, acc, _, s' _ _ eO, nO, hacc, rfl⟩
      · -- own
        refine ⟨.int (nn : Int), rfl, (nn : Int), rfl, by omega, by omega, fun O nO => ?_⟩
        have oO := D7.fresh nO
        refine lc_range (n := nn) (fun k H8 => But a c H7 H8 ∧ Deck H8 a c (m + 12 * (10 - i) - k) ∧ ∃ acc : List Int, H8 O = some (.lst (acc.map V.int)) ∧ Asc k acc)
          ⟨But.of (same_new nO), (D7.same (same_new nO)).less (by omega), [], upd_same, Asc.nil _⟩ (fun k H8 hk' hP => ?_) (fun H8 hP => ?_)
        · obtain ⟨b8, D8, acc, eO, hacc⟩ := hP
          have al := hacc.len
          rw [Int.zero_add]
          refine ⟨rfl, .ref a, rfl, a, c, m + 12 * (10 - i) - (k + 1), 5, rfl, D8.less (by omega), by decide, by decide, fun H9 r9 b9 D9 r9a r9b => ⟨.int (1 + r5), rfl, _, _, rfl, rfl, _, rfl, ite2 (fun e => ?_) (fun e => ?_)⟩⟩
          · refine ⟨.int (k : Int), rfl, _, b9 _ _ oO.1 oO.2 eO, by rw [List.length_map]; exact small1000 (by omega), fun b o h1 h2 e => ?_, Deck.upd' D9 oO, acc ++ [(k : Int)], by rw [upd_same, List.map_append]; rfl, ?_⟩
            · rw [upd_ne (ne_of_none e nO)]
              exact b9 _ _ h1 h2 (b8 _ _ h1 h2 e)
            · refine ⟨List.pairwise_append.mpr ⟨hacc.up, List.pairwise_singleton _ _, fun x hx y hy => ?_⟩, fun x hx => ?_⟩
              · rw [List.mem_singleton.mp hy]; exact (hacc.rng x hx).2
              · rcases List.mem_append.mp hx with h | h
                · have := hacc.rng x h; omega
                · rw [List.mem_singleton.mp h]; omega
          · exact ⟨b8.trans b9, D9, acc, b9 _ _ oO.1 oO.2 eO, hacc.up, fun x hx => by have := hacc.rng x hx; omega⟩
        · obtain ⟨b8, D8, acc, eO, hacc⟩ := hP
          exact hk _ _ ⟨b8, D8.less (by omega), O, acc, _, eO, oO, ⟨hacc.up, fun x hx => by have := hacc.rng x hx; omega⟩, rfl⟩
    · obtain ⟨b7, D7, hin, ⟨vs, pan, eF7, dvs, hpl, hpan⟩, x6, x7, x8, rfl⟩ := hP
      refine gs_ret (K := K) (gv_tupL (gv_var rfl (.lst (.inl (.inl eF7)) dvs))) fun v H8 s8 dv => q H8 v pan (b7.trans (But.of s8)) ((D7.same s8).less (by omega)) dv ?_ (by omega)
      refine ⟨by omega, by omega, fun l hl => ?_, fun l hl => ?_, fun j l hl => (hpan j l hl).2⟩
      · obtain ⟨j, hj⟩ := List.getElem?_of_mem hl
        exact (hpan j l hj).1.up
      · obtain ⟨j, hj⟩ := List.getElem?_of_mem hl
        intro x hx
        have := (hpan j l hj).1.rng x hx
        omega
end
end K54
namespace K54
open PySem PySem.Spec PyProof.Rows L2 Pr
def nAny : List Str := ["panel", "button", "others", "other"]
theorem scAny : FnScope nAny ["panel", "button", "others"] (defScope sAny) := ⟨rfl, rfl, rfl, by decide +kernel, rfl, by decide +kernel, by decide +kernel⟩
def nHeld : List Str := ["panel", "state", "held", "left", "button"]
theorem scHeld : FnScope nHeld ["panel", "state"] (defScope sHeld) := ⟨rfl, rfl, rfl, by decide +kernel, rfl, by decide +kernel, by decide +kernel⟩
section
variable {P : Program} {w : World} {K : PySem.W.Frag} {mg : Str → Option Value} {base : Heap}
def spAny (K : PySem.W.Frag) : Sp := fun vs H Q _ => ∃ (p o : Addr) (pan : List (List Int)) (b : Int) (os : List Int), vs = [.ref p, .int b, .ref o] ∧ PanT K H p pan ∧ Good pan ∧ 0 ≤ b ∧ b < (pan.length : Int) ∧ SqT K H o (os.map V.int) ∧
  ∀ H', Same H H' → Q (.bl (relB pan os b)) H'
theorem ok_any {f : Addr} {fd : FuncData} {k : Nat} (F : Fun K "releases_any" "releases_any" sAny f fd) (my : mg "any" = none) : FnOk P w K mg base CX0 (k + 1) f fd ["panel", "button", "others"] (spAny K) := by
  refine F.ok scAny (fun vs H Q E h => ?_) (fun cdv A outer s H vs Q E hr h => ?_)
  · obtain ⟨p, o, pan, b, os, rfl, _⟩ := h
    rfl
  · obtain ⟨p, o, pan, b, os, rfl, hp, hg, b0, b1, ho, q⟩ := h
    refine ⟨_, pss_one (ps_ret (pe_callB (cr_any rfl) (by rfl) my (by decide +kernel) (pa_cons
      (pe_lc (own := [("other", 3)]) (g := gName 3) (tt := tYes) rfl scAny.nd (pi_tup (pe_ix ix_tup (pv 0) (pv 1) (fun _ _ => rfl)))
        (blkOk_by (own := [("other", 3)]) (N := nAny) (sc := defScope sAny) (by decide +kernel)) (fun _ _ _ _ _ => pg_name (i := 3) scAny.nd rfl (Or.inl rfl)) (fun _ _ _ _ _ => pts_nil)
        (fun _ _ _ _ _ => pe_cmpR (show OpR _ _ (rIn K false) from op_in_seq) (pv 3) (pv 2) (by rfl))) pa_nil))), ?_⟩
    obtain ⟨qs, q', hq, ha, hr', _⟩ := panT_at hp b0 b1
    have hll : (pan.getD b.toNat []).length ≤ 10 := by
      have hbn : b.toNat < pan.length := by omega
      have hm : pan.getD b.toNat [] ∈ pan := by
        rw [List.getD_eq_getElem?_getD, List.getElem?_eq_getElem hbn]
        exact List.getElem_mem hbn
      have few := hg.few
      refine pw_length (n := 10) (lo := 0) (hg.up _ hm) fun x hx => ?_
      have := hg.rng _ hm x hx
      omega
    unfold relB at q
    generalize pan.getD b.toNat [] = l at hr' hll q
    refine ⟨.ref p, rfl, .int b, rfl, p, _, _, .ref q', rfl, rfl, hq, ha, q', rfl, ⟨_, hr'⟩, fun D nD => ?_⟩
    refine lc_tup (xs := l.map V.int) (fun i H3 => Same H H3 ∧ H3 D = some (.lst (((l.take i).map fun c => decide (c ∈ os)).map V.bl))) ⟨same_new nD, upd_same⟩ (fun i H3 _ hP => same_sqT hP.1 hr') (fun i x H3 hx hP => ?_) (fun H3 hP => ?_)
    · obtain ⟨s3, eD⟩ := hP
      obtain ⟨z, hz, rfl⟩ := int_get hx
      refine ⟨rfl, tyes (iteT ⟨.int z, rfl, .ref o, rfl, o, _, rfl, .inr (same_sqT s3 ho), rfl, flat_ints _, _, eD, ?_, ?_, ?_⟩)⟩
      · rw [List.length_map, List.length_map, List.length_take]; exact small1000 (by omega)
      · intro b' ob e
        rw [upd_ne (ne_of_none e nD)]
        exact s3 _ _ e
      · rw [upd_same, if_neg Bool.false_ne_true, inV_ints, List.take_add_one, hz, List.map_append, List.map_append]; rfl
    · obtain ⟨s3, eD⟩ := hP
      rw [List.length_map, List.take_length] at eD
      refine ⟨D, _, rfl, .inl (.inl eD), ?_⟩
      rw [List.any_map]
      exact q _ s3
def spHeld (K : PySem.W.Frag) : Sp := fun vs H Q _ => ∃ (p t : Addr) (pan : List (List Int)) (st : List Int), vs = [.ref p, .ref t] ∧ PanT K H p pan ∧ Good pan ∧ SqT K H t (st.map V.int) ∧ Asc pan.length st ∧
  ∀ (H' : Hp) (u : Addr) (hs : List Int), Same H H' → SqT K H' u (hs.map V.int) → IsHeld pan st hs → Q (.ref u) H'
theorem filt_take {f : Int → Bool} {l : List Int} {i : Nat} {z : Int} (hz : l[i]? = some z) : (l.take (i + 1)).filter f = (l.take i).filter f ++ (if f z = true then [z] else []) := by
  rw [List.take_add_one, hz, List.filter_append]
  congr 1
  by_cases e : f z = true
  · rw [if_pos e]; exact List.filter_cons_of_pos e
  · rw [if_neg e]; exact List.filter_cons_of_neg e
theorem ok_held {f fA : Addr} {fd fdA : FuncData} {k : Nat} (F : Fun K "held_buttons" "held_buttons" sHeld f fd) (FA : Fun K "releases_any" "releases_any" sAny fA fdA) (bA : Binds K fdA ["panel", "button", "others"] []) (gA : mg "releases_any" = some (.ref fA))
    (ml : mg "len" = none) (mt : mg "tuple" = none) (my : mg "any" = none) : FnOk P w K mg base CX0 (k + 2) f fd ["panel", "state"] (spHeld K) := by
  have GA : FnOk P w K mg base CX0 (k + 1) fA fdA ["panel", "button", "others"] (spAny K) := ok_any FA my
  refine F.ok scHeld (fun vs H Q E h => ?_) (fun cdv A outer s H vs Q E hr h => ?_)
  · obtain ⟨p, t, pan, st, rfl, _⟩ := h
    rfl
  · obtain ⟨p, t, pan, st, rfl, hp, hg, ht, hst, q⟩ := h
    refine ⟨_, pss_cons (ps_set (i := 2) scHeld.nd rfl (.inr rfl) (pv 1))
      (pss_cons (ps_setLc (i := 3) (own := [("button", 4)]) (g := gName 4) rfl scHeld.nd rfl rfl (sw_true rfl rfl rfl (by decide +kernel)) (pi_tup (pv 2))
        (blkOk_by (own := [("button", 4)]) (N := nHeld) (sc := defScope sHeld) (by decide +kernel)) (fun _ _ _ _ _ => pg_name (i := 4) scHeld.nd rfl (Or.inl rfl))
        (fun _ _ _ _ _ => pts_one (pt_val (pe_call GA hr (by rfl) gA FA.kp bA .nil pass0 (pa_cons (pv 0) (pa_cons (pv 4) (pa_cons (pv 2) pa_nil)))))) (fun _ _ _ _ _ => pv 4))
      (pss_cons (ps_while PassesOwn.never (pt_cmpR op_lt (pe_callB call_len_seq (by rfl) ml PySem.boot_len (pa_cons (pv 3) pa_nil)) (pe_callB call_len_seq (by rfl) ml PySem.boot_len (pa_cons (pv 2) pa_nil)) (nomark _))
        (pss_cons (ps_set (i := 2) scHeld.nd rfl (.inr rfl) (pe_callTy call_tupF (by rfl) mt (by decide +kernel) (pa_cons (pv 3) pa_nil)))
        (pss_one (ps_setLc (i := 3) (own := [("button", 4)]) (g := gName 4) rfl scHeld.nd rfl rfl (sw_true rfl rfl rfl (by decide +kernel)) (pi_tup (pv 2))
          (blkOk_by (own := [("button", 4)]) (N := nHeld) (sc := defScope sHeld) (by decide +kernel)) (fun _ _ _ _ _ => pg_name (i := 4) scHeld.nd rfl (Or.inl rfl))
          (fun _ _ _ _ _ => pts_one (pt_val (pe_call GA hr (by rfl) gA FA.kp bA .nil pass0 (pa_cons (pv 0) (pa_cons (pv 4) (pa_cons (pv 2) pa_nil)))))) (fun _ _ _ _ _ => pv 4)))))
      (pss_one (ps_ret (pv 2))))), ?_⟩
    have few := hg.few
    refine ⟨.ref t, rfl, ?_⟩
    refine ⟨.ref t, rfl, t, rfl, ⟨_, ht⟩, fun D nD => ?_⟩
    have slen := hst.len
    refine lc_tup (xs := st.map V.int) (fun i H3 => Same H H3 ∧ H3 D = some (.lst (((st.take i).filter (relB pan st)).map V.int))) ⟨same_new nD, upd_same⟩ (fun i H3 _ hP => same_sqT hP.1 ht) (fun i x H3 hx hP => ?_) (fun H3 hP => ?_)
    · obtain ⟨s3, eD⟩ := hP
      obtain ⟨z, hz, rfl⟩ := int_get hx
      have hzr := hst.rng z (List.mem_of_getElem? hz)
      have step := filt_take (f := relB pan st) hz
      have fl := List.length_filter_le (relB pan st) (st.take i)
      rw [List.length_take] at fl
      refine ⟨rfl, .ref p, rfl, .int z, rfl, .ref t, rfl, p, t, pan, z, st, rfl, hp.same s3, hg, hzr.1, hzr.2, same_sqT s3 ht, fun H4 s4 => ⟨_, rfl, ite2 (fun e => ?_) (fun e => ?_)⟩⟩
      · refine ⟨.int z, rfl, _, s4 _ _ eD, by rw [List.length_map]; exact small1000 (by omega), fun b o e' => ?_, ?_⟩
        · rw [upd_ne (ne_of_none e' nD)]
          exact s4 _ _ (s3 _ _ e')
        · rw [upd_same, step, if_pos e, List.map_append]; rfl
      · refine ⟨s3.trans s4, ?_⟩
        rw [step, if_neg e, List.append_nil]; exact s4 _ _ eD
    · obtain ⟨s3, eD⟩ := hP
      rw [List.length_map, List.take_length] at eD
      refine ⟨fun mm σ H4 => ∃ (hs : List Int) (u L : Addr) (x4 : Option V), mm = hs.length ∧ Same H H4 ∧ SqT K H4 u (hs.map V.int) ∧ H4 L = some (.lst ((hs.filter (relB pan hs)).map V.int)) ∧ Hold pan st hs ∧ σ = [some (.ref p), some (.ref t), some (.ref u), some (.ref L), x4],
        ⟨_, st, t, D, _, rfl, s3, same_sqT s3 ht, eD, ⟨hst.up, fun x h => h, fun C _ h x hx => h x hx⟩, rfl⟩, ?_⟩
      rintro mm σ H4 ⟨hs, u, L, x4, rfl, s4, hu, eL, hh, rfl⟩
      have hsr : ∀ x ∈ hs, 0 ≤ x ∧ x < (pan.length : Int) := fun x hx => hst.rng x (hh.sub x hx)
      have hsl : hs.length ≤ 10 := pw_length (n := 10) (lo := 0) hh.up fun x hx => by have := hsr x hx; omega
      refine ⟨.ref L, rfl, L, _, rfl, .inl (.inl (.inl eL)), .ref u, rfl, u, _, rfl, .inr hu, _, _, rfl, rfl, _, rfl, ite2 (fun e => ?_) (fun e => ?_)⟩
      · have e' : (hs.filter (relB pan hs)).length < hs.length := by
          have := of_decide_eq_true e
          rw [List.length_map, List.length_map] at this; omega
        have hstep := hh.step
        generalize hs.filter (relB pan hs) = gs at e' eL hstep
        refine ⟨_, fun σ' H' h => h, .ref L, rfl, L, _, rfl, .inl (.inl eL), fun u' o' nu' ho' => ?_⟩
        have su : Same H4 (upd H4 u' (.frz o' (.tup (gs.map V.int)))) := same_new nu'
        have hu' : SqT K (upd H4 u' (.frz o' (.tup (gs.map V.int)))) u' (gs.map V.int) := .inl (.inr ⟨o', upd_same⟩)
        refine gen_name (fun H5 => Same H4 H5 ∧ SqT K H5 u' (gs.map V.int)) ⟨su, hu'⟩ fun H5 ⟨s5, hu5⟩ => ?_
        have s05 := s4.trans s5
        refine ⟨.ref u', rfl, u', rfl, ⟨_, hu5⟩, fun D2 nD2 => ?_⟩
        refine lc_tup (xs := gs.map V.int) (fun i H6 => Same H5 H6 ∧ H6 D2 = some (.lst (((gs.take i).filter (relB pan gs)).map V.int))) ⟨same_new nD2, upd_same⟩ (fun i H6 _ hP => same_sqT hP.1 hu5) (fun i x H6 hx hP => ?_) (fun H6 hP => ?_)
        · obtain ⟨s6, eD2⟩ := hP
          obtain ⟨z, hz, rfl⟩ := int_get hx
          have hzr := hst.rng z (hstep.sub z (List.mem_of_getElem? hz))
          have step := filt_take (f := relB pan gs) hz
          have fl := List.length_filter_le (relB pan gs) (gs.take i)
          rw [List.length_take] at fl
          refine ⟨rfl, .ref p, rfl, .int z, rfl, .ref u', rfl, p, u', pan, z, gs, rfl, hp.same (s05.trans s6), hg, hzr.1, hzr.2, same_sqT s6 hu5, fun H7 s7 => ⟨_, rfl, ite2 (fun e => ?_) (fun e => ?_)⟩⟩
          · refine ⟨.int z, rfl, _, s7 _ _ eD2, by rw [List.length_map]; exact small1000 (by omega), fun b o e' => ?_, ?_⟩
            · rw [upd_ne (ne_of_none e' nD2)]
              exact s7 _ _ (s6 _ _ e')
            · rw [upd_same, step, if_pos e, List.map_append]; rfl
          · refine ⟨s6.trans s7, ?_⟩
            rw [step, if_neg e, List.append_nil]; exact s7 _ _ eD2
        · obtain ⟨s6, eD2⟩ := hP
          rw [List.length_map, List.take_length] at eD2
          exact ⟨gs.length, e', gs, u', D2, _, rfl, s05.trans s6, same_sqT s6 hu5, eD2, hstep, rfl⟩
      · have e' : ¬ (hs.filter (relB pan hs)).length < hs.length := fun z => e (decide_eq_true (by rw [List.length_map, List.length_map]; omega))
        exact ⟨.ref u, rfl, q H4 u hs s4 hu (hh.done e')⟩
end
end K54
namespace Pr
open PySem PySem.Spec PyProof.Rows L2
/-- what b releases -/
abbrev relM (pan : List (List Int)) (b : Int) : List Int := pan.getD b.toNat []
/-- which buttons may be pressed on the way to the goal -/
def PrOk (pan : List (List Int)) (goal hs G : List Int) (b : Int) : Prop := (b ∈ goal ∧ b ∉ hs) ∨ (b ∈ G ∧ ∀ x ∈ relM pan b, x ∉ hs)
section
variable {pan : List (List Int)} {goal hs G : List Int}
/-- a button of the goal that is not held releases no held one -/
theorem free_of (hh : IsHeld pan goal hs) {b : Int} (hb : b ∈ goal) (hn : b ∉ hs) : ∀ x ∈ relM pan b, x ∉ hs := fun x hx hxs => by
  refine hn (hh.most (b :: hs) ?_ ?_ b List.mem_cons_self)
  · intro y hy
    rcases List.mem_cons.mp hy with rfl | hy
    · exact ⟨x, hx, List.mem_cons_of_mem _ hxs⟩
    · obtain ⟨z, h1, h2⟩ := hh.closed y hy
      exact ⟨z, h1, List.mem_cons_of_mem _ h2⟩
  · intro y hy
    rcases List.mem_cons.mp hy with rfl | hy
    · exact hb
    · exact hh.sub y hy
theorem PrOk.free (hh : IsHeld pan goal hs) {b : Int} (h : PrOk pan goal hs G b) : ∀ x ∈ relM pan b, x ∉ hs := by
  rcases h with ⟨h1, h2⟩ | ⟨_, h2⟩
  · exact free_of hh h1 h2
  · exact h2
end
end Pr
namespace Pr
open PySem PySem.Spec PyProof.Rows L2
end Pr
namespace Pr
open PySem PySem.Spec PyProof.Rows L2
end Pr
namespace Pr
open PySem PySem.Spec PyProof.Rows L2
/-- n items of which P holds -/
def AllP (P : PyData → Prop) (n : Nat) (ds : List PyData) : Prop := ds.length = n ∧ ∀ d ∈ ds, P d
/-- a tuple of at most n items of which P holds -/
def TupP (P : PyData → Prop) (n : Nat) (d : PyData) : Prop := ∃ ds, d = .tuple ds ∧ ds.length ≤ n ∧ ∀ x ∈ ds, P x
theorem AllP.nil {P : PyData → Prop} : AllP P 0 [] := ⟨rfl, fun _ h => by cases h⟩
theorem AllP.cons {P : PyData → Prop} {n : Nat} {d : PyData} {ds : List PyData} (h : P d) (r : AllP P n ds) : AllP P (n + 1) (d :: ds) :=
  ⟨by rw [List.length_cons, r.1], fun x hx => by
    rcases List.mem_cons.mp hx with rfl | hx
    · exact h
    · exact r.2 x hx⟩
theorem AllP.append {P : PyData → Prop} {n m : Nat} {ds es : List PyData} (h : AllP P n ds) (r : AllP P m es) : AllP P (n + m) (ds ++ es) :=
  ⟨by rw [List.length_append, h.1, r.1], fun x hx => (List.mem_append.mp hx).elim (h.2 x) (r.2 x)⟩
theorem AllP.mono {P P' : PyData → Prop} {n : Nat} {ds : List PyData} (h : AllP P n ds) (f : ∀ d, P d → P' d) : AllP P' n ds := ⟨h.1, fun d hd => f d (h.2 d hd)⟩
theorem TupP.mono {P P' : PyData → Prop} {n m : Nat} {d : PyData} (h : TupP P n d) (f : ∀ d, P d → P' d) (hm : n ≤ m) : TupP P' m d :=
  let ⟨ds, e, l, q⟩ := h; ⟨ds, e, Nat.le_trans l hm, fun x hx => f x (q x hx)⟩
end Pr
namespace Pr
open PySem PySem.Spec PyProof.Rows L2
def isB : PyData → Bool
  | .bool _ => true
  | _ => false
theorem isB_kit {K : PySem.W.Frag} (d : PyData) : PySem.W.kitOne K (.type (tyD d)) (.type "bool") = some (isB d) := by
  cases d with
  | none => exact kit_ty (show kitB "NoneType" "bool" = some false by decide +kernel)
  | bool _ => exact kit_ty (show kitB "bool" "bool" = some true by decide +kernel)
  | int _ => exact kit_ty (show kitB "int" "bool" = some false by decide +kernel)
  | str _ => exact kit_ty (show kitB "str" "bool" = some false by decide +kernel)
  | list _ => exact kit_ty (show kitB "list" "bool" = some false by decide +kernel)
  | tuple _ => exact kit_ty (show kitB "tuple" "bool" = some false by decide +kernel)
  | dict _ => exact kit_ty (show kitB "dict" "bool" = some false by decide +kernel)
def isI : PyData → Bool
  | .bool _ => true
  | .int _ => true
  | _ => false
theorem isI_kit {K : PySem.W.Frag} (d : PyData) : PySem.W.kitOne K (.type (tyD d)) (.type "int") = some (isI d) := by
  cases d with
  | none => exact kit_ty (show kitB "NoneType" "int" = some false by decide +kernel)
  | bool _ => exact kit_ty (show kitB "bool" "int" = some true by decide +kernel)
  | int _ => exact kit_ty (show kitB "int" "int" = some true by decide +kernel)
  | str _ => exact kit_ty (show kitB "str" "int" = some false by decide +kernel)
  | list _ => exact kit_ty (show kitB "list" "int" = some false by decide +kernel)
  | tuple _ => exact kit_ty (show kitB "tuple" "int" = some false by decide +kernel)
  | dict _ => exact kit_ty (show kitB "dict" "int" = some false by decide +kernel)
def isT : PyData → Bool
  | .tuple _ => true
  | _ => false
theorem isT_kit {K : PySem.W.Frag} (d : PyData) : PySem.W.kitOne K (.type (tyD d)) (.type "tuple") = some (isT d) := by
  cases d with
  | none => exact kit_ty (show kitB "NoneType" "tuple" = some false by decide +kernel)
  | bool _ => exact kit_ty (show kitB "bool" "tuple" = some false by decide +kernel)
  | int _ => exact kit_ty (show kitB "int" "tuple" = some false by decide +kernel)
  | str _ => exact kit_ty (show kitB "str" "tuple" = some false by decide +kernel)
  | list _ => exact kit_ty (show kitB "list" "tuple" = some false by decide +kernel)
  | tuple _ => exact kit_ty (show kitB "tuple" "tuple" = some true by decide +kernel)
  | dict _ => exact kit_ty (show kitB "dict" "tuple" = some false by decide +kernel)
def isBtn (n : Int) : PyData → Bool
  | .int i => decide (0 ≤ i) && decide (i < n)
  | _ => false
def ascFrom (n : Int) : Int → List PyData → Bool
  | _, [] => true
  | b, .int i :: r => decide (0 ≤ i) && decide (i < n) && decide (b < i) && ascFrom n i r
  | _, _ :: _ => false
def btnT (n : Int) : PyData → Bool
  | .tuple ds => ascFrom n (-1) ds
  | _ => false
def dErr (k : PyData) (x : Str) : PyData := .tuple [k, .str x]
def hasInt (k : Int) : PyData → Bool
  | .tuple ds => ds.any fun d => match d with | .int i => decide (i = k) | _ => false
  | _ => false
def errFrom (n : Int) : Nat → List PyData → PyData
  | _, [] => .none
  | k, d :: r => if btnT n d then (if hasInt (k : Int) d then dErr (.int (k : Int)) "itself" else errFrom n (k + 1) r) else dErr (.int (k : Int)) "list"
def errD : PyData → PyData
  | .tuple ds => if 1 ≤ ds.length ∧ ds.length ≤ 10 then errFrom (ds.length : Int) 0 ds else dErr .none "panel"
  | _ => dErr .none "panel"
theorem ascFrom_ints {n : Int} : ∀ {b : Int} {ds : List PyData}, ascFrom n b ds = true → ∃ ns : List Int, ds = ns.map PyData.int ∧ ns.Pairwise (· < ·) ∧ ∀ x ∈ ns, b < x ∧ 0 ≤ x ∧ x < n
  | b, [], _ => ⟨[], rfl, List.Pairwise.nil, fun _ h => by cases h⟩
  | b, d :: r, h => by
    cases d with
    | int i =>
      simp only [ascFrom, Bool.and_eq_true, decide_eq_true_eq] at h
      obtain ⟨ns, rfl, h2, h3⟩ := ascFrom_ints h.2
      refine ⟨i :: ns, rfl, List.pairwise_cons.mpr ⟨fun x hx => (h3 x hx).1, h2⟩, fun x hx => ?_⟩
      rcases List.mem_cons.mp hx with rfl | hx
      · exact ⟨h.1.2, h.1.1⟩
      · have := h3 x hx; omega
    | none => simp [ascFrom] at h
    | bool _ => simp [ascFrom] at h
    | str _ => simp [ascFrom] at h
    | list _ => simp [ascFrom] at h
    | tuple _ => simp [ascFrom] at h
    | dict _ => simp [ascFrom] at h
theorem hasInt_ints {k : Int} (ns : List Int) : hasInt k (.tuple (ns.map PyData.int)) = decide (k ∈ ns) := by
  show (ns.map PyData.int).any _ = _
  rw [List.any_map, Bool.eq_iff_iff, List.any_eq_true, decide_eq_true_eq]
  constructor
  · rintro ⟨x, hx, e⟩
    have e' : x = k := by simpa using e
    rw [← e']; exact hx
  · intro h
    exact ⟨k, h, by simp⟩
theorem dqAll_of_ints {K : PySem.W.Frag} {N : Addr → Prop} {H : Hp} : ∀ {xs : List V} {ns : List Int}, DqAll K N H xs (ns.map PyData.int) → xs = ns.map V.int
  | _, [], h => by cases h; rfl
  | _, x :: r, h => by
    cases h with
    | cons h1 h2 => cases h1; rw [List.map_cons, dqAll_of_ints h2]
theorem errFrom_drop {n : Int} {ds : List PyData} {i : Nat} {d : PyData} (h : ds[i]? = some d) : errFrom n i (ds.drop i) = if btnT n d then (if hasInt (i : Int) d then dErr (.int (i : Int)) "itself" else errFrom n (i + 1) (ds.drop (i + 1))) else dErr (.int (i : Int)) "list" := by
  have hi := (List.getElem?_eq_some_iff.mp h).1
  have : ds.drop i = d :: ds.drop (i + 1) := by
    rw [List.drop_eq_getElem_cons hi, (List.getElem?_eq_some_iff.mp h).2]
  rw [this]; rfl
theorem eqv_intsL : ∀ (ns ms : List Int), PyData.eqvAll (ns.map PyData.int) (ms.map PyData.int) = decide (ns = ms)
  | [], [] => by simp [PyData.eqvAll]
  | [], _ :: _ => by simp [PyData.eqvAll]
  | _ :: _, [] => by simp [PyData.eqvAll]
  | x :: r, y :: t => by
    simp only [List.map_cons, PyData.eqvAll, PyData.eqv, eqv_intsL r t]
    by_cases h : x = y <;> by_cases h2 : r = t <;> simp [h, h2]
theorem canLay_ints : ∀ ns : List Int, PyData.canLayAll0 (ns.map PyData.int) = true ∧ PyData.depthAll (ns.map PyData.int) = 0
  | [] => ⟨by simp [PyData.canLayAll0], by simp [PyData.depthAll]⟩
  | x :: r => by
    obtain ⟨h1, h2⟩ := canLay_ints r
    exact ⟨by simp [PyData.canLayAll0, PyData.canLay0, h1], by simp [PyData.depthAll, PyData.depth, h2]⟩
end Pr
namespace Pr
open PySem PySem.Spec PyProof.Rows L2
theorem eqv_di (ns ms : List Int) : PyData.eqv (dInts ns) (dInts ms) = decide (ns = ms) := by
  unfold dInts
  simp only [PyData.eqv]
  exact eqv_intsL ns ms
theorem eqv_rowsA : ∀ (a b : List (List Int)), PyData.eqvAll (a.map dInts) (b.map dInts) = decide (a = b)
  | [], [] => by simp [PyData.eqvAll]
  | [], _ :: _ => by simp [PyData.eqvAll]
  | _ :: _, [] => by simp [PyData.eqvAll]
  | x :: r, y :: t => by
    simp only [List.map_cons, PyData.eqvAll, eqv_di, eqv_rowsA r t]
    by_cases h : x = y <;> by_cases h2 : r = t <;> simp [h, h2]
theorem eqv_rowsT (a b : List (List Int)) : PyData.eqv (.tuple (a.map dInts)) (.tuple (b.map dInts)) = decide (a = b) := by
  simp only [PyData.eqv]; exact eqv_rowsA a b
theorem lay_rows : ∀ a : List (List Int), PyData.canLayAll0 (a.map dInts) = true ∧ PyData.depthAll (a.map dInts) ≤ 1
  | [] => ⟨by simp [PyData.canLayAll0], by simp [PyData.depthAll]⟩
  | x :: r => by
    obtain ⟨h1, h2⟩ := lay_rows r
    obtain ⟨g1, g2⟩ := canLay_ints x
    refine ⟨by simp [PyData.canLayAll0, dInts, PyData.canLay0, h1, g1], ?_⟩
    simp only [List.map_cons, PyData.depthAll, dInts, PyData.depth, g2]
    omega
theorem shp_rowsT (a : List (List Int)) : SeqAt.shaped (.tuple (a.map dInts)) = true := by
  obtain ⟨h1, h2⟩ := lay_rows a
  simp only [SeqAt.shaped, PyData.canLay0, PyData.depth, h1, Bool.true_and]
  exact decide_eq_true (by omega)
def dNone : PyData → Bool
  | .none => true
  | _ => false
section
variable {K : PySem.W.Frag} {σ : L2.St} {H : Hp} {t tk ta tb : TE}
theorem gvi_enumL {α : Type} {δ : α → PyData} {as : List α} (h : Gv K t σ H (.list (as.map δ))) : GvI K Same (iEnum K (tCons t tNil)) σ H (as.zipIdx.map fun x => .tuple [.int (x.2 : Nat), δ x.1]) := fun H1 s Q q => h H1 s _ fun v H2 s2 d2 => by
  obtain ⟨a, xs, rfl, hq, hr⟩ := d2.lstI
  refine ⟨a, xs, rfl, hq, q _ H2 s2 ?_⟩
  have hl : xs.length = as.length := by rw [hr.length, List.length_map]
  rw [List.length_map, List.length_zipIdx, ← hl]
  refine walk_enum.mono (fun h e => e.seq hq) fun i h x h' hi e y => ?_
  obtain ⟨T, x1, x2, rfl, nT, rfl, e1, e2⟩ := y
  cases e1
  have hi' : i < as.length := by omega
  obtain ⟨v, hv, dv⟩ := hr.get i (δ as[i]) (by rw [List.getElem?_map, List.getElem?_eq_getElem hi']; rfl)
  replace e2 : xs[i]? = some x2 := e2
  rw [hv] at e2; cases e2
  have sT : Same h (upd h T (.tup [.int (i : Nat), x2])) := same_new nT
  refine ⟨sT, .tuple [.int (i : Nat), δ as[i]], ?_, .tup (.inl (.inl upd_same)) (.cons (.int _) (.cons ((dv.sm e).sm sT) .nil))⟩
  rw [List.getElem?_map, List.getElem?_zipIdx, List.getElem?_eq_getElem hi']
  simp
theorem set_three (σ : L2.St) (i j l : Nat) (v u x : V) : ((((((((σ.set l none).set j none).set i none).set i (some v)).set j (some u)).set l (some x)).set l none).set j none).set i none = ((σ.set l none).set j none).set i none := by
  refine List.ext_getElem? fun m => ?_
  simp only [List.getElem?_set, List.length_set]
  split <;> split <;> (try split) <;> simp_all
theorem gn_lc3 {wi : TI} {tt : TT} {te : TE} {i j l : Nat} {α : Type} {δ1 δ2 δ3 : α → PyData} {as : List α} {p : α → Bool} {f : α → PyData} (hI : GvI K Same wi σ H (as.map fun a => .tuple [δ1 a, δ2 a, δ3 a]))
    (hb : ∀ a v u x H1, a ∈ as → Same H H1 → Dp K H1 v (δ1 a) → Dp K H1 u (δ2 a) → Dp K H1 x (δ3 a) → GvT tt ((((((σ.set l none).set j none).set i none).set i (some v)).set j (some u)).set l (some x)) H1 (p a) ∧ (p a = true → Gv K te ((((((σ.set l none).set j none).set i none).set i (some v)).set j (some u)).set l (some x)) H1 (f a)))
    (hf : ∀ a ∈ as, lf (f a) = true) (hn : as.length ≤ 100000) (hij : i ≠ j) (hil : i ≠ l) (hjl : j ≠ l) : GvN K (tLc wi (gTup K 3 (gCons (gName i) (gCons (gName j) (gCons (gName l) gNil)))) tt te [i, j, l]) σ H ((as.filter p).map f) := by
  intro H0 s0 Q q
  refine hI H0 s0 _ fun J H1 s1 w D nD => ?_
  rw [List.length_map] at w
  refine lc_it w (LcP K H1 D fun k => ((as.take k).filter p).map f) ⟨fun b o hb e => by rw [upd_ne hb]; exact e, [], upd_same, .nil, Nat.zero_le _⟩ (fun k H2 _ hP b o e => hP.1 b o (ne_of_none e nD) e) (fun k x H2 H3 hk hP hY => ?_) (fun H2 hP => ?_)
  · obtain ⟨s2, acc, eD, hacc, la⟩ := hP
    obtain ⟨s3, d, hd, dx⟩ := hY
    rw [List.getElem?_map, List.getElem?_eq_getElem hk] at hd
    cases hd
    have sH : Same H H3 := (s0.trans s1).trans fun b o e => s3 _ _ (s2 b o (ne_of_none e nD) e)
    obtain ⟨T, xs, rfl, hT, hr⟩ := dx.tupI
    obtain ⟨v, u, x, rfl, dv, du, dx3⟩ := dpAll3 hr
    obtain ⟨g1, g2⟩ := hb as[k] v u x H3 (List.getElem_mem _) sH dv du dx3
    refine ⟨T, [v, u, x], rfl, hT, rfl, v, [u, x], rfl, u, [x], rfl, x, [], rfl, rfl, ?_, g1.at fun H4 s4 => ?_⟩
    · exact set_three _ _ _ _ _ _ _
    cases hp : p as[k] with
    | true =>
      rw [if_pos rfl]
      refine (g2 hp).sm s4 |>.at fun y H5 s5 dy => ⟨acc, s5 _ _ (s4 _ _ (s3 _ _ eD)), small5 (by omega), ?_⟩
      exact lcP_yes s2 ((s3.trans s4).trans s5) eD hacc la dy (by rw [fil_take hk, hp]; rfl) (lf_fil hf _)
    | false =>
      rw [if_neg Bool.false_ne_true]
      exact lcP_no s2 (s3.trans s4) eD hacc la (by rw [fil_take hk, hp]; exact List.append_nil _)
  · obtain ⟨s2, acc, eD, hacc, la⟩ := hP
    replace hacc : DpAll K H2 acc (((as.take as.length).filter p).map f) := hacc
    rw [List.take_length] at hacc
    exact q _ _ H2 (s1.trans fun b o e => s2 b o (ne_of_none e nD) e) (s1.free nD) eD hacc
theorem gn_repL1 {d : PyData} {k : Nat} (ha : GvL K ta σ H [d]) (hb : Gv K tb σ H (.int (k : Int))) (hk : k ≤ 1000) : GvN K (tOp rRep ta tb) σ H (List.replicate k d) := fun H1 s Q q =>
  ha H1 s _ fun a vs H2 s2 e dv => hb H2 (s.trans s2) _ fun y H3 s3 dy => by
    cases dy
    obtain ⟨v, rfl, dv1⟩ := dpAll1 dv
    refine ⟨a, (k : Int), [v], rfl, rfl, s3 _ _ e, by omega, by omega, by rw [Int.toNat_natCast]; show 1 * k ≤ _; exact Nat.le_of_lt (small1000 (by omega)), fun p np => ?_⟩
    have sp := same_new (o := .lst (List.replicate ((k : Nat) : Int).toNat [v]).flatten) np
    refine q p (List.replicate k v) _ ((s2.trans s3).trans sp) ((s2.trans s3).free np) ?_ ?_
    · rw [upd_same, Int.toNat_natCast, rep_flatA]
    · have : ∀ m, DpAll K (upd H3 p (.lst (List.replicate ((k : Nat) : Int).toNat [v]).flatten)) (List.replicate m v) (List.replicate m d) := fun m => by
        induction m with
        | zero => exact .nil
        | succ m ih => exact .cons ((dv1.sm s3).sm sp) ih
      exact this k
theorem gv_cutToG {ds : List PyData} {k : Nat} (h : Gv K t σ H (.tuple ds)) (hk : Gv K tk σ H (.int (k : Int))) (hl : k ≤ ds.length) : Gv K (tSl (rSlS K) t tNoPart (tPart tk)) σ H (.tuple (ds.take k)) := fun H1 s Q q => h H1 s _ fun v H2 s2 dv => hk H2 (s.trans s2) _ fun vk H3 s3 dk => by
  cases dk
  obtain ⟨a, xs, rfl, ha, hr⟩ := dv.tupI
  refine ⟨(k : Int), rfl, a, _, rfl, same_sqT s3 ha, fun p H4 s4 hp => q _ H4 ((s2.trans s3).trans s4) (.tup hp ?_)⟩
  have := cut_dp ((hr.sm s3).sm s4) none (some (k : Int))
  rw [HT.sIx_none, HT.sIx_nat, Nat.min_eq_left hl, List.drop_zero, Nat.sub_zero] at this
  exact this
theorem gv_cutFromG {ds : List PyData} {k : Nat} (h : Gv K t σ H (.tuple ds)) (hk : Gv K tk σ H (.int (k : Int))) (hl : k ≤ ds.length) : Gv K (tSl (rSlS K) t (tPart tk) tNoPart) σ H (.tuple (ds.drop k)) := fun H1 s Q q => h H1 s _ fun v H2 s2 dv => hk H2 (s.trans s2) _ fun vk H3 s3 dk => by
  cases dk
  obtain ⟨a, xs, rfl, ha, hr⟩ := dv.tupI
  refine ⟨(k : Int), rfl, a, _, rfl, same_sqT s3 ha, fun p H4 s4 hp => q _ H4 ((s2.trans s3).trans s4) (.tup hp ?_)⟩
  have := cut_dp ((hr.sm s3).sm s4) (some (k : Int)) none
  rw [HT.sIx_none, HT.sIx_nat, Nat.min_eq_left hl, List.take_of_length_le (by rw [List.length_drop]; omega)] at this
  exact this
theorem gv_intB {b : Bool} {r : List V → Hp → VK → Prop} (hr : r = fun xs H Q => (∃ i, xs = [.int i] ∧ Q (.int i) H) ∨ ∃ k, xs = [.bl k] ∧ Q (.int (if k then 1 else 0)) H) (h : Gv K t σ H (.bool b)) : Gv K (tCB r (tCons t tNil)) σ H (.int (if b then 1 else 0)) := by
  subst hr
  refine gv_cb (gva_cons h gva_nil) fun vs H1 Q s hd q => ?_
  obtain ⟨v, rfl, hv⟩ := dpAll1 hd
  cases hv
  exact .inr ⟨b, rfl, q _ _ (Same.refl _) (.int _)⟩
theorem gv_notN {d : PyData} (h : Gv K t σ H d) {r : R2} (hr : r = (fun x y H Q => y = .non ∧ Q (.bl (!decide (x = .non))) H)) : Gv K (tOp r t (tC .non)) σ H (.bool (!dNone d)) := by
  subst hr
  refine gv_op2 h gv_non fun x y H1 Q s hx hy q => ?_
  cases hy
  refine ⟨rfl, q _ _ (Same.refl _) ?_⟩
  have : decide (x = V.non) = dNone d := by
    cases hx <;> simp [dNone]
  rw [this]; exact .bl _
end
end Pr
namespace Pr
open PySem PySem.Spec PyProof.Rows L2
def tlen : PyData → Bool
  | .tuple es => decide (es.length ≤ 60)
  | _ => true
def smlB : PyData → Bool
  | .tuple ds => ds.all tlen
  | _ => true
def lowB (d : PyData) : Bool := d.showable && decide (d.depth ≤ 3) && decide (d.shown.length ≤ 60) && tlen d && smlB d
/-- a small thing: at most three deep, at most sixty signs -/
def Low (d : PyData) : Prop := lowB d = true
theorem Low.shq {d : PyData} (h : Low d) : Shq 3 60 d := by
  simp only [Low, lowB, Bool.and_eq_true, decide_eq_true_eq] at h
  exact ⟨h.1.1.1.1, h.1.1.1.2, h.1.1.2⟩
theorem Low.len {d : PyData} (h : Low d) : tlen d = true := by
  simp only [Low, lowB, Bool.and_eq_true, decide_eq_true_eq] at h
  exact h.1.2
theorem Low.sml {d : PyData} (h : Low d) : smlB d = true := by
  simp only [Low, lowB, Bool.and_eq_true, decide_eq_true_eq] at h
  exact h.2
/-- values of the laws -/
def Top (d : PyData) : Prop := Shq 5 2000000 d ∧ smlB d = true
theorem Low.top {d : PyData} (h : Low d) : Top d := ⟨h.shq.mono (by decide) (by decide), h.sml⟩
end Pr
namespace Pr
open PySem PySem.Spec PyProof.Rows L2
/-- the exception that the suite holds, of the class D, its dict d -/
def HeldX (D : Addr) (cls : Value) (d : Option Addr) (H : Hp) : Prop := cls = .ref D ∧ ∃ dd fs, d = some dd ∧ H dd = some (.xd fs)
section
variable {X : Cx} {a D : Addr} {oe : Obj} {cls : Value} {d : Option Addr} {pn pins : List (Addr × Obj)} {s : Shared} {σ : L2.St} {H : Hp}
theorem held_inst (hz : Zc cls d oe) (hf : ∃ vs, oe.data = .fields vs) (I : Inv (X.suite a ((a, oe) :: pn)) pins σ H s) (h : HeldX D cls d H) : ∃ od : Obj, PySem.W.InstAt s.heap a oe D (some od) := by
  obtain ⟨rfl, dd, fs, rfl, ea⟩ := h
  obtain ⟨ha, _⟩ := I.pin (a, oe) (List.mem_append_left _ List.mem_cons_self)
  obtain ⟨vs, hd⟩ := hf
  have hx : ObjOk X.prog X.w H s.heap dd (.xd fs) := I.hok dd _ ea
  obtain ⟨mA, hns, hr⟩ := hx
  obtain ⟨od, ho, hl⟩ := lookIn_ns hns
  exact ⟨od, ha, hz.1, by unfold PySem.W.notCls; rw [hd] <;> rfl, by rw [hz.2]; exact ho⟩
theorem kitx_of_exc {x : Addr} {ox : Obj} {od : Option Obj} {K : PySem.W.Frag} (C : ExcC K D) : PySem.W.KitX K (.ref x) (.ref D) (fun h => PySem.W.InstAt h x ox D od) :=
  PySem.W.kitx_exc (by obtain ⟨cd, hc, _⟩ := PySem.W.any_some C.hd; rw [hc]; rfl) C.hg C.hk C.hs C.ha C.hn C.ht C.hm
end
end Pr
namespace Pr
open PySem PySem.Spec PyProof.Rows L2
section
variable {X : Cx}
theorem pmk_own0 {C : Addr} {bmB : List Value} {B newId initId : String} {x : Str} {p pos : Pos} (F : ExcBaseFacts B newId initId bmB) (q : PySem.W.excIn X.K C bmB newId = true) (gC : X.mg x = some (.ref C)) (kC : PySem.W.keepIn X.K (.ref C) = true) (r : Raises X (.ref C)) (hg : Gl X x)
    (hdb : (x == ("__debug__" : Str)) = false := by decide) : PMk X (.Call (.Name x p) [] [] pos) (fun _ H Q => Q (.ref C) none H) := by
  intro pins s σ H Q I h
  refine wpAny_Call_Name_kw (ld_glob I hg gC ?_ hdb)
  refine PySem.W.callWith_K0 I.kIn kC ?_
  show wpAny _ _ (call (.ref C) []) _ _ _
  obtain ⟨bm, N, nm, qn, bs, hdct, sn, sub, ab, col, dd, k0, k1, k2, k3, k5, mN, hC, hN, hni, T⟩ := exc_obj I.kIn q
  refine wpAny_call_exc_subT F T hC hN hni (fun h' e hm => ?_) (by show 0 ≤ sizeLine; omega)
  exact mk_of I hm r h (I.hok.gone hm.new)
/-- what the top says of such a class -/
structure Ex0 (K : PySem.W.Frag) (mg : Str → Option Value) (nm : Str) (C : Addr) : Prop where
  q : PySem.W.excIn K C [.type "ValueError", .type "Exception", .type "BaseException", .type "object"] "ValueError.__new__" = true
  g : mg nm = some (.ref C)
  k : PySem.W.keepIn K (.ref C) = true
  s : PySem.W.subIn K (.ref C) (.type "BaseException") = some true
  t : PySem.W.typeIn K (.ref C) = some (.type "type")
theorem Ex0.made {nm : Str} {C : Addr} {p pos : Pos} (T : Ex0 X.K X.mg nm C) (hg : Gl X nm) (hdb : (nm == ("__debug__" : Str)) = false := by decide) : PMk X (.Call (.Name nm p) [] [] pos) (fun _ H Q => Q (.ref C) none H) :=
  pmk_own0 PySem.F.excBase_ValueError T.q T.g T.k (raises_own T.s T.t) hg hdb
end
def HeldY (D : Addr) (cls : Value) (d : Option Addr) (H : Hp) : Prop := cls = .ref D ∧ (d = none ∨ ∃ dd fs, d = some dd ∧ H dd = some (.xd fs))
def rIsY (K : PySem.W.Frag) (D a : Addr) (cls : Value) (d : Option Addr) : List V → Hp → VK → Prop := fun xs H Q => HeldY D cls d H ∧ ∃ (c : V) (u : Value) (b : Bool), xs = [.ref a, c] ∧ ClsV c u ∧ PySem.W.kitOne K (.ref D) u = some b ∧ Q (.bl b) H
def rIsYT (K : PySem.W.Frag) (D a : Addr) (cls : Value) (d : Option Addr) : List V → Hp → VK → Prop := fun xs H Q => HeldY D cls d H ∧ ∃ (tp : Addr) (cs : List V) (us : List Value) (b : Bool), xs = [.ref a, .ref tp] ∧ H tp = some (.tup cs) ∧ Paired ClsV cs us ∧ PySem.W.kitAny K (.ref D) us = some b ∧ Q (.bl b) H
section
variable {X : Cx} {a D : Addr} {oe : Obj} {cls : Value} {d : Option Addr} {pn pins : List (Addr × Obj)} {s : Shared} {σ : L2.St} {H : Hp}
theorem held_instY (hz : Zc cls d oe) (hf : ∃ vs, oe.data = .fields vs) (I : Inv (X.suite a ((a, oe) :: pn)) pins σ H s) (h : HeldY D cls d H) : ∃ od : Option Obj, PySem.W.InstAt s.heap a oe D od := by
  obtain ⟨rfl, rfl | ⟨dd, fs, rfl, ea⟩⟩ := h
  · obtain ⟨ha, _⟩ := I.pin (a, oe) (List.mem_append_left _ List.mem_cons_self)
    obtain ⟨vs, hd⟩ := hf
    exact ⟨none, ha, hz.1, by unfold PySem.W.notCls; rw [hd] <;> rfl, by rw [hz.2]; trivial⟩
  · obtain ⟨od, h⟩ := held_inst hz hf I ⟨rfl, dd, fs, rfl, ea⟩
    exact ⟨some od, h⟩
theorem call_isY (C : ExcC X.K D) (hz : Zc cls d oe) (hf : ∃ vs, oe.data = .fields vs) : CallR (X.suite a ((a, oe) :: pn)) (.builtin "isinstance") (rIsY X.K D a cls d) := by
  intro pins s σ H xs us Q I r h
  obtain ⟨hh, c, u, b, rfl, k, e, q⟩ := h
  obtain ⟨u1, u2, rfl, r1, r2⟩ := vals2 r
  cases (show u1 = Value.ref a from r1)
  have e2 := k.eq r2
  subst e2
  obtain ⟨od, J⟩ := held_instY hz hf I hh
  exact PySem.W.kia_one (kitx_of_exc C) I.kIn J e (fun z => nomatch z) fun tk => ⟨.bl b, H, I.tok tk, rfl, q⟩
theorem call_isYT (C : ExcC X.K D) (hz : Zc cls d oe) (hf : ∃ vs, oe.data = .fields vs) : CallR (X.suite a ((a, oe) :: pn)) (.builtin "isinstance") (rIsYT X.K D a cls d) := by
  intro pins s σ H xs us Q I r h
  obtain ⟨hh, tp, cs, ws, b, rfl, hT, k, e, q⟩ := h
  obtain ⟨u1, u2, rfl, r1, r2⟩ := vals2 r
  cases (show u1 = Value.ref a from r1)
  cases (show u2 = Value.ref tp from r2)
  obtain ⟨od, J⟩ := held_instY hz hf I hh
  obtain ⟨_, its, rv, o, h1, h2, n, h3⟩ := (show ObjOk X.prog X.w H s.heap tp (.tup cs) from I.hok tp _ hT)
  have e3 := ClsV.all k rv
  subst e3
  obtain ⟨oc, od', dt, sl⟩ := o
  simp only at h2 h3
  subst h2 h3
  exact PySem.W.kia_tup (kitx_of_exc C) I.kIn J h1 e (fun z => nomatch z) fun tk => ⟨.bl b, H, I.tok tk, rfl, q⟩
end
theorem kit_selfY {K : PySem.W.Frag} {C : Addr} : PySem.W.kitOne K (.ref C) (.ref C) = some true := if_pos (beq_self_eq_true _)
theorem passX {X : Cx} : Passes (L2.CX X.prog X.w) X E0 := fun _ _ _ _ _ _ _ h => by
  obtain ⟨_, _, _, _, _, _, _, _, _, _, _, _, z⟩ := h
  exact z.elim
end Pr
namespace Pr
open PySem PySem.Spec PyProof.Rows L2
/-- what the top says of an error class with one field, and of its __init__ -/
structure ExF (K : PySem.W.Frag) (mg : Str → Option Value) (nm fld qn : Str) (sI : Stmt) (C fI : Addr) (fdI : FuncData) : Prop where
  oex : OexC K C
  iC : PySem.W.findIn K (.ref C) "__init__" = some (some (.ref fI))
  tI : PySem.W.typeIn K (.ref fI) = some (.type "function")
  noN : PySem.W.findIn K (.ref C) fld = some none
  g : mg nm = some (.ref C)
  FI : Fun K "__init__" qn sI fI fdI
  bI : Binds K fdI ["self", fld] []
def spI (K : PySem.W.Frag) (C : Addr) (fld : Str) : Sp := fun vs H Q _ => ∃ (e : Addr) (y : V), vs = [.ref e, y] ∧ OexC K C ∧ PySem.W.findIn K (.ref C) fld = some none ∧ H e = some (exo e C none) ∧
  ∀ dx, H dx = none → dx ≠ e → Q .non (upd (upd H dx (exd dx [(fld, y)])) e (exo e C (some dx)))
theorem madeF {H : Hp} {C a dx : Addr} {y : V} {fld : Str} (na : H a = none) (nd : (upd H a (exo a C none)) dx = none) (ne : dx ≠ a) :
    (upd (upd (upd H a (exo a C none)) dx (exd dx [(fld, y)])) a (exo a C (some dx))) a = some (exo a C (some dx)) ∧
    (upd (upd (upd H a (exo a C none)) dx (exd dx [(fld, y)])) a (exo a C (some dx))) dx = some (exd dx [(fld, y)]) ∧ H dx = none ∧
    Same H (upd (del (upd (upd (upd H a (exo a C none)) dx (exd dx [(fld, y)])) a (exo a C (some dx))) a) dx (.xd [(fld, y)])) := by
  have nd' : H dx = none := by rw [upd_ne ne] at nd; exact nd
  refine ⟨upd_same, by rw [upd_ne ne, upd_same], nd', fun b o e => ?_⟩
  rw [upd_ne (ne_of_none e nd'), del_ne (ne_of_none e na), upd_ne (ne_of_none e na), upd_ne (ne_of_none e nd'), upd_ne (ne_of_none e na)]
  exact e
/-- what is left to answer where such an error is made with y -/
theorem rzF {K : PySem.W.Frag} {mg : Str → Option Value} {nm fld qn : Str} {sI : Stmt} {C fI : Addr} {fdI : FuncData} (T : ExF K mg nm fld qn sI C fI fdI) {Hx : Hp} {y : V} {E : XK} (q : ∀ H' dd, Same Hx H' → H' dd = some (.xd [(fld, y)]) → E (.ref C) (some dd) H') :
    [y].length ≤ 1000 ∧ ∀ a, Hx a = none → spI K C fld (.ref a :: ([y] ++ [])) (upd Hx a (exo a C none))
        (fun v H2 => v = .non ∧ ∃ (d : Addr) (fs : List (Str × V)), H2 a = some (exo a C (some d)) ∧ H2 d = some (exd d fs) ∧ Hx d = none ∧ E (.ref C) (some d) (upd (del H2 a) d (.xd fs))) (fun _ _ _ => False) := by
  refine ⟨by show 1 ≤ 1000; decide, fun a na => ⟨a, y, rfl, T.oex, T.noN, upd_same, fun dx nd ne => ⟨rfl, dx, [(fld, y)], ?_⟩⟩⟩
  obtain ⟨m1, m2, m3, m4⟩ := madeF (y := y) (fld := fld) na nd ne
  exact ⟨m1, m2, m3, q _ dx m4 upd_same⟩
end Pr
namespace Pr
open PySem PySem.Spec PyProof.Rows L2
section
variable {K : PySem.W.Frag} {H H' : Hp} {pan : List (List Int)}
theorem panT_dp {v : V} (h : Dp K H v (dPan pan)) : ∃ p, v = .ref p ∧ PanT K H p pan := by
  obtain ⟨p, xs, rfl, hq, hr⟩ := h.tupI
  have : ∀ (xs : List V) (pan : List (List Int)), DpAll K H xs (pan.map dInts) → ∃ qs : List Addr, xs = qs.map V.ref ∧ Paired (fun q l => SqT K H q (l.map V.int)) qs pan := by
    intro xs pan
    induction pan generalizing xs with
    | nil => intro h; cases h; exact ⟨[], rfl, .nil⟩
    | cons l pan ih =>
      intro h
      cases h with
      | cons h1 h2 =>
        obtain ⟨q, rfl, hq⟩ := h1.intsI
        obtain ⟨qs, rfl, hqs⟩ := ih _ h2
        exact ⟨q :: qs, rfl, .cons hq hqs⟩
  obtain ⟨qs, rfl, hqs⟩ := this xs pan hr
  exact ⟨p, rfl, qs, hq, hqs⟩
theorem dq_panT {N : Addr → Prop} {p : Addr} (h : PanT K H p pan) : Dq K N H (.ref p) (dPan pan) := by
  obtain ⟨qs, h1, h2⟩ := h
  refine .tup h1 ?_
  have : ∀ {qs : List Addr} {pan : List (List Int)}, Paired (fun q l => SqT K H q (l.map V.int)) qs pan → DqAll K N H (qs.map V.ref) (pan.map dInts) := fun h => by
    induction h with
    | nil => exact .nil
    | cons a b ih => exact .cons (dq_ints a) ih
  exact this h2
end
theorem asc_from {n : Int} : ∀ {l : List Int} {b : Int}, l.Pairwise (· < ·) → (∀ x ∈ l, b < x ∧ 0 ≤ x ∧ x < n) → ascFrom n b (l.map PyData.int) = true
  | [], _, _, _ => rfl
  | x :: l, b, up, h => by
    rw [List.pairwise_cons] at up
    have hx := h x List.mem_cons_self
    have ih := asc_from (n := n) (b := x) up.2 fun y hy => ⟨up.1 y hy, (h y (List.mem_cons_of_mem _ hy)).2⟩
    show (decide (0 ≤ x) && decide (x < n) && decide (b < x) && ascFrom n x (l.map PyData.int)) = true
    rw [ih, decide_eq_true hx.1, decide_eq_true hx.2.1, decide_eq_true hx.2.2]; rfl
theorem err_from {n : Int} : ∀ (pan : List (List Int)) (k : Nat), (∀ l ∈ pan, l.Pairwise (· < ·) ∧ ∀ x ∈ l, 0 ≤ x ∧ x < n) → (∀ (j : Nat) (l : List Int), pan[j]? = some l → ((k + j : Nat) : Int) ∉ l) → errFrom n k (pan.map dInts) = .none
  | [], _, _, _ => rfl
  | l :: pan, k, h1, h2 => by
    have a := h1 l List.mem_cons_self
    have b := h2 0 l rfl
    have ih := err_from pan (k + 1) (fun m hm => h1 m (List.mem_cons_of_mem _ hm)) fun j m hj => by
      have := h2 (j + 1) m hj
      rw [show k + 1 + j = k + (j + 1) by omega]; exact this
    show (if btnT n (dInts l) then (if hasInt (k : Int) (dInts l) then dErr (.int (k : Int)) "itself" else errFrom n (k + 1) (pan.map dInts)) else dErr (.int (k : Int)) "list") = .none
    have e1 : btnT n (dInts l) = true := asc_from a.1 fun x hx => ⟨by have := a.2 x hx; omega, a.2 x hx⟩
    have e2 : hasInt (k : Int) (dInts l) = false := by
      show ((l.map PyData.int).any fun d => match d with | .int i => decide (i = (k : Int)) | _ => false) = false
      rw [List.any_map, List.any_eq_false]
      intro x hx
      simp only [Function.comp, decide_eq_true_eq]
      rintro rfl
      exact b (by simpa using hx)
    rw [e1, e2, if_pos rfl, if_neg Bool.false_ne_true, ih]
theorem err_good {pan : List (List Int)} (g : Good pan) : errD (dPan pan) = .none := by
  show (if 1 ≤ (pan.map dInts).length ∧ (pan.map dInts).length ≤ 10 then errFrom ((pan.map dInts).length : Int) 0 (pan.map dInts) else dErr .none "panel") = .none
  rw [List.length_map, if_pos ⟨g.pos, g.few⟩]
  exact err_from pan 0 (fun l hl => ⟨g.up l hl, g.rng l hl⟩) fun j l hj => by rw [Nat.zero_add]; exact g.own j l hj
/-- all but the object at g stands as before -/
def ButO (g : Addr) (H H' : Hp) : Prop := ∀ b o, b ≠ g → H b = some o → H' b = some o
theorem ButO.refl (g : Addr) (H : Hp) : ButO g H H := fun _ _ _ e => e
theorem ButO.of {g : Addr} {H H' : Hp} (s : Same H H') : ButO g H H' := fun b o _ e => s b o e
theorem ButO.trans {g : Addr} {H H1 H2 : Hp} (x : ButO g H H1) (y : ButO g H1 H2) : ButO g H H2 := fun b o n e => y b o n (x b o n e)
theorem ButO.upd {g : Addr} {H : Hp} {o : HO} : ButO g H (upd H g o) := fun b o' n e => by rw [upd_ne n]; exact e
theorem ButO.kp {g C dx : Addr} {fs : List (Str × V)} {H H' : Hp} (h : H g = some (.ins C dx fs)) (b : ButO g H H') : Kp H H' :=
  ⟨fun p xs e => b _ _ (ne_of e h (by intro z; cases z)) e, fun p o u e => b _ _ (ne_of e h (by intro z; cases z)) e⟩
theorem ButO.deck {g C dx a c : Addr} {m : Nat} {fs : List (Str × V)} {H H' : Hp} (h : H g = some (.ins C dx fs)) (b : ButO g H H') (D : Deck H a c m) : Deck H' a c m := by
  obtain ⟨cs, k, h1, h2, h3⟩ := D
  exact ⟨cs, k, b _ _ (ne_of h1 h (by intro z; cases z)) h1, b _ _ (ne_of h2 h (by intro z; cases z)) h2, h3⟩
theorem PanT.kp {K : PySem.W.Frag} {H H' : Hp} {p : Addr} {pan : List (List Int)} (k : Kp H H') (h : PanT K H p pan) : PanT K H' p pan := by
  obtain ⟨p', e, h'⟩ := panT_dp (h.dp.kp k (lf_pan _))
  cases e; exact h'
end Pr
namespace K54
open PySem PySem.Spec PyProof.Rows L2 Pr
def wlM (pan : List (List Int)) (b : Int) (l : List Int) : List (List Int) := pan.zipIdx.map fun x => if (x.2 : Int) = b then l else x.1
theorem wl_set (pan : List (List Int)) {b : Int} (l : List Int) (h0 : 0 ≤ b) : wlM pan b l = pan.set b.toNat l := by
  refine List.ext_getElem? fun i => ?_
  unfold wlM
  rw [List.getElem?_map, List.getElem?_zipIdx, List.getElem?_set]
  by_cases hi : i < pan.length
  · rw [List.getElem?_eq_getElem hi]
    by_cases hb : b.toNat = i
    · rw [if_pos hb, if_pos (by omega)]
      simp only [Option.map_some, Nat.zero_add]
      rw [if_pos (by omega)]
    · rw [if_neg hb]
      simp only [Option.map_some, Nat.zero_add]
      rw [if_neg (by omega)]
  · rw [List.getElem?_eq_none (by omega)]
    by_cases hb : b.toNat = i
    · rw [if_pos hb, if_neg (by omega)]; rfl
    · rw [if_neg hb]; rfl
def liM (pan : List (List Int)) (one other : Int) : List (List Int) := if other ∈ pan.getD one.toNat [] then pan else pan.set one.toNat (srt (pan.getD one.toNat [] ++ [other]))
def unM (pan : List (List Int)) (one other : Int) : List (List Int) := if other ∈ pan.getD one.toNat [] then pan.set one.toNat ((pan.getD one.toNat []).filter fun x => !decide (x = other)) else pan
theorem list_few {pan : List (List Int)} (h : ∀ l ∈ pan, l.length ≤ 60) (i : Nat) : (pan.getD i []).length ≤ 60 := by
  rw [List.getD_eq_getElem?_getD]
  cases e : pan[i]? with
  | none => simp
  | some l => exact h l (List.mem_of_getElem? e)
def nWl : List Str := ["panel", "button", "released", "index", "row"]
theorem scWl : FnScope nWl ["panel", "button", "released"] (defScope sWl) := ⟨rfl, rfl, rfl, by decide +kernel, rfl, by decide +kernel, by decide +kernel⟩
section
variable {P : Program} {w : World} {K : PySem.W.Frag} {mg : Str → Option Value} {base : Heap}
def spWl (K : PySem.W.Frag) : Sp := spP K (fun x : List (List Int) × Int × List Int => [dPan x.1, .int x.2.1, dInts x.2.2]) (fun x => x.1.length ≤ 100 ∧ 0 ≤ x.2.1) (fun x => dPan (x.1.set x.2.1.toNat x.2.2))
theorem gv_Wl {σ : L2.St} {H : Hp} {t : TA} {E : XK} {pan : List (List Int)} {b : Int} {l : List Int} (h : GvA K t σ H [dPan pan, .int b, dInts l]) (hc : pan.length ≤ 100 ∧ 0 ≤ b) : Gv K (tCall (spWl K) [] E t) σ H (dPan (pan.set b.toNat l)) := gv_call (K := K) (δ := fun x : List (List Int) × Int × List Int => [dPan x.1, .int x.2.1, dInts x.2.2]) (C := fun x => x.1.length ≤ 100 ∧ 0 ≤ x.2.1) (f := fun x => dPan (x.1.set x.2.1.toNat x.2.2)) (pan, b, l) h hc
theorem ok_Wl  {f : Addr} {fd : FuncData} {k : Nat} (F : Fun K "with_list" "with_list" sWl f fd)
    (m_enumerate : mg "enumerate" = none) (m_tuple : mg "tuple" = none) : FnOk P w K mg base CX0 (k + 1) f fd ["panel", "button", "released"] (spWl K) := by
  refine F.ok scWl (fun vs H Q E h => ?_) (fun cdv A outer s H vs Q E hr h => ?_)
  · obtain ⟨_, hd, _⟩ := h
    exact hd.length
  · refine ⟨_, pss_one (ps_ret (pe_callTy (show CallR _ _ (rTupG K) from cr_tupG) (by rfl) m_tuple (by decide +kernel) (pa_cons (pe_lc (own := [("index", 3), ("row", 4)]) (g := gTup K 2 (gCons (gName 3) (gCons (gName 4) gNil))) (tt := tYes) rfl scWl.nd (pi_enumT (by rfl) m_enumerate (pa_cons (pv 0) pa_nil)) (blkOk_by (own := [("index", 3), ("row", 4)]) (N := nWl) (sc := defScope sWl) (by decide +kernel)) (fun _ _ _ _ _ => pg_tup rfl (pgs_cons (pg_name (i := 3) scWl.nd rfl (Or.inl rfl)) (pgs_cons (pg_name (i := 4) scWl.nd rfl (Or.inl rfl)) pgs_nil))) (fun _ _ _ _ _ => pts_nil) (fun _ _ _ _ _ => pe_ifExp (pt_cmpR op_eq (pv 3) (pv 1) (nomark _)) (pv 2) (pv 4))) pa_nil))), hide1 fun t0 ht0 => ?_⟩
    obtain ⟨⟨pan, b, l⟩, hd, hc, q⟩ := h
    obtain ⟨v1, v2, v3, rfl, d1, d2, d3⟩ := dpAll3 hd
    try dsimp only at hc
    try dsimp only at q
    try dsimp only at d1 d2 d3
    refine ht0 _ _ _ ?_
    refine gs_ret ((gv_tupL (gv_lc2 (gvi_enumT (gv_var rfl d1)) (fun a v u H1 ha s dv du => ⟨gvt_yes, fun _ => gv_if (gvt_test (gv_eqI (gv_var rfl dv) (gv_var rfl (d2.sm s)))) (fun _ => gv_var rfl (d3.sm s)) (fun _ => gv_var rfl du)⟩) (fun a _ => ?_) ?_ (by decide))).to ?_) q
    · split
      · exact lf_ints _
      · exact lf_ints _
    · rw [List.length_zipIdx]; omega
    · rw [← wl_set _ _ hc.2]
      unfold dPan wlM
      rw [List.filter_eq_self.mpr (fun _ _ => rfl), List.map_map]
      congr 1
      refine List.map_congr_left fun a _ => ?_
      simp only [Function.comp, decide_eq_true_eq]
      split <;> rfl
end
def nLi : List Str := ["panel", "one", "other"]
theorem scLi : FnScope nLi ["panel", "one", "other"] (defScope sLi) := ⟨rfl, rfl, rfl, by decide +kernel, rfl, by decide +kernel, by decide +kernel⟩
section
variable {P : Program} {w : World} {K : PySem.W.Frag} {mg : Str → Option Value} {base : Heap}
def spLi (K : PySem.W.Frag) : Sp := spP K (fun x : List (List Int) × Int × Int => [dPan x.1, .int x.2.1, .int x.2.2]) (fun x => x.1.length ≤ 100 ∧ (∀ l ∈ x.1, l.length ≤ 60) ∧ 0 ≤ x.2.1 ∧ x.2.1 < (x.1.length : Int)) (fun x => dPan (liM x.1 x.2.1 x.2.2))
theorem gv_Li {σ : L2.St} {H : Hp} {t : TA} {E : XK} {pan : List (List Int)} {one : Int} {other : Int} (h : GvA K t σ H [dPan pan, .int one, .int other]) (hc : pan.length ≤ 100 ∧ (∀ l ∈ pan, l.length ≤ 60) ∧ 0 ≤ one ∧ one < (pan.length : Int)) : Gv K (tCall (spLi K) [] E t) σ H (dPan (liM pan one other)) := gv_call (K := K) (δ := fun x : List (List Int) × Int × Int => [dPan x.1, .int x.2.1, .int x.2.2]) (C := fun x => x.1.length ≤ 100 ∧ (∀ l ∈ x.1, l.length ≤ 60) ∧ 0 ≤ x.2.1 ∧ x.2.1 < (x.1.length : Int)) (f := fun x => dPan (liM x.1 x.2.1 x.2.2)) (pan, one, other) h hc
theorem ok_Li {fWl : Addr} {fdWl : FuncData} {f : Addr} {fd : FuncData} {k : Nat} (F : Fun K "linked" "linked" sLi f fd)
    (FWl : Fun K "with_list" "with_list" sWl fWl fdWl) (bWl : Binds K fdWl ["panel", "button", "released"] []) (gWl : mg "with_list" = some (.ref fWl))
    (m_enumerate : mg "enumerate" = none) (m_sorted : mg "sorted" = none) (m_tuple : mg "tuple" = none) : FnOk P w K mg base CX0 (k + 2) f fd ["panel", "one", "other"] (spLi K) := by
  have GWl : FnOk P w K mg base CX0 (k + 1) fWl fdWl ["panel", "button", "released"] (spWl K) := ok_Wl FWl m_enumerate m_tuple
  refine F.ok scLi (fun vs H Q E h => ?_) (fun cdv A outer s H vs Q E hr h => ?_)
  · obtain ⟨_, hd, _⟩ := h
    exact hd.length
  · refine ⟨_, pss_cons (ps_if (pt_cmpR (show OpR _ _ (rIn K false) from op_in_seq) (pv 2) (pe_ix (show IxR _ (rIxT K) from ix_tup) (pv 0) (pv 1) (fun _ _ => rfl)) (by rfl)) (pss_one (ps_ret (pv 0))) pss_nil)
      (pss_one (ps_ret (pe_call GWl (hr.mono (by omega)) (by rfl) gWl FWl.kp bWl .nil pass0 (pa_cons (pv 0) (pa_cons (pv 1) (pa_cons (pe_callTy (show CallR _ _ (rTupG K) from cr_tupG) (by rfl) m_tuple (by decide +kernel) (pa_cons (pe_callB (show CallR _ _ (rSorted K) from cr_sorted) (by rfl) m_sorted (by decide +kernel) (pa_cons (pe_lst (StX.pa_star (pe_ix (show IxR _ (rIxT K) from ix_tup) (pv 0) (pv 1) (fun _ _ => rfl)) (pa_cons (pv 2) pa_nil))) pa_nil)) pa_nil)) pa_nil)))))), hide1 fun t0 ht0 => ?_⟩
    obtain ⟨⟨pan, one, other⟩, hd, hc, q⟩ := h
    obtain ⟨v1, v2, v3, rfl, d1, d2, d3⟩ := dpAll3 hd
    try dsimp only at hc
    try dsimp only at q
    try dsimp only at d1 d2 d3
    refine ht0 _ _ _ ?_
    obtain ⟨c1, c2, c3, c4⟩ := hc
    have hl := list_few c2 one.toNat
    refine gs_if1 (gvt_test (gv_inT (gv_var rfl d3) (gv_pan (gv_var rfl d1) (gv_var rfl d2) c3 c4))) (fun e H' s => ?_) (fun e H' s => ?_)
    · have e' : other ∈ pan.getD one.toNat [] := by simpa using e
      refine gs_ret (gv_var rfl (d1.sm s)) fun v H2 s2 dv => q v H2 (s.trans s2) ?_
      unfold liM; rw [if_pos e']; exact dv
    · have e' : other ∉ pan.getD one.toNat [] := by simpa using e
      refine gs_ret (gv_Wl (l := srt (pan.getD one.toNat [] ++ [other])) (gva_cons (gv_var rfl (d1.sm s)) (gva_cons (gv_var rfl (d2.sm s)) (gva_cons (gv_tupL (gv_sortL (l := pan.getD one.toNat [] ++ [other]) ((gv_lst (gva_starT (gv_pan (gv_var rfl (d1.sm s)) (gv_var rfl (d2.sm s)) c3 c4) (gva_cons (gv_var rfl (d3.sm s)) gva_nil)) ?_).to ?_) ?_)) gva_nil))) ⟨c1, c3⟩) fun v H2 s2 dv => q v H2 (s.trans s2) ?_
      · rw [List.length_append, List.length_map]; exact Nat.le_of_lt (small5 (by show _ + 1 ≤ _; omega))
      · rw [List.map_append]; rfl
      · rw [List.length_append]; show _ + 1 < 64; omega
      · unfold liM; rw [if_neg e']; exact dv
end
def nUn : List Str := ["panel", "one", "other", "button"]
theorem scUn : FnScope nUn ["panel", "one", "other"] (defScope sUn) := ⟨rfl, rfl, rfl, by decide +kernel, rfl, by decide +kernel, by decide +kernel⟩
section
variable {P : Program} {w : World} {K : PySem.W.Frag} {mg : Str → Option Value} {base : Heap}
def spUn (K : PySem.W.Frag) : Sp := spP K (fun x : List (List Int) × Int × Int => [dPan x.1, .int x.2.1, .int x.2.2]) (fun x => x.1.length ≤ 100 ∧ (∀ l ∈ x.1, l.length ≤ 60) ∧ 0 ≤ x.2.1 ∧ x.2.1 < (x.1.length : Int)) (fun x => dPan (unM x.1 x.2.1 x.2.2))
theorem gv_Un {σ : L2.St} {H : Hp} {t : TA} {E : XK} {pan : List (List Int)} {one : Int} {other : Int} (h : GvA K t σ H [dPan pan, .int one, .int other]) (hc : pan.length ≤ 100 ∧ (∀ l ∈ pan, l.length ≤ 60) ∧ 0 ≤ one ∧ one < (pan.length : Int)) : Gv K (tCall (spUn K) [] E t) σ H (dPan (unM pan one other)) := gv_call (K := K) (δ := fun x : List (List Int) × Int × Int => [dPan x.1, .int x.2.1, .int x.2.2]) (C := fun x => x.1.length ≤ 100 ∧ (∀ l ∈ x.1, l.length ≤ 60) ∧ 0 ≤ x.2.1 ∧ x.2.1 < (x.1.length : Int)) (f := fun x => dPan (unM x.1 x.2.1 x.2.2)) (pan, one, other) h hc
theorem ok_Un {fWl : Addr} {fdWl : FuncData} {f : Addr} {fd : FuncData} {k : Nat} (F : Fun K "unlinked" "unlinked" sUn f fd)
    (FWl : Fun K "with_list" "with_list" sWl fWl fdWl) (bWl : Binds K fdWl ["panel", "button", "released"] []) (gWl : mg "with_list" = some (.ref fWl))
    (m_enumerate : mg "enumerate" = none) (m_tuple : mg "tuple" = none) : FnOk P w K mg base CX0 (k + 2) f fd ["panel", "one", "other"] (spUn K) := by
  have GWl : FnOk P w K mg base CX0 (k + 1) fWl fdWl ["panel", "button", "released"] (spWl K) := ok_Wl FWl m_enumerate m_tuple
  refine F.ok scUn (fun vs H Q E h => ?_) (fun cdv A outer s H vs Q E hr h => ?_)
  · obtain ⟨_, hd, _⟩ := h
    exact hd.length
  · refine ⟨_, pss_cons (ps_if (pt_cmpR (show OpR _ _ (rIn K true) from op_notIn_seq) (pv 2) (pe_ix (show IxR _ (rIxT K) from ix_tup) (pv 0) (pv 1) (fun _ _ => rfl)) (by rfl)) (pss_one (ps_ret (pv 0))) pss_nil)
      (pss_one (ps_ret (pe_call GWl (hr.mono (by omega)) (by rfl) gWl FWl.kp bWl .nil pass0 (pa_cons (pv 0) (pa_cons (pv 1) (pa_cons (pe_callTy (show CallR _ _ (rTupG K) from cr_tupG) (by rfl) m_tuple (by decide +kernel) (pa_cons (pe_lc (own := [("button", 3)]) (g := gName 3) rfl scUn.nd (show PI _ _ _ (iTup K _) from pi_tup (pe_ix (show IxR _ (rIxT K) from ix_tup) (pv 0) (pv 1) (fun _ _ => rfl))) (blkOk_by (own := [("button", 3)]) (N := nUn) (sc := defScope sUn) (by decide +kernel)) (fun _ _ _ _ _ => pg_name (i := 3) scUn.nd rfl (Or.inl rfl)) (fun _ _ _ _ _ => pts_one (pt_cmpR op_ne (pv 3) (pv 2) (nomark _))) (fun _ _ _ _ _ => pv 3)) pa_nil)) pa_nil)))))), hide1 fun t0 ht0 => ?_⟩
    obtain ⟨⟨pan, one, other⟩, hd, hc, q⟩ := h
    obtain ⟨v1, v2, v3, rfl, d1, d2, d3⟩ := dpAll3 hd
    try dsimp only at hc
    try dsimp only at q
    try dsimp only at d1 d2 d3
    refine ht0 _ _ _ ?_
    obtain ⟨c1, c2, c3, c4⟩ := hc
    have hl := list_few c2 one.toNat
    refine gs_if1 (gvt_test (gv_inT (gv_var rfl d3) (gv_pan (gv_var rfl d1) (gv_var rfl d2) c3 c4))) (fun e H' s => ?_) (fun e H' s => ?_)
    · have e' : other ∉ pan.getD one.toNat [] := by simpa using e
      refine gs_ret (gv_var rfl (d1.sm s)) fun v H2 s2 dv => q v H2 (s.trans s2) ?_
      unfold unM; rw [if_neg e']; exact dv
    · have e' : other ∈ pan.getD one.toNat [] := by simpa using e
      refine gs_ret (gv_Wl (gva_cons (gv_var rfl (d1.sm s)) (gva_cons (gv_var rfl (d2.sm s)) (gva_cons (gv_tupL (gv_lc (gvi_tup (gv_pan (gv_var rfl (d1.sm s)) (gv_var rfl (d2.sm s)) c3 c4))
        (fun a v H1 ha s1 dv => ⟨gvt_test (gv_neI (gv_var rfl dv) (gv_var rfl ((d3.sm s).sm s1))), fun _ => gv_var rfl dv⟩) (fun _ _ => rfl) (by omega))) gva_nil))) ⟨c1, c3⟩) fun v H2 s2 dv => q v H2 (s.trans s2) ?_
      unfold unM; rw [if_pos e']; exact dv
end
def nPress : List Str := ["panel", "state", "button", "released", "kept", "other"]
theorem scPress : FnScope nPress ["panel", "state", "button"] (defScope sPress) := ⟨rfl, rfl, rfl, by decide +kernel, rfl, by decide +kernel, by decide +kernel⟩
section
variable {P : Program} {w : World} {K : PySem.W.Frag} {mg : Str → Option Value} {base : Heap}
def spPress (K : PySem.W.Frag) : Sp := fun vs H Q _ => ∃ (pan : List (List Int)) (st : List Int) (b : Int), DpAll K H vs [dPan pan, dInts st, .int b] ∧ Asc pan.length st ∧ pan.length ≤ 10 ∧ 0 ≤ b ∧ b < (pan.length : Int) ∧
  ∀ H' t, Same H H' → H' t = some (.tup ((pressM pan st b).map V.int)) → Q (.ref t) H'
theorem ok_Press  {f : Addr} {fd : FuncData} {k : Nat} (F : Fun K "press_button" "press_button" sPress f fd)
    (m_sorted : mg "sorted" = none) (m_tuple : mg "tuple" = none) : FnOk P w K mg base CX0 (k + 1) f fd ["panel", "state", "button"] (spPress K) := by
  refine F.ok scPress (fun vs H Q E h => ?_) (fun cdv A outer s H vs Q E hr h => ?_)
  · obtain ⟨_, _, _, hd, _⟩ := h
    exact hd.length
  · refine ⟨_, pss_cons (ps_set (i := 3) scPress.nd rfl (.inr rfl) (pe_ix (show IxR _ (rIxT K) from ix_tup) (pv 0) (pv 2) (fun _ _ => rfl)))
      (pss_cons (ps_setLc (i := 4) (own := [("other", 5)]) (g := gName 5) rfl scPress.nd rfl rfl (sw_true rfl rfl rfl (by decide +kernel)) (show PI _ _ _ (iTup K _) from pi_tup (pv 1)) (blkOk_by (own := [("other", 5)]) (N := nPress) (sc := defScope sPress) (by decide +kernel)) (fun _ _ _ _ _ => pg_name (i := 5) scPress.nd rfl (Or.inl rfl)) (fun _ _ _ _ _ => pts_one (PW.pt (pw_and (pt_cmpR op_ne (pv 5) (pv 2) (nomark _)) (pw_and1 (pt_cmpR (show OpR _ _ (rIn K true) from op_notIn_seq) (pv 5) (pv 3) (by rfl)))))) (fun _ _ _ _ _ => pv 5))
      (pss_one (ps_ret (pe_callTy (show CallR _ _ (rTupG K) from cr_tupG) (by rfl) m_tuple (by decide +kernel) (pa_cons (pe_callB (show CallR _ _ (rSorted K) from cr_sorted) (by rfl) m_sorted (by decide +kernel) (pa_cons (pe_lst (StX.pa_star (pv 4) (pa_cons (pv 2) pa_nil))) pa_nil)) pa_nil))))), hide1 fun t0 ht0 => ?_⟩
    obtain ⟨pan, st, b, hd, hst, few, b0, b1, q⟩ := h
    obtain ⟨v1, v2, v3, rfl, d1, d2, d3⟩ := dpAll3 hd
    have stl := hst.len
    refine ht0 _ _ _ ?_
    refine gs_set1 (gv_pan (gv_var rfl d1) (gv_var rfl d3) b0 b1) fun vr H1 s1 dr => ?_
    refine gs_set1 (gv_lc (p := fun x => decide (x ≠ b ∧ x ∉ pan.getD b.toNat [])) (f := PyData.int) (gvi_tup (gv_var rfl (d2.sm s1))) (fun x vx H2 hx s2 dx => ⟨(gvt_and (gvt_test (gv_neI (gv_var rfl dx) (gv_var rfl ((d3.sm s1).sm s2)))) (fun H3 s3 _ => gvt_test (gv_inT (neg := true) (gv_var rfl (dx.sm s3)) (gv_var rfl ((dr.sm s2).sm s3))))).to (by simp), fun _ => gv_var rfl dx⟩) (fun _ _ => rfl) (by omega)) fun vk H2 s2 dk => ?_
    refine (gu_tupL (gv_sortL (l := st.filter (fun x => decide (x ≠ b ∧ x ∉ pan.getD b.toNat [])) ++ [b]) ((gv_lst (gva_starL (gv_var rfl dk) (gva_cons (gv_var rfl ((d3.sm s1).sm s2)) gva_nil)) ?_).to ?_) ?_)).at fun t vs H3 s3 nt et dt => q H3 t ((s1.trans s2).trans s3) ?_
    · rw [List.length_append, List.length_map]
      have := List.length_filter_le (fun x => decide (x ≠ b ∧ x ∉ pan.getD b.toNat [])) st
      exact Nat.le_of_lt (small5 (by show _ + 1 ≤ _; omega))
    · rw [List.map_append]; rfl
    · rw [List.length_append]
      have := List.length_filter_le (fun x => decide (x ≠ b ∧ x ∉ pan.getD b.toNat [])) st
      show _ + 1 < 64; omega
    · rw [et, dpAll_intsV dt, press_sorted hst b0 b1 (srt_perm _) (srt_up _)]
end
theorem scBtn : FnScope ["value", "many"] ["value", "many"] (defScope sBtn) := ⟨rfl, rfl, rfl, by decide +kernel, rfl, by decide +kernel, by decide +kernel⟩
theorem scBtnT : FnScope ["value", "many", "before", "item"] ["value", "many"] (defScope sBtnT) := ⟨rfl, rfl, rfl, by decide +kernel, rfl, by decide +kernel, by decide +kernel⟩
theorem scPErr : FnScope ["value", "index", "item"] ["value"] (defScope sPErr) := ⟨rfl, rfl, rfl, by decide +kernel, rfl, by decide +kernel, by decide +kernel⟩
section
variable {P : Program} {w : World} {K : PySem.W.Frag} {mg : Str → Option Value} {base : Heap}
def spBtn (K : PySem.W.Frag) : Sp := fun vs H Q _ => ∃ (N : Addr → Prop) (v : V) (d : PyData) (n : Int), vs = [v, .int n] ∧ Dq K N H v d ∧ Q (.bl (isBtn n d)) H
theorem ok_btn {f : Addr} {fd : FuncData} {k : Nat} (F : Fun K "is_button" "is_button" sBtn f fd) (mi : mg "isinstance" = none) (mb : mg "bool" = none) (mn : mg "int" = none) : FnOk P w K mg base CX0 (k + 1) f fd ["value", "many"] (spBtn K) := by
  refine F.ok scBtn (fun vs H Q E h => ?_) (fun cdv A outer s H vs Q E hr h => ?_)
  · obtain ⟨N, v, d, n, rfl, _⟩ := h
    rfl
  · obtain ⟨N, v, d, n, rfl, hd, q⟩ := h
    refine ⟨_, pss_cons (ps_if (PW.pt (pw_or (pt_val (pe_callB call_isi (by rfl) mi (by decide +kernel) (pa_cons (pv 0) (pa_cons (pe_bltn (v := .ty "bool") (by rfl) mb (by decide +kernel) rfl) pa_nil))))
        (pw_or1 (pt_not (pt_val (pe_callB call_isi (by rfl) mi (by decide +kernel) (pa_cons (pv 0) (pa_cons (pe_bltn (v := .ty "int") (by rfl) mn (by decide +kernel) rfl) pa_nil))))))))
        (pss_one (ps_ret pe_bl)) pss_nil)
      (pss_one (ps_ret (pe_chain op_le op_lt pe_int (pv 0) (pv 1)))), ?_⟩
    refine ⟨v, rfl, v, .ty "bool", _, _, _, rfl, .ty "bool", hd.ty, isB_kit d, _, rfl, ?_⟩
    by_cases hb : ∃ b, d = .bool b
    · obtain ⟨b, rfl⟩ := hb
      exact iteT (iteT q)
    · have e1 : isB d = false := by
        cases d <;> first | rfl | exact absurd ⟨_, rfl⟩ hb
      rw [e1]
      refine iteF ⟨v, rfl, v, .ty "int", _, _, _, rfl, .ty "int", hd.ty, isI_kit d, _, rfl, ?_⟩
      by_cases hi : ∃ i, d = .int i
      · obtain ⟨i, rfl⟩ := hi
        cases hd
        refine iteF ⟨.int i, rfl, 0, i, rfl, rfl, _, rfl, ite2 (fun e => ?_) (fun e => ?_)⟩
        · refine ⟨.int n, rfl, i, n, rfl, rfl, ?_⟩
          have q' : Q (.bl (decide (0 ≤ i) && decide (i < n))) H := q
          rw [e, Bool.true_and] at q'
          exact q'
        · have q' : Q (.bl (decide (0 ≤ i) && decide (i < n))) H := q
          rw [(Bool.not_eq_true _).mp e, Bool.false_and] at q'
          exact q'
      · have e2 : isI d = false := by
          cases d <;> first | rfl | exact absurd ⟨_, rfl⟩ hi | exact absurd ⟨_, rfl⟩ hb
        rw [e2]
        have q' : Q (.bl false) H := by
          cases d <;> first | exact q | exact absurd ⟨_, rfl⟩ hi
        exact iteT q'
def spBtnT (K : PySem.W.Frag) : Sp := fun vs H Q _ => ∃ (N : Addr → Prop) (v : V) (d : PyData) (n : Int), vs = [v, .int n] ∧ Dq K N H v d ∧ Q (.bl (btnT n d)) H
theorem ok_btnT {f fB : Addr} {fd fdB : FuncData} {k : Nat} (F : Fun K "is_button_tuple" "is_button_tuple" sBtnT f fd) (FB : Fun K "is_button" "is_button" sBtn fB fdB) (bB : Binds K fdB ["value", "many"] []) (gB : mg "is_button" = some (.ref fB))
    (mi : mg "isinstance" = none) (mb : mg "bool" = none) (mn : mg "int" = none) (mt : mg "tuple" = none) : FnOk P w K mg base CX0 (k + 2) f fd ["value", "many"] (spBtnT K) := by
  have GB : FnOk P w K mg base CX0 (k + 1) fB fdB ["value", "many"] (spBtn K) := ok_btn FB mi mb mn
  refine F.ok scBtnT (fun vs H Q E h => ?_) (fun cdv A outer s H vs Q E hr h => ?_)
  · obtain ⟨N, v, d, n, rfl, _⟩ := h
    rfl
  · obtain ⟨N, v, d, n, rfl, hd, q⟩ := h
    refine ⟨_, pss_cons (ps_if (pt_not (pt_val (pe_callB call_isi (by rfl) mi (by decide +kernel) (pa_cons (pv 0) (pa_cons (pe_bltn (v := .ty "tuple") (by rfl) mt (by decide +kernel) rfl) pa_nil))))) (pss_one (ps_ret pe_bl)) pss_nil)
      (pss_cons (ps_set (i := 2) scBtnT.nd rfl (.inl rfl) (pe_un un_neg pe_int))
      (pss_cons (ps_for PassesOwn.never rfl (pi_tup (pv 0)) (pg_name (i := 3) scBtnT.nd rfl (.inl rfl))
        (pss_cons (ps_if (PW.pt (pw_or (pt_not (pt_val (pe_call GB hr (by rfl) gB FB.kp bB .nil pass0 (pa_cons (pv 3) (pa_cons (pv 1) pa_nil))))) (pw_or1 (pt_cmpR op_le (pv 3) (pv 2) (nomark _))))) (pss_one (ps_ret pe_bl)) pss_nil)
        (pss_one (ps_set (i := 2) scBtnT.nd rfl (.inl rfl) (pv 3)))))
      (pss_one (ps_ret pe_bl)))), ?_⟩
    refine ⟨v, rfl, v, .ty "tuple", _, _, _, rfl, .ty "tuple", hd.ty, isT_kit d, _, rfl, ?_⟩
    by_cases ht : ∃ ds, d = .tuple ds
    · obtain ⟨ds, rfl⟩ := ht
      cases hd with
      | @tup l xs _ hs ha =>
        have q' : Q (.bl (ascFrom n (-1) ds)) H := q
        refine iteF ⟨1, rfl, .ref l, rfl, l, rfl, ⟨_, hs⟩, ?_⟩
        refine for_tup (xs := xs) (fun i σ H' => H' = H ∧ ∃ b x3, σ = [some (.ref l), some (.int n), some (.int b), x3] ∧ ascFrom n (-1) ds = ascFrom n b (ds.drop i)) ⟨rfl, -1, none, rfl, rfl⟩ (fun i σ H' _ hP => by rw [hP.1]; exact hs) (fun i x σ H' hx hP => ?_) (fun σ H' hP => ?_)
        · obtain ⟨rfl, b, x3, rfl, ea⟩ := hP
          obtain ⟨di, hdi, hq⟩ := ha.get i x hx
          have hi := (List.getElem?_eq_some_iff.mp hdi).1
          have ed : ds.drop i = di :: ds.drop (i + 1) := by rw [List.drop_eq_getElem_cons hi, (List.getElem?_eq_some_iff.mp hdi).2]
          rw [ed] at ea
          refine ⟨x, rfl, .int n, rfl, N, x, di, n, rfl, hq, _, rfl, ?_⟩
          by_cases hb : isBtn n di = true
          · rw [hb]
            obtain ⟨j, rfl⟩ : ∃ j, di = .int j := by
              cases di <;> first | exact ⟨_, rfl⟩ | (simp [isBtn] at hb)
            cases hq
            have ea' : ascFrom n (-1) ds = (decide (0 ≤ j) && decide (j < n) && decide (b < j) && ascFrom n j (ds.drop (i + 1))) := ea
            have hb' : (decide (0 ≤ j) && decide (j < n)) = true := hb
            rw [hb', Bool.true_and] at ea'
            refine iteF ⟨.int j, rfl, .int b, rfl, j, b, rfl, rfl, _, rfl, ite2 (fun e => ?_) (fun e => ?_)⟩
            · have : ¬ b < j := by have := of_decide_eq_true e; omega
              rw [decide_eq_false this, Bool.false_and] at ea'
              rw [ea'] at q'
              exact q'
            · have : b < j := by
                have : ¬ j ≤ b := fun h => e (decide_eq_true h)
                omega
              rw [decide_eq_true this, Bool.true_and] at ea'
              exact ⟨.int j, rfl, rfl, j, _, rfl, ea'⟩
          · rw [(Bool.not_eq_true _).mp hb]
            have ef : ascFrom n (-1) ds = false := by
              rw [ea]
              cases di with
              | int j =>
                have hb' : (decide (0 ≤ j) && decide (j < n)) = false := (Bool.not_eq_true _).mp hb
                show (decide (0 ≤ j) && decide (j < n) && decide (b < j) && ascFrom n j (ds.drop (i + 1))) = false
                rw [hb', Bool.false_and, Bool.false_and]
              | _ => rfl
            rw [ef] at q'
            exact iteT q'
        · obtain ⟨rfl, b, x3, rfl, ea⟩ := hP
          rw [ha.length, List.drop_length] at ea
          rw [ea] at q'
          exact q'
    · have e1 : isT d = false := by
        cases d <;> first | rfl | exact absurd ⟨_, rfl⟩ ht
      rw [e1]
      have q' : Q (.bl false) H := by
        cases d <;> first | exact q | exact absurd ⟨_, rfl⟩ ht
      exact iteT q'
end
section
variable {P : Program} {w : World} {K : PySem.W.Frag} {mg : Str → Option Value} {base : Heap}
def spPErr (K : PySem.W.Frag) : Sp := fun vs H Q _ => ∃ (N : Addr → Prop) (v : V) (d : PyData), vs = [v] ∧ Dq K N H v d ∧ ∀ H' u, Same H H' → Dp K H' u (errD d) → Q u H'
theorem dp_err {H : Hp} {p : Addr} {v : V} {d : PyData} {x : Str} (hv : Dp K (upd H p (.tup [v, .str x])) v d) : Dp K (upd H p (.tup [v, .str x])) (.ref p) (dErr d x) := .tup (.inl (.inl upd_same)) (.cons hv (.cons (.str x) .nil))
theorem ok_perr {f fB fT : Addr} {fd fdB fdT : FuncData} {k : Nat} {tk : Tok} (F : Fun K "panel_error" "panel_error" sPErr f fd) (FB : Fun K "is_button" "is_button" sBtn fB fdB) (bB : Binds K fdB ["value", "many"] []) (gB : mg "is_button" = some (.ref fB))
    (FT' : Fun K "is_button_tuple" "is_button_tuple" sBtnT fT fdT) (bT : Binds K fdT ["value", "many"] []) (gT : mg "is_button_tuple" = some (.ref fT)) (mM : mg "MAX_BUTTONS" = some (.int 10 tk))
    (mi : mg "isinstance" = none) (mb : mg "bool" = none) (mn : mg "int" = none) (mt : mg "tuple" = none) (ml : mg "len" = none) (me : mg "enumerate" = none) : FnOk P w K mg base CX0 (k + 3) f fd ["value"] (spPErr K) := by
  have GT : FnOk P w K mg base CX0 (k + 2) fT fdT ["value", "many"] (spBtnT K) := ok_btnT FT' FB bB gB mi mb mn mt
  refine F.ok scPErr (fun vs H Q E h => ?_) (fun cdv A outer s H vs Q E hr h => ?_)
  · obtain ⟨N, v, d, rfl, _⟩ := h
    rfl
  · obtain ⟨N, v, d, rfl, hd, q⟩ := h
    refine ⟨_, pss_cons (ps_if (PW.pt (pw_or (pt_not (pt_val (pe_callB call_isi (by rfl) mi (by decide +kernel) (pa_cons (pv 0) (pa_cons (pe_bltn (v := .ty "tuple") (by rfl) mt (by decide +kernel) rfl) pa_nil)))))
        (pw_or1 (pt_not (pt_chain op_le op_le pe_int (pe_callB call_len_seq (by rfl) ml PySem.boot_len (pa_cons (pv 0) pa_nil)) (pe_glob (v := .int 10) rfl mM ⟨_, rfl⟩))))))
        (pss_one (ps_ret (pe_tup (pa_cons pe_non (pa_cons pe_str pa_nil))))) pss_nil)
      (pss_cons (ps_for PassesOwn.never rfl (pi_enumT (by rfl) me (pa_cons (pv 0) pa_nil)) (pg_tup rfl (pgs_cons (pg_name (i := 1) scPErr.nd rfl (.inl rfl)) (pgs_cons (pg_name (i := 2) scPErr.nd rfl (.inl rfl)) pgs_nil)))
        (pss_cons (ps_if (pt_not (pt_val (pe_call GT hr (by rfl) gT FT'.kp bT .nil pass0 (pa_cons (pv 2) (pa_cons (pe_callB call_len_seq (by rfl) ml PySem.boot_len (pa_cons (pv 0) pa_nil)) pa_nil)))))
          (pss_one (ps_ret (pe_tup (pa_cons (pv 1) (pa_cons pe_str pa_nil))))) pss_nil)
        (pss_one (ps_if (pt_cmpR op_in_seq (pv 1) (pv 2) (by rfl)) (pss_one (ps_ret (pe_tup (pa_cons (pv 1) (pa_cons pe_str pa_nil))))) pss_nil))))
      (pss_one (ps_ret pe_non))), ?_⟩
    have bad : errD d = dErr .none "panel" → ∀ p, H p = none → Q (.ref p) (upd H p (.tup [.non, .str "panel"])) := fun e p np => by
      refine q _ _ (same_new np) ?_
      rw [e]
      exact dp_err .non
    refine ⟨v, rfl, v, .ty "tuple", _, _, _, rfl, .ty "tuple", hd.ty, isT_kit d, _, rfl, ?_⟩
    by_cases ht : ∃ ds, d = .tuple ds
    · obtain ⟨ds, rfl⟩ := ht
      cases hd with
      | @tup l xs _ hs ha =>
        have hl := ha.length
        refine iteF ⟨.ref l, rfl, l, xs, rfl, .inr hs, 1, (xs.length : Int), rfl, rfl, _, rfl, ?_⟩
        by_cases h1 : (1 : Int) ≤ (xs.length : Int)
        · rw [decide_eq_true h1]
          refine iteT ⟨(xs.length : Int), 10, rfl, rfl, _, rfl, ?_⟩
          by_cases h2 : (xs.length : Int) ≤ 10
          · rw [decide_eq_true h2]
            refine iteF ⟨.ref l, rfl, l, xs, rfl, hs, ?_⟩
            have ed : errD (.tuple ds) = errFrom (ds.length : Int) 0 ds := if_pos ⟨by omega, by omega⟩
            rw [ed] at q
            refine for_it (walk_enumT (xs := xs)) (fun i σ H' => Same H H' ∧ ∃ x1 x2, σ = [some (.ref l), x1, x2] ∧ errFrom (ds.length : Int) 0 ds = errFrom (ds.length : Int) i (ds.drop i)) ⟨Same.refl _, none, none, rfl, rfl⟩ (fun i σ H' _ hP => same_sqT hP.1 hs) (fun i x σ H3 H4 hi hP hY => ?_) (fun σ H' hP => ?_)
            · obtain ⟨s3, x1, x2, rfl, ea⟩ := hP
              obtain ⟨T, y1, y2, rfl, nT, rfl, e1, e2⟩ := hY
              cases e1
              replace e2 : xs[i]? = some y2 := e2
              have sT : Same H3 (upd H3 T (.tup [.int (i : Nat), y2])) := same_new nT
              obtain ⟨di, hdi, hq⟩ := ha.get i y2 e2
              rw [errFrom_drop hdi] at ea
              have s4 := s3.trans sT
              have hq4 := Dq.same s4 di y2 hq
              refine ⟨T, _, rfl, .inl (.inl upd_same), rfl, _, _, rfl, _, _, rfl, rfl, ?_⟩
              refine hideR fun E0 hn0 hr0 => seq_hide fun v1 hv1 => ?_
              refine ⟨y2, rfl, .ref l, rfl, l, xs, rfl, .inr (same_sqT s4 hs), N, y2, di, (xs.length : Int), rfl, hq4, _, rfl, ?_⟩
              rw [hl]
              by_cases hb : btnT (ds.length : Int) di = true
              · rw [hb] at ea ⊢
                rw [if_pos rfl] at ea
                obtain ⟨es, rfl⟩ : ∃ es, di = .tuple es := by
                  cases di <;> first | exact ⟨_, rfl⟩ | (simp [btnT] at hb)
                obtain ⟨ns, rfl, up, rg⟩ := ascFrom_ints (show ascFrom (ds.length : Int) (-1) es = true from hb)
                rw [hasInt_ints] at ea
                cases hq4 with
                | @tup l2 zs _ hs2 ha2 =>
                  obtain rfl := dqAll_of_ints ha2
                  refine iteF (hv1 _ _ _ ⟨.int (i : Int), rfl, .ref l2, rfl, l2, _, rfl, .inr hs2, rfl, flat_ints ns, _, rfl, ?_⟩)
                  rw [if_neg Bool.false_ne_true, inV_ints]
                  refine ite2 (fun e => ?_) (fun e => ?_)
                  · rw [e, if_pos rfl] at ea
                    refine ⟨.int (i : Int), rfl, by show 2 ≤ sizeLine; decide, fun p np => hr0 _ _ (q _ _ (s4.trans (same_new np)) ?_)⟩
                    rw [ea]
                    exact dp_err (.int _)
                  · rw [if_neg e] at ea
                    exact hn0 _ _ ⟨s4, _, _, rfl, ea⟩
              · rw [(Bool.not_eq_true _).mp hb] at ea ⊢
                rw [if_neg Bool.false_ne_true] at ea
                refine iteT ⟨.int (i : Int), rfl, by show 2 ≤ sizeLine; decide, fun p np => hr0 _ _ (q _ _ (s4.trans (same_new np)) ?_)⟩
                rw [ea]
                exact dp_err (.int _)
            · obtain ⟨s3, x1, x2, rfl, ea⟩ := hP
              rw [hl, List.drop_length] at ea
              refine q _ _ s3 ?_
              rw [ea]
              exact .non
          · rw [decide_eq_false h2]
            exact iteT ⟨by show 2 ≤ sizeLine; decide, bad (if_neg (by omega))⟩
        · rw [decide_eq_false h1]
          refine iteF ⟨_, rfl, ?_⟩
          exact iteT ⟨by show 2 ≤ sizeLine; decide, bad (if_neg (by omega))⟩
    · have e1 : isT d = false := by
        cases d <;> first | rfl | exact absurd ⟨_, rfl⟩ ht
      rw [e1]
      refine iteT (iteT ⟨by show 2 ≤ sizeLine; decide, bad ?_⟩)
      cases d <;> first | rfl | exact absurd ⟨_, rfl⟩ ht
end
def nChkP : List Str := ["value", "error"]
theorem scChkP : FnScope nChkP ["value"] (defScope sChkP) := ⟨rfl, rfl, rfl, by decide +kernel, rfl, by decide +kernel, by decide +kernel⟩
section
variable {P : Program} {w : World} {K : PySem.W.Frag} {mg : Str → Option Value} {base : Heap}
def spChkP (K : PySem.W.Frag) : Sp := fun vs H Q _ => ∃ (p : Addr) (pan : List (List Int)), vs = [.ref p] ∧ PanT K H p pan ∧ Good pan ∧ ∀ H', Same H H' → Q .non H'
theorem ok_ChkP {fBtn : Addr} {fdBtn : FuncData} {fBtnT : Addr} {fdBtnT : FuncData} {fPErr : Addr} {fdPErr : FuncData} {f : Addr} {fd : FuncData} {k : Nat} (F : Fun K "check_panel" "check_panel" sChkP f fd)
    (FBtn : Fun K "is_button" "is_button" sBtn fBtn fdBtn) (bBtn : Binds K fdBtn ["value", "many"] []) (gBtn : mg "is_button" = some (.ref fBtn))
    (FBtnT : Fun K "is_button_tuple" "is_button_tuple" sBtnT fBtnT fdBtnT) (bBtnT : Binds K fdBtnT ["value", "many"] []) (gBtnT : mg "is_button_tuple" = some (.ref fBtnT))
    (FPErr : Fun K "panel_error" "panel_error" sPErr fPErr fdPErr) (bPErr : Binds K fdPErr ["value"] []) (gPErr : mg "panel_error" = some (.ref fPErr))
    (m_bool : mg "bool" = none) (m_enumerate : mg "enumerate" = none) (m_int : mg "int" = none) (m_isinstance : mg "isinstance" = none) (m_len : mg "len" = none) (m_tuple : mg "tuple" = none) {tk : Tok} (y_MAX : mg "MAX_BUTTONS" = some (.int 10 tk)) : FnOk P w K mg base CX0 (k + 4) f fd ["value"] (spChkP K) := by
  have GPErr : FnOk P w K mg base CX0 (k + 3) fPErr fdPErr ["value"] (spPErr K) := ok_perr FPErr FBtn bBtn gBtn FBtnT bBtnT gBtnT y_MAX m_isinstance m_bool m_int m_tuple m_len m_enumerate
  refine F.ok scChkP (fun vs H Q E h => ?_) (fun cdv A outer s H vs Q E hr h => ?_)
  · obtain ⟨p, pan, rfl, _⟩ := h
    rfl
  · refine ⟨_, pss_cons (ps_set (i := 1) scChkP.nd rfl (.inl rfl) (pe_call GPErr (hr.mono (by omega)) (by rfl) gPErr FPErr.kp bPErr .nil pass0 (pa_cons (pv 0) pa_nil)))
      (pss_one (ps_if (pt_cmpR op_notN (pv 1) pe_non (by rfl)) (pss_one ps_never) pss_nil)), hide1 fun t0 ht0 => ?_⟩
    obtain ⟨p, pan, rfl, hp, hg, q⟩ := h
    refine ht0 _ _ _ ?_
    refine ⟨.ref p, rfl, fun _ => False, .ref p, dPan pan, rfl, dq_panT hp, fun H1 u s1 du => ?_⟩
    rw [err_good hg] at du
    cases du
    refine gs_noN (gvt_test (K := K) (gv_notN (gv_var rfl .non) rfl)) rfl fun H2 s2 => q H2 (s1.trans s2)
end
def nChkS : List Str := ["panel", "value"]
theorem scChkS : FnScope nChkS ["panel", "value"] (defScope sChkS) := ⟨rfl, rfl, rfl, by decide +kernel, rfl, by decide +kernel, by decide +kernel⟩
section
variable {P : Program} {w : World} {K : PySem.W.Frag} {mg : Str → Option Value} {base : Heap}
def spChkS (K : PySem.W.Frag) : Sp := fun vs H Q _ => ∃ (p l : Addr) (pan : List (List Int)) (st : List Int), vs = [.ref p, .ref l] ∧ PanT K H p pan ∧ SqT K H l (st.map V.int) ∧ Asc pan.length st ∧ ∀ H', Same H H' → Q .non H'
theorem ok_ChkS {fBtn : Addr} {fdBtn : FuncData} {fBtnT : Addr} {fdBtnT : FuncData} {f : Addr} {fd : FuncData} {k : Nat} (F : Fun K "check_state" "check_state" sChkS f fd)
    (FBtn : Fun K "is_button" "is_button" sBtn fBtn fdBtn) (bBtn : Binds K fdBtn ["value", "many"] []) (gBtn : mg "is_button" = some (.ref fBtn))
    (FBtnT : Fun K "is_button_tuple" "is_button_tuple" sBtnT fBtnT fdBtnT) (bBtnT : Binds K fdBtnT ["value", "many"] []) (gBtnT : mg "is_button_tuple" = some (.ref fBtnT))
    (m_bool : mg "bool" = none) (m_int : mg "int" = none) (m_isinstance : mg "isinstance" = none) (m_len : mg "len" = none) (m_tuple : mg "tuple" = none) : FnOk P w K mg base CX0 (k + 3) f fd ["panel", "value"] (spChkS K) := by
  have GBtnT : FnOk P w K mg base CX0 (k + 2) fBtnT fdBtnT ["value", "many"] (spBtnT K) := ok_btnT FBtnT FBtn bBtn gBtn m_isinstance m_bool m_int m_tuple
  refine F.ok scChkS (fun vs H Q E h => ?_) (fun cdv A outer s H vs Q E hr h => ?_)
  · obtain ⟨p, l, pan, st, rfl, _⟩ := h
    rfl
  · refine ⟨_, pss_one (ps_if (pt_not (pt_val (pe_call GBtnT (hr.mono (by omega)) (by rfl) gBtnT FBtnT.kp bBtnT .nil pass0 (pa_cons (pv 1) (pa_cons (pe_callB (show CallR _ _ (rLenG K) from cr_lenG) (by rfl) m_len PySem.boot_len (pa_cons (pv 0) pa_nil)) pa_nil))))) (pss_one ps_never) pss_nil), hide1 fun t0 ht0 => ?_⟩
    obtain ⟨p, l, pan, st, rfl, hp, hl, hst, q⟩ := h
    refine ht0 _ _ _ ?_
    have hlp : (pan.map dInts).length = pan.length := List.length_map _
    refine ⟨.ref l, rfl, (gv_lenT (K := K) (gv_var rfl hp.dp)).at fun vn H1 s1 dn => ?_⟩
    cases dn
    rw [hlp]
    refine ⟨fun _ => False, .ref l, dInts st, (pan.length : Int), rfl, dq_ints (same_sqT s1 hl), ⟨_, rfl, ?_⟩⟩
    have e : btnT (pan.length : Int) (dInts st) = true := asc_from hst.up fun x hx => ⟨by have := hst.rng x hx; omega, hst.rng x hx⟩
    rw [e]
    exact iteF (q H1 s1)
end
def nChkB : List Str := ["panel", "value"]
theorem scChkB : FnScope nChkB ["panel", "value"] (defScope sChkB) := ⟨rfl, rfl, rfl, by decide +kernel, rfl, by decide +kernel, by decide +kernel⟩
section
variable {P : Program} {w : World} {K : PySem.W.Frag} {mg : Str → Option Value} {base : Heap}
def spChkB (K : PySem.W.Frag) : Sp := fun vs H Q _ => ∃ (p : Addr) (pan : List (List Int)) (b : Int), vs = [.ref p, .int b] ∧ PanT K H p pan ∧ 0 ≤ b ∧ b < (pan.length : Int) ∧ ∀ H', Same H H' → Q .non H'
theorem ok_ChkB {fBtn : Addr} {fdBtn : FuncData} {f : Addr} {fd : FuncData} {k : Nat} (F : Fun K "check_button" "check_button" sChkB f fd)
    (FBtn : Fun K "is_button" "is_button" sBtn fBtn fdBtn) (bBtn : Binds K fdBtn ["value", "many"] []) (gBtn : mg "is_button" = some (.ref fBtn))
    (m_bool : mg "bool" = none) (m_int : mg "int" = none) (m_isinstance : mg "isinstance" = none) (m_len : mg "len" = none) : FnOk P w K mg base CX0 (k + 2) f fd ["panel", "value"] (spChkB K) := by
  have GBtn : FnOk P w K mg base CX0 (k + 1) fBtn fdBtn ["value", "many"] (spBtn K) := ok_btn FBtn m_isinstance m_bool m_int
  refine F.ok scChkB (fun vs H Q E h => ?_) (fun cdv A outer s H vs Q E hr h => ?_)
  · obtain ⟨p, pan, b, rfl, _⟩ := h
    rfl
  · refine ⟨_, pss_one (ps_if (pt_not (pt_val (pe_call GBtn (hr.mono (by omega)) (by rfl) gBtn FBtn.kp bBtn .nil pass0 (pa_cons (pv 1) (pa_cons (pe_callB (show CallR _ _ (rLenG K) from cr_lenG) (by rfl) m_len PySem.boot_len (pa_cons (pv 0) pa_nil)) pa_nil))))) (pss_one ps_never) pss_nil), hide1 fun t0 ht0 => ?_⟩
    obtain ⟨p, pan, b, rfl, hp, b0, b1, q⟩ := h
    refine ht0 _ _ _ ?_
    have hlp : (pan.map dInts).length = pan.length := List.length_map _
    refine ⟨.int b, rfl, (gv_lenT (K := K) (gv_var rfl hp.dp)).at fun vn H1 s1 dn => ?_⟩
    cases dn
    rw [hlp]
    refine ⟨fun _ => False, .int b, .int b, (pan.length : Int), rfl, .int b, ⟨_, rfl, ?_⟩⟩
    have e : isBtn (pan.length : Int) (.int b) = true := by simp [isBtn, b0, b1]
    rw [e]
    exact iteF (q H1 s1)
end
end K54
namespace K54
open PySem PySem.Spec PyProof.Rows L2 Pr
abbrev sInitD : Stmt := inClass (topS 50) 1
abbrev sShow : Stmt := inClass (topS 50) 2
abbrev sFree : Stmt := inClass (topS 50) 3
abbrev sRoom : Stmt := inClass (topS 50) 4
abbrev sLink0 : Stmt := inClass (topS 50) 5
abbrev sAdd : Stmt := inClass (topS 50) 6
abbrev sChg : Stmt := inClass (topS 50) 7
abbrev sPressD : Stmt := inClass (topS 50) 8
abbrev sLink : Stmt := inClass (topS 50) 9
abbrev sUnlink : Stmt := inClass (topS 50) 10
abbrev sState : Stmt := inClass (topS 50) 16
abbrev sEdits : Stmt := inClass (topS 50) 19
abbrev sLenD : Stmt := inClass (topS 50) 21
abbrev sStrD : Stmt := inClass (topS 50) 22
def fD1 (pa : Addr) : List (Str × V) := [("past", V.ref pa), ("watched", V.bl false)]
def fldsD (pa p l h kn : Addr) : List (Str × V) := [("past", V.ref pa), ("watched", V.bl false), ("panel", V.ref p), ("latched", V.ref l), ("held", V.ref h), ("known", V.ref kn)]
theorem look_past (pa p l h kn : Addr) : (fldsD pa p l h kn).lookup ("past" : Str) = some (.ref pa) := by rfl
theorem look_watched (pa p l h kn : Addr) : (fldsD pa p l h kn).lookup ("watched" : Str) = some (.bl false) := by rfl
theorem look_panel (pa p l h kn : Addr) : (fldsD pa p l h kn).lookup ("panel" : Str) = some (.ref p) := by rfl
theorem look_latched (pa p l h kn : Addr) : (fldsD pa p l h kn).lookup ("latched" : Str) = some (.ref l) := by rfl
theorem look_held (pa p l h kn : Addr) : (fldsD pa p l h kn).lookup ("held" : Str) = some (.ref h) := by rfl
end K54
namespace K54
open PySem PySem.Spec PyProof.Rows L2 Pr
theorem put_p (pa pa' p l h kn : Addr) : putF "past" (.ref pa') (fldsD pa p l h kn) = fldsD pa' p l h kn := by rfl
theorem put_0 (pa : Addr) : putF "watched" (.bl false) (putF "past" (.ref pa) []) = fD1 pa := by rfl
structure TxtD (K : PySem.W.Frag) (mg : Str → Option Value) (C : Addr) : Prop where
  cl : Cls K C
  nA : NoAttr K C "past"
  nW : NoAttr K C "watched"
  nP : NoAttr K C "panel"
  nL : NoAttr K C "latched"
  nH : NoAttr K C "held"
  nK : NoAttr K C "known"
  con : ∃ u, Con K C "MOST_EDITS" (.int 60) u
  g : mg "GuessDesk" = some (.ref C)
def dEnt (x : PyData × List (List Int) × List Int) : PyData := .tuple [x.1, dPan x.2.1, dInts x.2.2]
def dPast (past : List (PyData × List (List Int) × List Int)) : PyData := .tuple (past.map dEnt)
/-- a part of the past: the edit, and the panel and the state before it -/
def EntAt (K : PySem.W.Frag) (H : Hp) (x : V) (y : PyData × List (List Int) × List Int) : Prop := ∃ (a p l : Addr) (v : V), x = .ref a ∧ SqT K H a [v, .ref p, .ref l] ∧ Dp K H v y.1 ∧ PanT K H p y.2.1 ∧ H l = some (.tup (y.2.2.map V.int))
def PastAt (K : PySem.W.Frag) (H : Hp) (pa : Addr) (past : List (PyData × List (List Int) × List Int)) : Prop := ∃ xs, SqT K H pa xs ∧ Paired (EntAt K H) xs past
section
variable {K : PySem.W.Frag} {H H' : Hp} {pa : Addr} {past : List (PyData × List (List Int) × List Int)}
theorem EntAt.sm {x : V} {y : PyData × List (List Int) × List Int} (h : EntAt K H x y) (s : Same H H') : EntAt K H' x y := by
  obtain ⟨a, p, l, v, rfl, h1, h2, h3, h4⟩ := h
  exact ⟨a, p, l, v, rfl, same_sqT s h1, h2.sm s, h3.same s, s _ _ h4⟩
theorem EntAt.kp {x : V} {y : PyData × List (List Int) × List Int} (h : EntAt K H x y) (k : Kp H H') (hl : lf y.1 = true) : EntAt K H' x y := by
  obtain ⟨a, p, l, v, rfl, h1, h2, h3, h4⟩ := h
  exact ⟨a, p, l, v, rfl, sqT_kp k h1, h2.kp k hl, h3.kp k, k.1 _ _ h4⟩
theorem EntAt.dp {x : V} {y : PyData × List (List Int) × List Int} (h : EntAt K H x y) : Dp K H x (dEnt y) := by
  obtain ⟨a, p, l, v, rfl, h1, h2, h3, h4⟩ := h
  exact .tup h1 (.cons h2 (.cons h3.dp (.cons (dp_ints (.inl (.inl h4))) .nil)))
theorem ents_sm (s : Same H H') : ∀ {xs : List V} {past : List (PyData × List (List Int) × List Int)}, Paired (EntAt K H) xs past → Paired (EntAt K H') xs past
  | _, _, .nil => .nil
  | _, _, .cons h t => .cons (h.sm s) (ents_sm s t)
theorem ents_kp (k : Kp H H') : ∀ {xs : List V} {past : List (PyData × List (List Int) × List Int)}, (∀ x ∈ past, lf x.1 = true ∧ Good x.2.1 ∧ Asc x.2.1.length x.2.2) → Paired (EntAt K H) xs past → Paired (EntAt K H') xs past
  | _, _, _, .nil => .nil
  | _, _, e, .cons h t => .cons (h.kp k (e _ List.mem_cons_self).1) (ents_kp k (fun x hx => e x (List.mem_cons_of_mem _ hx)) t)
theorem ents_dp : ∀ {xs : List V} {past : List (PyData × List (List Int) × List Int)}, Paired (EntAt K H) xs past → DpAll K H xs (past.map dEnt)
  | _, _, .nil => .nil
  | _, _, .cons h t => .cons h.dp (ents_dp t)
theorem prApp {α β : Type} {R : α → β → Prop} : ∀ {xs : List α} {ys : List β} {us : List α} {vs : List β}, Paired R xs ys → Paired R us vs → Paired R (xs ++ us) (ys ++ vs)
  | _, _, _, _, .nil, h => h
  | _, _, _, _, .cons a b, h => .cons a (prApp b h)
theorem prGet {α β : Type} {R : α → β → Prop} : ∀ {xs : List α} {ys : List β} {i : Nat} {y : β}, Paired R xs ys → ys[i]? = some y → ∃ x, xs[i]? = some x ∧ R x y
  | _, _, i, y, .nil, e => by simp at e
  | x :: xs, z :: ys, 0, y, .cons a b, e => by cases e; exact ⟨x, rfl, a⟩
  | x :: xs, z :: ys, i + 1, y, .cons a b, e => prGet (i := i) b e
theorem prSplit {α β : Type} {R : α → β → Prop} : ∀ {xs : List α} {ys : List β} {y : β}, Paired R xs (ys ++ [y]) → ∃ us u, xs = us ++ [u] ∧ Paired R us ys ∧ R u y
  | _, [], y, .cons a .nil => ⟨[], _, rfl, .nil, a⟩
  | _, z :: ys, y, .cons a b => by
    obtain ⟨us, u, rfl, h1, h2⟩ := prSplit b
    exact ⟨_ :: us, u, rfl, .cons a h1, h2⟩
theorem PastAt.sm (h : PastAt K H pa past) (s : Same H H') : PastAt K H' pa past := by
  obtain ⟨xs, h1, h2⟩ := h
  exact ⟨xs, same_sqT s h1, ents_sm s h2⟩
theorem PastAt.kp (h : PastAt K H pa past) (k : Kp H H') (e : ∀ x ∈ past, lf x.1 = true ∧ Good x.2.1 ∧ Asc x.2.1.length x.2.2) : PastAt K H' pa past := by
  obtain ⟨xs, h1, h2⟩ := h
  exact ⟨xs, sqT_kp k h1, ents_kp k e h2⟩
theorem PastAt.dp (h : PastAt K H pa past) : Dp K H (.ref pa) (dPast past) := by
  obtain ⟨xs, h1, h2⟩ := h
  exact .tup h1 (ents_dp h2)
end
theorem cut_last (xs : List V) (x : V) : cutV (xs ++ [x]) none (some (-1)) = xs := by
  unfold cutV
  have e : HT.sIx (xs ++ [x]).length (xs ++ [x]).length (some (-1)) = xs.length := by
    show (if (-1 : Int) < 0 then ((-1 : Int) + ((xs ++ [x]).length : Int)).toNat else min (-1 : Int).toNat (xs ++ [x]).length) = _
    rw [if_pos (by decide), List.length_append]
    show ((-1 : Int) + ((xs.length + 1 : Nat) : Int)).toNat = _
    omega
  rw [e, HT.sIx_none, List.drop_zero, Nat.sub_zero, List.take_left]
theorem at_last {l : List V} {v : V} : atI (l ++ [v]) (-1) = some v := by
  have e : ixN (l ++ [v]).length (-1) = some l.length := by
    unfold ixN
    rw [List.length_append]
    show (if (0 : Int) ≤ -1 then _ else _) = _
    rw [if_neg (by decide)]
    simp
    omega
  unfold atI
  rw [e]
  show (l ++ [v])[l.length]? = some v
  simp
theorem at_nat {l : List V} {v : V} {i : Nat} (h : l[i]? = some v) : atI l (i : Int) = some v := by
  have hi := (List.getElem?_eq_some_iff.mp h).1
  have e : ixN l.length (i : Int) = some i := by
    unfold ixN
    rw [if_pos (by omega), if_pos (by omega), Int.toNat_natCast]
  unfold atI
  rw [e]
  exact h
def isPress (y : PyData) : Option Int := match y with
  | .tuple [.str x, .int b] => if x = ("press" : Str) then some b else none
  | _ => none
/-- what the edits that stand have told -/
def knM (n : Nat) (past : List (PyData × List (List Int) × List Int)) : List Str := past.foldl (fun k x => match isPress x.1 with | some b => joinM k (pressW x.2.1 b) | none => k) (List.replicate n wSame)
/-- an edit of the past: a press, or a change of a list -/
def PEd (n : Nat) (x : PyData × List (List Int) × List Int) : Prop := x.2.1.length = n ∧ ((∃ b : Int, x.1 = .tuple [.str "press", .int b] ∧ 0 ≤ b ∧ b < (n : Int)) ∨ ∃ (y : Str) (one other : Int), y ≠ "press" ∧ x.1 = .tuple [.str y, .int one, .int other])
theorem knM_len {n : Nat} {past : List (PyData × List (List Int) × List Int)} (h : ∀ x ∈ past, PEd n x) : (knM n past).length = n := by
  unfold knM
  have key : ∀ (l : List (PyData × List (List Int) × List Int)) (k : List Str), (∀ x ∈ l, PEd n x) → k.length = n → (l.foldl (fun k x => match isPress x.1 with | some b => joinM k (pressW x.2.1 b) | none => k) k).length = n := by
    intro l
    induction l with
    | nil => intro k _ hk; exact hk
    | cons x r ih =>
      intro k hx hk
      rw [List.foldl_cons]
      refine ih _ (fun y hy => hx y (List.mem_cons_of_mem _ hy)) ?_
      have hx0 := (hx x List.mem_cons_self).1
      cases isPress x.1 with
      | none => exact hk
      | some b => 
        have e1 : k.length = (pressW x.2.1 b).length := by rw [pressW_len]; omega
        show (joinM k (pressW x.2.1 b)).length = n
        rw [joinM_len e1, pressW_len]; exact hx0
  exact key past _ h (List.length_replicate ..)
/-- a desk stands at t -/
structure DeskAt (K : PySem.W.Frag) (C : Addr) (H : Hp) (t : Addr) (pan : List (List Int)) (st : List Int) (past : List (PyData × List (List Int) × List Int)) : Prop where
  ob : ∃ dx pa p l h hs kn, H t = some (.ins C dx (fldsD pa p l h kn)) ∧ PastAt K H pa past ∧ PanT K H p pan ∧ H l = some (.tup (st.map V.int)) ∧ SqT K H h (hs.map V.int) ∧ IsHeld pan st hs ∧ FT H kn ((knM pan.length past).map V.str)
  good : Good pan
  asc : Asc pan.length st
  lfe : ∀ x ∈ past, lf x.1 = true ∧ Good x.2.1 ∧ Asc x.2.1.length x.2.2 ∧ PEd pan.length x
section
variable {K : PySem.W.Frag} {C : Addr} {H H' : Hp} {t : Addr} {pan : List (List Int)} {st : List Int} {past : List (PyData × List (List Int) × List Int)}
theorem DeskAt.same (h : DeskAt K C H t pan st past) (s : Same H H') : DeskAt K C H' t pan st past := by
  obtain ⟨⟨dx, pa, p, l, hh, hs, kn, h1, h2, h3, h4, h5, h6, h7⟩, g, a, e⟩ := h
  exact ⟨⟨dx, pa, p, l, hh, hs, kn, s _ _ h1, h2.sm s, h3.same s, s _ _ h4, same_sqT s h5, h6, h7.same s⟩, g, a, e⟩
theorem DeskAt.but {a c : Addr} {m : Nat} (h : DeskAt K C H t pan st past) (D : Deck H a c m) (b : But a c H H') : DeskAt K C H' t pan st past := by
  obtain ⟨⟨dx, pa, p, l, hh, hs, kn, h1, h2, h3, h4, h5, h6, h7⟩, g, as, e⟩ := h
  have k := Kp.but D b
  have q := D.apart h1 (fun _ => by intro z; cases z)
  exact ⟨⟨dx, pa, p, l, hh, hs, kn, b _ _ q.1 q.2 h1, h2.kp k (fun x hx => ⟨(e x hx).1, (e x hx).2.1, (e x hx).2.2.1⟩), h3.kp k, k.1 _ _ h4, sqT_kp k h5, h6, h7.kp k⟩, g, as, e⟩
end
def spShow (K : PySem.W.Frag) (C : Addr) : Sp := fun vs H Q _ => ∃ (t p l dx pa : Addr) (fs : List (Str × V)) (pan : List (List Int)) (st : List Int) (past : List (PyData × List (List Int) × List Int)), vs = [.ref t, .ref p, .ref l] ∧ H t = some (.ins C dx fs) ∧ (fs = fD1 pa ∨ ∃ p0 l0 h0 k0, fs = fldsD pa p0 l0 h0 k0) ∧ PanT K H p pan ∧ Good pan ∧ SqT K H l (st.map V.int) ∧ Asc pan.length st ∧ PastAt K H pa past ∧ (∀ x ∈ past, lf x.1 = true ∧ Good x.2.1 ∧ Asc x.2.1.length x.2.2 ∧ PEd pan.length x) ∧
  ∀ H' h hs kn, ButO t H H' → H' t = some (.ins C dx (fldsD pa p l h kn)) → SqT K H' h (hs.map V.int) → IsHeld pan st hs → FT H' kn ((knM pan.length past).map V.str) → Q .non H'
def nInitD : List Str := ["self", "panel", "state"]
theorem scInitD : FnScope nInitD ["self", "panel", "state"] (defScope sInitD) := ⟨rfl, rfl, rfl, by decide +kernel, rfl, by decide +kernel, by decide +kernel⟩
section
variable {P : Program} {w : World} {K : PySem.W.Frag} {mg : Str → Option Value} {base : Heap}
def spInitD (K : PySem.W.Frag) (C : Addr) : Sp := fun vs H Q _ => ∃ (t p l dx : Addr) (pan : List (List Int)) (st : List Int), vs = [.ref t, .ref p, .ref l] ∧ H t = some (.ins C dx []) ∧ PanT K H p pan ∧ Good pan ∧ H l = some (.tup (st.map V.int)) ∧ Asc pan.length st ∧
  ∀ H', ButO t H H' → DeskAt K C H' t pan st [] → Q .non H'
theorem ok_InitD {fBtn : Addr} {fdBtn : FuncData} {fBtnT : Addr} {fdBtnT : FuncData} {fPErr : Addr} {fdPErr : FuncData} {fChkP : Addr} {fdChkP : FuncData} {fChkS : Addr} {fdChkS : FuncData} {C f : Addr} {fd : FuncData} {k : Nat} {tk : Tok} (F : Fun K "__init__" "Desk.__init__" sInitD f fd) (T : TxtD K mg C)
    (FBtn : Fun K "is_button" "is_button" sBtn fBtn fdBtn) (bBtn : Binds K fdBtn ["value", "many"] []) (gBtn : mg "is_button" = some (.ref fBtn))
    (FBtnT : Fun K "is_button_tuple" "is_button_tuple" sBtnT fBtnT fdBtnT) (bBtnT : Binds K fdBtnT ["value", "many"] []) (gBtnT : mg "is_button_tuple" = some (.ref fBtnT))
    (FPErr : Fun K "panel_error" "panel_error" sPErr fPErr fdPErr) (bPErr : Binds K fdPErr ["value"] []) (gPErr : mg "panel_error" = some (.ref fPErr))
    (FChkP : Fun K "check_panel" "check_panel" sChkP fChkP fdChkP) (bChkP : Binds K fdChkP ["value"] []) (gChkP : mg "check_panel" = some (.ref fChkP))
    (FChkS : Fun K "check_state" "check_state" sChkS fChkS fdChkS) (bChkS : Binds K fdChkS ["panel", "value"] []) (gChkS : mg "check_state" = some (.ref fChkS))
    {fShow : Addr} {fdShow : FuncData} (GShow0 : ∀ k0 : Nat, FnOk P w K mg base CX0 (k0 + 6) fShow fdShow ["self", "panel", "latched"] (spShow K C)) (bShow : Binds K fdShow ["self", "panel", "latched"] []) (hShow : Meth K C "show" fShow)
    (m_bool : mg "bool" = none) (m_enumerate : mg "enumerate" = none) (m_int : mg "int" = none) (m_isinstance : mg "isinstance" = none) (m_len : mg "len" = none) (m_tuple : mg "tuple" = none) (y_MAX : mg "MAX_BUTTONS" = some (.int 10 tk)) : FnOk P w K mg base CX0 (k + 7) f fd ["self", "panel", "state"] (spInitD K C) := by
  have GChkP : FnOk P w K mg base CX0 (k + 4) fChkP fdChkP ["value"] (spChkP K) := ok_ChkP FChkP FBtn bBtn gBtn FBtnT bBtnT gBtnT FPErr bPErr gPErr m_bool m_enumerate m_int m_isinstance m_len m_tuple y_MAX
  have GChkS : FnOk P w K mg base CX0 (k + 3) fChkS fdChkS ["panel", "value"] (spChkS K) := ok_ChkS FChkS FBtn bBtn gBtn FBtnT bBtnT gBtnT m_bool m_int m_isinstance m_len m_tuple
  have GShow : FnOk P w K mg base CX0 (k + 6) fShow fdShow ["self", "panel", "latched"] (spShow K C) := GShow0 k
  refine F.ok scInitD (fun vs H Q E h => ?_) (fun cdv A outer s H vs Q E hr h => ?_)
  · obtain ⟨t, p, l, dx, pan, st, rfl, _⟩ := h
    rfl
  · refine ⟨_, pss_cons (ps_expr (pe_call GChkP (hr.mono (by omega)) (by rfl) gChkP FChkP.kp bChkP .nil pass0 (pa_cons (pv 1) pa_nil)))
      (pss_cons (ps_expr (pe_call GChkS (hr.mono (by omega)) (by rfl) gChkS FChkS.kp bChkS .nil pass0 (pa_cons (pv 1) (pa_cons (pv 2) pa_nil))))
      (pss_cons (ps_fld (pv 0) (pe_tup pa_nil) rfl)
      (pss_cons (ps_fld (pv 0) pe_bl rfl)
      (pss_one (ps_expr (pe_meth (pv 0) T.cl hShow GShow (hr.mono (by omega)) bShow .nil pass0 (pa_cons (pv 1) (pa_cons (pv 2) pa_nil)))))))), hide1 fun t0 ht0 => ?_⟩
    obtain ⟨t, p, l, dx, pan, st, rfl, ht, hp, hg, hl, hst, q⟩ := h
    refine ht0 _ _ _ ?_
    refine ⟨.ref p, rfl, p, pan, rfl, hp, hg, fun H1 s1 => ?_⟩
    refine ⟨.ref p, rfl, .ref l, rfl, p, l, pan, st, rfl, hp.same s1, .inl (.inl (s1 _ _ hl)), hst, fun H2 s2 => ?_⟩
    have s12 := s1.trans s2
    have e2 := s12 _ _ ht
    refine ⟨Nat.zero_le _, fun pa npa => ?_⟩
    have sp := same_new (o := .tup []) npa
    refine ⟨.ref t, rfl, t, C, dx, _, rfl, sp _ _ e2, T.cl, T.nA, by show 0 < 1000; decide, ?_⟩
    have k3 := ButO.upd (g := t) (H := upd H2 pa (.tup [])) (o := .ins C dx (putF "past" (.ref pa) []))
    refine ⟨.ref t, rfl, t, C, dx, _, rfl, upd_same, T.cl, T.nW, by show 1 < 1000; decide, ?_⟩
    rw [put_0]
    have k4 := ButO.upd (g := t) (H := upd (upd H2 pa (.tup [])) t (.ins C dx (putF "past" (.ref pa) []))) (o := .ins C dx (fD1 pa))
    have kk := (k3.trans k4).kp (sp _ _ e2)
    have sH := s12.trans sp
    have pt : pa ≠ t := fun z => by rw [z, e2] at npa; cases npa
    refine ⟨.ref t, rfl, t, dx, _, rfl, upd_same, by rfl, .ref p, rfl, .ref l, rfl, t, p, l, dx, pa, fD1 pa, pan, st, [], rfl, upd_same, .inl rfl, (hp.same sH).kp kk, hg, .inl (.inl (kk.1 _ _ (sH _ _ hl))), hst, ⟨[], .inl (.inl (k4.kp upd_same |>.1 _ _ (by rw [upd_ne pt]; exact upd_same))), .nil⟩, (fun x hx => by cases hx), fun H5 h hs kn k5 e5 hh ish hkn => ?_⟩
    have kAll := ((ButO.of sH).trans (k3.trans k4)).trans k5
    have kp5 := kk.trans (k5.kp upd_same)
    refine q H5 kAll ⟨⟨dx, pa, p, l, h, hs, kn, e5, ⟨[], .inl (.inl (kp5.1 _ _ upd_same)), .nil⟩, (hp.same sH).kp kp5, kp5.1 _ _ (sH _ _ hl), hh, ish, hkn⟩, hg, hst, fun x hx => by cases hx⟩
end
end K54
namespace K54
open PySem PySem.Spec PyProof.Rows L2 Pr
section
variable {K : PySem.W.Frag} {C : Addr} {H H' : Hp} {t : Addr} {pan : List (List Int)} {st : List Int} {past : List (PyData × List (List Int) × List Int)} {σ : L2.St} {mg : Str → Option Value} {i : Nat}
theorem gv_past (T : TxtD K mg C) (hi : σ[i]? = some (some (.ref t))) (h : DeskAt K C H t pan st past) : Gv K (tFld K (tVar i) "past") σ H (dPast past) := fun H1 s Q q => by
  obtain ⟨⟨dx, pa, p, l, hh, hs, kn, h1, h2, _⟩, _⟩ := h.same s
  exact ⟨.ref t, hi, t, C, dx, _, .ref pa, rfl, h1, T.cl, T.nA, look_past _ _ _ _ _, q _ H1 (Same.refl _) h2.dp⟩
theorem gv_panel (T : TxtD K mg C) (hi : σ[i]? = some (some (.ref t))) (h : DeskAt K C H t pan st past) : Gv K (tFld K (tVar i) "panel") σ H (dPan pan) := fun H1 s Q q => by
  obtain ⟨⟨dx, pa, p, l, hh, hs, kn, h1, h2, h3, _⟩, _⟩ := h.same s
  exact ⟨.ref t, hi, t, C, dx, _, .ref p, rfl, h1, T.cl, T.nP, look_panel _ _ _ _ _, q _ H1 (Same.refl _) h3.dp⟩
theorem gv_latched (T : TxtD K mg C) (hi : σ[i]? = some (some (.ref t))) (h : DeskAt K C H t pan st past) : Gv K (tFld K (tVar i) "latched") σ H (dInts st) := fun H1 s Q q => by
  obtain ⟨⟨dx, pa, p, l, hh, hs, kn, h1, h2, h3, h4, _⟩, _⟩ := h.same s
  exact ⟨.ref t, hi, t, C, dx, _, .ref l, rfl, h1, T.cl, T.nL, look_latched _ _ _ _ _, q _ H1 (Same.refl _) (dp_ints (.inl (.inl h4)))⟩
theorem gv_most (T : TxtD K mg C) (hi : σ[i]? = some (some (.ref t))) (h : DeskAt K C H t pan st past) : Gv K (tCon K (tVar i) "MOST_EDITS") σ H (.int 60) := fun H1 s Q q => by
  obtain ⟨⟨dx, pa, p, l, hh, hs, kn, h1, _⟩, _⟩ := h.same s
  obtain ⟨u, hu⟩ := T.con
  exact ⟨.ref t, hi, t, C, dx, _, .int 60, u, rfl, h1, T.cl, hu, by rfl, q _ H1 (Same.refl _) (.int _)⟩
end
def InP2 (pan : List (List Int)) (one other : Int) : Prop := 0 ≤ one ∧ one < (pan.length : Int) ∧ 0 ≤ other ∧ other < (pan.length : Int) ∧ one ≠ other
def nFree : List Str := ["self"]
theorem scFree : FnScope nFree ["self"] (defScope sFree) := ⟨rfl, rfl, rfl, by decide +kernel, rfl, by decide +kernel, by decide +kernel⟩
section
variable {P : Program} {w : World} {K : PySem.W.Frag} {mg : Str → Option Value} {base : Heap}
def spFree (K : PySem.W.Frag) (C : Addr) : Sp := fun vs H Q _ => ∃ (t : Addr) (pan : List (List Int)) (st : List Int) (past : List (PyData × List (List Int) × List Int)), vs = [.ref t] ∧ DeskAt K C H t pan st past ∧ ∀ H', Same H H' → Q .non H'
theorem ok_Free  {C f : Addr} {fd : FuncData} {k : Nat} (F : Fun K "check_free" "Desk.check_free" sFree f fd) (T : TxtD K mg C)
     : FnOk P w K mg base CX0 (k + 1) f fd ["self"] (spFree K C) := by
  refine F.ok scFree (fun vs H Q E h => ?_) (fun cdv A outer s H vs Q E hr h => ?_)
  · obtain ⟨t, pan, st, past, rfl, _⟩ := h
    rfl
  · refine ⟨_, pss_one (ps_if (pt_val (pe_fld (pv 0) rfl)) (pss_one ps_never) pss_nil), hide1 fun t0 ht0 => ?_⟩
    obtain ⟨t, pan, st, past, rfl, hD, q⟩ := h
    have hD' := hD
    obtain ⟨⟨dx, pa, p, l, hh, hs, kn, h1, h2, h3, h4, h5, h6, h7⟩, hg, hst, lfe⟩ := hD'
    refine ht0 _ _ _ ?_
    exact ⟨.ref t, rfl, t, C, dx, _, .bl false, rfl, h1, T.cl, T.nW, look_watched _ _ _ _ _, false, rfl, iteF (q H (Same.refl _))⟩
end
def nRoom : List Str := ["self"]
theorem scRoom : FnScope nRoom ["self"] (defScope sRoom) := ⟨rfl, rfl, rfl, by decide +kernel, rfl, by decide +kernel, by decide +kernel⟩
section
variable {P : Program} {w : World} {K : PySem.W.Frag} {mg : Str → Option Value} {base : Heap}
def spRoom (K : PySem.W.Frag) (C : Addr) : Sp := fun vs H Q _ => ∃ (t : Addr) (pan : List (List Int)) (st : List Int) (past : List (PyData × List (List Int) × List Int)), vs = [.ref t] ∧ DeskAt K C H t pan st past ∧ past.length < 60 ∧ ∀ H', Same H H' → Q .non H'
theorem ok_Room  {C f : Addr} {fd : FuncData} {k : Nat} (F : Fun K "check_room" "Desk.check_room" sRoom f fd) (T : TxtD K mg C)
    {fFree : Addr} {fdFree : FuncData} (FFree : Fun K "check_free" "Desk.check_free" sFree fFree fdFree) (bFree : Binds K fdFree ["self"] []) (hFree : Meth K C "check_free" fFree)
    (m_len : mg "len" = none) : FnOk P w K mg base CX0 (k + 2) f fd ["self"] (spRoom K C) := by
  have GFree : FnOk P w K mg base CX0 (k + 1) fFree fdFree ["self"] (spFree K C) := ok_Free FFree T   
  refine F.ok scRoom (fun vs H Q E h => ?_) (fun cdv A outer s H vs Q E hr h => ?_)
  · obtain ⟨t, pan, st, past, rfl, _⟩ := h
    rfl
  · refine ⟨_, pss_cons (ps_expr (pe_meth0 (pv 0) T.cl hFree GFree (hr.mono (by omega)) bFree .nil pass0))
      (pss_one (ps_if (pt_cmpR op_ge (pe_callB (show CallR _ _ (rLenG K) from cr_lenG) (by rfl) m_len PySem.boot_len (pa_cons (pe_fld (pv 0) rfl) pa_nil)) (pe_con (pv 0) rfl) (nomark _)) (pss_one ps_never) pss_nil)), hide1 fun t0 ht0 => ?_⟩
    obtain ⟨t, pan, st, past, rfl, hD, few, q⟩ := h
    have hD' := hD
    obtain ⟨⟨dx, pa, p, l, hh, hs, kn, h1, h2, h3, h4, h5, h6, h7⟩, hg, hst, lfe⟩ := hD'
    refine ht0 _ _ _ ?_
    refine ⟨.ref t, rfl, t, dx, _, rfl, h1, by rfl, t, pan, st, past, rfl, hD, fun H1 s1 => ?_⟩
    refine gs_noN (b := decide ((60 : Int) ≤ ((past.map dEnt).length : Int))) (gvt_test (K := K) (gv_I0 (gv_lenT (gv_past T rfl (hD.same s1))) (gv_most T rfl (hD.same s1)) fun _ => .bl _)) (by rw [List.length_map]; exact decide_eq_false (by omega)) fun H2 s2 => q H2 (s1.trans s2)
end
def nLink0 : List Str := ["self", "one", "other"]
theorem scLink0 : FnScope nLink0 ["self", "one", "other"] (defScope sLink0) := ⟨rfl, rfl, rfl, by decide +kernel, rfl, by decide +kernel, by decide +kernel⟩
section
variable {P : Program} {w : World} {K : PySem.W.Frag} {mg : Str → Option Value} {base : Heap}
def spLink0 (K : PySem.W.Frag) (C : Addr) : Sp := fun vs H Q _ => ∃ (t : Addr) (pan : List (List Int)) (st : List Int) (past : List (PyData × List (List Int) × List Int)) (one other : Int), vs = [.ref t, .int one, .int other] ∧ DeskAt K C H t pan st past ∧ past.length < 60 ∧ InP2 pan one other ∧ ∀ H', Same H H' → Q .non H'
theorem ok_Link0 {fBtn : Addr} {fdBtn : FuncData} {fChkB : Addr} {fdChkB : FuncData} {C f : Addr} {fd : FuncData} {k : Nat} (F : Fun K "check_link" "Desk.check_link" sLink0 f fd) (T : TxtD K mg C)
    (FBtn : Fun K "is_button" "is_button" sBtn fBtn fdBtn) (bBtn : Binds K fdBtn ["value", "many"] []) (gBtn : mg "is_button" = some (.ref fBtn))
    (FChkB : Fun K "check_button" "check_button" sChkB fChkB fdChkB) (bChkB : Binds K fdChkB ["panel", "value"] []) (gChkB : mg "check_button" = some (.ref fChkB))
    {fFree : Addr} {fdFree : FuncData} (FFree : Fun K "check_free" "Desk.check_free" sFree fFree fdFree) (bFree : Binds K fdFree ["self"] []) (hFree : Meth K C "check_free" fFree)
    {fRoom : Addr} {fdRoom : FuncData} (FRoom : Fun K "check_room" "Desk.check_room" sRoom fRoom fdRoom) (bRoom : Binds K fdRoom ["self"] []) (hRoom : Meth K C "check_room" fRoom)
    (m_bool : mg "bool" = none) (m_int : mg "int" = none) (m_isinstance : mg "isinstance" = none) (m_len : mg "len" = none) : FnOk P w K mg base CX0 (k + 3) f fd ["self", "one", "other"] (spLink0 K C) := by
  have GChkB : FnOk P w K mg base CX0 (k + 2) fChkB fdChkB ["panel", "value"] (spChkB K) := ok_ChkB FChkB FBtn bBtn gBtn m_bool m_int m_isinstance m_len
  have GRoom : FnOk P w K mg base CX0 (k + 2) fRoom fdRoom ["self"] (spRoom K C) := ok_Room FRoom T  FFree bFree hFree m_len
  refine F.ok scLink0 (fun vs H Q E h => ?_) (fun cdv A outer s H vs Q E hr h => ?_)
  · obtain ⟨t, pan, st, past, one, other, rfl, _⟩ := h
    rfl
  · refine ⟨_, pss_cons (ps_expr (pe_meth0 (pv 0) T.cl hRoom GRoom (hr.mono (by omega)) bRoom .nil pass0))
      (pss_cons (ps_expr (pe_call GChkB (hr.mono (by omega)) (by rfl) gChkB FChkB.kp bChkB .nil pass0 (pa_cons (pe_fld (pv 0) rfl) (pa_cons (pv 1) pa_nil))))
      (pss_cons (ps_expr (pe_call GChkB (hr.mono (by omega)) (by rfl) gChkB FChkB.kp bChkB .nil pass0 (pa_cons (pe_fld (pv 0) rfl) (pa_cons (pv 2) pa_nil))))
      (pss_one (ps_if (pt_cmpR op_eq (pv 1) (pv 2) (nomark _)) (pss_one ps_never) pss_nil)))), hide1 fun t0 ht0 => ?_⟩
    obtain ⟨t, pan, st, past, one, other, rfl, hD, few, ⟨o0, o1, u0, u1, ne⟩, q⟩ := h
    have hD' := hD
    obtain ⟨⟨dx, pa, p, l, hh, hs, kn, h1, h2, h3, h4, h5, h6, h7⟩, hg, hst, lfe⟩ := hD'
    refine ht0 _ _ _ ?_
    refine ⟨.ref t, rfl, t, dx, _, rfl, h1, by rfl, t, pan, st, past, rfl, hD, few, fun H1 s1 => ?_⟩
    refine ⟨.ref t, rfl, t, C, dx, _, .ref p, rfl, s1 _ _ h1, T.cl, T.nP, look_panel _ _ _ _ _, .int one, rfl, p, pan, one, rfl, h3.same s1, o0, o1, fun H2 s2 => ?_⟩
    have s12 := s1.trans s2
    refine ⟨.ref t, rfl, t, C, dx, _, .ref p, rfl, s12 _ _ h1, T.cl, T.nP, look_panel _ _ _ _ _, .int other, rfl, p, pan, other, rfl, h3.same s12, u0, u1, fun H3 s3 => ?_⟩
    refine gs_noN (gvt_test (K := K) (gv_eqI (gv_var rfl (.int one)) (gv_var rfl (.int other)))) (decide_eq_false ne) fun H4 s4 => q H4 (s12.trans (s3.trans s4))
end
def nAdd : List Str := ["self", "edit", "panel", "latched"]
theorem scAdd : FnScope nAdd ["self", "edit", "panel", "latched"] (defScope sAdd) := ⟨rfl, rfl, rfl, by decide +kernel, rfl, by decide +kernel, by decide +kernel⟩
section
variable {P : Program} {w : World} {K : PySem.W.Frag} {mg : Str → Option Value} {base : Heap}
def spAdd (K : PySem.W.Frag) (C : Addr) : Sp := fun vs H Q _ => ∃ (t : Addr) (pan : List (List Int)) (st : List Int) (past : List (PyData × List (List Int) × List Int)) (ve : V) (de : PyData) (p' l' : Addr) (pan' : List (List Int)) (st' : List Int), vs = [.ref t, ve, .ref p', .ref l'] ∧ DeskAt K C H t pan st past ∧ past.length ≤ 60 ∧ Dp K H ve de ∧ lf de = true ∧ PEd pan.length (de, pan, st) ∧ pan'.length = pan.length ∧ PanT K H p' pan' ∧ Good pan' ∧ H l' = some (.tup (st'.map V.int)) ∧ Asc pan'.length st' ∧
  ∀ H', ButO t H H' → DeskAt K C H' t pan' st' (past ++ [(de, pan, st)]) → Q (.int ((past.length + 1 : Nat) : Int)) H'
theorem ok_Add  {C f : Addr} {fd : FuncData} {k : Nat} (F : Fun K "add_edit" "Desk.add_edit" sAdd f fd) (T : TxtD K mg C)
    {fShow : Addr} {fdShow : FuncData} (GShow0 : ∀ k0 : Nat, FnOk P w K mg base CX0 (k0 + 6) fShow fdShow ["self", "panel", "latched"] (spShow K C)) (bShow : Binds K fdShow ["self", "panel", "latched"] []) (hShow : Meth K C "show" fShow)
    (m_len : mg "len" = none) : FnOk P w K mg base CX0 (k + 7) f fd ["self", "edit", "panel", "latched"] (spAdd K C) := by
  have GShow : FnOk P w K mg base CX0 (k + 6) fShow fdShow ["self", "panel", "latched"] (spShow K C) := GShow0 k
  refine F.ok scAdd (fun vs H Q E h => ?_) (fun cdv A outer s H vs Q E hr h => ?_)
  · obtain ⟨t, pan, st, past, ve, de, p', l', pan', st', rfl, _⟩ := h
    rfl
  · refine ⟨_, pss_cons (ps_fld (pv 0) (pe_tup (StX.pa_star (pe_fld (pv 0) rfl) (pa_cons (pe_tup (pa_cons (pv 1) (pa_cons (pe_fld (pv 0) rfl) (pa_cons (pe_fld (pv 0) rfl) pa_nil)))) pa_nil))) rfl)
      (pss_cons (ps_expr (pe_meth (pv 0) T.cl hShow GShow (hr.mono (by omega)) bShow .nil pass0 (pa_cons (pv 2) (pa_cons (pv 3) pa_nil))))
      (pss_one (ps_ret (pe_callB (show CallR _ _ (rLenG K) from cr_lenG) (by rfl) m_len PySem.boot_len (pa_cons (pe_fld (pv 0) rfl) pa_nil))))), hide1 fun t0 ht0 => ?_⟩
    obtain ⟨t, pan, st, past, ve, de, p', l', pan', st', rfl, hD, few, dve, lde, ped, hpl', hp', hg', hl', hst', q⟩ := h
    have hD' := hD
    obtain ⟨⟨dx, pa, p, l, hh, hs, kn, h1, h2, h3, h4, h5, h6, h7⟩, hg, hst, lfe⟩ := hD'
    refine ht0 _ _ _ ?_
    refine seq_hide fun u1 hu1 => ?_
    obtain ⟨xs, hpa, hxs⟩ := h2
    have xl : xs.length ≤ 60 := by rw [hxs.length]; exact few
    refine ⟨.ref t, rfl, t, C, dx, _, .ref pa, rfl, h1, T.cl, T.nA, look_past _ _ _ _ _, pa, xs, rfl, .inl hpa, ve, rfl, .ref t, rfl, t, C, dx, _, .ref p, rfl, h1, T.cl, T.nP, look_panel _ _ _ _ _, .ref t, rfl, t, C, dx, _, .ref l, rfl, h1, T.cl, T.nL, look_latched _ _ _ _ _, by show 3 ≤ sizeLine; decide, fun Te nTe => ⟨?_, fun pa' npa => ?_⟩⟩
    · rw [List.length_append]; exact Nat.le_of_lt (small5 (by show _ + 1 ≤ _; omega))
    have sTe := same_new (o := .tup [ve, .ref p, .ref l]) nTe
    have spa := same_new (o := .tup (xs ++ [.ref Te])) npa
    have s1 := sTe.trans spa
    have eTe := spa _ _ (upd_same (a := Te) (H := H) (o := .tup [ve, .ref p, .ref l]))
    have epa : (upd (upd H Te (.tup [ve, .ref p, .ref l])) pa' (.tup (xs ++ [.ref Te]))) pa' = some (.tup (xs ++ [.ref Te])) := upd_same
    generalize upd (upd H Te (.tup [ve, .ref p, .ref l])) pa' (.tup (xs ++ [.ref Te])) = H1 at s1 eTe epa ⊢
    have e1 := s1 _ _ h1
    refine ⟨.ref t, rfl, t, C, dx, _, rfl, e1, T.cl, T.nA, by show 6 < 1000; decide, ?_⟩
    refine hu1 _ _ _ (seq_hide fun u2 hu2 => ?_)
    rw [put_p]
    have k2 := ButO.upd (g := t) (H := H1) (o := .ins C dx (fldsD pa' p l hh kn))
    have kp2 := k2.kp e1
    have hP1 : PastAt K H1 pa' (past ++ [(de, pan, st)]) := ⟨_, .inl (.inl epa), prApp (ents_sm s1 hxs) (.cons ⟨Te, p, l, ve, rfl, .inl (.inl eTe), dve.sm s1, h3.same s1, s1 _ _ h4⟩ .nil)⟩
    have lfe' : ∀ x ∈ past ++ [(de, pan, st)], lf x.1 = true ∧ Good x.2.1 ∧ Asc x.2.1.length x.2.2 ∧ PEd pan'.length x := fun x hx => by
      rcases List.mem_append.mp hx with h | h
      · rw [hpl']; exact lfe x h
      · rw [List.mem_singleton.mp h]; rw [hpl']; exact ⟨lde, hg, hst, ped⟩
    refine ⟨.ref t, rfl, t, dx, _, rfl, upd_same, by rfl, .ref p', rfl, .ref l', rfl, t, p', l', dx, pa', fldsD pa' p l hh kn, pan', st', past ++ [(de, pan, st)], rfl, upd_same, .inr ⟨_, _, _, _, rfl⟩, (hp'.same s1).kp kp2, hg', .inl (.inl (kp2.1 _ _ (s1 _ _ hl'))), hst', hP1.kp kp2 (fun x hx => ⟨(lfe' x hx).1, (lfe' x hx).2.1, (lfe' x hx).2.2.1⟩), lfe', fun H3 h hs' kn' k3 e3 hh' ish hkn => ?_⟩
    have kp3 := kp2.trans (k3.kp upd_same)
    have hN : DeskAt K C H3 t pan' st' (past ++ [(de, pan, st)]) := ⟨⟨dx, pa', p', l', h, hs', kn', e3, hP1.kp kp3 (fun x hx => ⟨(lfe' x hx).1, (lfe' x hx).2.1, (lfe' x hx).2.2.1⟩), (hp'.same s1).kp kp3, kp3.1 _ _ (s1 _ _ hl'), hh', ish, hkn⟩, hg', hst', lfe'⟩
    refine hu2 _ _ _ ?_
    refine gs_ret (K := K) (gv_lenT (gv_past T rfl hN)) fun v H4 s4 dv4 => ?_
    cases dv4
    rw [List.length_map, List.length_append]
    exact q H4 (((ButO.of s1).trans k2).trans (k3.trans (ButO.of s4))) (hN.same s4)
end
def nChg : List Str := ["self", "edit", "panel"]
theorem scChg : FnScope nChg ["self", "edit", "panel"] (defScope sChg) := ⟨rfl, rfl, rfl, by decide +kernel, rfl, by decide +kernel, by decide +kernel⟩
section
variable {P : Program} {w : World} {K : PySem.W.Frag} {mg : Str → Option Value} {base : Heap}
def spChg (K : PySem.W.Frag) (C : Addr) : Sp := fun vs H Q _ => ∃ (t : Addr) (pan : List (List Int)) (st : List Int) (past : List (PyData × List (List Int) × List Int)) (ve : V) (de : PyData) (p' : Addr) (pan' : List (List Int)), vs = [.ref t, ve, .ref p'] ∧ DeskAt K C H t pan st past ∧ past.length ≤ 60 ∧ Dp K H ve de ∧ lf de = true ∧ PEd pan.length (de, pan, st) ∧ PanT K H p' pan' ∧ Good pan' ∧ pan'.length = pan.length ∧ pan' ≠ pan ∧
  ∀ H', ButO t H H' → DeskAt K C H' t pan' st (past ++ [(de, pan, st)]) → Q (.int ((past.length + 1 : Nat) : Int)) H'
theorem ok_Chg  {C f : Addr} {fd : FuncData} {k : Nat} (F : Fun K "change_panel" "Desk.change_panel" sChg f fd) (T : TxtD K mg C)
    {fShow : Addr} {fdShow : FuncData} (GShow0 : ∀ k0 : Nat, FnOk P w K mg base CX0 (k0 + 6) fShow fdShow ["self", "panel", "latched"] (spShow K C)) (bShow : Binds K fdShow ["self", "panel", "latched"] []) (hShow : Meth K C "show" fShow)
    {fAdd : Addr} {fdAdd : FuncData} (FAdd : Fun K "add_edit" "Desk.add_edit" sAdd fAdd fdAdd) (bAdd : Binds K fdAdd ["self", "edit", "panel", "latched"] []) (hAdd : Meth K C "add_edit" fAdd)
    (m_len : mg "len" = none) : FnOk P w K mg base CX0 (k + 8) f fd ["self", "edit", "panel"] (spChg K C) := by
  have GAdd : FnOk P w K mg base CX0 (k + 7) fAdd fdAdd ["self", "edit", "panel", "latched"] (spAdd K C) := ok_Add FAdd T  GShow0 bShow hShow m_len
  refine F.ok scChg (fun vs H Q E h => ?_) (fun cdv A outer s H vs Q E hr h => ?_)
  · obtain ⟨t, pan, st, past, ve, de, p', pan', rfl, _⟩ := h
    rfl
  · refine ⟨_, pss_cons (ps_if (pt_cmpR (show OpR _ _ (rEqD K) from op_eqD hr.units) (pv 2) (pe_fld (pv 0) rfl) (nomark _)) (pss_one ps_never) pss_nil)
      (pss_one (ps_ret (pe_meth (pv 0) T.cl hAdd GAdd (hr.mono (by omega)) bAdd .nil pass0 (pa_cons (pv 1) (pa_cons (pv 2) (pa_cons (pe_fld (pv 0) rfl) pa_nil)))))), hide1 fun t0 ht0 => ?_⟩
    obtain ⟨t, pan, st, past, ve, de, p', pan', rfl, hD, few, dve, lde, ped, hp', hg', hpl, hne, q⟩ := h
    have hD' := hD
    obtain ⟨⟨dx, pa, p, l, hh, hs, kn, h1, h2, h3, h4, h5, h6, h7⟩, hg, hst, lfe⟩ := hD'
    refine ht0 _ _ _ ?_
    refine gs_no (gvt_test (K := K) (gv_eqD (gv_var rfl hp'.dp) (gv_panel T rfl hD) (shp_rowsT _) (shp_rowsT _))) ((eqv_rowsT _ _).trans (decide_eq_false hne)) fun H1 s1 => ?_
    refine ⟨.ref t, rfl, t, dx, _, rfl, s1 _ _ h1, by rfl, ve, rfl, .ref p', rfl, .ref t, rfl, t, C, dx, _, .ref l, rfl, s1 _ _ h1, T.cl, T.nL, look_latched _ _ _ _ _, t, pan, st, past, ve, de, p', l, pan', st, rfl, hD.same s1, few, dve.sm s1, lde, ped, hpl, hp'.same s1, hg', s1 _ _ h4, by rw [hpl]; exact hst, fun H2 k2 hN => q H2 ((ButO.of s1).trans k2) hN⟩
end
def nPressD : List Str := ["self", "button", "latched"]
theorem scPressD : FnScope nPressD ["self", "button"] (defScope sPressD) := ⟨rfl, rfl, rfl, by decide +kernel, rfl, by decide +kernel, by decide +kernel⟩
section
variable {P : Program} {w : World} {K : PySem.W.Frag} {mg : Str → Option Value} {base : Heap}
def spPressD (K : PySem.W.Frag) (C : Addr) : Sp := fun vs H Q _ => ∃ (t : Addr) (pan : List (List Int)) (st : List Int) (past : List (PyData × List (List Int) × List Int)) (b : Int), vs = [.ref t, .int b] ∧ DeskAt K C H t pan st past ∧ past.length < 60 ∧ 0 ≤ b ∧ b < (pan.length : Int) ∧
  ∀ H', ButO t H H' → DeskAt K C H' t pan (pressM pan st b) (past ++ [(.tuple [.str "press", .int b], pan, st)]) → Q (.int ((past.length + 1 : Nat) : Int)) H'
theorem ok_PressD {fBtn : Addr} {fdBtn : FuncData} {fPress : Addr} {fdPress : FuncData} {fChkB : Addr} {fdChkB : FuncData} {C f : Addr} {fd : FuncData} {k : Nat} (F : Fun K "press" "Desk.press" sPressD f fd) (T : TxtD K mg C)
    (FBtn : Fun K "is_button" "is_button" sBtn fBtn fdBtn) (bBtn : Binds K fdBtn ["value", "many"] []) (gBtn : mg "is_button" = some (.ref fBtn))
    (FPress : Fun K "press_button" "press_button" sPress fPress fdPress) (bPress : Binds K fdPress ["panel", "state", "button"] []) (gPress : mg "press_button" = some (.ref fPress))
    (FChkB : Fun K "check_button" "check_button" sChkB fChkB fdChkB) (bChkB : Binds K fdChkB ["panel", "value"] []) (gChkB : mg "check_button" = some (.ref fChkB))
    {fFree : Addr} {fdFree : FuncData} (FFree : Fun K "check_free" "Desk.check_free" sFree fFree fdFree) (bFree : Binds K fdFree ["self"] []) (hFree : Meth K C "check_free" fFree)
    {fRoom : Addr} {fdRoom : FuncData} (FRoom : Fun K "check_room" "Desk.check_room" sRoom fRoom fdRoom) (bRoom : Binds K fdRoom ["self"] []) (hRoom : Meth K C "check_room" fRoom)
    {fShow : Addr} {fdShow : FuncData} (GShow0 : ∀ k0 : Nat, FnOk P w K mg base CX0 (k0 + 6) fShow fdShow ["self", "panel", "latched"] (spShow K C)) (bShow : Binds K fdShow ["self", "panel", "latched"] []) (hShow : Meth K C "show" fShow)
    {fAdd : Addr} {fdAdd : FuncData} (FAdd : Fun K "add_edit" "Desk.add_edit" sAdd fAdd fdAdd) (bAdd : Binds K fdAdd ["self", "edit", "panel", "latched"] []) (hAdd : Meth K C "add_edit" fAdd)
    (m_bool : mg "bool" = none) (m_int : mg "int" = none) (m_isinstance : mg "isinstance" = none) (m_len : mg "len" = none) (m_sorted : mg "sorted" = none) (m_tuple : mg "tuple" = none) : FnOk P w K mg base CX0 (k + 8) f fd ["self", "button"] (spPressD K C) := by
  have GChkB : FnOk P w K mg base CX0 (k + 2) fChkB fdChkB ["panel", "value"] (spChkB K) := ok_ChkB FChkB FBtn bBtn gBtn m_bool m_int m_isinstance m_len
  have GPress : FnOk P w K mg base CX0 (k + 1) fPress fdPress ["panel", "state", "button"] (spPress K) := ok_Press FPress m_sorted m_tuple
  have GRoom : FnOk P w K mg base CX0 (k + 2) fRoom fdRoom ["self"] (spRoom K C) := ok_Room FRoom T  FFree bFree hFree m_len
  have GAdd : FnOk P w K mg base CX0 (k + 7) fAdd fdAdd ["self", "edit", "panel", "latched"] (spAdd K C) := ok_Add FAdd T  GShow0 bShow hShow m_len
  refine F.ok scPressD (fun vs H Q E h => ?_) (fun cdv A outer s H vs Q E hr h => ?_)
  · obtain ⟨t, pan, st, past, b, rfl, _⟩ := h
    rfl
  · refine ⟨_, pss_cons (ps_expr (pe_meth0 (pv 0) T.cl hRoom GRoom (hr.mono (by omega)) bRoom .nil pass0))
      (pss_cons (ps_expr (pe_call GChkB (hr.mono (by omega)) (by rfl) gChkB FChkB.kp bChkB .nil pass0 (pa_cons (pe_fld (pv 0) rfl) (pa_cons (pv 1) pa_nil))))
      (pss_cons (ps_set (i := 2) scPressD.nd rfl (.inl rfl) (pe_call GPress (hr.mono (by omega)) (by rfl) gPress FPress.kp bPress .nil pass0 (pa_cons (pe_fld (pv 0) rfl) (pa_cons (pe_fld (pv 0) rfl) (pa_cons (pv 1) pa_nil)))))
      (pss_one (ps_ret (pe_meth (pv 0) T.cl hAdd GAdd (hr.mono (by omega)) bAdd .nil pass0 (pa_cons (pe_tup (pa_cons pe_str (pa_cons (pv 1) pa_nil))) (pa_cons (pe_fld (pv 0) rfl) (pa_cons (pv 2) pa_nil)))))))), hide1 fun t0 ht0 => ?_⟩
    obtain ⟨t, pan, st, past, b, rfl, hD, few, b0, b1, q⟩ := h
    have hD' := hD
    obtain ⟨⟨dx, pa, p, l, hh, hs, kn, h1, h2, h3, h4, h5, h6, h7⟩, hg, hst, lfe⟩ := hD'
    refine ht0 _ _ _ ?_
    refine seq_hide fun u1 hu1 => ?_
    refine ⟨.ref t, rfl, t, dx, _, rfl, h1, by rfl, t, pan, st, past, rfl, hD, few, fun H1 s1 => ?_⟩
    refine hu1 _ _ _ (seq_hide fun u2 hu2 => ?_)
    refine ⟨.ref t, rfl, t, C, dx, _, .ref p, rfl, s1 _ _ h1, T.cl, T.nP, look_panel _ _ _ _ _, .int b, rfl, p, pan, b, rfl, h3.same s1, b0, b1, fun H2 s2 => ?_⟩
    refine hu2 _ _ _ (seq_hide fun u3 hu3 => ?_)
    have s12 := s1.trans s2
    have e2 := s12 _ _ h1
    refine ⟨.ref t, rfl, t, C, dx, _, .ref p, rfl, e2, T.cl, T.nP, look_panel _ _ _ _ _, .ref t, rfl, t, C, dx, _, .ref l, rfl, e2, T.cl, T.nL, look_latched _ _ _ _ _, .int b, rfl, pan, st, b, .cons (h3.same s12).dp (.cons (dp_ints (.inl (.inl (s12 _ _ h4)))) (.cons (.int _) .nil)), hst, hg.few, b0, b1, fun H3 l' s3 el => ?_⟩
    refine hu3 _ _ _ ?_
    have s13 := s12.trans s3
    have e3 := s13 _ _ h1
    refine ⟨.ref t, rfl, t, dx, _, rfl, e3, by rfl, .int b, rfl, by show 2 ≤ sizeLine; decide, fun Te nTe => ?_⟩
    have sTe := same_new (o := .tup [.str "press", .int b]) nTe
    have s14 := s13.trans sTe
    refine ⟨.ref t, rfl, t, C, dx, _, .ref p, rfl, s14 _ _ h1, T.cl, T.nP, look_panel _ _ _ _ _, .ref l', rfl, t, pan, st, past, .ref Te, _, p, l', pan, pressM pan st b, rfl, hD.same s14, by omega, .tup (.inl (.inl upd_same)) (.cons (.str _) (.cons (.int _) .nil)), rfl, ⟨rfl, .inl ⟨b, rfl, b0, b1⟩⟩, rfl, h3.same s14, hg, sTe _ _ el, pressM_asc _ _ _, fun H5 k5 hN => q H5 ((ButO.of s14).trans k5) hN⟩
end
end K54
namespace Pr
open PySem PySem.Spec PyProof.Rows L2
theorem srt_mem {l : List Int} {x : Int} : x ∈ srt l ↔ x ∈ l := (srt_perm l).mem_iff
theorem srt_asc {l : List Int} (nd : l.Nodup) : (srt l).Pairwise (· < ·) := by
  have nd' : (srt l).Nodup := (srt_perm l).nodup_iff.mpr nd
  exact (List.Pairwise.and (srt_up l) nd').imp fun {a b} h => by have := h.1; have := h.2; omega
end Pr
namespace K54
open PySem PySem.Spec PyProof.Rows L2 Pr
theorem set_mem {pan : List (List Int)} {i : Nat} {x l : List Int} (h : l ∈ pan.set i x) : l = x ∨ l ∈ pan := by
  rcases List.mem_or_eq_of_mem_set h with h | h
  · exact .inr h
  · exact .inl h
theorem good_set {pan : List (List Int)} (g : Good pan) {i : Nat} {x : List Int} (hi : i < pan.length) (up : x.Pairwise (· < ·)) (rng : ∀ y ∈ x, 0 ≤ y ∧ y < (pan.length : Int)) (own : (i : Int) ∉ x) : Good (pan.set i x) := by
  have hl : (pan.set i x).length = pan.length := List.length_set
  refine ⟨by rw [hl]; exact g.pos, by rw [hl]; exact g.few, fun l h => ?_, fun l h => ?_, fun j l h => ?_⟩
  · rcases set_mem h with rfl | h
    · exact up
    · exact g.up l h
  · rw [hl]
    rcases set_mem h with rfl | h
    · exact rng
    · exact g.rng l h
  · rw [List.getElem?_set] at h
    by_cases e : i = j
    · rw [if_pos e, if_pos hi] at h
      cases h
      rw [← e]; exact own
    · rw [if_neg e] at h
      exact g.own j l h
theorem rel_mem {pan : List (List Int)} {i : Nat} (hi : i < pan.length) : pan.getD i [] ∈ pan := by
  rw [List.getD_eq_getElem?_getD, List.getElem?_eq_getElem hi]; exact List.getElem_mem hi
theorem good_li {pan : List (List Int)} (g : Good pan) {one other : Int} (h : InP2 pan one other) (hn : other ∉ pan.getD one.toNat []) : Good (liM pan one other) ∧ (liM pan one other).length = pan.length ∧ liM pan one other ≠ pan := by
  obtain ⟨o0, o1, u0, u1, ne⟩ := h
  have hi : one.toNat < pan.length := by omega
  have e : liM pan one other = pan.set one.toNat (srt (pan.getD one.toNat [] ++ [other])) := by unfold liM; rw [if_neg hn]
  have hm := rel_mem hi
  have up := g.up _ hm
  rw [e]
  have nd : (pan.getD one.toNat [] ++ [other]).Nodup := by
    rw [List.nodup_append]
    refine ⟨up.imp fun {a b} h => by omega, by simp, fun x hx y hy z => ?_⟩
    rw [List.mem_singleton.mp hy] at z
    exact hn (z ▸ hx)
  have mem : ∀ x, x ∈ srt (pan.getD one.toNat [] ++ [other]) ↔ x ∈ pan.getD one.toNat [] ∨ x = other := fun x => by rw [srt_mem, List.mem_append, List.mem_singleton]
  refine ⟨good_set g hi (srt_asc nd) (fun y hy => ?_) (fun h => ?_), List.length_set, fun z => ?_⟩
  · rcases (mem y).mp hy with h | rfl
    · exact g.rng _ hm y h
    · exact ⟨u0, u1⟩
  · rcases (mem _).mp h with h | h
    · exact g.own' (b := one) o0 o1 (by rwa [show ((one.toNat : Nat) : Int) = one by omega] at h)
    · omega
  · have : (pan.set one.toNat (srt (pan.getD one.toNat [] ++ [other]))).getD one.toNat [] = pan.getD one.toNat [] := by rw [z]
    rw [List.getD_eq_getElem?_getD, List.getElem?_set, if_pos rfl, if_pos hi] at this
    replace this : srt (pan.getD one.toNat [] ++ [other]) = pan.getD one.toNat [] := this
    exact hn (by rw [← this]; exact (mem other).mpr (.inr rfl))
theorem good_un {pan : List (List Int)} (g : Good pan) {one other : Int} (h : InP2 pan one other) (hn : other ∈ pan.getD one.toNat []) : Good (unM pan one other) ∧ (unM pan one other).length = pan.length ∧ unM pan one other ≠ pan := by
  obtain ⟨o0, o1, u0, u1, ne⟩ := h
  have hi : one.toNat < pan.length := by omega
  have e : unM pan one other = pan.set one.toNat ((pan.getD one.toNat []).filter fun x => !decide (x = other)) := by unfold unM; rw [if_pos hn]
  have hm := rel_mem hi
  rw [e]
  refine ⟨good_set g hi ((g.up _ hm).filter _) (fun y hy => g.rng _ hm y (List.mem_filter.mp hy).1) (fun h => ?_), List.length_set, fun z => ?_⟩
  · exact g.own' (b := one) o0 o1 (by have := (List.mem_filter.mp h).1; rwa [show ((one.toNat : Nat) : Int) = one by omega] at this)
  · have : (pan.set one.toNat ((pan.getD one.toNat []).filter fun x => !decide (x = other))).getD one.toNat [] = pan.getD one.toNat [] := by rw [z]
    rw [List.getD_eq_getElem?_getD, List.getElem?_set, if_pos rfl, if_pos hi] at this
    replace this : (pan.getD one.toNat []).filter (fun x => !decide (x = other)) = pan.getD one.toNat [] := this
    rw [← this] at hn
    simpa using (List.mem_filter.mp hn).2
theorem pan_ok {pan : List (List Int)} (g : Good pan) : pan.length ≤ 100 ∧ ∀ l ∈ pan, l.length ≤ 60 := ⟨by have := g.few; omega, fun l hl => by
  have := pw_length (n := 10) (lo := 0) (g.up l hl) fun x hx => by have := g.rng l hl x hx; have := g.few; omega
  omega⟩
def dLk (w : Str) (one other : Int) : PyData := .tuple [.str w, .int one, .int other]
def nLink : List Str := ["self", "one", "other"]
theorem scLink : FnScope nLink ["self", "one", "other"] (defScope sLink) := ⟨rfl, rfl, rfl, by decide +kernel, rfl, by decide +kernel, by decide +kernel⟩
section
variable {P : Program} {w : World} {K : PySem.W.Frag} {mg : Str → Option Value} {base : Heap}
def spLink (K : PySem.W.Frag) (C : Addr) : Sp := fun vs H Q _ => ∃ (t : Addr) (pan : List (List Int)) (st : List Int) (past : List (PyData × List (List Int) × List Int)) (one other : Int), vs = [.ref t, .int one, .int other] ∧ DeskAt K C H t pan st past ∧ past.length < 60 ∧ InP2 pan one other ∧ other ∉ pan.getD one.toNat [] ∧
  ∀ H', ButO t H H' → DeskAt K C H' t (liM pan one other) st (past ++ [(dLk "link" one other, pan, st)]) → Q (.int ((past.length + 1 : Nat) : Int)) H'
theorem ok_Link {fWl : Addr} {fdWl : FuncData} {fLi : Addr} {fdLi : FuncData} {fBtn : Addr} {fdBtn : FuncData} {fChkB : Addr} {fdChkB : FuncData} {C f : Addr} {fd : FuncData} {k : Nat} (F : Fun K "link" "Desk.link" sLink f fd) (T : TxtD K mg C)
    (FWl : Fun K "with_list" "with_list" sWl fWl fdWl) (bWl : Binds K fdWl ["panel", "button", "released"] []) (gWl : mg "with_list" = some (.ref fWl))
    (FLi : Fun K "linked" "linked" sLi fLi fdLi) (bLi : Binds K fdLi ["panel", "one", "other"] []) (gLi : mg "linked" = some (.ref fLi))
    (FBtn : Fun K "is_button" "is_button" sBtn fBtn fdBtn) (bBtn : Binds K fdBtn ["value", "many"] []) (gBtn : mg "is_button" = some (.ref fBtn))
    (FChkB : Fun K "check_button" "check_button" sChkB fChkB fdChkB) (bChkB : Binds K fdChkB ["panel", "value"] []) (gChkB : mg "check_button" = some (.ref fChkB))
    {fFree : Addr} {fdFree : FuncData} (FFree : Fun K "check_free" "Desk.check_free" sFree fFree fdFree) (bFree : Binds K fdFree ["self"] []) (hFree : Meth K C "check_free" fFree)
    {fRoom : Addr} {fdRoom : FuncData} (FRoom : Fun K "check_room" "Desk.check_room" sRoom fRoom fdRoom) (bRoom : Binds K fdRoom ["self"] []) (hRoom : Meth K C "check_room" fRoom)
    {fLink0 : Addr} {fdLink0 : FuncData} (FLink0 : Fun K "check_link" "Desk.check_link" sLink0 fLink0 fdLink0) (bLink0 : Binds K fdLink0 ["self", "one", "other"] []) (hLink0 : Meth K C "check_link" fLink0)
    {fShow : Addr} {fdShow : FuncData} (GShow0 : ∀ k0 : Nat, FnOk P w K mg base CX0 (k0 + 6) fShow fdShow ["self", "panel", "latched"] (spShow K C)) (bShow : Binds K fdShow ["self", "panel", "latched"] []) (hShow : Meth K C "show" fShow)
    {fAdd : Addr} {fdAdd : FuncData} (FAdd : Fun K "add_edit" "Desk.add_edit" sAdd fAdd fdAdd) (bAdd : Binds K fdAdd ["self", "edit", "panel", "latched"] []) (hAdd : Meth K C "add_edit" fAdd)
    {fChg : Addr} {fdChg : FuncData} (FChg : Fun K "change_panel" "Desk.change_panel" sChg fChg fdChg) (bChg : Binds K fdChg ["self", "edit", "panel"] []) (hChg : Meth K C "change_panel" fChg)
    (m_bool : mg "bool" = none) (m_enumerate : mg "enumerate" = none) (m_int : mg "int" = none) (m_isinstance : mg "isinstance" = none) (m_len : mg "len" = none) (m_sorted : mg "sorted" = none) (m_tuple : mg "tuple" = none) : FnOk P w K mg base CX0 (k + 9) f fd ["self", "one", "other"] (spLink K C) := by
  have GLi : FnOk P w K mg base CX0 (k + 2) fLi fdLi ["panel", "one", "other"] (spLi K) := ok_Li FLi FWl bWl gWl m_enumerate m_sorted m_tuple
  have GLink0 : FnOk P w K mg base CX0 (k + 3) fLink0 fdLink0 ["self", "one", "other"] (spLink0 K C) := ok_Link0 FLink0 T FBtn bBtn gBtn FChkB bChkB gChkB FFree bFree hFree FRoom bRoom hRoom m_bool m_int m_isinstance m_len
  have GChg : FnOk P w K mg base CX0 (k + 8) fChg fdChg ["self", "edit", "panel"] (spChg K C) := ok_Chg FChg T  GShow0 bShow hShow FAdd bAdd hAdd m_len
  refine F.ok scLink (fun vs H Q E h => ?_) (fun cdv A outer s H vs Q E hr h => ?_)
  · obtain ⟨t, pan, st, past, one, other, rfl, _⟩ := h
    rfl
  · refine ⟨_, pss_cons (ps_expr (pe_meth (pv 0) T.cl hLink0 GLink0 (hr.mono (by omega)) bLink0 .nil pass0 (pa_cons (pv 1) (pa_cons (pv 2) pa_nil))))
      (pss_one (ps_ret (pe_meth (pv 0) T.cl hChg GChg (hr.mono (by omega)) bChg .nil pass0 (pa_cons (pe_tup (pa_cons pe_str (pa_cons (pv 1) (pa_cons (pv 2) pa_nil)))) (pa_cons (pe_call GLi (hr.mono (by omega)) (by rfl) gLi FLi.kp bLi .nil pass0 (pa_cons (pe_fld (pv 0) rfl) (pa_cons (pv 1) (pa_cons (pv 2) pa_nil)))) pa_nil))))), hide1 fun t0 ht0 => ?_⟩
    obtain ⟨t, pan, st, past, one, other, rfl, hD, few, hI, hn, q⟩ := h
    have hD' := hD
    obtain ⟨⟨dx, pa, p, l, hh, hs, kn, h1, h2, h3, h4, h5, h6, h7⟩, hg, hst, lfe⟩ := hD'
    refine ht0 _ _ _ ?_
    refine ⟨.ref t, rfl, t, dx, _, rfl, h1, by rfl, .int one, rfl, .int other, rfl, t, pan, st, past, one, other, rfl, hD, few, hI, fun H1 s1 => ?_⟩
    obtain ⟨g', l', n'⟩ := good_li hg hI hn
    have e1 := s1 _ _ h1
    refine ⟨.ref t, rfl, t, dx, _, rfl, e1, by rfl, .int one, rfl, .int other, rfl, by show 3 ≤ sizeLine; decide, fun Te nTe => ?_⟩
    have sTe := same_new (o := .tup [.str "link", .int one, .int other]) nTe
    have hD2 := (hD.same s1).same sTe
    refine (gv_Li (K := K) (gva_cons (gv_panel (i := 0) T rfl hD2) (gva_cons (gv_var (i := 1) rfl (.int one)) (gva_cons (gv_var (i := 2) rfl (.int other)) gva_nil))) ⟨(pan_ok hg).1, (pan_ok hg).2, hI.1, hI.2.1⟩).at fun v H3 s3 dv => ?_
    obtain ⟨p', rfl, hp'⟩ := panT_dp dv
    have s13 := (s1.trans sTe).trans s3
    exact ⟨t, pan, st, past, .ref Te, dLk "link" one other, p', _, rfl, hD.same s13, by omega, .tup (.inl (.inl (s3 _ _ upd_same))) (.cons (.str _) (.cons (.int _) (.cons (.int _) .nil))), rfl, ⟨rfl, .inr ⟨_, one, other, by decide +kernel, rfl⟩⟩, hp', g', l', n', fun H4 k4 hN => q H4 ((ButO.of s13).trans k4) hN⟩
end
def nUnlink : List Str := ["self", "one", "other"]
theorem scUnlink : FnScope nUnlink ["self", "one", "other"] (defScope sUnlink) := ⟨rfl, rfl, rfl, by decide +kernel, rfl, by decide +kernel, by decide +kernel⟩
section
variable {P : Program} {w : World} {K : PySem.W.Frag} {mg : Str → Option Value} {base : Heap}
def spUnlink (K : PySem.W.Frag) (C : Addr) : Sp := fun vs H Q _ => ∃ (t : Addr) (pan : List (List Int)) (st : List Int) (past : List (PyData × List (List Int) × List Int)) (one other : Int), vs = [.ref t, .int one, .int other] ∧ DeskAt K C H t pan st past ∧ past.length < 60 ∧ InP2 pan one other ∧ other ∈ pan.getD one.toNat [] ∧
  ∀ H', ButO t H H' → DeskAt K C H' t (unM pan one other) st (past ++ [(dLk "unlink" one other, pan, st)]) → Q (.int ((past.length + 1 : Nat) : Int)) H'
theorem ok_Unlink {fWl : Addr} {fdWl : FuncData} {fUn : Addr} {fdUn : FuncData} {fBtn : Addr} {fdBtn : FuncData} {fChkB : Addr} {fdChkB : FuncData} {C f : Addr} {fd : FuncData} {k : Nat} (F : Fun K "unlink" "Desk.unlink" sUnlink f fd) (T : TxtD K mg C)
    (FWl : Fun K "with_list" "with_list" sWl fWl fdWl) (bWl : Binds K fdWl ["panel", "button", "released"] []) (gWl : mg "with_list" = some (.ref fWl))
    (FUn : Fun K "unlinked" "unlinked" sUn fUn fdUn) (bUn : Binds K fdUn ["panel", "one", "other"] []) (gUn : mg "unlinked" = some (.ref fUn))
    (FBtn : Fun K "is_button" "is_button" sBtn fBtn fdBtn) (bBtn : Binds K fdBtn ["value", "many"] []) (gBtn : mg "is_button" = some (.ref fBtn))
    (FChkB : Fun K "check_button" "check_button" sChkB fChkB fdChkB) (bChkB : Binds K fdChkB ["panel", "value"] []) (gChkB : mg "check_button" = some (.ref fChkB))
    {fFree : Addr} {fdFree : FuncData} (FFree : Fun K "check_free" "Desk.check_free" sFree fFree fdFree) (bFree : Binds K fdFree ["self"] []) (hFree : Meth K C "check_free" fFree)
    {fRoom : Addr} {fdRoom : FuncData} (FRoom : Fun K "check_room" "Desk.check_room" sRoom fRoom fdRoom) (bRoom : Binds K fdRoom ["self"] []) (hRoom : Meth K C "check_room" fRoom)
    {fLink0 : Addr} {fdLink0 : FuncData} (FLink0 : Fun K "check_link" "Desk.check_link" sLink0 fLink0 fdLink0) (bLink0 : Binds K fdLink0 ["self", "one", "other"] []) (hLink0 : Meth K C "check_link" fLink0)
    {fShow : Addr} {fdShow : FuncData} (GShow0 : ∀ k0 : Nat, FnOk P w K mg base CX0 (k0 + 6) fShow fdShow ["self", "panel", "latched"] (spShow K C)) (bShow : Binds K fdShow ["self", "panel", "latched"] []) (hShow : Meth K C "show" fShow)
    {fAdd : Addr} {fdAdd : FuncData} (FAdd : Fun K "add_edit" "Desk.add_edit" sAdd fAdd fdAdd) (bAdd : Binds K fdAdd ["self", "edit", "panel", "latched"] []) (hAdd : Meth K C "add_edit" fAdd)
    {fChg : Addr} {fdChg : FuncData} (FChg : Fun K "change_panel" "Desk.change_panel" sChg fChg fdChg) (bChg : Binds K fdChg ["self", "edit", "panel"] []) (hChg : Meth K C "change_panel" fChg)
    (m_bool : mg "bool" = none) (m_enumerate : mg "enumerate" = none) (m_int : mg "int" = none) (m_isinstance : mg "isinstance" = none) (m_len : mg "len" = none) (m_tuple : mg "tuple" = none) : FnOk P w K mg base CX0 (k + 9) f fd ["self", "one", "other"] (spUnlink K C) := by
  have GUn : FnOk P w K mg base CX0 (k + 2) fUn fdUn ["panel", "one", "other"] (spUn K) := ok_Un FUn FWl bWl gWl m_enumerate m_tuple
  have GLink0 : FnOk P w K mg base CX0 (k + 3) fLink0 fdLink0 ["self", "one", "other"] (spLink0 K C) := ok_Link0 FLink0 T FBtn bBtn gBtn FChkB bChkB gChkB FFree bFree hFree FRoom bRoom hRoom m_bool m_int m_isinstance m_len
  have GChg : FnOk P w K mg base CX0 (k + 8) fChg fdChg ["self", "edit", "panel"] (spChg K C) := ok_Chg FChg T  GShow0 bShow hShow FAdd bAdd hAdd m_len
  refine F.ok scUnlink (fun vs H Q E h => ?_) (fun cdv A outer s H vs Q E hr h => ?_)
  · obtain ⟨t, pan, st, past, one, other, rfl, _⟩ := h
    rfl
  · refine ⟨_, pss_cons (ps_expr (pe_meth (pv 0) T.cl hLink0 GLink0 (hr.mono (by omega)) bLink0 .nil pass0 (pa_cons (pv 1) (pa_cons (pv 2) pa_nil))))
      (pss_one (ps_ret (pe_meth (pv 0) T.cl hChg GChg (hr.mono (by omega)) bChg .nil pass0 (pa_cons (pe_tup (pa_cons pe_str (pa_cons (pv 1) (pa_cons (pv 2) pa_nil)))) (pa_cons (pe_call GUn (hr.mono (by omega)) (by rfl) gUn FUn.kp bUn .nil pass0 (pa_cons (pe_fld (pv 0) rfl) (pa_cons (pv 1) (pa_cons (pv 2) pa_nil)))) pa_nil))))), hide1 fun t0 ht0 => ?_⟩
    obtain ⟨t, pan, st, past, one, other, rfl, hD, few, hI, hn, q⟩ := h
    have hD' := hD
    obtain ⟨⟨dx, pa, p, l, hh, hs, kn, h1, h2, h3, h4, h5, h6, h7⟩, hg, hst, lfe⟩ := hD'
    refine ht0 _ _ _ ?_
    refine ⟨.ref t, rfl, t, dx, _, rfl, h1, by rfl, .int one, rfl, .int other, rfl, t, pan, st, past, one, other, rfl, hD, few, hI, fun H1 s1 => ?_⟩
    obtain ⟨g', l', n'⟩ := good_un hg hI hn
    have e1 := s1 _ _ h1
    refine ⟨.ref t, rfl, t, dx, _, rfl, e1, by rfl, .int one, rfl, .int other, rfl, by show 3 ≤ sizeLine; decide, fun Te nTe => ?_⟩
    have sTe := same_new (o := .tup [.str "unlink", .int one, .int other]) nTe
    have hD2 := (hD.same s1).same sTe
    refine (gv_Un (K := K) (gva_cons (gv_panel (i := 0) T rfl hD2) (gva_cons (gv_var (i := 1) rfl (.int one)) (gva_cons (gv_var (i := 2) rfl (.int other)) gva_nil))) ⟨(pan_ok hg).1, (pan_ok hg).2, hI.1, hI.2.1⟩).at fun v H3 s3 dv => ?_
    obtain ⟨p', rfl, hp'⟩ := panT_dp dv
    have s13 := (s1.trans sTe).trans s3
    exact ⟨t, pan, st, past, .ref Te, dLk "unlink" one other, p', _, rfl, hD.same s13, by omega, .tup (.inl (.inl (s3 _ _ upd_same))) (.cons (.str _) (.cons (.int _) (.cons (.int _) .nil))), rfl, ⟨rfl, .inr ⟨_, one, other, by decide +kernel, rfl⟩⟩, hp', g', l', n', fun H4 k4 hN => q H4 ((ButO.of s13).trans k4) hN⟩
end
def nEdits : List Str := ["self", "edit", "panel", "latched"]
theorem scEdits : FnScope nEdits ["self"] (defScope sEdits) := ⟨rfl, rfl, rfl, by decide +kernel, rfl, by decide +kernel, by decide +kernel⟩
section
variable {P : Program} {w : World} {K : PySem.W.Frag} {mg : Str → Option Value} {base : Heap}
def spEdits (K : PySem.W.Frag) (C : Addr) : Sp := fun vs H Q _ => ∃ (t : Addr) (pan : List (List Int)) (st : List Int) (past : List (PyData × List (List Int) × List Int)), vs = [.ref t] ∧ DeskAt K C H t pan st past ∧ past.length ≤ 1000 ∧ ∀ H' v, Same H H' → Dp K H' v (.tuple (past.map (·.1))) → Q v H'
theorem ok_Edits  {C f : Addr} {fd : FuncData} {k : Nat} (F : Fun K "edits" "Desk.edits" sEdits f fd) (T : TxtD K mg C)
    (m_tuple : mg "tuple" = none) : FnOk P w K mg base CX0 (k + 1) f fd ["self"] (spEdits K C) := by
  refine F.ok scEdits (fun vs H Q E h => ?_) (fun cdv A outer s H vs Q E hr h => ?_)
  · obtain ⟨t, pan, st, past, rfl, _⟩ := h
    rfl
  · refine ⟨_, pss_one (ps_ret (pe_callTy (show CallR _ _ (rTupG K) from cr_tupG) (by rfl) m_tuple (by decide +kernel) (pa_cons (pe_lc (own := [("edit", 1), ("panel", 2), ("latched", 3)]) (g := gTup K 3 (gCons (gName 1) (gCons (gName 2) (gCons (gName 3) gNil)))) (tt := tYes) rfl scEdits.nd (show PI _ _ _ (iTup K _) from pi_tup (pe_fld (pv 0) rfl)) (blkOk_by (own := [("edit", 1), ("panel", 2), ("latched", 3)]) (N := nEdits) (sc := defScope sEdits) (by decide +kernel)) (fun _ _ _ _ _ => pg_tup rfl (pgs_cons (pg_name (i := 1) scEdits.nd rfl (Or.inl rfl)) (pgs_cons (pg_name (i := 2) scEdits.nd rfl (Or.inl rfl)) (pgs_cons (pg_name (i := 3) scEdits.nd rfl (Or.inl rfl)) pgs_nil)))) (fun _ _ _ _ _ => pts_nil) (fun _ _ _ _ _ => pv 1)) pa_nil))), hide1 fun t0 ht0 => ?_⟩
    obtain ⟨t, pan, st, past, rfl, hD, few, q⟩ := h
    have hD' := hD
    obtain ⟨⟨dx, pa, p, l, hh, hs, kn, h1, h2, h3, h4, h5, h6, h7⟩, hg, hst, lfe⟩ := hD'
    refine ht0 _ _ _ ?_
    refine gs_ret (K := K) (gv_tupL ((gn_lc3 (δ1 := fun x : PyData × List (List Int) × List Int => x.1) (δ2 := fun x => dPan x.2.1) (δ3 := fun x => dInts x.2.2) (as := past) (p := fun _ => true) (f := fun x => x.1) (gvi_tup (gv_past T rfl hD)) (fun x v u w H1 hx s1 dv du dw => ⟨gvt_yes, fun _ => gv_var rfl dv⟩) (fun x hx => (lfe x hx).1) (by omega) (by decide) (by decide) (by decide)).gv)) fun v H1 s1 dv => q H1 v s1 ?_
    rwa [List.filter_eq_self.mpr (fun _ _ => rfl)] at dv
end
def nLenD : List Str := ["self"]
theorem scLenD : FnScope nLenD ["self"] (defScope sLenD) := ⟨rfl, rfl, rfl, by decide +kernel, rfl, by decide +kernel, by decide +kernel⟩
section
variable {P : Program} {w : World} {K : PySem.W.Frag} {mg : Str → Option Value} {base : Heap}
def spLenD (K : PySem.W.Frag) (C : Addr) : Sp := fun vs H Q _ => ∃ (t : Addr) (pan : List (List Int)) (st : List Int) (past : List (PyData × List (List Int) × List Int)), vs = [.ref t] ∧ DeskAt K C H t pan st past ∧ ∀ H', Same H H' → Q (.int (past.length : Nat)) H'
theorem ok_LenD  {C f : Addr} {fd : FuncData} {k : Nat} (F : Fun K "__len__" "Desk.__len__" sLenD f fd) (T : TxtD K mg C)
    (m_len : mg "len" = none) : FnOk P w K mg base CX0 (k + 1) f fd ["self"] (spLenD K C) := by
  refine F.ok scLenD (fun vs H Q E h => ?_) (fun cdv A outer s H vs Q E hr h => ?_)
  · obtain ⟨t, pan, st, past, rfl, _⟩ := h
    rfl
  · refine ⟨_, pss_one (ps_ret (pe_callB (show CallR _ _ (rLenG K) from cr_lenG) (by rfl) m_len PySem.boot_len (pa_cons (pe_fld (pv 0) rfl) pa_nil))), hide1 fun t0 ht0 => ?_⟩
    obtain ⟨t, pan, st, past, rfl, hD, q⟩ := h
    have hD' := hD
    obtain ⟨⟨dx, pa, p, l, hh, hs, kn, h1, h2, h3, h4, h5, h6, h7⟩, hg, hst, lfe⟩ := hD'
    refine ht0 _ _ _ ?_
    refine gs_ret (K := K) (gv_lenT (gv_past T rfl hD)) fun v H1 s1 dv => ?_
    cases dv
    rw [List.length_map]
    exact q H1 s1
end
theorem len_num (n : Nat) (h : n ≤ 1000) : ((toString (n : Int) : Str)).length ≤ 10 := by
  have : ∀ n < 1001, ((toString ((n : Nat) : Int) : Str)).length ≤ 10 := by decide +kernel
  exact this n (by omega)
theorem log_num (n : Nat) (h : n ≤ 1000) : ((n : Int)).natAbs.log2 < 1920 := by
  have : ∀ n < 1001, (((n : Nat) : Int)).natAbs.log2 < 1920 := by decide +kernel
  exact this n (by omega)
def txtD (a b c : Nat) : Str := ((((((Str.empty ++ (toString (a : Int) : Str)) ++ (" buttons, " : Str)) ++ (toString (b : Int) : Str)) ++ (" latched, " : Str)) ++ (toString (c : Int) : Str)) ++ (" edits" : Str))
def nStrD : List Str := ["self"]
theorem scStrD : FnScope nStrD ["self"] (defScope sStrD) := ⟨rfl, rfl, rfl, by decide +kernel, rfl, by decide +kernel, by decide +kernel⟩
section
variable {P : Program} {w : World} {K : PySem.W.Frag} {mg : Str → Option Value} {base : Heap}
def spStrD (K : PySem.W.Frag) (C : Addr) : Sp := fun vs H Q _ => ∃ (t : Addr) (pan : List (List Int)) (st : List Int) (past : List (PyData × List (List Int) × List Int)), vs = [.ref t] ∧ DeskAt K C H t pan st past ∧ past.length ≤ 1000 ∧ ∀ H', Same H H' → Q (.str (txtD pan.length st.length past.length)) H'
theorem ok_StrD  {C f : Addr} {fd : FuncData} {k : Nat} (F : Fun K "__str__" "Desk.__str__" sStrD f fd) (T : TxtD K mg C)
    (m_len : mg "len" = none) : FnOk P w K mg base CX0 (k + 1) f fd ["self"] (spStrD K C) := by
  refine F.ok scStrD (fun vs H Q E h => ?_) (fun cdv A outer s H vs Q E hr h => ?_)
  · obtain ⟨t, pan, st, past, rfl, _⟩ := h
    rfl
  · refine ⟨_, pss_one (ps_ret (pe_joined (.cons (pe_fmt (pe_callB (show CallR _ _ (rLenG K) from cr_lenG) (by rfl) m_len PySem.boot_len (pa_cons (pe_fld (pv 0) rfl) pa_nil))) (.cons pe_str (.cons (pe_fmt (pe_callB (show CallR _ _ (rLenG K) from cr_lenG) (by rfl) m_len PySem.boot_len (pa_cons (pe_fld (pv 0) rfl) pa_nil))) (.cons pe_str (.cons (pe_fmt (pe_callB (show CallR _ _ (rLenG K) from cr_lenG) (by rfl) m_len PySem.boot_len (pa_cons (pe_fld (pv 0) rfl) pa_nil))) (.cons pe_str .nil)))))))), hide1 fun t0 ht0 => ?_⟩
    obtain ⟨t, pan, st, past, rfl, hD, few, q⟩ := h
    have hD' := hD
    obtain ⟨⟨dx, pa, p, l, hh, hs, kn, h1, h2, h3, h4, h5, h6, h7⟩, hg, hst, lfe⟩ := hD'
    refine ht0 _ _ _ ?_
    have f1 := hg.few
    have f2 := hst.len
    have n1 := len_num pan.length (by omega)
    have n2 := len_num st.length (by omega)
    have n3 := len_num past.length few
    have sz : ∀ {n : Nat}, n ≤ 1000 → n ≤ sizeLine := fun h => Nat.le_of_lt (small1000 h)
    refine (gv_lenT (K := K) (gv_panel (i := 0) T rfl hD)).at fun v1 H1 s1 d1 => ?_
    cases d1
    rw [List.length_map]
    refine .inr ⟨_, rfl, log_num _ (by omega), _, rfl, ?_, _, rfl, ?_, ?_⟩
    · rw [Str.length_append]; exact sz (by show 0 + _ ≤ _; omega)
    · rw [Str.length_append, Str.length_append]; exact sz (by show 0 + _ + 10 ≤ _; omega)
    refine (gv_lenT (K := K) (gv_latched (i := 0) T rfl (hD.same s1))).at fun v2 H2 s2 d2 => ?_
    cases d2
    rw [List.length_map]
    refine .inr ⟨_, rfl, log_num _ (by omega), _, rfl, ?_, _, rfl, ?_, ?_⟩
    · simp only [Str.length_append]; exact sz (by show 0 + _ + 10 + _ ≤ _; omega)
    · simp only [Str.length_append]; exact sz (by show 0 + _ + 10 + _ + 10 ≤ _; omega)
    refine (gv_lenT (K := K) (gv_past (i := 0) T rfl ((hD.same s1).same s2))).at fun v3 H3 s3 d3 => ?_
    cases d3
    rw [List.length_map]
    refine .inr ⟨_, rfl, log_num _ few, _, rfl, ?_, _, rfl, ?_, ?_⟩
    · simp only [Str.length_append]; exact sz (by show 0 + _ + 10 + _ + 10 + _ ≤ _; omega)
    · simp only [Str.length_append]; exact sz (by show 0 + _ + 10 + _ + 10 + _ + 6 ≤ _; omega)
    exact q H3 ((s1.trans s2).trans s3)
end
end K54
namespace Pr
open PySem PySem.Spec PyProof.Rows L2
section
variable {X : Cx} {C f : Addr} {fd : FuncData} {k : Nat} {sp : Sp}
theorem run_in {A' : Around} {pins : List (Addr × Obj)} {σ : L2.St} {H : Hp} {s : Shared} {Q : VK} {a : Addr} {E : XK} (fr : A'.frames = X.A.frames) (F : FnOk X.prog X.w X.K X.mg X.base CX0 k f fd ["self"] sp) (hr : Room k A') (hb : Binds X.K fd ["self"] []) (J : Inv X pins σ H s) (h : sp [.ref a] H Q E) :
    wpAny (model X.prog X.w) A' (call (.ref f) [.ref a]) (EP X pins σ Q) X.xe s := by
  have e := J.env0
  have e0 : Env0 X.prog X.w X.K X.mg X.base A' X.stack s H := ⟨by rw [fr]; exact e.frames, e.mod, e.bs, e.bsz, e.funs, e.frf, e.hok, e.bare⟩
  have bd := hb s [.ref a] J.kIn rfl
  refine wpAny_call (codeAny_mono (F.run A' X.stack s H ⟨[.ref a], []⟩ [.ref a] [.ref a] Q E hr e0 (by simpa using bd) (.cons rfl .nil) h) fun r s' hq => ?_)
  cases r with
  | error er => exact hq.elim
  | ok fl =>
    cases fl with
    | ret u => exact J.after hq
    | next => exact hq.elim
    | brk => exact hq.elim
    | cont => exact hq.elim
def rStrO (C : Addr) (sp : Sp) : List V → Hp → VK → Prop := fun xs H Q => ∃ a dx fs, xs = [.ref a] ∧ H a = some (.ins C dx fs) ∧ sp [.ref a] H (fun v H' => ∃ y, v = .str y ∧ Q (.str y) H') (fun _ _ _ => False)
theorem cr_strO (F : FnOk X.prog X.w X.K X.mg X.base CX0 k f fd ["self"] sp) (hr : Room (k + 2) X.A) (hb : Binds X.K fd ["self"] []) (hs : PySem.W.findIn X.K (.ref C) "__str__" = some (some (.ref f))) (hf : PySem.W.isFn X.K (.ref f) = true) : CallR X (.type "str") (rStrO C sp) := by
  intro pins s σ H xs us Q J r h
  obtain ⟨a, dx, fs, rfl, ha, h⟩ := h
  rw [Vals.ref1 r]
  obtain ⟨mA, O, _⟩ := ins_get J.hok ha
  obtain ⟨od, O, _⟩ := O.look
  refine PySem.W.kso_call (Room.in1 (Room.in1 hr)).units0 J.kIn O hs hf (wpAny_mono (run_in rfl F (Room.in1 (Room.in1 hr)) hb J h) (fun v s' z => ?_) fun _ _ z => z)
  obtain ⟨x, H', J', rx, y, rfl, q⟩ := z
  obtain ⟨t, rfl⟩ := rx
  exact ⟨.str y, H', J', ⟨t, rfl⟩, q⟩
def rLenO (C : Addr) (sp : Sp) : List V → Hp → VK → Prop := fun xs H Q => ∃ a dx fs, xs = [.ref a] ∧ H a = some (.ins C dx fs) ∧ sp [.ref a] H (fun v H' => ∃ n : Int, v = .int n ∧ 0 ≤ n ∧ n < 2 ^ 63 ∧ Q (.int n) H') (fun _ _ _ => False)
theorem cr_lenO (F : FnOk X.prog X.w X.K X.mg X.base CX0 k f fd ["self"] sp) (hr : Room (k + 1) X.A) (hb : Binds X.K fd ["self"] []) (hs : PySem.W.findIn X.K (.ref C) "__len__" = some (some (.ref f))) (hf : PySem.W.isFn X.K (.ref f) = true) : CallR X (.builtin "len") (rLenO C sp) := by
  intro pins s σ H xs us Q J r h
  obtain ⟨a, dx, fs, rfl, ha, h⟩ := h
  rw [Vals.ref1 r]
  obtain ⟨mA, O, _⟩ := ins_get J.hok ha
  obtain ⟨od, O, _⟩ := O.look
  obtain ⟨m, hF⟩ := J.fr
  refine PySem.W.len_K hF J.ok.mod.kin O hs hf (wpAny_mono (run_in rfl F (Room.in1 hr) hb J h) (fun v s' z => ?_) fun _ _ z => z)
  obtain ⟨x, H', J', rx, n, rfl, n0, n1, q⟩ := z
  obtain ⟨t, rfl⟩ := rx
  exact ⟨⟨n0, n1⟩, .int n, H', J'.tok _, ⟨_, rfl⟩, q⟩
end
end Pr
namespace Pr
open PySem PySem.Spec PyProof.Rows L2
/-- a method with one keyword-only parameter (and what stands before it), given by its name -/
theorem kb_one {K : PySem.W.Frag} {x qual : Str} {params : Arguments} {body : List Stmt} {scope : Scope} {kws : List (Str × V)} {f : Addr} {fd : FuncData} {ps : List Str} (F : FunD K x qual params body scope [] kws f fd) (n : Nat) (kw : Str) (hk : kws ≠ [])
    (h : ∀ (D : Addr) (doc pm : Value) (an : Option Addr) (cdv ct : Value) (us : List Value) (v : Value), us.length = n → bindArgs (PySem.W.fnOf x qual params body scope .none (.ref D) doc pm an cdv ct) ⟨us, [(kw, v)]⟩ = pure (ps.zip (us ++ [v]))) :
    KBn K fd ps n [kw] (fun us ws => us ++ ws) (fun vs zs => vs ++ zs) := by
  obtain ⟨mv, hb⟩ := F.kbinds0 n [kw] [] (fun us _ ws => us ++ ws) (ps := ps) hk (fun q hq => by cases hq) (fun r1 _ r3 => r1.append r3) (fun D doc pm an cdv ct us mv ws h1 h2 h3 => by
    match ws, h3 with
    | [v], _ => exact h D doc pm an cdv ct us v h1)
  exact hb
end Pr
namespace Pr
open PySem PySem.Spec PyProof.Rows L2
/-- o.m(..) that may raise, with a wish for it -/
def tMethS' (C : Addr) (m : Str) (sp : Sp) (E : L2.St → XK) (to : TE) (t : TA) : TE := fun σ H Q => to σ H fun x H1 => ∃ a dx fs, x = .ref a ∧ H1 a = some (.ins C dx fs) ∧ fs.lookup m = none ∧ t σ H1 fun vs H2 => sp (x :: vs) H2 Q (E σ)
section
variable {X : Cx} {CX : CXT} {k : Nat} {f C : Addr} {fd : FuncData} {ps : List Str} {sp : Sp} {E : L2.St → XK} {o e : Expr} {es : List Expr} {m : Str} {apos pos : Pos} {to : TE} {t : TA}
theorem pe_methE {pl : Sem Bool} (ho : PE X o to) (hc : Cls X.K C) (hm : Meth X.K C m f) (F : FnOk X.prog X.w X.K X.mg X.base CX k f fd ps sp) (hr : Room k X.A) (hb : Binds X.K fd ps []) (hx : ∀ σ, PassesAt CX X σ (E σ)) (ha : PA X (e :: es) t)
    (hst : starEach (e :: es) X.env = (false, eval e X.env) :: starEach es X.env := by rfl) (hpl : (backTo pos (starEach es X.env)).any (·.1) = false := by rfl)
    (ht : eval (.Call (.Attribute o m apos) (e :: es) [] pos) X.env = (eval o X.env >>= fun ov => standAt apos.atName >>= fun _ => holding [ov] (getMethod ov m pl) >>= fun p => callWith pos p.1 p.2 (backTo pos (starEach (e :: es) X.env)) (backToKw pos (keywordEach [] X.env))) := by rfl) :
    PE X (.Call (.Attribute o m apos) (e :: es) [] pos) (tMethS' C m sp E to t) := by
  refine ⟨fun pins s σ H Q J h => PySem.W.methodCall_KW (pl := pl) (thn (ho.run pins s σ H _ J h) fun u s1 ⟨x, H1, J1, rx, a, dx, fs, ex, ea, lk, q⟩ => ?_) ht⟩
  cases ex
  obtain rfl : u = Value.ref a := rx
  refine getmeth_ok J1 ea hc hm lk (PySem.W.callWith_K (first := [.ref a]) (h₀ := X.base) J.ok.mod.kin hm.kp (thn (ha.run pos pins s1 σ H1 _ J1 q) fun us s2 ⟨vs, H2, J2, rv, q2⟩ => ⟨J2.kIn, ?_⟩) hst hpl)
  have := run_fnSD (us := .ref a :: us) (vs := .ref a :: vs) (dvs := []) (E := E) F hr hb .nil (hx σ) J2 (.cons rfl rv) (by rw [List.append_nil]; exact q2)
  exact this
end
end Pr
namespace Pr
open PySem PySem.Spec PyProof.Rows L2
end Pr
namespace Pr
open PySem PySem.Spec PyProof.Rows L2 PySem.Builtin PySem.Builtin.ObjectAttr
abbrev leT : List Value := [.type "LookupError", .type "Exception", .type "BaseException", .type "object"]
theorem le_pass (self : Value) : refuseLoop self "__setattr__" leT = pure () := by kernel_rfl
/-- what the written part says of such a class -/
structure OelC (K : PySem.W.Frag) (C : Addr) : Prop where
  cls : ∃ nm q N bs sn sub ab col dd k0 k1 k2 k3 k5, K.lookup C = some (excClassObj nm q C N bs leT true sn sub ab col dd k0 k1 k2 k3 k5 "LookupError.__new__")
  sa : PySem.W.findIn K (.ref C) "__setattr__" = some (some (.builtin "object.__setattr__"))
  exC : PySem.W.subIn K (.ref C) (.type "BaseException") = some true
  tyC : PySem.W.typeIn K (.ref C) = some (.type "type")
  kC : PySem.W.keepIn K (.ref C) = true
section
variable {prog : Program} {w : World} {A : Around} {R : Result → Shared → Prop} {hp : Heap} {gs : Array GenState} {dn : Drawn} {tc : Nat} {os : OsState}
/-- self.nm = v, the first one, over the machine's heap -/
theorem osaL {K : W.Frag} {nm : Str} {tk : Tok} {v : Value} {x C : Addr} {fv : Array Value} {cd : ClassData} (kin : K.In hp) (at_ : hp.get? x = some { cls := .ref C, data := .fields fv }) (hcd : W.clsIn K C = some cd) (hmro : cd.mro = .ref C :: leT) (hdict : cd.hasDict = true) (free : W.findIn K (.ref C) nm = some none)
    (q : ∀ h' tk' dx, (∀ b o, b ≠ x → hp.get? b = some o → h'.get? b = some o) → hp.objs.size ≤ dx → dx ≠ x → h'.get? x = some { cls := .ref C, dict := some dx, data := .fields fv } → h'.Ns1 dx (fun y => if y = nm then some v else none) → R (.ok (.ret .none)) ⟨h', gs, dn, tk', os⟩) :
    codeAny (model prog w) A (.call (.builtin "object.__setattr__") ⟨[.ref x, .str nm tk, v], []⟩) R ⟨hp, gs, dn, tc, os⟩ := by
  have inst : W.InstAt hp x { cls := .ref C, data := .fields fv } C none := ⟨at_, rfl, rfl, trivial⟩
  have far : x ≠ hp.objs.size := Nat.ne_of_lt (Heap.lt_size at_)
  have isObj : W.Looks (model prog w) hp (isInstance (.ref x) (.type "object")) true := inst.type.andThen (W.looks_mroIn kin (by unfold W.mroIn; rw [hcd, Option.bind_some, hmro]; rfl))
  refine codeAny_call_builtin F.store_object.slot.plain F.store_object.entry (@W.check_slot (model prog w) _ _ ⟨hp, gs, dn, tc, os⟩ "object.__setattr__" "object" "__setattr__" (.ref x) [.str nm tk, v] [] _ F.store_object.kind F.store_object.split isObj (F.store_object.args (.ref x) (.str nm tk) v) ?_)
  have mroL : W.Looks (model prog w) hp (mroOf (.ref C)) cd.mro := (W.looks_clsIn kin hcd).andThen .now
  have clsL : W.Looks (model prog w) hp (classData C) cd := W.looks_clsIn kin hcd
  rw [W.osa_eq, refuse_eq]
  refine wpAny_bind (wpAny_bind (inst.type.at (wpAny_bind (mroL.at ?_))))
  rw [hmro, refuseLoop_ref, le_pass]
  refine wpAny_pure (wpAny_bind (inst.type.at (wpAny_bind ((W.looks_findIn kin free).at (wpAny_bind ((W.Looks.now (M := model prog w) : W.Looks _ hp (storeTaker? none) none).at ?_))))))
  show wpAny _ _ (storeInOwnDict (.ref x) (.ref C) (.str nm tk) nm v false) _ _ _
  obtain ⟨n1, n2, n3, n4, n5, n6, n7, n8, n9, n10, n11⟩ := cd
  dsimp only at hdict
  subst hdict
  unfold storeInOwnDict ownDictForStores
  repeat (first | with_reducible refine PySem.HandSPX.store_in_new ?_ ?_ | with_reducible refine wpAny_loadPart_at at_ ?_ | with_reducible refine clsL.at ?_ | wp_step)
  · refine ⟨_, #[], _, (Heap.get?_update_ne _ _ _ _ far.symm).trans (Heap.get?_push_at rfl rfl), rfl, fun e he => ?_, fun _ => rfl⟩
    exact absurd he (by simp)
  · intro h' tk' hN sm
    refine q h' tk' hp.objs.size (fun b o nb hb => ?_) (Nat.le_refl _) far.symm ?_ hN
    · rw [sm.2 b (Nat.ne_of_lt (Heap.lt_size hb)), Heap.get?_update_ne _ _ _ _ nb]
      exact Heap.get?_push_of_some _ hb
    · rw [sm.2 x far]
      exact Heap.get?_update_self _ (Heap.get?_push_of_some _ at_) rfl
end
section
variable {X : Cx} {pins : List (Addr × Obj)} {σ : L2.St} {H : Hp} {s : Shared} {a C : Addr} {f : Str} {y : V} {u : Value} {Q : Unit → Shared → Prop} {E : Value → Shared → Prop} {A : Around}
theorem ostL (T : OelC X.K C) (J : Inv X pins σ H s) (e : H a = some (exo a C none)) (hno : PySem.W.findIn X.K (.ref C) f = some none) (ry : RelV y u)
    (h : ∀ dx s', H dx = none → dx ≠ a → Inv X pins σ (upd (upd H dx (exd dx [(f, y)])) a (exo a C (some dx))) s' → Q () s') : wpAny (model X.prog X.w) A (setAttr (.ref a) f u) Q E s := by
  obtain ⟨nm, q, N, bs, sn, sub, ab, col, dd, k0, k1, k2, k3, k5, hC⟩ := T.cls
  have hcl : PySem.W.clsIn X.K C = some { name := nm, bases := bs, mro := .ref C :: leT, ns := N, qualname := q, hasDict := true, slotNames := sn, subclasses := sub, abstract := ab, collection := col, hasDel := false } := by
    unfold PySem.W.clsIn
    rw [hC]
  obtain ⟨tA, ho⟩ := exo_at J.hok e
  obtain ⟨hp, g, d, t, os⟩ := s
  refine PySem.W.set_plain J.kIn (ox := { cls := .ref C, dict := none, data := .fields #[.ref tA, .none, .none, .none, .bool false, .none] }) (od := none) ⟨ho, rfl, rfl, trivial⟩ T.sa (osaL J.kIn ho hcl rfl rfl hno fun h' tk' dx kp dn dne hx hn => ?_)
  have hnd : H dx = none := J.hok.fresh dn
  have ofd : ∀ {b : Addr} {o : Obj}, hp.get? b = some o → b ≠ dx := fun {b o} q => Nat.ne_of_lt (Nat.lt_of_lt_of_le (Heap.lt_size q) dn)
  have ofa : ∀ {b : Addr}, H b = none → b ≠ a := fun {b} n z => by rw [z, e] at n; cases n
  have stay : Un X.fs [] H (upd (upd H dx (exd dx [(f, y)])) a (exo a C (some dx))) hp h' :=
    { keep := fun b o q n _ _ => kp b o (ofa n) q
      slot := fun b o q n _ _ => ⟨o.slots, kp b o (ofa n) q⟩
      free := fun b o q n _ => by
        rw [upd_ne (ofa n), upd_ne (ofd q)]
        exact n
      there := fun b o q _ => by
        by_cases hb : b = a
        · rw [hb]; exact ⟨_, hx⟩
        · exact ⟨o, kp b o hb q⟩
      tups := fun b xs q => by
        rw [upd_ne (at_ne e q exo_tup), upd_ne (ne_of_none q hnd)]
        exact q
      frzs := fun b o v q => by
        rw [upd_ne (at_ne e q exo_frz), upd_ne (ne_of_none q hnd)]
        exact q
      tbls := fun b ps q => ⟨#[], by
        rw [upd_ne (at_ne e q exo_tbl), upd_ne (ne_of_none q hnd), q]
        simp⟩ }
  refine h dx _ hnd dne (J.un (t' := tk') stay fun b o q => ?_)
  by_cases hb : b = a
  · cases hb
    rw [upd_same] at q
    cases q; exact exo_ok hx
  · rw [upd_ne hb] at q
    by_cases hd : b = dx
    · cases hd
      rw [upd_same] at q
      cases q; exact exd_ok hn (relO_put (fs := []) ry fun _ => True.intro)
    · rw [upd_ne hd] at q
      refine (J.hok b o q).stay (fun c v hc z => kp c v (fun eq => ?_) z) (fun c hc => ?_) (fun c xs hc => ?_)
      · rcases hc with hc | hc
        · exact hb (hc ▸ eq)
        · exact at_ne e hc exo_own eq
      · rw [upd_ne (at_ne e hc exo_own), upd_ne (ne_of_none hc hnd)]
        exact hc
      · rw [upd_ne (at_ne e hc exo_tup), upd_ne (ne_of_none hc hnd)]
        exact hc
end
/-- self.f = e, the first one -/
def tOstL (K : PySem.W.Frag) (f : Str) (to te : TE) : TS := fun D σ H => te σ H fun y H1 => to σ H1 fun x H2 => ∃ a C : Addr, x = .ref a ∧ OelC K C ∧ PySem.W.findIn K (.ref C) f = some none ∧ H2 a = some (exo a C none) ∧
  ∀ dx, H2 dx = none → dx ≠ a → D.nx σ (upd (upd H2 dx (exd dx [(f, y)])) a (exo a C (some dx)))
section
variable {X : Cx} {o e : Expr} {es : List Expr} {to te : TE} {ta : TA} {f : Str} {p p' pos : Pos}
theorem ps_ostL (ho : PE X o to) (he : PE X e te) (hs : swapsWith e (some (.Attribute o f p')) pos.line X.env = pure false := by rfl) : PS X (.Assign [.Attribute o f p'] e pos) (tOstL X.K f to te) := by
  refine ⟨fun pins s σ H D J h => plainObj_wpAny_Assign_Attribute (thn (he.run pins s σ H _ J h) fun v s1 ⟨y, H1, J1, r1, q1⟩ => thn (ho.run pins s1 σ H1 _ J1 q1) fun u s2 ⟨x, H2, J2, r2, a, C, ex, T, hno, ea, q⟩ => ?_) hs⟩
  cases ex
  obtain rfl : u = Value.ref a := r2
  exact ostL T J2 ea hno r1 fun dx s' n ne J => ⟨σ, _, J, q dx n ne⟩
theorem pmk_oel {CX : CXT} {x : Str} {C fI : Addr} {k : Nat} {fd : FuncData} {ps : List Str} {sp : Sp} (T : OelC X.K C) (iC : PySem.W.findIn X.K (.ref C) "__init__" = some (some (.ref fI))) (tI : PySem.W.typeIn X.K (.ref fI) = some (.type "function"))
    (F1 : FnOk X.prog X.w X.K X.mg X.base CX k fI fd ps sp) (hr : Room (k + 1) X.A) (hb : Binds X.K fd ps []) (hx : Passes CX X (fun _ _ _ => False)) (hg : Gl X x) (hm : X.mg x = some (.ref C)) (ha : PA X (e :: es) ta)
    (hdb : (x == ("__debug__" : Str)) = false := by decide) (hse : starEach (e :: es) X.env = (false, eval e X.env) :: starEach es X.env := by rfl) (hsp : (backTo pos (starEach es X.env)).any (·.1) = false := by rfl) :
    PMk X (.Call (.Name x p) (e :: es) [] pos) (tMkO C sp [] ta) := by
  intro pins s σ H Q J h
  obtain ⟨nm, q, N, bs, sn, sub, ab, col, dd, k0, k1, k2, k3, k5, hC⟩ := T.cls
  refine wpAny_Call_Name_kw (ld_glob J hg hm (PySem.W.callWith_K (h₀ := X.base) J.ok.mod.kin T.kC (thn (ha.run pos pins s σ H _ J h) fun us s1 ⟨vs, H1, J1, r1, hz, q1⟩ => ⟨J1.kIn, ?_⟩) hse hsp) hdb)
  show wpAny _ _ (call (.ref C) us) _ _ _
  obtain ⟨hp, g, dr, tk, os⟩ := s1
  have le1 : hp.objs.size ≤ hp.objs.size + 1 := Nat.le_succ _
  have hq := q1 (hp.objs.size + 1) (J1.hok.fresh le1)
  rw [List.append_nil] at hq
  have old : ∀ b o, hp.get? b = some o → ((hp.push (PySem.W.kdv_tup us)).push (PySem.HandSPX.excO C hp.objs.size)).get? b = some o := fun b o z => Heap.get?_push_of_some _ (Heap.get?_push_of_some _ z)
  have new : ((hp.push (PySem.W.kdv_tup us)).push (PySem.HandSPX.excO C hp.objs.size)).get? (hp.objs.size + 1) = some (PySem.HandSPX.excO C hp.objs.size) := by heap_get
  have J2 : Inv X pins σ (upd H1 (hp.objs.size + 1) (exo (hp.objs.size + 1) C none)) ⟨(hp.push (PySem.W.kdv_tup us)).push (PySem.HandSPX.excO C hp.objs.size), g, dr, tk, os⟩ := J1.laid (t' := tk) old le1 (exo_ok new)
  have r2 : Vals (V.ref (hp.objs.size + 1) :: vs) (Value.ref (hp.objs.size + 1) :: us) := .cons rfl r1
  have hln : (Value.ref (hp.objs.size + 1) :: us).length = ps.length := by rw [← r2.length]; exact F1.len _ _ _ _ hq
  have hus : us.length ≤ sizeLine := by
    have := Paired.length r1
    rw [sizeLine_eq]; omega
  have hbd := hb _ (Value.ref (hp.objs.size + 1) :: us) J2.kIn (by rw [List.append_nil]; exact hln)
  rw [List.append_nil] at hbd
  refine wpAny_call (PySem.HandSPX.call_own F.excBase_LookupError (fun _ => rfl) (J1.kIn _ _ hC) (PySem.W.looks_findIn J1.kIn iC) (fun self => PySem.W.bind_fn J1.kIn self tI) hus (codeAny_mono (F1.run _ X.stack _ _ ⟨Value.ref (hp.objs.size + 1) :: us, []⟩ (Value.ref (hp.objs.size + 1) :: us) _ _ (fun _ _ _ => False) (hr.make C us []) (J2.env0.make C us []) hbd r2 hq) fun rs s' hE => ?_))
  cases rs with
  | error er => exact hx pins σ _ _ er s' J2 hE
  | ok fl =>
    cases fl with
    | ret u =>
      obtain ⟨v, H2, o2, bare, un2, hok2, rv, ev, d, fs, ea, ed, hd1, q2⟩ := hE
      cases ev
      obtain ⟨h2, g2, d2, t2, os'⟩ := s'
      exact ⟨rv, mk_end (raises_own T.exC T.tyC) J1 le1 old un2 hok2 o2 bare ea ed hd1 q2⟩
    | next => exact hE.elim
    | brk => exact hE.elim
    | cont => exact hE.elim
end
/-- what the top says of such a class with one field, and of its __init__ -/
structure ExL (K : PySem.W.Frag) (mg : Str → Option Value) (nm fld qn : Str) (sI : Stmt) (C fI : Addr) (fdI : FuncData) : Prop where
  oex : OelC K C
  iC : PySem.W.findIn K (.ref C) "__init__" = some (some (.ref fI))
  tI : PySem.W.typeIn K (.ref fI) = some (.type "function")
  noN : PySem.W.findIn K (.ref C) fld = some none
  g : mg nm = some (.ref C)
  FI : Fun K "__init__" qn sI fI fdI
  bI : Binds K fdI ["self", fld] []
def spIL (K : PySem.W.Frag) (C : Addr) (fld : Str) : Sp := fun vs H Q _ => ∃ (e : Addr) (y : V), vs = [.ref e, y] ∧ OelC K C ∧ PySem.W.findIn K (.ref C) fld = some none ∧ H e = some (exo e C none) ∧
  ∀ dx, H dx = none → dx ≠ e → Q .non (upd (upd H dx (exd dx [(fld, y)])) e (exo e C (some dx)))
theorem rzL {K : PySem.W.Frag} {mg : Str → Option Value} {nm fld qn : Str} {sI : Stmt} {C fI : Addr} {fdI : FuncData} (T : ExL K mg nm fld qn sI C fI fdI) {Hx : Hp} {y : V} {E : XK} (q : ∀ H' dd, Same Hx H' → H' dd = some (.xd [(fld, y)]) → E (.ref C) (some dd) H') :
    [y].length ≤ 1000 ∧ ∀ a, Hx a = none → spIL K C fld (.ref a :: ([y] ++ [])) (upd Hx a (exo a C none))
        (fun v H2 => v = .non ∧ ∃ (d : Addr) (fs : List (Str × V)), H2 a = some (exo a C (some d)) ∧ H2 d = some (exd d fs) ∧ Hx d = none ∧ E (.ref C) (some d) (upd (del H2 a) d (.xd fs))) (fun _ _ _ => False) := by
  refine ⟨by show 1 ≤ 1000; decide, fun a na => ⟨a, y, rfl, T.oex, T.noN, upd_same, fun dx nd ne => ⟨rfl, dx, [(fld, y)], ?_⟩⟩⟩
  obtain ⟨m1, m2, m3, m4⟩ := madeF (y := y) (fld := fld) na nd ne
  exact ⟨m1, m2, m3, q _ dx m4 upd_same⟩
end Pr
namespace K54
open PySem PySem.Spec PyProof.Rows L2 Pr
theorem DeskAt.kpAt {K : PySem.W.Frag} {C : Addr} {H H' : Hp} {t : Addr} {pan : List (List Int)} {st : List Int} {past : List (PyData × List (List Int) × List Int)} (h : DeskAt K C H t pan st past) (k : Kp H H') (e : H' t = H t) : DeskAt K C H' t pan st past := by
  obtain ⟨⟨dx, pa, p, l, hh, hs, kn, h1, h2, h3, h4, h5, h6, h7⟩, g, as, e'⟩ := h
  exact ⟨⟨dx, pa, p, l, hh, hs, kn, e.trans h1, h2.kp k (fun x hx => ⟨(e' x hx).1, (e' x hx).2.1, (e' x hx).2.2.1⟩), h3.kp k, k.1 _ _ h4, sqT_kp k h5, h6, h7.kp k⟩, g, as, e'⟩
abbrev sUndo : Stmt := inClass (topS 50) 11
def nUndo : List Str := ["self", "edit", "panel", "latched"]
theorem scUndo : FnScope nUndo ["self"] (defScope sUndo) := ⟨rfl, rfl, rfl, by decide +kernel, rfl, by decide +kernel, by decide +kernel⟩
section
variable {P : Program} {w : World} {K : PySem.W.Frag} {mg : Str → Option Value} {base : Heap}
def spUndo (K : PySem.W.Frag) (C CU : Addr) : Sp := fun vs H Q E => ∃ (t : Addr) (pan : List (List Int)) (st : List Int) (past : List (PyData × List (List Int) × List Int)), vs = [.ref t] ∧ DeskAt K C H t pan st past ∧
  (∀ past' y, past = past' ++ [y] → ∀ H', ButO t H H' → DeskAt K C H' t y.2.1 y.2.2 past' → Q (.int (past'.length : Nat)) H') ∧ (past = [] → ∀ H', Same H H' → E (.ref CU) none H')
theorem ok_Undo  {C CU f : Addr} {fd : FuncData} {k : Nat} (F : Fun K "undo" "Desk.undo" sUndo f fd) (T : TxtD K mg C) (T_NothingToUndo : Ex0 K mg "NothingToUndo" CU)
    
    {fFree : Addr} {fdFree : FuncData} (FFree : Fun K "check_free" "Desk.check_free" sFree fFree fdFree) (bFree : Binds K fdFree ["self"] []) (hFree : Meth K C "check_free" fFree)
    {fShow : Addr} {fdShow : FuncData} (GShow0 : ∀ k0 : Nat, FnOk P w K mg base CX0 (k0 + 6) fShow fdShow ["self", "panel", "latched"] (spShow K C)) (bShow : Binds K fdShow ["self", "panel", "latched"] []) (hShow : Meth K C "show" fShow)
    (m_len : mg "len" = none) : FnOk P w K mg base (L2.CX P w) (k + 7) f fd ["self"] (spUndo K C CU) := by
  have GFree : FnOk P w K mg base CX0 (k + 1) fFree fdFree ["self"] (spFree K C) := ok_Free FFree T   
  have GShow : FnOk P w K mg base CX0 (k + 6) fShow fdShow ["self", "panel", "latched"] (spShow K C) := GShow0 k
  refine F.okX scUndo (fun vs H Q E h => ?_) (fun cdv A outer s H vs Q E hr h => ?_)
  · obtain ⟨t, pan, st, past, rfl, _⟩ := h
    rfl
  · obtain ⟨t, pan, st, past, rfl, hD, q1, q2⟩ := h
    refine ⟨_, pss_cons (ps_expr (pe_meth0 (pv 0) T.cl hFree GFree (hr.mono (by omega)) bFree .nil pass0))
      (pss_cons (ps_if (pt_not (pt_truth (pe_fld (pv 0) rfl) (fun _ => rfl))) (pss_one (ps_raise rfl (takes_of rfl rfl rfl rfl) (T_NothingToUndo.made (by rfl)))) pss_nil)
      (pss_cons (ps_asg (pe_ix (show IxR _ (rIxT K) from ix_tup) (pe_fld (pv 0) rfl) (pe_un un_neg pe_int) (fun _ _ => rfl)) (pg_tup rfl (pgs_cons (pg_name (i := 1) scUndo.nd rfl (Or.inl rfl)) (pgs_cons (pg_name (i := 2) scUndo.nd rfl (Or.inl rfl)) (pgs_cons (pg_name (i := 3) scUndo.nd rfl (Or.inl rfl)) pgs_nil)))))
      (pss_cons (ps_fld (pv 0) (pe_slice (show SlR _ (rSlS K) from sl_tupS) (pe_fld (pv 0) rfl) po_none (po_some (pe_un un_neg pe_int))) rfl)
      (pss_cons (ps_expr (pe_meth (pv 0) T.cl hShow GShow (hr.mono (by omega)) bShow .nil pass0 (pa_cons (pv 2) (pa_cons (pv 3) pa_nil))))
      (pss_one (ps_ret (pe_callB (show CallR _ _ (rLenG K) from cr_lenG) (by rfl) m_len PySem.boot_len (pa_cons (pe_fld (pv 0) rfl) pa_nil)))))))), ?_⟩
    refine seq_hide fun u1 hu1 => ?_
    have hD' := hD
    obtain ⟨⟨dx, pa, p, l, hh, hs, kn, h1, h2, h3, h4, h5, h6, h7⟩, hg, hst, lfe⟩ := hD'
    refine ⟨.ref t, rfl, t, dx, _, rfl, h1, by rfl, t, pan, st, past, rfl, hD, fun H1 s1 => ?_⟩
    refine hu1 _ _ _ (seq_hide fun u2 hu2 => ?_)
    have e1 := s1 _ _ h1
    obtain ⟨xs, hpa, hxs⟩ := h2.sm s1
    refine ⟨.ref t, rfl, t, C, dx, _, .ref pa, rfl, e1, T.cl, T.nA, look_past _ _ _ _ _, _, .inr (.inl ⟨xs, hpa, rfl⟩), ?_⟩
    rcases List.eq_nil_or_concat past with rfl | ⟨past', y, rfl⟩
    · cases hxs
      exact iteT (q2 rfl H1 s1)
    · rw [List.concat_eq_append] at *
      obtain ⟨us, u, rfl, hus, ⟨au, pu, lu, vu, rfl, hau, dvu, hpu, elu⟩⟩ := prSplit hxs
      have nz : (!(!(us ++ [V.ref au]).isEmpty)) = false := by cases us <;> rfl
      rw [nz]
      refine iteF (next_of ?_)
      dsimp only
      refine hu2 _ _ _ (seq_hide fun u3 hu3 => ?_)
      refine ⟨.ref t, rfl, t, C, dx, _, .ref pa, rfl, e1, T.cl, T.nA, look_past _ _ _ _ _, 1, rfl, pa, _, _, .ref au, rfl, rfl, hpa, at_last, ?_⟩
      refine ⟨au, _, rfl, hau, rfl, vu, [.ref pu, .ref lu], rfl, .ref pu, [.ref lu], rfl, .ref lu, [], rfl, rfl, ?_⟩
      refine hu3 _ _ _ (seq_hide fun u4 hu4 => ?_)
      refine ⟨.ref t, rfl, t, C, dx, _, .ref pa, rfl, e1, T.cl, T.nA, look_past _ _ _ _ _, 1, rfl, -1, rfl, pa, _, rfl, hpa, fun pb H2 s2 hpb => ?_⟩
      rw [cut_last] at hpb
      have e2 := s2 _ _ e1
      refine ⟨.ref t, rfl, t, C, dx, _, rfl, e2, T.cl, T.nA, by show 6 < 1000; decide, ?_⟩
      refine hu4 _ _ _ (seq_hide fun u5 hu5 => ?_)
      rw [put_p]
      have k3 := ButO.upd (g := t) (H := H2) (o := .ins C dx (fldsD pb p l hh kn))
      have kp3 := k3.kp e2
      have hy := lfe y (List.mem_append_right _ List.mem_cons_self)
      have el := hy.2.2.2.1
      have lfe' : ∀ x ∈ past', lf x.1 = true ∧ Good x.2.1 ∧ Asc x.2.1.length x.2.2 ∧ PEd y.2.1.length x := fun x hx => by rw [el]; exact lfe x (List.mem_append_left _ hx)
      have lf3 : ∀ x ∈ past', lf x.1 = true ∧ Good x.2.1 ∧ Asc x.2.1.length x.2.2 := fun x hx => ⟨(lfe' x hx).1, (lfe' x hx).2.1, (lfe' x hx).2.2.1⟩
      refine ⟨.ref t, rfl, t, dx, _, rfl, upd_same, by rfl, .ref pu, rfl, .ref lu, rfl, t, pu, lu, dx, pb, fldsD pb p l hh kn, y.2.1, y.2.2, past', rfl, upd_same, .inr ⟨_, _, _, _, rfl⟩, (hpu.same s2).kp kp3, hy.2.1, .inl (.inl (kp3.1 _ _ (s2 _ _ elu))), hy.2.2.1, PastAt.kp ⟨us, hpb, ents_sm s2 hus⟩ kp3 lf3, lfe', fun H4 h' hs' kn' k4 e4 hh' ish hkn => ?_⟩
      have kp4 := kp3.trans (k4.kp upd_same)
      have hN : DeskAt K C H4 t y.2.1 y.2.2 past' := ⟨⟨dx, pb, pu, lu, h', hs', kn', e4, PastAt.kp ⟨us, hpb, ents_sm s2 hus⟩ kp4 lf3, (hpu.same s2).kp kp4, kp4.1 _ _ (s2 _ _ elu), hh', ish, hkn⟩, hy.2.1, hy.2.2.1, lfe'⟩
      refine hu5 _ _ _ ?_
      refine gs_ret (K := K) (gv_lenT (gv_past T rfl hN)) fun v H5 s5 dv5 => ?_
      cases dv5
      rw [List.length_map]
      exact q1 past' y rfl H5 (((ButO.of (s1.trans s2)).trans k3).trans (k4.trans (ButO.of s5))) (hN.same s5)
end
end K54
namespace K54
open PySem PySem.Spec PyProof.Rows L2 Pr
theorem scNo : FnScope ["panel"] ["panel"] (defScope sNo) := ⟨rfl, rfl, rfl, by decide +kernel, rfl, by decide +kernel, by decide +kernel⟩
theorem scPressE : FnScope ["panel", "button", "words", "other"] ["panel", "button"] (defScope sPressE) := ⟨rfl, rfl, rfl, by decide +kernel, rfl, by decide +kernel, by decide +kernel⟩
def nJoin : List Str := ["first", "second", "early", "late"]
theorem scJoin : FnScope nJoin ["first", "second"] (defScope sJoin) := ⟨rfl, rfl, rfl, by decide +kernel, rfl, by decide +kernel, by decide +kernel⟩
theorem scWith : FnScope ["panel", "effect", "button"] ["panel", "effect", "button"] (defScope sWith) := ⟨rfl, rfl, rfl, by decide +kernel, rfl, by decide +kernel, by decide +kernel⟩
section
variable {P : Program} {w : World} {K : PySem.W.Frag} {mg : Str → Option Value} {base : Heap}
def spNo (K : PySem.W.Frag) : Sp := fun vs H Q _ => ∃ (p : Addr) (pan : List (List Int)), vs = [.ref p] ∧ PanT K H p pan ∧ Good pan ∧
  ∀ H' t, Same H H' → FT H' t ((effM pan []).map V.str) → Q (.ref t) H'
theorem ok_no {f : Addr} {fd : FuncData} {k : Nat} (F : Fun K "no_effect" "no_effect" sNo f fd) (ml : mg "len" = none) : FnOk P w K mg base CX0 (k + 1) f fd ["panel"] (spNo K) := by
  refine F.ok scNo (fun vs H Q E h => ?_) (fun cdv A outer s H vs Q E hr h => ?_)
  · obtain ⟨p, pan, rfl, _⟩ := h
    rfl
  · obtain ⟨p, pan, rfl, hp, hg, q⟩ := h
    refine ⟨_, pss_one (ps_ret (pe_op op_repF (pe_tupF (pa_cons pe_str pa_nil)) (pe_callB call_len_seq (by rfl) ml PySem.boot_len (pa_cons (pv 0) pa_nil)))), ?_⟩
    obtain ⟨xs, hxs, hl⟩ := hp.len
    have few := hg.few
    have pos := hg.pos
    refine ⟨by show 1 ≤ sizeLine; decide, fun T o nT ho => ?_⟩
    have sT : Same H (upd H T (.frz o (.tup [.str wSame]))) := same_new nT
    refine ⟨.ref p, rfl, p, _, rfl, .inr (same_sqT sT hxs), T, .str wSame, pan.length, rfl, by rw [hl], ⟨o, upd_same, ho⟩, pos, by omega, fun t H' s' ht => q H' t (sT.trans s') ?_⟩
    rw [effM_nil, List.map_replicate]; exact ht
def spPressE (K : PySem.W.Frag) : Sp := fun vs H Q _ => ∃ (p : Addr) (pan : List (List Int)) (b : Int), vs = [.ref p, .int b] ∧ PanT K H p pan ∧ Good pan ∧ 0 ≤ b ∧ b < (pan.length : Int) ∧
  ∀ H' t, Same H H' → H' t = some (.tup ((pressW pan b).map V.str)) → Q (.ref t) H'
theorem ok_pressE {f fN : Addr} {fd fdN : FuncData} {k : Nat} (F : Fun K "press_effect" "press_effect" sPressE f fd) (FN : Fun K "no_effect" "no_effect" sNo fN fdN) (bN : Binds K fdN ["panel"] []) (gN : mg "no_effect" = some (.ref fN))
    (ml : mg "len" = none) (mli : mg "list" = none) (mt : mg "tuple" = none) : FnOk P w K mg base CX0 (k + 2) f fd ["panel", "button"] (spPressE K) := by
  have GN : FnOk P w K mg base CX0 (k + 1) fN fdN ["panel"] (spNo K) := ok_no FN ml
  refine F.ok scPressE (fun vs H Q E h => ?_) (fun cdv A outer s H vs Q E hr h => ?_)
  · obtain ⟨p, pan, b, rfl, _⟩ := h
    rfl
  · obtain ⟨p, pan, b, rfl, hp, hg, b0, b1, q⟩ := h
    refine ⟨_, pss_cons (ps_set (i := 2) scPressE.nd rfl (.inl rfl) (pe_callTy call_list_of (by rfl) mli (by decide +kernel) (pa_cons (pe_call GN hr (by rfl) gN FN.kp bN .nil pass0 (pa_cons (pv 0) pa_nil)) pa_nil)))
      (pss_cons (ps_asg pe_str (pg_sub (pv 2) (pv 1) set_list))
      (pss_cons (ps_for PassesOwn.never rfl (pi_tup (pe_ix ix_tup (pv 0) (pv 1) (fun _ _ => rfl))) (pg_name (i := 3) scPressE.nd rfl (.inl rfl))
        (pss_one (ps_asg pe_str (pg_sub (pv 2) (pv 3) set_list))))
      (pss_one (ps_ret (pe_callTy call_tuple_of (by rfl) mt (by decide +kernel) (pa_cons (pv 2) pa_nil)))))), ?_⟩
    refine ⟨.ref p, rfl, p, pan, rfl, hp, hg, fun H1 t s1 et => ?_⟩
    refine ⟨t, _, rfl, .inr et.sq, fun W nW => ?_⟩
    have s2 : Same H (upd H1 W (.lst ((effM pan []).map V.str))) := s1.trans (same_new nW)
    have nW' : H W = none := s1.free nW
    obtain ⟨bn, rfl⟩ : ∃ bn : Nat, b = (bn : Int) := ⟨b.toNat, (Int.toNat_of_nonneg b0).symm⟩
    have hbn : bn < pan.length := by omega
    refine ⟨.ref W, rfl, .int (bn : Int), rfl, W, _, _, bn, rfl, rfl, upd_same, ixN_nat (by rw [List.length_map, effM_len]; exact hbn), ?_⟩
    obtain ⟨qs, q', hq, ha, hr', _⟩ := panT_at hp (b := (bn : Int)) b0 b1
    have s3 : Same H (upd (upd H1 W (.lst ((effM pan []).map V.str))) W (.lst (((effM pan []).map V.str).set bn (.str wOn)))) := fun x o e => by
      rw [upd_ne (ne_of_none e nW')]; exact s2 _ _ e
    refine ⟨.ref p, rfl, .int (bn : Int), rfl, p, _, _, .ref q', rfl, rfl, same_sqT s3 hq, ha, q', rfl, ⟨_, same_sqT s3 hr'⟩, ?_⟩
    generalize hl0 : pan.getD ((bn : Int)).toNat [] = l at hr'
    have hin : ∀ x ∈ l, 0 ≤ x ∧ x < (pan.length : Int) := fun x hx => by
      rw [← hl0, Int.toNat_natCast, List.getD_eq_getElem?_getD, List.getElem?_eq_getElem hbn] at hx
      exact hg.rng _ (List.getElem_mem hbn) x hx
    refine for_tup (xs := l.map V.int) (fun i σ H4 => Same H H4 ∧ H4 W = some (.lst (((List.range pan.length).map (onM (l.take i) (bn : Int))).map V.str)) ∧ ∃ x3, σ = [some (.ref p), some (.int (bn : Int)), some (.ref W), x3])
      ⟨s3, ?_, none, rfl⟩ (fun i σ H4 _ hP => same_sqT hP.1 hr') (fun i x σ H4 hx hP => ?_) (fun σ H4 hP => ?_)
    · rw [upd_same, effM_nil, replicate_map_range, List.map_map, set_map_range, List.map_map]
      refine congrArg _ (congrArg _ (List.map_congr_left fun c _ => ?_))
      show (if c = bn then V.str wOn else V.str wSame) = V.str (onM [] (bn : Int) c)
      unfold onM
      have e0 : ¬ ((c : Int) ∈ ([] : List Int)) := by simp
      by_cases e : c = bn
      · have e1 : (c : Int) = (bn : Int) := by omega
        rw [if_pos e, if_neg e0, if_pos e1]
      · have e1 : ¬ (c : Int) = (bn : Int) := by omega
        rw [if_neg e, if_neg e0, if_neg e1]
    · obtain ⟨s4, eW, x3, rfl⟩ := hP
      obtain ⟨z, hz, rfl⟩ := int_get hx
      have hzr := hin z (List.mem_of_getElem? hz)
      obtain ⟨zn, rfl⟩ : ∃ zn : Nat, z = (zn : Int) := ⟨z.toNat, (Int.toNat_of_nonneg hzr.1).symm⟩
      refine ⟨.ref W, rfl, .int (zn : Int), rfl, W, _, _, zn, rfl, rfl, eW, ixN_nat (by rw [List.length_map, List.length_map, List.length_range]; omega), ?_, ?_, _, rfl⟩
      · intro b o e
        rw [upd_ne (ne_of_none e nW')]; exact s4 _ _ e
      · rw [upd_same, List.map_map, set_map_range, List.map_map]
        refine congrArg _ (congrArg _ (List.map_congr_left fun c _ => ?_))
        show (if c = zn then V.str wOff else V.str (onM (l.take i) (bn : Int) c)) = V.str (onM (l.take (i + 1)) (bn : Int) c)
        unfold onM
        rw [List.take_add_one, hz]
        by_cases e : c = zn
        · rw [if_pos e, if_pos (by rw [e]; simp)]
        · have hne : (c : Int) ≠ (zn : Int) := by omega
          rw [if_neg e]
          congr 1
          by_cases e2 : (c : Int) ∈ l.take i
          · rw [if_pos e2, if_pos (List.mem_append_left _ e2)]
          · rw [if_neg e2, if_neg fun h => (List.mem_append.mp h).elim e2 fun h => hne (by simpa using h)]
    · obtain ⟨s4, eW, x3, rfl⟩ := hP
      rw [List.length_map, List.take_length] at eW
      refine ⟨.ref W, rfl, W, _, rfl, .inl ⟨.inl (.inl eW), fun t nt => q _ t (s4.trans (same_new nt)) ?_⟩⟩
      rw [upd_same]
      unfold pressW
      rw [hl0]
def spJoin (K : PySem.W.Frag) : Sp := fun vs H Q _ => ∃ (a b : Addr) (xs ys : List Str), vs = [.ref a, .ref b] ∧ SqT K H a (xs.map V.str) ∧ SqT K H b (ys.map V.str) ∧ xs.length = ys.length ∧ ys.length ≤ 100 ∧
  ∀ H' t, Same H H' → FT H' t ((joinM xs ys).map V.str) → Q (.ref t) H'
theorem ok_join {f : Addr} {fd : FuncData} {k : Nat} (F : Fun K "joined_effect" "joined_effect" sJoin f fd) (mz : mg "zip" = none) (mt : mg "tuple" = none) : FnOk P w K mg base CX0 (k + 1) f fd ["first", "second"] (spJoin K) := by
  refine F.ok scJoin (fun vs H Q E h => ?_) (fun cdv A outer s H vs Q E hr h => ?_)
  · obtain ⟨a, b, xs, ys, rfl, _⟩ := h
    rfl
  · obtain ⟨a, b, xs, ys, rfl, ha, hb, hl, few, q⟩ := h
    refine ⟨_, pss_one (ps_ret (pe_callTy call_tupF (by rfl) mt (by decide +kernel) (pa_cons
      (pe_lc (own := [("early", 2), ("late", 3)]) (g := gTup K 2 (gCons (gName 2) (gCons (gName 3) gNil))) (tt := tYes) rfl scJoin.nd (RZ.pi_zipA (by rfl) mz (pa_cons (pv 0) (pa_cons (pv 1) pa_nil)))
        (blkOk_by (own := [("early", 2), ("late", 3)]) (N := nJoin) (sc := defScope sJoin) (by decide +kernel))
        (fun _ _ _ _ _ => pg_tup rfl (pgs_cons (pg_name (i := 2) scJoin.nd rfl (Or.inl rfl)) (pgs_cons (pg_name (i := 3) scJoin.nd rfl (Or.inl rfl)) pgs_nil)))
        (fun _ _ _ _ _ => pts_nil)
        (fun _ _ _ _ _ => pe_ifExp (pt_cmpR op_eq (pv 3) pe_str (nomark _)) (pv 2) (pv 3))) pa_nil))), ?_⟩
    refine ⟨.ref a, rfl, .ref b, rfl, a, b, _, _, rfl, .inr ⟨ha, hb, fun D nD => ?_⟩⟩
    have hjl := joinM_len hl
    refine lc_it (walk_zipT (n := ys.length) (xs := xs.map V.str) (ys := ys.map V.str) (by rw [List.length_map, List.length_map, hl, Nat.min_self])) (fun i H3 => Same H H3 ∧ H3 D = some (.lst (((joinM xs ys).take i).map V.str))) ⟨same_new nD, upd_same⟩
      (fun i H3 _ hP => ⟨same_sqT hP.1 ha, same_sqT hP.1 hb⟩) (fun i x H3 H4 hi hP hY => ?_) (fun H3 hP => ?_)
    · obtain ⟨s3, eD⟩ := hP
      obtain ⟨T, x1, x2, rfl, nT, rfl, e1, e2⟩ := hY
      obtain ⟨y1, f1, rfl⟩ := str_get e1
      obtain ⟨y2, f2, rfl⟩ := str_get e2
      have sT : Same H3 (upd H3 T (.tup [.str y1, .str y2])) := same_new nT
      have eD4 := sT _ _ eD
      have g := joinM_get f1 f2
      have fin : ∀ v : V, v = .str (if y2 = wSame then y1 else y2) → ∃ acc, (upd H3 T (.tup [.str y1, .str y2])) D = some (.lst acc) ∧ acc.length < sizeLine ∧ Same H (upd (upd H3 T (.tup [.str y1, .str y2])) D (.lst (acc ++ [v]))) ∧
          (upd (upd H3 T (.tup [.str y1, .str y2])) D (.lst (acc ++ [v]))) D = some (.lst (((joinM xs ys).take (i + 1)).map V.str)) := by
        intro v hv
        refine ⟨_, eD4, ?_, ?_, ?_⟩
        · rw [List.length_map, List.length_take]; exact small1000 (by omega)
        · intro b' o e
          rw [upd_ne (ne_of_none e nD)]
          exact sT _ _ (s3 _ _ e)
        · rw [upd_same, List.take_add_one, g, List.map_append, hv]; rfl
      refine ⟨T, _, rfl, .inl (.inl upd_same), rfl, _, _, rfl, _, _, rfl, rfl, rfl, tyes (iteT ⟨.str y2, rfl, rfl, _, rfl, ite2 (fun e => ?_) (fun e => ?_)⟩)⟩
      · have e' : y2 = wSame := V.str.inj (of_decide_eq_true e)
        exact ⟨.str y1, rfl, fin _ (by rw [if_pos e'])⟩
      · have e' : y2 ≠ wSame := fun z => e (by rw [z]; exact decide_eq_true rfl)
        exact ⟨.str y2, rfl, fin _ (by rw [if_neg e'])⟩
    · obtain ⟨s3, eD⟩ := hP
      rw [List.take_of_length_le (by rw [hjl]; exact Nat.le_refl _)] at eD
      refine ⟨D, _, rfl, .inl (.inl eD), fun t o nt ho => ?_⟩
      exact q _ t (s3.trans (same_new nt)) ⟨o, upd_same, ho⟩
def spWith (K : PySem.W.Frag) : Sp := fun vs H Q _ => ∃ (p t : Addr) (pan : List (List Int)) (xs : List Str) (b : Int), vs = [.ref p, .ref t, .int b] ∧ PanT K H p pan ∧ Good pan ∧ SqT K H t (xs.map V.str) ∧ xs.length = pan.length ∧ 0 ≤ b ∧ b < (pan.length : Int) ∧
  ∀ H' u, Same H H' → FT H' u ((joinM xs (pressW pan b)).map V.str) → Q (.ref u) H'
theorem ok_with {f fN fP fJ : Addr} {fd fdN fdP fdJ : FuncData} {k : Nat} (F : Fun K "effect_with_press" "effect_with_press" sWith f fd) (FN : Fun K "no_effect" "no_effect" sNo fN fdN) (bN : Binds K fdN ["panel"] []) (gN : mg "no_effect" = some (.ref fN))
    (FP : Fun K "press_effect" "press_effect" sPressE fP fdP) (bP : Binds K fdP ["panel", "button"] []) (gP : mg "press_effect" = some (.ref fP))
    (FJ : Fun K "joined_effect" "joined_effect" sJoin fJ fdJ) (bJ : Binds K fdJ ["first", "second"] []) (gJ : mg "joined_effect" = some (.ref fJ))
    (ml : mg "len" = none) (mli : mg "list" = none) (mt : mg "tuple" = none) (mz : mg "zip" = none) : FnOk P w K mg base CX0 (k + 3) f fd ["panel", "effect", "button"] (spWith K) := by
  have GP : FnOk P w K mg base CX0 (k + 2) fP fdP ["panel", "button"] (spPressE K) := ok_pressE FP FN bN gN ml mli mt
  have GJ : FnOk P w K mg base CX0 (k + 2) fJ fdJ ["first", "second"] (spJoin K) := ok_join FJ mz mt
  refine F.ok scWith (fun vs H Q E h => ?_) (fun cdv A outer s H vs Q E hr h => ?_)
  · obtain ⟨p, t, pan, xs, b, rfl, _⟩ := h
    rfl
  · obtain ⟨p, t, pan, xs, b, rfl, hp, hg, ht, hxl, b0, b1, q⟩ := h
    refine ⟨_, pss_one (ps_ret (pe_call GJ hr (by rfl) gJ FJ.kp bJ .nil pass0 (pa_cons (pv 1) (pa_cons (pe_call GP hr (by rfl) gP FP.kp bP .nil pass0 (pa_cons (pv 0) (pa_cons (pv 2) pa_nil))) pa_nil)))), ?_⟩
    have few := hg.few
    refine ⟨.ref t, rfl, .ref p, rfl, .int b, rfl, p, pan, b, rfl, hp, hg, b0, b1, fun H1 u s1 eu => ?_⟩
    exact ⟨t, u, xs, pressW pan b, rfl, same_sqT s1 ht, .inl (.inl eu), by rw [pressW_len, hxl], by rw [pressW_len]; omega, fun H2 v s2 ev => q _ v (s1.trans s2) ev⟩
end
end K54
namespace K54
open PySem PySem.Spec PyProof.Rows L2 Pr
theorem knM_app (n : Nat) (past : List (PyData × List (List Int) × List Int)) (x : PyData × List (List Int) × List Int) : knM n (past ++ [x]) = (match isPress x.1 with | some b => joinM (knM n past) (pressW x.2.1 b) | none => knM n past) := by
  unfold knM
  rw [List.foldl_append]; rfl
theorem take_succ_get {α : Type} {l : List α} {i : Nat} {x : α} (h : l[i]? = some x) : l.take (i + 1) = l.take i ++ [x] := by
  rw [List.take_succ, h]; rfl
def nKAft : List Str := ["panel", "past", "known", "edit", "seen", "latched"]
theorem scKAft : FnScope nKAft ["panel", "past"] (defScope sKAft) := ⟨rfl, rfl, rfl, by decide +kernel, rfl, by decide +kernel, by decide +kernel⟩
section
variable {P : Program} {w : World} {K : PySem.W.Frag} {mg : Str → Option Value} {base : Heap}
def spKAft (K : PySem.W.Frag) : Sp := fun vs H Q _ => ∃ (p pa : Addr) (pan : List (List Int)) (past : List (PyData × List (List Int) × List Int)), vs = [.ref p, .ref pa] ∧ PanT K H p pan ∧ Good pan ∧ PastAt K H pa past ∧ (∀ x ∈ past, lf x.1 = true ∧ Good x.2.1 ∧ Asc x.2.1.length x.2.2 ∧ PEd pan.length x) ∧
  ∀ H' u, Same H H' → FT H' u ((knM pan.length past).map V.str) → Q (.ref u) H'
theorem ok_KAft {fNo : Addr} {fdNo : FuncData} {fPressE : Addr} {fdPressE : FuncData} {fJoin : Addr} {fdJoin : FuncData} {fWith : Addr} {fdWith : FuncData} {f : Addr} {fd : FuncData} {k : Nat} (F : Fun K "known_after" "known_after" sKAft f fd)
    (FNo : Fun K "no_effect" "no_effect" sNo fNo fdNo) (bNo : Binds K fdNo ["panel"] []) (gNo : mg "no_effect" = some (.ref fNo))
    (FPressE : Fun K "press_effect" "press_effect" sPressE fPressE fdPressE) (bPressE : Binds K fdPressE ["panel", "button"] []) (gPressE : mg "press_effect" = some (.ref fPressE))
    (FJoin : Fun K "joined_effect" "joined_effect" sJoin fJoin fdJoin) (bJoin : Binds K fdJoin ["first", "second"] []) (gJoin : mg "joined_effect" = some (.ref fJoin))
    (FWith : Fun K "effect_with_press" "effect_with_press" sWith fWith fdWith) (bWith : Binds K fdWith ["panel", "effect", "button"] []) (gWith : mg "effect_with_press" = some (.ref fWith))
    (m_len : mg "len" = none) (m_list : mg "list" = none) (m_tuple : mg "tuple" = none) (m_zip : mg "zip" = none) : FnOk P w K mg base CX0 (k + 4) f fd ["panel", "past"] (spKAft K) := by
  have GNo : FnOk P w K mg base CX0 (k + 1) fNo fdNo ["panel"] (spNo K) := ok_no FNo m_len
  have GWith : FnOk P w K mg base CX0 (k + 3) fWith fdWith ["panel", "effect", "button"] (spWith K) := ok_with FWith FNo bNo gNo FPressE bPressE gPressE FJoin bJoin gJoin m_len m_list m_tuple m_zip
  refine F.ok scKAft (fun vs H Q E h => ?_) (fun cdv A outer s H vs Q E hr h => ?_)
  · obtain ⟨p, pa, pan, past, rfl, _⟩ := h
    rfl
  · refine ⟨_, pss_cons (ps_set (i := 2) scKAft.nd rfl (.inl rfl) (pe_call GNo (hr.mono (by omega)) (by rfl) gNo FNo.kp bNo .nil pass0 (pa_cons (pv 0) pa_nil)))
      (pss_cons (ps_for PassesOwn.never rfl (show PI _ _ _ (iTup K _) from pi_tup (pv 1)) (pg_tup rfl (pgs_cons (pg_name (i := 3) scKAft.nd rfl (Or.inl rfl)) (pgs_cons (pg_name (i := 4) scKAft.nd rfl (Or.inl rfl)) (pgs_cons (pg_name (i := 5) scKAft.nd rfl (Or.inl rfl)) pgs_nil)))) (pss_one (ps_if (pt_cmpR op_eq (pe_ix (show IxR _ (rIxT K) from ix_tup) (pv 3) pe_int (fun _ _ => rfl)) pe_str (nomark _)) (pss_one (ps_set (i := 2) scKAft.nd rfl (.inl rfl) (pe_call GWith (hr.mono (by omega)) (by rfl) gWith FWith.kp bWith .nil pass0 (pa_cons (pv 4) (pa_cons (pv 2) (pa_cons (pe_ix (show IxR _ (rIxT K) from ix_tup) (pv 3) pe_int (fun _ _ => rfl)) pa_nil)))))) pss_nil)))
      (pss_one (ps_ret (pv 2)))), hide1 fun t0 ht0 => ?_⟩
    obtain ⟨p, pa, pan, past, rfl, hp, hg, hP, lfe, q⟩ := h
    refine ht0 _ _ _ ?_
    refine ⟨.ref p, rfl, p, pan, rfl, hp, hg, fun H1 t s1 et => ?_⟩
    obtain ⟨xs, hpa, hxs⟩ := hP
    refine ⟨.ref pa, rfl, pa, rfl, ⟨_, same_sqT s1 hpa⟩, ?_⟩
    refine for_tup (xs := xs) (fun i σ H2 => Same H H2 ∧ ∃ u x3 x4 x5, FT H2 u ((knM pan.length (past.take i)).map V.str) ∧ σ = [some (.ref p), some (.ref pa), some (.ref u), x3, x4, x5])
      ⟨s1, t, _, _, _, by rw [List.take_zero, show knM pan.length [] = effM pan [] from (effM_nil pan).symm]; exact et, rfl⟩ (fun i σ H2 _ hP => same_sqT hP.1 hpa) (fun i x σ H2 hx hP => ?_) (fun σ H2 hP => ?_)
    · obtain ⟨s2, u, x3, x4, x5, eu, rfl⟩ := hP
      obtain ⟨y, hy, hE⟩ : ∃ y, past[i]? = some y ∧ EntAt K H x y := by
        have hi : i < xs.length := (List.getElem?_eq_some_iff.mp hx).1
        have hi2 : i < past.length := by rw [← hxs.length]; exact hi
        obtain ⟨x', hx', hE⟩ := prGet hxs (List.getElem?_eq_getElem hi2)
        rw [hx] at hx'; cases hx'
        exact ⟨_, List.getElem?_eq_getElem hi2, hE⟩
      obtain ⟨au, pu, lu, vu, rfl, hau, dvu, hpu, elu⟩ := hE.sm s2
      have hy' := lfe y (List.mem_of_getElem? hy)
      have hn := knM_len (past := past.take i) (n := pan.length) fun x hx => (lfe x (List.mem_of_mem_take hx)).2.2.2
      refine ⟨au, _, rfl, hau, rfl, vu, [.ref pu, .ref lu], rfl, .ref pu, [.ref lu], rfl, .ref lu, [], rfl, rfl, ?_⟩
      refine hideD fun E0 hn0 => ?_
      have key := knM_app pan.length (past.take i) y
      rw [← take_succ_get hy] at key
      obtain ⟨hl, hc⟩ := hy'.2.2.2
      rcases hc with ⟨b, eb, b0, b1⟩ | ⟨z, one, other, hz, eb⟩
      · have ep : isPress y.1 = some b := by rw [eb]; show (if ("press" : Str) = ("press" : Str) then some b else none) = some b; exact if_pos rfl
        rw [eb] at dvu
        refine (gvt_test (K := K) (gv_eqS (gv_ixT (j := 0) (gv_var rfl dvu) gv_int rfl rfl) gv_str)).at fun H3 s3 => ?_
        rw [decide_eq_true rfl]
        refine iteT ?_
        refine ⟨.ref pu, rfl, .ref u, rfl, (gv_ixT (K := K) (j := 1) (d := .int b) (gv_var rfl (dvu.sm s3)) gv_int rfl rfl).at fun vb H4 s4 db => ?_⟩
        cases db
        have s34 := s3.trans s4
        refine ⟨pu, u, y.2.1, _, b, rfl, hpu.same s34, hy'.2.1, (eu.same s34).sq, by rw [hn, hl], b0, by rw [hl]; exact b1, fun H5 v s5 ev => hn0 _ _ ⟨(s2.trans s34).trans s5, v, _, _, _, ?_, rfl⟩⟩
        rw [ep] at key
        rw [key]; exact ev
      · have ep : isPress y.1 = none := by rw [eb]; rfl
        rw [eb] at dvu
        refine (gvt_test (K := K) (gv_eqS (gv_ixT (j := 0) (gv_var rfl dvu) gv_int rfl rfl) gv_str)).at fun H3 s3 => ?_
        rw [decide_eq_false hz]
        refine iteF (hn0 _ _ ⟨s2.trans s3, u, _, _, _, ?_, rfl⟩)
        rw [ep] at key
        rw [key]; exact eu.same s3
    · obtain ⟨s2, u, x3, x4, x5, eu, rfl⟩ := hP
      rw [hxs.length, List.take_length] at eu
      exact ⟨.ref u, rfl, q _ u s2 eu⟩
end
end K54
namespace Pr
open PySem PySem.Spec PyProof.Rows L2 NdefX
/-- the def as it stands behind the top: its class is D, told by the cell at cc; its code object is at c -/
structure SFun (K : PySem.W.Frag) (x qual : Str) (st : Stmt) (cc c : Addr) (f : Addr) (fd : FuncData) : Prop where
  ex : ∃ (oc : Value) (od : Option Addr) (kV doc pm : Value) (an : Option Addr) (ct : Value) (osl : Array (Option Value)),
    fd = PySem.W.fnX x qual (defArgs st) (defBody st) (defScope st) [("__class__", cc)] .none kV doc pm an (.ref c) ct ∧ K.lookup f = some ⟨oc, od, .func fd, osl⟩ ∧ PySem.W.codeIn K (.ref c) qual = true
  kp : PySem.W.keepIn K (.ref f) = true
abbrev sNF (x qual : Str) (st : Stmt) (cc c : Addr) : NF := ⟨x, qual, defArgs st, defBody st, defScope st, [("__class__", cc)], c⟩
/-- the class that the cell holds, the file of the code, the name of the first parameter -/
structure SCls (prog : Program) (K : PySem.W.Frag) (mg : Str → Option Value) (cc c D : Addr) : Prop where
  cell : ∃ (oc : Value) (od : Option Addr) (osl : Array (Option Value)), K.lookup cc = some ⟨oc, od, .cell (some (.ref D)), osl⟩
  code : ∃ (oc : Value) (od : Option Addr) (vs : Array Value) (osl : Array (Option Value)) (file : Str) (tf : Tok), K.lookup c = some ⟨oc, od, .fields vs, osl⟩ ∧ vs[2]? = some (.str file tf) ∧ ((prog.main.file : Str) == file) = true
  cls : ∃ cd, PySem.W.clsIn K D = some cd
  top : (prog.main.scope.names.lookup ("super" : Str)).isSome = false
  mgs : mg "super" = none
/-- the method that super() finds for an instance of C -/
structure SMeth (K : PySem.W.Frag) (C D : Addr) (m : Str) (g : Addr) : Prop where
  sub : PySem.W.mroIn K C (.ref D) = some true
  at_ : PySem.W.ks_superIn K C D m = some (some (.ref g))
  ty : PySem.W.typeIn K (.ref g) = some (.type "function")
  fi : PySem.W.fnIn K g = true
  op : PySem.W.nsIn K cStatics "thirdparty.any" = some none
section
variable {P : Program} {w : World} {K : PySem.W.Frag} {mg : Str → Option Value} {base : Heap}
theorem SFun.ok {CX : CXT} {x qual : Str} {st : Stmt} {cc c D f : Addr} {fd : FuncData} {N ps : List Str} {k : Nat} {sp : Sp} (F : SFun K x qual st cc c f fd) (T : SCls P K mg cc c D) (S : NScope N ps ["__class__"] (defScope st)) (len : ∀ vs H Q E, sp vs H Q E → vs.length = ps.length)
    (hbody : ∀ (A : Around) (outer : List Env) (s : Shared) (H : Hp) (vs : List V) (Q : VK) (E : XK), Room k (A.deeper (envF (sNF x qual st cc c) f s.heap.objs.size)) → sp vs H Q E → ∀ s1,
      Inv (ncx CX P w K mg base N (sNF x qual st cc c) f A outer s H E) [] (startF N vs [none]) H s1 →
      _root_.PySem.wpAt (model P w) (A.deeper (envF (sNF x qual st cc c) f s.heap.objs.size)) (.func (defBody st) (envF (sNF x qual st cc c) f s.heap.objs.size)) (execs (defBody st) (envF (sNF x qual st cc c) f s.heap.objs.size))
        (SP (ncx CX P w K mg base N (sNF x qual st cc c) f A outer s H E) [] { nx := fun _ H' => Q .non H', rt := Q }) (ncx CX P w K mg base N (sNF x qual st cc c) f A outer s H E).xe s1) :
    FnOk P w K mg base CX (k + 1) f fd ps sp := by
  obtain ⟨oc, od, kV, doc, pm, an, ct, osl, rfl, lk, hcd⟩ := F.ex
  obtain ⟨occ, odc, osc, hcell⟩ := T.cell
  refine ⟨len, fun A outer s H args us vs Q E hr e0 hb r hsp => ?_⟩
  have hl := len _ _ _ _ hsp
  have kin : K.In s.heap := e0.mod.kin.keeps fun b o e => (e0.bs b o e).1
  have lim : s.heap.NoLimit := e0.mod.nolimit.keeps fun b o e => (e0.bs b o e).1
  have Cc : s.heap.IsCell cc (some (.ref D)) := ⟨_, kin _ _ hcell, rfl⟩
  have Hc : H cc = none := (e0.bs cc _ (e0.mod.kin _ _ hcell)).2
  have lkc : ∀ (y : Str) (d : Addr), [(("__class__" : Str), cc)].lookup y = some d → y = "__class__" ∧ d = cc := by
    intro y d e
    have := PySem.mem_of_lookup e
    simp at this
    exact this
  have CA : CellsAt [(("__class__" : Str), cc)] ["__class__"] [none] s.heap H := by
    refine ⟨rfl, fun y d e => ?_, fun y z d e1 e2 => ?_, fun i y hi => ?_⟩
    · obtain ⟨_, rfl⟩ := lkc y d e
      exact ⟨Hc, _, Cc⟩
    · rw [(lkc y d e1).1, (lkc z d e2).1]
    · have : y = "__class__" := by
        cases i with
        | zero => simpa using hi.symm
        | succ i => simp at hi
      subst this
      refine ⟨cc, rfl, fun v hv => ?_⟩
      cases i with
      | zero => simp at hv
      | succ i => simp at hv
  have hloc : ∀ y ∈ ps.zip us, (defScope st).names.lookup y.1 = some .local := fun ⟨n, v⟩ hy => S.par n (List.of_mem_zip hy).1
  refine PySem.ks_codeAny_call_defAt (fd := PySem.W.fnX x qual (defArgs st) (defBody st) (defScope st) [("__class__", cc)] .none kV doc pm an (.ref c) ct) (body := defBody st) (binds := ps.zip us) hr.depth (kin _ _ lk) rfl lim (PySem.W.codeRec_of kin hcd) rfl hb (fun y hy => S.nocell y hy) hloc (fun h₁ hns kp => ?_) S.co S.gen S.kind
  have I : Inv (ncx CX P w K mg base N (sNF x qual st cc c) f A outer s H E) [] (startF N vs [none]) H { s with heap := h₁, toks := s.toks + (ps.zip us).length } := inv_startN S hr.hd e0 hl r CA hns kp
  refine PySem.ks_wpAt_mono (hbody A outer s H vs Q E (hr.deeper _) hsp _ I) (fun fl s' hs => ?_) fun e s' hs => hs
  have fin : ∀ {σ' : L2.St} {H' : Hp} {v : V} {u : Value}, Inv (ncx CX P w K mg base N (sNF x qual st cc c) f A outer s H E) [] σ' H' s' → L2.RelV v u → Q v H' → CE outer P w H s Q u s' :=
    fun {σ' H' v u} J rv q => ⟨v, H', J.os, J.bare, J.base, J.hok, rv, q⟩
  cases fl with
  | ret u =>
    obtain ⟨v, σ', H', J, rv, q⟩ := hs
    exact fin J rv q
  | next =>
    obtain ⟨σ', H', J, q⟩ := hs
    exact fin (v := V.non) (u := Value.none) J rfl q
  | brk =>
    obtain ⟨_, _, _, q⟩ := hs
    exact False.elim q
  | cont =>
    obtain ⟨_, _, _, q⟩ := hs
    exact False.elim q
theorem SFun.binds {x qual : Str} {st : Stmt} {cc c f : Addr} {fd : FuncData} {ps : List Str} (F : SFun K x qual st cc c f fd)
    (h : ∀ (kV doc pm : Value) (an : Option Addr) (ct : Value) (us : List Value), us.length = ps.length → bindArgs (PySem.W.fnX x qual (defArgs st) (defBody st) (defScope st) [("__class__", cc)] .none kV doc pm an (.ref c) ct) ⟨us, []⟩ = pure (ps.zip us)) : Binds K fd ps [] := by
  obtain ⟨oc, od, kV, doc, pm, an, ct, osl, rfl, lk, hcd⟩ := F.ex
  exact .all (h kV doc pm an ct)
theorem sfun_mk {x qual : Str} {st : Stmt} {cc c f : Addr} {oc : Value} {od an : Option Addr} {osl : Array (Option Value)} {kV doc pm ct : Value} (l : K.lookup f = some ⟨oc, od, .func (PySem.W.fnX x qual (defArgs st) (defBody st) (defScope st) [("__class__", cc)] .none kV doc pm an (.ref c) ct), osl⟩)
    (hc : PySem.W.codeIn K (.ref c) qual = true) (k : PySem.W.keepIn K (.ref f) = true) : SFun K x qual st cc c f (PySem.W.fnX x qual (defArgs st) (defBody st) (defScope st) [("__class__", cc)] .none kV doc pm an (.ref c) ct) := ⟨⟨oc, od, kV, doc, pm, an, ct, osl, rfl, l, hc⟩, k⟩
end
/-- the running def's frame, as super() reads it -/
structure SEnv (X : Cx) (f cc c D : Addr) (slf : Str) : Prop where
  cls : SCls X.prog X.K X.mg cc c D
  fu : X.env.func = some f
  co : X.env.code = .ref c
  cel : X.env.cells.lookup ("__class__" : Str) = some cc
  fo : ∃ (oc : Value) (od : Option Addr) (fd : FuncData) (osl : Array (Option Value)) (ar : Arg), X.K.lookup f = some ⟨oc, od, .func fd, osl⟩ ∧ (fd.params.posonlyargs ++ fd.params.args).head? = some ar ∧ ar.arg = slf
  ks : X.env.kindOf "super" = some .globalImplicit
  kc : X.env.kindOf "__class__" = some .free
  kslf : X.env.kindOf slf = some .local
section
variable {X : Cx} {pins : List (Addr × Obj)} {σ : L2.St} {H : Hp} {s : Shared} {f cc c D C x dx g : Addr} {slf m : Str} {fs : List (Str × V)} {E : Value → Shared → Prop}
theorem clsIn_obj {K : PySem.W.Frag} {h : Heap} {D : Addr} {cd : ClassData} (kin : K.In h) (e : PySem.W.clsIn K D = some cd) : ∃ o, h.get? D = some o ∧ o.data = .cls cd := by
  unfold PySem.W.clsIn at e
  split at e
  · rename_i c d cd' sl ho
    cases e
    exact ⟨_, kin _ _ ho, rfl⟩
  · cases e
theorem sup_ld {name : Str} {u : Value} {Q : Value → Shared → Prop} (I : Inv X pins σ H s) (hg : X.env.kindOf name = some .globalImplicit) (hm : X.mg name = none) (hv : bootBuiltins name = some u) (h : Q u s) (hn : name ≠ "__name__" := by decide) :
    wpAny (model X.prog X.w) X.A (loadName X.env name) Q E s := by
  obtain ⟨mb, h1, h2⟩ := I.mod.blt
  exact PySem.W.ks_loadName_global I.ok.kind hg (Calls.loadGlobal_builtin (by rw [I.ok.glob]; exact I.mod.glob.keeps I.bk) hm (by rw [I.ok.blt]; exact h1.keeps I.bk) ((h2 name hn).trans hv) h)
/-- the base of the attribute: a super object, new, pinned -/
theorem sup_base {body : List Stmt} {p0 p1 : Pos} {whole : Sem Value} {Q : Value → Shared → Prop} {i : Nat} {od : Option Obj} {ox : Obj} (I : Inv X pins σ H s) (B : SEnv X f cc c D slf) (hN : X.N[i]? = some slf) (hσ : σ[i]? = some (some (.ref x)))
    (J : PySem.W.InstAt s.heap x ox C od) (hsub : PySem.W.mroIn X.K C (.ref D) = some true) (hat : (m == ("__class__" : Str)) = false)
    (h : ∀ s', Inv X ((s.heap.objs.size, PySem.W.ks_superObj D x C) :: pins) σ H s' → (∀ y o, s.heap.get? y = some o → s'.heap.get? y = some o) → Q (.ref s.heap.objs.size) s') :
    _root_.PySem.wpAt (model X.prog X.w) X.A (.func body X.env) (attributeBase (.Call (.Name "super" p0) [] [] p1) m X.env whole) Q E s := by
  obtain ⟨ocf, odf, fd, osf, ar, hf, hp, har⟩ := B.fo
  obtain ⟨occ, odc, osc, hcell⟩ := B.cls.cell
  obtain ⟨ocd, odd, vs, osd, file, tf, hcode, hvs, hfile⟩ := B.cls.code
  obtain ⟨cd, hcd⟩ := B.cls.cls
  obtain ⟨oD, hD1, hD2⟩ := clsIn_obj I.kIn hcd
  refine PySem.ks_wpAt_super_base (env := X.env) B.ks B.kc hat B.fu (I.kIn _ _ hf) rfl hp B.co (I.kIn _ _ hcode) rfl hvs hfile B.cls.top ?_
  refine sup_ld I B.ks B.cls.mgs (show bootBuiltins "super" = some (.type "super") by first | rfl | decide +kernel | kernel_rfl) ⟨rfl, ?_⟩
  refine wpAny_loadName_free I.ok.kind B.kc B.cel ⟨_, I.kIn _ _ hcell, rfl⟩ ?_
  obtain ⟨mm, hn, hl⟩ := I.loc
  obtain ⟨u, ru, lo⟩ := hl i slf (.ref x) hN hσ (.inl B.kslf)
  obtain rfl : u = Value.ref x := ru
  have hmm : mm slf = some (.ref x) := by
    rcases lo with ⟨_, q⟩ | ⟨q, _⟩
    · exact q
    · rw [B.kslf] at q
      rcases q with q | q <;> cases q
  rw [har]
  refine wpAny_loadName_local I.ok.kind B.kslf hn hmm ?_
  refine PySem.ks_wpAny_isType_cls hD1 hD2 ⟨rfl, ?_⟩
  obtain ⟨hh, gg, d, t, os⟩ := s
  refine PySem.ks_wpAny_call_super hD1 hD2 J.at_ J.cls (fun cc' e => ?_) (PySem.W.looks_mroIn I.kIn hsub) (fun h' e k => ?_)
  · have := J.no
    unfold PySem.W.notCls at this
    rw [e] at this
    exact Bool.noConfusion this
  · exact h _ (ClX.pin_new (t' := t) I k (Nat.le_refl _) e fun v z => nomatch z) k
/-- the method, bound to the receiver -/
theorem sup_meth {pl : Sem Bool} {so : Addr} {Q : Value × List Value → Shared → Prop} {od : Option Obj} {ox : Obj} (I : Inv X ((so, PySem.W.ks_superObj D x C) :: pins) σ H s) (J : PySem.W.InstAt s.heap x ox C od) (k : SMeth X.K C D m g) (hn : (m == ("__class__" : Str)) = false)
    (h : ∀ s', Inv X ((s.heap.objs.size, PySem.W.methodObj (.ref g) (.ref x)) :: pins) σ H s' → X.base.get? s.heap.objs.size = none → Q (.ref s.heap.objs.size, []) s') : wpAny (model X.prog X.w) X.A (getMethod (.ref so) m pl) Q E s := by
  obtain ⟨cd, hcd⟩ : ∃ cd, PySem.W.clsIn X.K C = some cd := by
    have q := k.at_
    unfold PySem.W.ks_superIn at q
    cases z : PySem.W.clsIn X.K C with
    | none => rw [z] at q; cases q
    | some cd => exact ⟨cd, rfl⟩
  have ha := k.at_
  unfold PySem.W.ks_superIn at ha
  rw [hcd] at ha
  have ht : (X.K.lookup g).map (·.cls) = some (.type "function") := k.ty
  obtain ⟨og, lg, cg⟩ := Option.map_eq_some_iff.mp ht
  have I0 := ClX.unpin I
  have hso := ClX.pin_at I
  have hbn := ClX.base_none I0 (Nat.le_refl s.heap.objs.size)
  have I1 := ClX.met_new (g := g) (C := x) I0
  have kin := I.kIn
  have hmro : PySem.W.Looks (model X.prog X.w) s.heap (mroOf (.ref C)) cd.mro := (PySem.W.looks_clsIn kin hcd).andThen .now
  obtain ⟨hh, gg, d, t, os⟩ := s
  exact PySem.ks_wpAny_getMethod_super hso (PySem.W.looks_opaque kin k.op) hmro rfl kin ha (kin _ _ lg) cg (PySem.W.ks_ne kin J hcd) hn (h _ I1 hbn)
/-- super().m(e, ..) in the body of a def of the class D, the receiver an instance of C -/
theorem sup_eval {CX : CXT} {k : Nat} {sp : Sp} {EX : XK} {Q : VK} {body : List Stmt} {p0 p1 apos pos : Pos} {e : Expr} {es : List Expr} {ta : TA} {i : Nat} (I : Inv X pins σ H s) (B : SEnv X f cc c D slf) (hN : X.N[i]? = some slf) (hσ : σ[i]? = some (some (.ref x)))
    (hx : H x = some (.ins C dx fs)) (M : SMeth X.K C D m g) (F : FnR X.prog X.w X.K X.mg X.base CX k g sp) (hr : Room k X.A) (hp : Passes CX X EX) (ha : PA X (e :: es) ta) (q : ta σ H fun vs H1 => sp (.ref x :: vs) H1 Q EX)
    (hm : (m == ("__class__" : Str)) = false := by decide) (hst : starEach (e :: es) X.env = (false, eval e X.env) :: starEach es X.env := by rfl) (hpl : (backTo pos (starEach es X.env)).any (·.1) = false := by rfl)
    (pl : Sem Bool) (ht : eval (.Call (.Attribute (.Call (.Name "super" p0) [] [] p1) m apos) (e :: es) [] pos) X.env = (do
      let ov ← attributeBase (.Call (.Name "super" p0) [] [] p1) m X.env (eval (.Call (.Name "super" p0) [] [] p1) X.env)
      standAt apos.atName
      let (f, first) ← holding [ov] (getMethod ov m pl)
      callWith pos f first (backTo pos (starEach (e :: es) X.env)) []) := by rfl) :
    _root_.PySem.wpAt (model X.prog X.w) X.A (.func body X.env) (eval (.Call (.Attribute (.Call (.Name "super" p0) [] [] p1) m apos) (e :: es) [] pos) X.env) (EP X pins σ Q) X.xe s := by
  obtain ⟨mA, O, _, _, _, hdx⟩ := ins_get I.hok hx
  obtain ⟨od, hod, _⟩ := lookIn_ns O.ns
  have J : PySem.W.InstAt s.heap x (PySem.W.instObj C dx) C (some od) := ⟨O.obj, rfl, rfl, hod⟩
  refine PySem.ks_wpAt_MethodCall (pl := pl) ?_ ht
  refine sup_base I B hN hσ J M.sub hm fun s1 I1 k1 => ?_
  have J1 : PySem.W.InstAt s1.heap x (PySem.W.instObj C dx) C (some od) := ⟨k1 _ _ O.obj, rfl, rfl, k1 _ _ hod⟩
  refine sup_meth I1 J1 M hm fun s2 I2 hb => ?_
  refine ClX.callwith_cm I2 hb M.fi (thn (ha.run pos _ s2 σ H _ I2 q) fun us s3 ⟨vs, H3, I3, r3, q3⟩ => ⟨⟨ClX.pin_at I3, I3.kIn⟩, ?_⟩) hst hpl
  exact ClX.run_cm F hr hp I3 r3 q3
/-- .. as the first statement of the body, then the rest -/
theorem sup_first {CX : CXT} {k : Nat} {sp : Sp} {EX : XK} {body rest : List Stmt} {p0 p1 apos pos p2 : Pos} {e : Expr} {es : List Expr} {ta : TA} {u : TS} {D' : Ends} {i : Nat} (I : Inv X pins σ H s) (B : SEnv X f cc c D slf) (hN : X.N[i]? = some slf) (hσ : σ[i]? = some (some (.ref x)))
    (hx : H x = some (.ins C dx fs)) (M : SMeth X.K C D m g) (F : FnR X.prog X.w X.K X.mg X.base CX k g sp) (hr : Room k X.A) (hp : Passes CX X EX) (ha : PA X (e :: es) ta) (hrest : PSs X rest u)
    (q : ta σ H fun vs H1 => sp (.ref x :: vs) H1 (fun _ H2 => u D' σ H2) EX)
    (pl : Sem Bool) (ht : eval (.Call (.Attribute (.Call (.Name "super" p0) [] [] p1) m apos) (e :: es) [] pos) X.env = (do
      let ov ← attributeBase (.Call (.Name "super" p0) [] [] p1) m X.env (eval (.Call (.Name "super" p0) [] [] p1) X.env)
      standAt apos.atName
      let (f, first) ← holding [ov] (getMethod ov m pl)
      callWith pos f first (backTo pos (starEach (e :: es) X.env)) []) := by rfl)
    (hi : interactive X.env = false := by rfl) (hs : swapsWith (.Call (.Attribute (.Call (.Name "super" p0) [] [] p1) m apos) (e :: es) [] pos) none p2.line X.env = pure false := by rfl)
    (hm : (m == ("__class__" : Str)) = false := by decide) (hst : starEach (e :: es) X.env = (false, eval e X.env) :: starEach es X.env := by rfl) (hpl : (backTo pos (starEach es X.env)).any (·.1) = false := by rfl) :
    _root_.PySem.wpAt (model X.prog X.w) X.A (.func body X.env) (execs (.Expr (.Call (.Attribute (.Call (.Name "super" p0) [] [] p1) m apos) (e :: es) [] pos) p2 :: rest) X.env) (SP X pins D') X.xe s := by
  refine PySem.ks_wpAt_execs_cons (PySem.ks_wpAt_Expr_any (PySem.ks_wpAt_mono (sup_eval (body := body) I B hN hσ hx M F hr hp ha q hm hst hpl pl ht) (fun v s' hv => ?_) fun _ _ z => z) hi hs)
  obtain ⟨y, H2, I2, _, q2⟩ := hv
  exact wpAt_of_wpAny (hrest.run pins s' σ H2 D' I2 q2)
end
end Pr
namespace Pr
open PySem PySem.Spec PyProof.Rows L2 NdefX
theorem fr_of {P : Program} {w : World} {K : PySem.W.Frag} {mg : Str → Option Value} {base : Heap} {CX : CXT} {k : Nat} {f : Addr} {fd : FuncData} {ps : List Str} {sp : Sp} (F : FnOk P w K mg base CX k f fd ps sp) (hb : Binds K fd ps []) : FnR P w K mg base CX k f sp := (F.raw hb .nil).imp fun vs H Q E h => by rw [List.append_nil]; exact h
theorem passAt0 {X : Cx} {E : L2.St → XK} : ∀ σ, PassesAt CX0 X σ (E σ) := fun _ _ _ _ _ _ _ h => h.elim
def tCFun (C : Addr) (sp : Sp) (E : L2.St → XK) (ta : TE) (t : TA) : TE := fun σ H Q => ta σ H fun x H1 => x = .ref C ∧ t σ H1 fun vs H2 => sp vs H2 Q (E σ)
section
variable {X : Cx} {CX : CXT} {k : Nat} {C g : Addr} {mc : Value} {sp : Sp} {E : L2.St → XK} {o e : Expr} {es : List Expr} {m : Str} {pos apos : Pos} {ta : TE} {t : TA} {pl : Sem Bool}
theorem pe_cfun (he : PE X o ta) (r : ClX.CRead X.K C mc) (c : ClX.CVal X.K C mc m (.ref g) (.ref g)) (hk : PySem.W.keepIn X.K (.ref g) = true) (F : FnR X.prog X.w X.K X.mg X.base CX k g sp) (hr : Room k X.A) (hx : ∀ σ, PassesAt CX X σ (E σ)) (ha : PA X (e :: es) t)
    (hst : starEach (e :: es) X.env = (false, eval e X.env) :: starEach es X.env := by rfl) (hpl : (backTo pos (starEach es X.env)).any (·.1) = false := by rfl)
    (ht : eval (.Call (.Attribute o m apos) (e :: es) [] pos) X.env = (do
      let ov ← eval o X.env
      standAt apos.atName
      let (f, first) ← holding [ov] (getMethod ov m pl)
      callWith pos f first (backTo pos (starEach (e :: es) X.env)) (backToKw pos (keywordEach [] X.env))) := by rfl) :
    PE X (.Call (.Attribute o m apos) (e :: es) [] pos) (tCFun C sp E ta t) := by
  refine ⟨fun pins s σ H Q I h => ?_⟩
  refine PySem.W.methodCall_KW (pl := pl) (thn (he.run pins s σ H _ I h) fun u s1 ⟨x, H1, I1, rx, ex, q⟩ => ?_) ht
  subst ex
  obtain rfl : u = Value.ref C := rx
  refine PySem.W.method_cls I1.kIn r.ga (ClX.getcval_ok I1 r c fun s2 I2 => ?_)
  refine PySem.W.callWith_K (h₀ := X.base) I2.ok.mod.kin hk (thn (ha.run pos pins s2 σ H1 _ I2 q) fun us s3 ⟨vs, H2, I3, rv, q2⟩ => ⟨I3.kIn, ?_⟩) hst hpl
  refine wpAny_call (codeAny_mono (F X.A X.stack s3 H2 us vs Q (E σ) hr I3.env0 rv q2) fun r s' hq => ?_)
  cases r with
  | error e => exact hx σ pins H2 s3 e s' I3 hq
  | ok fl =>
    cases fl with
    | ret u => exact I3.after hq
    | next => exact False.elim hq
    | brk => exact False.elim hq
    | cont => exact False.elim hq
end
end Pr
namespace K54
open PySem PySem.Spec PyProof.Rows L2 Pr
abbrev sShowB : Stmt := sShow
def nShowB : List Str := ["self", "panel", "latched"]
theorem scShowB : FnScope nShowB ["self", "panel", "latched"] (defScope sShowB) := ⟨rfl, rfl, rfl, by decide +kernel, rfl, by decide +kernel, by decide +kernel⟩
section
variable {P : Program} {w : World} {K : PySem.W.Frag} {mg : Str → Option Value} {base : Heap}
def spShowB (K : PySem.W.Frag) (C : Addr) : Sp := fun vs H Q _ => ∃ (t p l dx : Addr) (fs : List (Str × V)) (pan : List (List Int)) (st : List Int), vs = [.ref t, .ref p, .ref l] ∧ H t = some (.ins C dx fs) ∧ fs.length ≤ 6 ∧ PanT K H p pan ∧ Good pan ∧ SqT K H l (st.map V.int) ∧ Asc pan.length st ∧
  ∀ H' h hs, ButO t H H' → H' t = some (.ins C dx (putF "held" (.ref h) (putF "latched" (.ref l) (putF "panel" (.ref p) fs)))) → SqT K H' h (hs.map V.int) → IsHeld pan st hs → Q .non H'
theorem ok_ShowB {fAny : Addr} {fdAny : FuncData} {fHeld : Addr} {fdHeld : FuncData} {C f : Addr} {fd : FuncData} {k : Nat} (F : Fun K "show" "Desk.show" sShowB f fd) (T : TxtD K mg C)
    (FAny : Fun K "releases_any" "releases_any" sAny fAny fdAny) (bAny : Binds K fdAny ["panel", "button", "others"] []) (gAny : mg "releases_any" = some (.ref fAny))
    (FHeld : Fun K "held_buttons" "held_buttons" sHeld fHeld fdHeld) (bHeld : Binds K fdHeld ["panel", "state"] []) (gHeld : mg "held_buttons" = some (.ref fHeld))
    (m_any : mg "any" = none) (m_len : mg "len" = none) (m_tuple : mg "tuple" = none) : FnOk P w K mg base CX0 (k + 3) f fd ["self", "panel", "latched"] (spShowB K C) := by
  have GHeld : FnOk P w K mg base CX0 (k + 2) fHeld fdHeld ["panel", "state"] (spHeld K) := ok_held FHeld FAny bAny gAny m_len m_tuple m_any
  refine F.ok scShowB (fun vs H Q E h => ?_) (fun cdv A outer s H vs Q E hr h => ?_)
  · obtain ⟨t, p, l, dx, fs, pan, st, rfl, _⟩ := h
    rfl
  · refine ⟨_, pss_cons (ps_fld (pv 0) (pv 1) rfl)
      (pss_cons (ps_fld (pv 0) (pv 2) rfl)
      (pss_one (ps_fld (pv 0) (pe_call GHeld (hr.mono (by omega)) (by rfl) gHeld FHeld.kp bHeld .nil pass0 (pa_cons (pv 1) (pa_cons (pv 2) pa_nil))) rfl))), hide1 fun t0 ht0 => ?_⟩
    obtain ⟨t, p, l, dx, fs, pan, st, rfl, ht, fl, hp, hg, hl, hst, q⟩ := h
    refine ht0 _ _ _ ?_
    have pl : ∀ (f : Str) (v : V) (l : List (Str × V)), (putF f v l).length ≤ l.length + 1 := fun f v l => by
      induction l with
      | nil => exact Nat.le_refl _
      | cons x r ih =>
        show (if x.1 = f then (x.1, v) :: r else x :: putF f v r).length ≤ _
        split
        · exact Nat.le_succ _
        · exact Nat.succ_le_succ ih
    refine ⟨.ref p, rfl, .ref t, rfl, t, C, dx, fs, rfl, ht, T.cl, T.nP, by omega, ?_⟩
    have k1 := ButO.upd (g := t) (H := H) (o := .ins C dx (putF "panel" (.ref p) fs))
    refine ⟨.ref l, rfl, .ref t, rfl, t, C, dx, _, rfl, upd_same, T.cl, T.nL, by have := pl "panel" (.ref p) fs; omega, ?_⟩
    have k2 := ButO.upd (g := t) (H := upd H t (.ins C dx (putF "panel" (.ref p) fs))) (o := .ins C dx (putF "latched" (.ref l) (putF "panel" (.ref p) fs)))
    have k12 := k1.trans k2
    refine ⟨.ref p, rfl, .ref l, rfl, p, l, pan, st, rfl, hp.kp (k12.kp ht), hg, sqT_kp (k12.kp ht) hl, hst, fun H3 h hs s3 hh ish => ?_⟩
    have e3 := s3 _ _ (upd_same (a := t) (o := .ins C dx (putF "latched" (.ref l) (putF "panel" (.ref p) fs))))
    refine ⟨.ref t, rfl, t, C, dx, _, rfl, e3, T.cl, T.nH, by have := pl "panel" (.ref p) fs; have := pl "latched" (.ref l) (putF "panel" (.ref p) fs); omega, ?_⟩
    have k4 := ButO.upd (g := t) (H := H3) (o := .ins C dx (putF "held" (.ref h) (putF "latched" (.ref l) (putF "panel" (.ref p) fs))))
    exact q _ h hs ((k12.trans (ButO.of s3)).trans k4) upd_same (sqT_kp (k4.kp e3) hh) ish
end
theorem put_sa (pa p l h : Addr) : (putF "held" (.ref h) (putF "latched" (.ref l) (putF "panel" (.ref p) (fD1 pa)))).lookup ("past" : Str) = some (.ref pa) := by rfl
theorem put_sb (pa p0 l0 h0 k0 p l h : Addr) : (putF "held" (.ref h) (putF "latched" (.ref l) (putF "panel" (.ref p) (fldsD pa p0 l0 h0 k0)))).lookup ("past" : Str) = some (.ref pa) := by rfl
theorem put_ka (pa p l h kn : Addr) : putF "known" (.ref kn) (putF "held" (.ref h) (putF "latched" (.ref l) (putF "panel" (.ref p) (fD1 pa)))) = fldsD pa p l h kn := by rfl
theorem put_kb (pa p0 l0 h0 k0 p l h kn : Addr) : putF "known" (.ref kn) (putF "held" (.ref h) (putF "latched" (.ref l) (putF "panel" (.ref p) (fldsD pa p0 l0 h0 k0)))) = fldsD pa p l h kn := by rfl
theorem put_pan (pa p0 l h kn p : Addr) : putF "panel" (.ref p) (fldsD pa p0 l h kn) = fldsD pa p l h kn := by rfl
theorem put_kn (pa p l h k0 kn : Addr) : putF "known" (.ref kn) (fldsD pa p l h k0) = fldsD pa p l h kn := by rfl
abbrev sShowG : Stmt := inClass (topS 52) 1
def nShowG : List Str := ["self", "panel", "latched", "__class__"]
theorem scShowG : NdefX.NScope nShowG ["self", "panel", "latched"] ["__class__"] (defScope sShowG) := NdefX.nscope_by (by decide +kernel)
section
variable {P : Program} {w : World} {K : PySem.W.Frag} {mg : Str → Option Value} {base : Heap}
theorem ok_ShowG {fNo : Addr} {fdNo : FuncData} {fPressE : Addr} {fdPressE : FuncData} {fJoin : Addr} {fdJoin : FuncData} {fWith : Addr} {fdWith : FuncData} {fAny : Addr} {fdAny : FuncData} {fHeld : Addr} {fdHeld : FuncData} {fKAft : Addr} {fdKAft : FuncData} {C D cc c f fB : Addr} {fd fdB : FuncData} {k : Nat} (F : SFun K "show" "GuessDesk.show" sShowG cc c f fd) (S : SCls P K mg cc c D) (SM : SMeth K C D "show" fB) (FB : Fun K "show" "Desk.show" sShow fB fdB) (bB : Binds K fdB ["self", "panel", "latched"] []) (T : TxtD K mg C)
    (FNo : Fun K "no_effect" "no_effect" sNo fNo fdNo) (bNo : Binds K fdNo ["panel"] []) (gNo : mg "no_effect" = some (.ref fNo))
    (FPressE : Fun K "press_effect" "press_effect" sPressE fPressE fdPressE) (bPressE : Binds K fdPressE ["panel", "button"] []) (gPressE : mg "press_effect" = some (.ref fPressE))
    (FJoin : Fun K "joined_effect" "joined_effect" sJoin fJoin fdJoin) (bJoin : Binds K fdJoin ["first", "second"] []) (gJoin : mg "joined_effect" = some (.ref fJoin))
    (FWith : Fun K "effect_with_press" "effect_with_press" sWith fWith fdWith) (bWith : Binds K fdWith ["panel", "effect", "button"] []) (gWith : mg "effect_with_press" = some (.ref fWith))
    (FAny : Fun K "releases_any" "releases_any" sAny fAny fdAny) (bAny : Binds K fdAny ["panel", "button", "others"] []) (gAny : mg "releases_any" = some (.ref fAny))
    (FHeld : Fun K "held_buttons" "held_buttons" sHeld fHeld fdHeld) (bHeld : Binds K fdHeld ["panel", "state"] []) (gHeld : mg "held_buttons" = some (.ref fHeld))
    (FKAft : Fun K "known_after" "known_after" sKAft fKAft fdKAft) (bKAft : Binds K fdKAft ["panel", "past"] []) (gKAft : mg "known_after" = some (.ref fKAft))
    (m_any : mg "any" = none) (m_len : mg "len" = none) (m_list : mg "list" = none) (m_tuple : mg "tuple" = none) (m_zip : mg "zip" = none) : FnOk P w K mg base CX0 (k + 6) f fd ["self", "panel", "latched"] (spShow K C) := by
  have GB : FnOk P w K mg base CX0 (k + 3) fB fdB ["self", "panel", "latched"] (spShowB K C) := ok_ShowB FB T FAny bAny gAny FHeld bHeld gHeld m_any m_len m_tuple
  have GKAft : FnOk P w K mg base CX0 (k + 4) fKAft fdKAft ["panel", "past"] (spKAft K) := ok_KAft FKAft FNo bNo gNo FPressE bPressE gPressE FJoin bJoin gJoin FWith bWith gWith m_len m_list m_tuple m_zip
  refine SFun.ok F S scShowG (fun vs H Q E h => ?_) (fun A outer s H vs Q E hr h s1 I => ?_)
  · obtain ⟨t, p, l, dx, pa, fs, pan, st, past, rfl, _⟩ := h
    rfl
  · obtain ⟨t, p, l, dx, pa, fs, pan, st, past, rfl, ht, hfs, hp, hg, hl, hst, hP, lfe, q⟩ := h
    obtain ⟨oc, od, kV, doc, pm, an, ct, osl, rfl, lkf, _⟩ := F.ex
    have B : SEnv (NdefX.ncx CX0 P w K mg base nShowG (sNF "show" "GuessDesk.show" sShowG cc c) f A outer s H E) f cc c D "self" := { cls := S, fu := rfl, co := rfl, cel := rfl, fo := ⟨_, _, _, _, _, lkf, rfl, rfl⟩, ks := rfl, kc := rfl, kslf := rfl }
    have fl : fs.length ≤ 6 := by
      rcases hfs with rfl | ⟨p0, l0, h0, k0, rfl⟩
      · show 2 ≤ 6; decide
      · exact Nat.le_refl 6
    refine sup_first I B (i := 0) rfl rfl ht SM (fr_of GB bB) (hr.mono (by omega)) pass0 (pa_cons (pv 1) (pa_cons (pv 2) pa_nil)) (pss_one (ps_fld (pv 0) (pe_call GKAft (hr.mono (by omega)) (by rfl) gKAft FKAft.kp bKAft .nil pass0 (pa_cons (pv 1) (pa_cons (pe_fld (pv 0) rfl) pa_nil))) rfl)) ?_ _ (by rfl)
    refine ⟨.ref p, rfl, .ref l, rfl, t, p, l, dx, fs, pan, st, rfl, ht, fl, hp, hg, hl, hst, fun H1 h hs k1 e1 hh ish => ?_⟩
    have kp1 := k1.kp ht
    have lfp : ∀ x ∈ past, lf x.1 = true ∧ Good x.2.1 ∧ Asc x.2.1.length x.2.2 := fun x hx => ⟨(lfe x hx).1, (lfe x hx).2.1, (lfe x hx).2.2.1⟩
    have hP1 := hP.kp kp1 lfp
    refine ⟨.ref p, rfl, .ref t, rfl, t, C, dx, _, .ref pa, rfl, e1, T.cl, T.nA, ?_, p, pa, pan, past, rfl, hp.kp kp1, hg, hP1, lfe, fun H2 u s2 hu => ?_⟩
    · rcases hfs with rfl | ⟨p0, l0, h0, k0, rfl⟩
      · exact put_sa _ _ _ _
      · exact put_sb _ _ _ _ _ _ _ _
    have e2 := s2 _ _ e1
    refine ⟨.ref t, rfl, t, C, dx, _, rfl, e2, T.cl, T.nK, ?_, ?_⟩
    · rcases hfs with rfl | ⟨p0, l0, h0, k0, rfl⟩
      · show 5 < 1000; decide
      · show 6 < 1000; decide
    have k3 := ButO.upd (g := t) (H := H2) (o := .ins C dx (fldsD pa p l h u))
    have ef : putF "known" (.ref u) (putF "held" (.ref h) (putF "latched" (.ref l) (putF "panel" (.ref p) fs))) = fldsD pa p l h u := by
      rcases hfs with rfl | ⟨p0, l0, h0, k0, rfl⟩
      · exact put_ka _ _ _ _ _
      · exact put_kb _ _ _ _ _ _ _ _ _
    rw [ef]
    exact q _ h hs u ((k1.trans (ButO.of s2)).trans k3) upd_same (sqT_kp (k3.kp e2) (same_sqT s2 hh)) ish (hu.kp (k3.kp e2))
end
end K54
namespace K54
open PySem PySem.Spec PyProof.Rows L2 Pr
abbrev sInitU : Stmt := inClass (topS 51) 0
def nInitU : List Str := ["self", "panel"]
theorem scInitU : FnScope nInitU ["self", "panel"] (defScope sInitU) := ⟨rfl, rfl, rfl, by decide +kernel, rfl, by decide +kernel, by decide +kernel⟩
section
variable {P : Program} {w : World} {K : PySem.W.Frag} {mg : Str → Option Value} {base : Heap}
def spInitU (K : PySem.W.Frag) (C : Addr) : Sp := fun vs H Q _ => ∃ (t p : Addr) (pan : List (List Int)) (st : List Int), vs = [.ref t, .ref p] ∧ DeskAt K C H t pan st [] ∧ PanT K H p pan ∧ ∀ H', ButO t H H' → DeskAt K C H' t pan st [] → Q .non H'
theorem ok_InitU {fNo : Addr} {fdNo : FuncData} {fBtn : Addr} {fdBtn : FuncData} {fBtnT : Addr} {fdBtnT : FuncData} {fPErr : Addr} {fdPErr : FuncData} {fChkP : Addr} {fdChkP : FuncData} {C f : Addr} {fd : FuncData} {k : Nat} {tk : Tok} (F : Fun K "__init__" "Guess.__init__" sInitU f fd) (T : TxtD K mg C)
    (FNo : Fun K "no_effect" "no_effect" sNo fNo fdNo) (bNo : Binds K fdNo ["panel"] []) (gNo : mg "no_effect" = some (.ref fNo))
    (FBtn : Fun K "is_button" "is_button" sBtn fBtn fdBtn) (bBtn : Binds K fdBtn ["value", "many"] []) (gBtn : mg "is_button" = some (.ref fBtn))
    (FBtnT : Fun K "is_button_tuple" "is_button_tuple" sBtnT fBtnT fdBtnT) (bBtnT : Binds K fdBtnT ["value", "many"] []) (gBtnT : mg "is_button_tuple" = some (.ref fBtnT))
    (FPErr : Fun K "panel_error" "panel_error" sPErr fPErr fdPErr) (bPErr : Binds K fdPErr ["value"] []) (gPErr : mg "panel_error" = some (.ref fPErr))
    (FChkP : Fun K "check_panel" "check_panel" sChkP fChkP fdChkP) (bChkP : Binds K fdChkP ["value"] []) (gChkP : mg "check_panel" = some (.ref fChkP))
    (m_bool : mg "bool" = none) (m_enumerate : mg "enumerate" = none) (m_int : mg "int" = none) (m_isinstance : mg "isinstance" = none) (m_len : mg "len" = none) (m_tuple : mg "tuple" = none) (y_MAX : mg "MAX_BUTTONS" = some (.int 10 tk)) : FnOk P w K mg base CX0 (k + 5) f fd ["self", "panel"] (spInitU K C) := by
  have GNo : FnOk P w K mg base CX0 (k + 1) fNo fdNo ["panel"] (spNo K) := ok_no FNo m_len
  have GChkP : FnOk P w K mg base CX0 (k + 4) fChkP fdChkP ["value"] (spChkP K) := ok_ChkP FChkP FBtn bBtn gBtn FBtnT bBtnT gBtnT FPErr bPErr gPErr m_bool m_enumerate m_int m_isinstance m_len m_tuple y_MAX
  refine F.ok scInitU (fun vs H Q E h => ?_) (fun cdv A outer s H vs Q E hr h => ?_)
  · obtain ⟨t, p, pan, st, rfl, _⟩ := h
    rfl
  · obtain ⟨t, p, pan, st, rfl, hD, hp, q⟩ := h
    refine ⟨_, pss_cons (ps_expr (pe_call GChkP (hr.mono (by omega)) (by rfl) gChkP FChkP.kp bChkP .nil pass0 (pa_cons (pv 1) pa_nil)))
      (pss_cons (ps_fld (pv 0) (pv 1) rfl)
      (pss_one (ps_fld (pv 0) (pe_call GNo (hr.mono (by omega)) (by rfl) gNo FNo.kp bNo .nil pass0 (pa_cons (pv 1) pa_nil)) rfl))), ?_⟩
    refine ⟨.ref p, rfl, p, pan, rfl, hp, hD.good, fun H1 s1 => ?_⟩
    have hD1 := hD.same s1
    obtain ⟨⟨dx, pa, p0, l, hh, hs, kn, h1, h2, h3, h4, h5, h6, h7⟩, hg, hst, lfe⟩ := hD1
    refine ⟨.ref p, rfl, .ref t, rfl, t, C, dx, _, rfl, h1, T.cl, T.nP, by show 6 < 1000; decide, ?_⟩
    rw [put_pan]
    have k2 := ButO.upd (g := t) (H := H1) (o := .ins C dx (fldsD pa p l hh kn))
    have kp2 := k2.kp h1
    refine ⟨.ref p, rfl, p, pan, rfl, (hp.same s1).kp kp2, hg, fun H3 u s3 hu => ?_⟩
    have e3 := s3 _ _ (upd_same (a := t) (H := H1) (o := .ins C dx (fldsD pa p l hh kn)))
    refine ⟨.ref t, rfl, t, C, dx, _, rfl, e3, T.cl, T.nK, by show 6 < 1000; decide, ?_⟩
    rw [put_kn]
    have k4 := ButO.upd (g := t) (H := H3) (o := .ins C dx (fldsD pa p l hh u))
    have kp4 := k4.kp e3
    have kp24 := (kp2.trans (Kp.of s3)).trans kp4
    exact q _ ((((ButO.of s1).trans k2).trans (ButO.of s3)).trans k4) ⟨⟨dx, pa, p, l, hh, hs, u, upd_same, h2.kp kp24 (fun x hx => by cases hx), (hp.same s1).kp kp24, kp24.1 _ _ h4, sqT_kp kp24 h5, h6, by rw [show knM pan.length [] = effM pan [] from (effM_nil pan).symm]; exact hu.kp kp4⟩, hg, hst, lfe⟩
end
abbrev sInitG : Stmt := inClass (topS 52) 0
def nInitG : List Str := ["self", "panel", "state"]
theorem scInitG : FnScope nInitG ["self", "panel", "state"] (defScope sInitG) := ⟨rfl, rfl, rfl, by decide +kernel, rfl, by decide +kernel, by decide +kernel⟩
section
variable {P : Program} {w : World} {K : PySem.W.Frag} {mg : Str → Option Value} {base : Heap}
def spInitG (K : PySem.W.Frag) (C : Addr) : Sp := fun vs H Q _ => ∃ (t p l dx : Addr) (pan : List (List Int)) (st : List Int), vs = [.ref t, .ref p, .ref l] ∧ H t = some (.ins C dx []) ∧ PanT K H p pan ∧ Good pan ∧ H l = some (.tup (st.map V.int)) ∧ Asc pan.length st ∧
  ∀ H', ButO t H H' → DeskAt K C H' t pan st [] → Q .non H'
/-- C.__init__ read off the class, and how -/
abbrev CInit (K : PySem.W.Frag) (C : Addr) (mc : Value) (g : Addr) : Prop := ClX.CRead K C mc ∧ ClX.CVal K C mc "__init__" (.ref g) (.ref g)
theorem ok_InitG {fNo : Addr} {fdNo : FuncData} {fBtn : Addr} {fdBtn : FuncData} {fBtnT : Addr} {fdBtnT : FuncData} {fPErr : Addr} {fdPErr : FuncData} {fChkP : Addr} {fdChkP : FuncData} {fChkS : Addr} {fdChkS : FuncData} {fInitD fInitU : Addr} {fdInitD fdInitU : FuncData} {mcD mcU : Value} {CD CU C f : Addr} {fd : FuncData} {k : Nat} {tk : Tok} (F : Fun K "__init__" "GuessDesk.__init__" sInitG f fd) (T : TxtD K mg C)
    (gCD : mg "Desk" = some (.ref CD)) (gCU : mg "Guess" = some (.ref CU)) (cvD : CInit K CD mcD fInitD) (cvU : CInit K CU mcU fInitU) (FInitD : Fun K "__init__" "Desk.__init__" sInitD fInitD fdInitD) (bInitD : Binds K fdInitD ["self", "panel", "state"] []) (FInitU : Fun K "__init__" "Guess.__init__" sInitU fInitU fdInitU) (bInitU : Binds K fdInitU ["self", "panel"] [])
    {fShow : Addr} {fdShow : FuncData} (GShow0 : ∀ k0 : Nat, FnOk P w K mg base CX0 (k0 + 6) fShow fdShow ["self", "panel", "latched"] (spShow K C)) (bShow : Binds K fdShow ["self", "panel", "latched"] []) (hShow : Meth K C "show" fShow)
    (FNo : Fun K "no_effect" "no_effect" sNo fNo fdNo) (bNo : Binds K fdNo ["panel"] []) (gNo : mg "no_effect" = some (.ref fNo))
    (FBtn : Fun K "is_button" "is_button" sBtn fBtn fdBtn) (bBtn : Binds K fdBtn ["value", "many"] []) (gBtn : mg "is_button" = some (.ref fBtn))
    (FBtnT : Fun K "is_button_tuple" "is_button_tuple" sBtnT fBtnT fdBtnT) (bBtnT : Binds K fdBtnT ["value", "many"] []) (gBtnT : mg "is_button_tuple" = some (.ref fBtnT))
    (FPErr : Fun K "panel_error" "panel_error" sPErr fPErr fdPErr) (bPErr : Binds K fdPErr ["value"] []) (gPErr : mg "panel_error" = some (.ref fPErr))
    (FChkP : Fun K "check_panel" "check_panel" sChkP fChkP fdChkP) (bChkP : Binds K fdChkP ["value"] []) (gChkP : mg "check_panel" = some (.ref fChkP))
    (FChkS : Fun K "check_state" "check_state" sChkS fChkS fdChkS) (bChkS : Binds K fdChkS ["panel", "value"] []) (gChkS : mg "check_state" = some (.ref fChkS))
    (m_bool : mg "bool" = none) (m_enumerate : mg "enumerate" = none) (m_int : mg "int" = none) (m_isinstance : mg "isinstance" = none) (m_len : mg "len" = none) (m_tuple : mg "tuple" = none) (y_MAX : mg "MAX_BUTTONS" = some (.int 10 tk)) : FnOk P w K mg base CX0 (k + 8) f fd ["self", "panel", "state"] (spInitG K C) := by
  have kInitD := FInitD.kp
  have kInitU := FInitU.kp
  have GInitD : FnOk P w K mg base CX0 (k + 7) fInitD fdInitD ["self", "panel", "state"] (spInitD K C) := ok_InitD FInitD T FBtn bBtn gBtn FBtnT bBtnT gBtnT FPErr bPErr gPErr FChkP bChkP gChkP FChkS bChkS gChkS GShow0 bShow hShow m_bool m_enumerate m_int m_isinstance m_len m_tuple y_MAX
  have GInitU : FnOk P w K mg base CX0 (k + 5) fInitU fdInitU ["self", "panel"] (spInitU K C) := ok_InitU FInitU T FNo bNo gNo FBtn bBtn gBtn FBtnT bBtnT gBtnT FPErr bPErr gPErr FChkP bChkP gChkP m_bool m_enumerate m_int m_isinstance m_len m_tuple y_MAX
  refine F.ok scInitG (fun vs H Q E h => ?_) (fun cdv A outer s H vs Q E hr h => ?_)
  · obtain ⟨t, p, l, dx, pan, st, rfl, _⟩ := h
    rfl
  · obtain ⟨t, p, l, dx, pan, st, rfl, ht, hp, hg, hl, hst, q⟩ := h
    refine ⟨_, pss_cons (ps_expr (pe_cfun (E := fun _ => E0) (pe_glob (v := .ref CD) (by rfl) gCD rfl) cvD.1 cvD.2 kInitD (fr_of GInitD bInitD) (hr.mono (by omega)) passAt0 (pa_cons (pv 0) (pa_cons (pv 1) (pa_cons (pv 2) pa_nil)))))
      (pss_one (ps_expr (pe_cfun (E := fun _ => E0) (pe_glob (v := .ref CU) (by rfl) gCU rfl) cvU.1 cvU.2 kInitU (fr_of GInitU bInitU) (hr.mono (by omega)) passAt0 (pa_cons (pv 0) (pa_cons (pv 1) pa_nil))))), ?_⟩
    refine ⟨rfl, .ref t, rfl, .ref p, rfl, .ref l, rfl, t, p, l, dx, pan, st, rfl, ht, hp, hg, hl, hst, fun H1 k1 D1 => ?_⟩
    refine ⟨rfl, .ref t, rfl, .ref p, rfl, t, p, pan, st, rfl, D1, hp.kp (k1.kp ht), fun H2 k2 D2 => q H2 (k1.trans k2) D2⟩
end
end K54
namespace K54
open PySem PySem.Spec PyProof.Rows L2 Pr
section
variable {K : PySem.W.Frag} {C : Addr} {H H' : Hp} {t : Addr} {pan : List (List Int)} {st : List Int} {past : List (PyData × List (List Int) × List Int)} {σ : L2.St} {i : Nat} {E : XK} {te : TE}
theorem DeskAt.at {P : Prop} (h : DeskAt K C H t pan st past) (q : ∀ dx fs, H t = some (.ins C dx fs) → (∀ m : Str, m ∉ (["past", "watched", "panel", "latched", "held", "known"] : List Str) → fs.lookup m = none) → P) : P := by
  obtain ⟨⟨dx, pa, p, l, hh, hs, kn, h1, h2, h3, h4, _⟩, _⟩ := h
  refine q dx _ h1 fun m hm => ?_
  simp only [List.mem_cons, List.mem_nil_iff, or_false, not_or] at hm
  obtain ⟨n1, n2, n3, n4, n5, n6⟩ := hm
  unfold fldsD
  simp only [List.lookup_cons, List.lookup_nil]
  have : ∀ {a b : Str}, a ≠ b → (a == b) = false := fun h => by simpa using h
  rw [this n1, this n2, this n3, this n4, this n5, this n6]
theorem gva_at {ta : TA} {ds : List PyData} {Q : List V → Hp → Prop} (h : GvA K ta σ H ds) (q : ∀ ws H', Same H H' → DpAll K H' ws ds → Q ws H') : ta σ H Q := h H (Same.refl _) Q q
theorem look_known (pa p l h kn : Addr) : (fldsD pa p l h kn).lookup ("known" : Str) = some (.ref kn) := by rfl
theorem gv_known {mg : Str → Option Value} (T : TxtD K mg C) (hi : σ[i]? = some (some (.ref t))) (h : DeskAt K C H t pan st past) : Gv K (tFld K (tVar i) "known") σ H (dStrs (knM pan.length past)) := fun H1 s Q q => by
  obtain ⟨⟨dx, pa, p, l, hh, hs, kn, h1, h2, h3, h4, h5, h6, h7⟩, _⟩ := h.same s
  exact ⟨.ref t, hi, t, C, dx, _, .ref kn, rfl, h1, T.cl, T.nK, look_known _ _ _ _ _, q _ H1 (Same.refl _) (dp_strs h7.sq)⟩
end
def nPressed : List Str := ["_law_panel_here", "_law_state_here", "_law_button", "_law_left", "_law_one"]
theorem scPressed : FnScope nPressed ["_law_panel_here", "_law_state_here", "_law_button"] (defScope sPressed) := ⟨rfl, rfl, rfl, by decide +kernel, rfl, by decide +kernel, by decide +kernel⟩
section
variable {P : Program} {w : World} {K : PySem.W.Frag} {mg : Str → Option Value} {base : Heap}
def spPressed (K : PySem.W.Frag) : Sp := fun vs H Q _ => ∃ (pan : List (List Int)) (st : List Int) (b : Int), DpAll K H vs [dPan pan, dInts st, .int b] ∧ Asc pan.length st ∧ pan.length ≤ 10 ∧ 0 ≤ b ∧ b < (pan.length : Int) ∧
  ∀ H' t, Same H H' → H' t = some (.tup ((pressM pan st b).map V.int)) → Q (.ref t) H'
theorem ok_Pressed  {f : Addr} {fd : FuncData} {k : Nat} (F : Fun K "_law_pressed" "_law_pressed" sPressed f fd)
    (m_sorted : mg "sorted" = none) (m_tuple : mg "tuple" = none) : FnOk P w K mg base CX0 (k + 1) f fd ["_law_panel_here", "_law_state_here", "_law_button"] (spPressed K) := by
  refine F.ok scPressed (fun vs H Q E h => ?_) (fun cdv A outer s H vs Q E hr h => ?_)
  · obtain ⟨_, _, _, hd, _⟩ := h
    exact hd.length
  · refine ⟨_, pss_cons (ps_setLc (i := 3) (own := [("_law_one", 4)]) (g := gName 4) rfl scPressed.nd rfl rfl (sw_true rfl rfl rfl (by decide +kernel)) (show PI _ _ _ (iTup K _) from pi_tup (pv 1)) (blkOk_by (own := [("_law_one", 4)]) (N := nPressed) (sc := defScope sPressed) (by decide +kernel)) (fun _ _ _ _ _ => pg_name (i := 4) scPressed.nd rfl (Or.inl rfl)) (fun _ _ _ _ _ => pts_one (PW.pt (pw_and (pt_cmpR (show OpR _ _ (rIn K true) from op_notIn_seq) (pv 4) (pe_ix (show IxR _ (rIxT K) from ix_tup) (pv 0) (pv 2) (fun _ _ => rfl)) (by rfl)) (pw_and1 (pt_cmpR op_ne (pv 4) (pv 2) (nomark _)))))) (fun _ _ _ _ _ => pv 4))
      (pss_one (ps_ret (pe_callTy (show CallR _ _ (rTupG K) from cr_tupG) (by rfl) m_tuple (by decide +kernel) (pa_cons (pe_callB (show CallR _ _ (rSorted K) from cr_sorted) (by rfl) m_sorted (by decide +kernel) (pa_cons (pe_op op_cat (pv 3) (pe_lst (pa_cons (pv 2) pa_nil))) pa_nil)) pa_nil)))), hide1 fun t0 ht0 => ?_⟩
    obtain ⟨pan, st, b, hd, hst, few, b0, b1, q⟩ := h
    obtain ⟨v1, v2, v3, rfl, d1, d2, d3⟩ := dpAll3 hd
    have stl := hst.len
    refine ht0 _ _ _ ?_
    refine gs_setL (K := K) (gl_lc (δ := PyData.int) (as := st) (p := fun x => !decide (x ∈ pan.getD b.toNat []) && !decide (x = b)) (f := PyData.int) (gvi_tup (gv_var rfl d2)) (fun x vx H2 hx s2 dx => ⟨gvt_and (gvt_test (gv_inT (neg := true) (gv_var rfl dx) (gv_pan (gv_var rfl (d1.sm s2)) (gv_var rfl (d3.sm s2)) b0 b1))) (fun H3 s3 _ => gvt_test (gv_neI (gv_var rfl (dx.sm s3)) (gv_var rfl ((d3.sm s2).sm s3)))), fun _ => gv_var rfl dx⟩) (fun _ _ => rfl) (by omega)) fun a vs H1 s1 ea da => ?_
    have fl := List.length_filter_le (fun x => !decide (x ∈ pan.getD b.toNat []) && !decide (x = b)) st
    refine (gu_tupL (K := K) (gv_sortL (l := st.filter (fun x => !decide (x ∈ pan.getD b.toNat []) && !decide (x = b)) ++ [b]) ((gn_cat (gl_var rfl ea da) (gl_lst (gva_cons (gv_var rfl (d3.sm s1)) gva_nil)) ?_).gv.to ?_) ?_)).at fun t vs2 H2 s2 nt et dt => q H2 t (s1.trans s2) ?_
    · rw [List.length_map]; show _ + 1 ≤ _; omega
    · rw [List.map_append]; rfl
    · rw [List.length_append]; show _ + 1 < 64; omega
    · rw [et, dpAll_intsV dt, press_sorted hst b0 b1 ?_ (srt_up _)]
      refine (srt_perm _).trans ?_
      refine List.Perm.append_right _ (List.Perm.of_eq (List.filter_congr fun x _ => ?_))
      by_cases h1 : x ∈ pan.getD b.toNat [] <;> by_cases h2 : x = b <;> simp [h1, h2]
end
def nChanged : List Str := ["_law_panel_here", "_law_one", "_law_other", "_law_is_link", "_law_own", "_law_at"]
theorem scChanged : FnScope nChanged ["_law_panel_here", "_law_one", "_law_other", "_law_is_link"] (defScope sChanged) := ⟨rfl, rfl, rfl, by decide +kernel, rfl, by decide +kernel, by decide +kernel⟩
section
variable {P : Program} {w : World} {K : PySem.W.Frag} {mg : Str → Option Value} {base : Heap}
def spChanged (K : PySem.W.Frag) : Sp := spP K (fun x : List (List Int) × Int × Int × Bool => [dPan x.1, .int x.2.1, .int x.2.2.1, .bool x.2.2.2]) (fun x => Good x.1 ∧ InP2 x.1 x.2.1 x.2.2.1 ∧ (x.2.2.2 = true → x.2.2.1 ∉ x.1.getD x.2.1.toNat []) ∧ (x.2.2.2 = false → x.2.2.1 ∈ x.1.getD x.2.1.toNat [])) (fun x => dPan (if x.2.2.2 then liM x.1 x.2.1 x.2.2.1 else unM x.1 x.2.1 x.2.2.1))
theorem gv_Changed {σ : L2.St} {H : Hp} {t : TA} {E : XK} {pan : List (List Int)} {one : Int} {other : Int} {fl : Bool} (h : GvA K t σ H [dPan pan, .int one, .int other, .bool fl]) (hc : Good pan ∧ InP2 pan one other ∧ (fl = true → other ∉ pan.getD one.toNat []) ∧ (fl = false → other ∈ pan.getD one.toNat [])) : Gv K (tCall (spChanged K) [] E t) σ H (dPan (if fl then liM pan one other else unM pan one other)) := gv_call (K := K) (δ := fun x : List (List Int) × Int × Int × Bool => [dPan x.1, .int x.2.1, .int x.2.2.1, .bool x.2.2.2]) (C := fun x => Good x.1 ∧ InP2 x.1 x.2.1 x.2.2.1 ∧ (x.2.2.2 = true → x.2.2.1 ∉ x.1.getD x.2.1.toNat []) ∧ (x.2.2.2 = false → x.2.2.1 ∈ x.1.getD x.2.1.toNat [])) (f := fun x => dPan (if x.2.2.2 then liM x.1 x.2.1 x.2.2.1 else unM x.1 x.2.1 x.2.2.1)) (pan, one, other, fl) h hc
theorem ok_Changed  {f : Addr} {fd : FuncData} {k : Nat} (F : Fun K "_law_changed" "_law_changed" sChanged f fd)
    (m_int : mg "int" = none) (m_sorted : mg "sorted" = none) (m_tuple : mg "tuple" = none) : FnOk P w K mg base CX0 (k + 1) f fd ["_law_panel_here", "_law_one", "_law_other", "_law_is_link"] (spChanged K) := by
  refine F.ok scChanged (fun vs H Q E h => ?_) (fun cdv A outer s H vs Q E hr h => ?_)
  · obtain ⟨_, hd, _⟩ := h
    exact hd.length
  · refine ⟨_, pss_cons (ps_set (i := 4) scChanged.nd rfl (.inl rfl) (pe_op op_cat (pe_lc (own := [("_law_at", 5)]) (g := gName 5) rfl scChanged.nd (show PI _ _ _ (iTup K _) from pi_tup (pe_ix (show IxR _ (rIxT K) from ix_tup) (pv 0) (pv 1) (fun _ _ => rfl))) (blkOk_by (own := [("_law_at", 5)]) (N := nChanged) (sc := defScope sChanged) (by decide +kernel)) (fun _ _ _ _ _ => pg_name (i := 5) scChanged.nd rfl (Or.inl rfl)) (fun _ _ _ _ _ => pts_one (pt_cmpR op_ne (pv 5) (pv 2) (nomark _))) (fun _ _ _ _ _ => pv 5)) (pe_op op_rep (pe_lst (pa_cons (pv 2) pa_nil)) (pe_callTy call_int1 (by rfl) m_int (by decide +kernel) (pa_cons (pv 3) pa_nil)))))
      (pss_one (ps_ret (pe_op (show OpR _ _ (rCatS K) from op_catS) (pe_op (show OpR _ _ (rCatS K) from op_catS) (pe_slice (show SlR _ (rSlS K) from sl_tupS) (pv 0) po_none (po_some (pv 1))) (pe_tup (pa_cons (pe_callTy (show CallR _ _ (rTupG K) from cr_tupG) (by rfl) m_tuple (by decide +kernel) (pa_cons (pe_callB (show CallR _ _ (rSorted K) from cr_sorted) (by rfl) m_sorted (by decide +kernel) (pa_cons (pv 4) pa_nil)) pa_nil)) pa_nil))) (pe_slice (show SlR _ (rSlS K) from sl_tupS) (pv 0) (po_some (pe_op op_add (pv 1) pe_int)) po_none)))), hide1 fun t0 ht0 => ?_⟩
    obtain ⟨⟨pan, one, other, fl⟩, hd, hc, q⟩ := h
    obtain ⟨v1, v2, v3, v4, rfl, d1, d2, d3, d4⟩ := dpAll4 hd
    try dsimp only at hc
    try dsimp only at q
    try dsimp only at d1 d2 d3 d4
    refine ht0 _ _ _ ?_
    obtain ⟨hg, hI, hf1, hf2⟩ := hc
    obtain ⟨o0, o1, u0, u1, ne⟩ := hI
    have hi : one.toNat < pan.length := by omega
    have ok := pan_ok hg
    have hrl := ok.2 _ (rel_mem hi)
    have gone : one = ((one.toNat : Nat) : Int) := by omega
    have hlp : (pan.map dInts).length = pan.length := List.length_map _
    have fl60 := List.length_filter_le (fun x => !decide (x = other)) (pan.getD one.toNat [])
    refine gs_setN (K := K) (gn_cat (gl_lc (δ := PyData.int) (as := pan.getD one.toNat []) (p := fun x => !decide (x = other)) (f := PyData.int) (gvi_tup (gv_pan (gv_var rfl d1) (gv_var rfl d2) o0 o1)) (fun x vx H2 hx s2 dx => ⟨gvt_test (gv_neI (gv_var rfl dx) (gv_var rfl (d3.sm s2))), fun _ => gv_var rfl dx⟩) (fun _ _ => rfl) (by omega)) (gn_repL1 (k := if fl then 1 else 0) (gl_lst (gva_cons (gv_var rfl d3) gva_nil)) ((gv_intB rfl (gv_var rfl d4)).to (by cases fl <;> rfl)) (by split <;> omega)).gl (by rw [List.length_map, List.length_replicate]; split <;> omega)) fun a vs H1 s1 na ea da => ?_
    have eown : ((pan.getD one.toNat []).filter fun x => !decide (x = other)).map PyData.int ++ List.replicate (if fl then 1 else 0) (.int other) = (((pan.getD one.toNat []).filter fun x => !decide (x = other)) ++ (if fl then [other] else [])).map PyData.int := by
      rw [List.map_append]; cases fl <;> rfl
    rw [eown] at da
    have e2 : (if fl then liM pan one other else unM pan one other) = pan.take one.toNat ++ ([srt (((pan.getD one.toNat []).filter fun x => !decide (x = other)) ++ (if fl then [other] else []))] ++ pan.drop (one.toNat + 1)) := by
      have hset : ∀ x, pan.take one.toNat ++ ([x] ++ pan.drop (one.toNat + 1)) = pan.set one.toNat x := fun x => by rw [List.set_eq_take_append_cons_drop, if_pos hi]; rfl
      rw [hset]
      cases fl with
      | true =>
        have hn := hf1 rfl
        rw [if_pos rfl, if_pos rfl]
        unfold liM
        rw [if_neg hn, List.filter_eq_self.mpr fun x hx => by simp; rintro rfl; exact hn hx]
      | false =>
        have hn := hf2 rfl
        rw [if_neg Bool.false_ne_true, if_neg Bool.false_ne_true]
        unfold unM
        rw [if_pos hn, List.append_nil, srt_self ((hg.up _ (rel_mem hi)).filter _)]
    refine gs_ret (K := K) ((gv_catT (gv_catT (gv_cutToG (k := one.toNat) (gv_var rfl (d1.sm s1)) ((gv_var rfl (d2.sm s1)).to (by rw [← gone])) (by rw [hlp]; omega)) (gv_tup (gva_cons (gv_tupL (gv_sortL (l := ((pan.getD one.toNat []).filter fun x => !decide (x = other)) ++ (if fl then [other] else [])) (gv_var rfl (.lst (.inl (.inl ea)) da)) (by rw [List.length_append]; have hk : (if fl = true then [other] else ([] : List Int)).length ≤ 1 := (by cases fl <;> simp); omega))) gva_nil)) (by rw [List.length_take, hlp]; show _ + 1 ≤ _; omega)) (gv_cutFromG (k := one.toNat + 1) (gv_var rfl (d1.sm s1)) ((gv_add (gv_var rfl (d2.sm s1)) gv_int).to (by rw [gone]; rfl)) (by rw [hlp]; omega)) (by rw [List.length_append, List.length_take, List.length_drop, hlp]; show _ + 1 + _ ≤ _; omega)).to ?_) fun v H2 s2 dv => q v H2 (s1.trans s2) dv
    rw [e2]
    unfold dPan
    rw [List.map_append, List.map_append, ← List.map_take, ← List.map_drop, List.append_assoc]
    rfl
end
end K54
namespace K54
open PySem PySem.Spec PyProof.Rows L2 Pr
/-- an edit that can be done -/
inductive Ed (pan : List (List Int)) : PyData → List (List Int) → (List Int → List Int) → Prop
  | press {b : Int} (h0 : 0 ≤ b) (h1 : b < (pan.length : Int)) : Ed pan (.tuple [.str "press", .int b]) pan (fun st => pressM pan st b)
  | link {one other : Int} (h : InP2 pan one other) (hn : other ∉ pan.getD one.toNat []) : Ed pan (dLk "link" one other) (liM pan one other) (fun st => st)
  | unlink {one other : Int} (h : InP2 pan one other) (hn : other ∈ pan.getD one.toNat []) : Ed pan (dLk "unlink" one other) (unM pan one other) (fun st => st)
theorem Ed.lf {pan pan' : List (List Int)} {d : PyData} {f : List Int → List Int} (h : Ed pan d pan' f) : lf d = true := by cases h <;> rfl
theorem Ed.good {pan pan' : List (List Int)} {d : PyData} {f : List Int → List Int} (h : Ed pan d pan' f) (g : Good pan) : Good pan' ∧ pan'.length = pan.length := by
  cases h with
  | press _ _ => exact ⟨g, rfl⟩
  | link h hn => exact ⟨(good_li g h hn).1, (good_li g h hn).2.1⟩
  | unlink h hn => exact ⟨(good_un g h hn).1, (good_un g h hn).2.1⟩
theorem Ed.asc {pan pan' : List (List Int)} {d : PyData} {f : List Int → List Int} (h : Ed pan d pan' f) (g : Good pan) {st : List Int} (hst : Asc pan.length st) : Asc pan'.length (f st) := by
  cases h with
  | press _ _ => exact pressM_asc _ _ _
  | link h hn => rw [(good_li g h hn).2.1]; exact hst
  | unlink h hn => rw [(good_un g h hn).2.1]; exact hst
/-- what the law keeps: a list of the panel and the state -/
def dPS (pan : List (List Int)) (st : List Int) : PyData := .list [dPan pan, dInts st]
def nAfter : List Str := ["_law_state_here", "_law_edit_here", "_law_panel_here", "_law_latched"]
theorem scAfter : FnScope nAfter ["_law_state_here", "_law_edit_here"] (defScope sAfter) := ⟨rfl, rfl, rfl, by decide +kernel, rfl, by decide +kernel, by decide +kernel⟩
section
variable {P : Program} {w : World} {K : PySem.W.Frag} {mg : Str → Option Value} {base : Heap}
def spAfter (K : PySem.W.Frag) : Sp := fun vs H Q _ => ∃ (a l : Addr) (vp e : V) (pan pan' : List (List Int)) (st : List Int) (d : PyData) (f : List Int → List Int), vs = [.ref a, e] ∧ H a = some (.lst [vp, .ref l]) ∧ Dp K H vp (dPan pan) ∧ H l = some (.tup (st.map V.int)) ∧ Dp K H e d ∧ Good pan ∧ Asc pan.length st ∧ Ed pan d pan' f ∧
  ∀ H' a p l', Same H H' → H a = none → H' a = some (.lst [p, .ref l']) → Dp K H' p (dPan pan') → H' l' = some (.tup ((f st).map V.int)) → Q (.ref a) H'
theorem ok_After {fPressed : Addr} {fdPressed : FuncData} {fChanged : Addr} {fdChanged : FuncData} {f : Addr} {fd : FuncData} {k : Nat} (F : Fun K "_law_after" "_law_after" sAfter f fd)
    (FPressed : Fun K "_law_pressed" "_law_pressed" sPressed fPressed fdPressed) (bPressed : Binds K fdPressed ["_law_panel_here", "_law_state_here", "_law_button"] []) (gPressed : mg "_law_pressed" = some (.ref fPressed))
    (FChanged : Fun K "_law_changed" "_law_changed" sChanged fChanged fdChanged) (bChanged : Binds K fdChanged ["_law_panel_here", "_law_one", "_law_other", "_law_is_link"] []) (gChanged : mg "_law_changed" = some (.ref fChanged))
    (m_int : mg "int" = none) (m_sorted : mg "sorted" = none) (m_tuple : mg "tuple" = none) : FnOk P w K mg base CX0 (k + 2) f fd ["_law_state_here", "_law_edit_here"] (spAfter K) := by
  have GPressed : FnOk P w K mg base CX0 (k + 1) fPressed fdPressed ["_law_panel_here", "_law_state_here", "_law_button"] (spPressed K) := ok_Pressed FPressed m_sorted m_tuple
  have GChanged : FnOk P w K mg base CX0 (k + 1) fChanged fdChanged ["_law_panel_here", "_law_one", "_law_other", "_law_is_link"] (spChanged K) := ok_Changed FChanged m_int m_sorted m_tuple
  refine F.ok scAfter (fun vs H Q E h => ?_) (fun cdv A outer s H vs Q E hr h => ?_)
  · obtain ⟨a, l, vp, e, pan, pan', st, d, f, rfl, _⟩ := h
    rfl
  · refine ⟨_, pss_cons (ps_asg (pv 0) (pg_unl rfl (pgs_cons (pg_name (i := 2) scAfter.nd rfl (Or.inl rfl)) (pgs_cons (pg_name (i := 3) scAfter.nd rfl (Or.inl rfl)) pgs_nil))))
      (pss_cons (ps_if (pt_cmpR op_eq (pe_ix (show IxR _ (rIxT K) from ix_tup) (pv 1) pe_int (fun _ _ => rfl)) pe_str (nomark _)) (pss_one (ps_ret (pe_lst (pa_cons (pv 2) (pa_cons (pe_call GPressed (hr.mono (by omega)) (by rfl) gPressed FPressed.kp bPressed .nil pass0 (pa_cons (pv 2) (pa_cons (pv 3) (pa_cons (pe_ix (show IxR _ (rIxT K) from ix_tup) (pv 1) pe_int (fun _ _ => rfl)) pa_nil)))) pa_nil))))) pss_nil)
      (pss_one (ps_ret (pe_lst (pa_cons (pe_call GChanged (hr.mono (by omega)) (by rfl) gChanged FChanged.kp bChanged .nil pass0 (pa_cons (pv 2) (pa_cons (pe_ix (show IxR _ (rIxT K) from ix_tup) (pv 1) pe_int (fun _ _ => rfl)) (pa_cons (pe_ix (show IxR _ (rIxT K) from ix_tup) (pv 1) pe_int (fun _ _ => rfl)) (pa_cons (pe_cmpR op_eq (pe_ix (show IxR _ (rIxT K) from ix_tup) (pv 1) pe_int (fun _ _ => rfl)) pe_str (nomark _)) pa_nil))))) (pa_cons (pv 3) pa_nil)))))), hide1 fun t0 ht0 => ?_⟩
    obtain ⟨a, l, vp, e, pan, pan', st, d, f, rfl, ea, dp, el, de, hg, hst, hE, q⟩ := h
    refine ht0 _ _ _ ?_
    have dl : Dp K H (.ref l) (dInts st) := dp_ints (.inl (.inl el))
    refine ⟨.ref a, rfl, a, _, rfl, .inl (.inl ea), rfl, vp, [.ref l], rfl, .ref l, [], rfl, rfl, ?_⟩
    cases hE with
    | press h0 h1 =>
      refine gs_if1 (gvt_test (K := K) (gv_eqS (gv_ixT (j := 0) (gv_var rfl de) gv_int rfl rfl) gv_str)) (fun _ H1 s1 => ?_) (fun z => by simp at z)
      refine ⟨vp, rfl, vp, rfl, .ref l, rfl, (gv_ixT (K := K) (j := 1) (d := .int _) (gv_var rfl (de.sm s1)) gv_int rfl rfl).at fun w H2 s2 dw => ?_⟩
      cases dw
      have s12 := s1.trans s2
      refine ⟨pan, st, _, .cons (dp.sm s12) (.cons (dl.sm s12) (.cons (.int _) .nil)), hst, hg.few, h0, h1, fun H3 t s3 et => ⟨by show 2 ≤ sizeLine; decide, fun b nb => ?_⟩⟩
      have s4 := same_new (o := .lst [vp, .ref t]) nb
      have sA := (s12.trans s3).trans s4
      exact q _ b vp t sA ((s12.trans s3).free nb) upd_same (dp.sm sA) (s4 _ _ et)
    | link h hn =>
      refine gs_no (gvt_test (K := K) (gv_eqS (gv_ixT (j := 0) (gv_var rfl de) gv_int rfl rfl) gv_str)) (by decide +kernel) fun H1 s1 => ?_
      refine (gv_Changed (K := K) (fl := true) (gva_cons (gv_var rfl (dp.sm s1)) (gva_cons (gv_ixT (j := 1) (gv_var rfl (de.sm s1)) gv_int rfl rfl) (gva_cons (gv_ixT (j := 2) (gv_var rfl (de.sm s1)) gv_int rfl rfl) (gva_cons ((gv_eqS (gv_ixT (j := 0) (gv_var rfl (de.sm s1)) gv_int rfl rfl) gv_str).to (by rw [decide_eq_true rfl])) gva_nil)))) ⟨hg, h, fun _ => hn, (fun z => by cases z)⟩).at fun vq H2 s2 dq => ⟨.ref l, rfl, by show 2 ≤ sizeLine; decide, fun b nb => ?_⟩
      have s4 := same_new (o := .lst [vq, .ref l]) nb
      have sA := (s1.trans s2).trans s4
      exact q _ b vq l sA ((s1.trans s2).free nb) upd_same (dq.sm s4) (sA _ _ el)
    | unlink h hn =>
      refine gs_no (gvt_test (K := K) (gv_eqS (gv_ixT (j := 0) (gv_var rfl de) gv_int rfl rfl) gv_str)) (by decide +kernel) fun H1 s1 => ?_
      refine (gv_Changed (K := K) (fl := false) (gva_cons (gv_var rfl (dp.sm s1)) (gva_cons (gv_ixT (j := 1) (gv_var rfl (de.sm s1)) gv_int rfl rfl) (gva_cons (gv_ixT (j := 2) (gv_var rfl (de.sm s1)) gv_int rfl rfl) (gva_cons ((gv_eqS (gv_ixT (j := 0) (gv_var rfl (de.sm s1)) gv_int rfl rfl) gv_str).to (by rw [decide_eq_false (by decide +kernel)])) gva_nil)))) ⟨hg, h, (fun z => by cases z), fun _ => hn⟩).at fun vq H2 s2 dq => ⟨.ref l, rfl, by show 2 ≤ sizeLine; decide, fun b nb => ?_⟩
      have s4 := same_new (o := .lst [vq, .ref l]) nb
      have sA := (s1.trans s2).trans s4
      exact q _ b vq l sA ((s1.trans s2).free nb) upd_same (dq.sm s4) (sA _ _ el)
end
def nEdit : List Str := ["_law_deck_here", "_law_state_here", "_law_panel_here", "_law_latched", "_law_n", "_law_one", "_law_other"]
theorem scEdit : FnScope nEdit ["_law_deck_here", "_law_state_here"] (defScope sEdit) := ⟨rfl, rfl, rfl, by decide +kernel, rfl, by decide +kernel, by decide +kernel⟩
section
variable {P : Program} {w : World} {K : PySem.W.Frag} {mg : Str → Option Value} {base : Heap}
def spEdit (K : PySem.W.Frag) : Sp := fun vs H Q _ => ∃ (a c b : Addr) (m : Nat) (pan : List (List Int)) (st : List Int) (ws : List V), vs = [.ref a, .ref b] ∧ Deck H a c (m + 10) ∧ b ≠ a ∧ b ≠ c ∧ H b = some (.lst ws) ∧ DpAll K H ws [dPan pan, dInts st] ∧ Good pan ∧
  ∀ H' v d pan' f, But a c H H' → Deck H' a c m → Dp K H' v d → Ed pan d pan' f → Q v H'
theorem ok_Edit {fDraw : Addr} {fdDraw : FuncData} {f : Addr} {fd : FuncData} {k : Nat} (F : Fun K "_law_edit" "_law_edit" sEdit f fd)
    (FDraw : Fun K "_law_draw" "_law_draw" sDraw fDraw fdDraw) (bDraw : Binds K fdDraw ["_law_deck_here", "_law_many"] []) (gDraw : mg "_law_draw" = some (.ref fDraw))
    (m_int : mg "int" = none) (m_len : mg "len" = none) : FnOk P w K mg base CX0 (k + 2) f fd ["_law_deck_here", "_law_state_here"] (spEdit K) := by
  have GDraw : FnOk P w K mg base CX0 (k + 1) fDraw fdDraw ["_law_deck_here", "_law_many"] spDraw := ok_draw FDraw m_len
  refine F.ok scEdit (fun vs H Q E h => ?_) (fun cdv A outer s H vs Q E hr h => ?_)
  · obtain ⟨a, c, b, m, pan, st, ws, rfl, _⟩ := h
    rfl
  · refine ⟨_, pss_cons (ps_asg (pv 1) (pg_unl rfl (pgs_cons (pg_name (i := 2) scEdit.nd rfl (Or.inl rfl)) (pgs_cons (pg_name (i := 3) scEdit.nd rfl (Or.inl rfl)) pgs_nil))))
      (pss_cons (ps_set (i := 4) scEdit.nd rfl (.inl rfl) (pe_callB (show CallR _ _ (rLenG K) from cr_lenG) (by rfl) m_len PySem.boot_len (pa_cons (pv 2) pa_nil)))
      (pss_cons (ps_par (i := 5) (j := 6) rfl scEdit.nd rfl rfl (by decide) rfl rfl (pa_cons (pe_call GDraw (hr.mono (by omega)) (by rfl) gDraw FDraw.kp bDraw .nil pass0 (pa_cons (pv 0) (pa_cons (pv 4) pa_nil))) (pa_cons (pe_call GDraw (hr.mono (by omega)) (by rfl) gDraw FDraw.kp bDraw .nil pass0 (pa_cons (pv 0) (pa_cons (pv 4) pa_nil))) pa_nil)) (by rfl))
      (pss_cons (ps_if (PW.pt (pw_or (pt_cmpR op_gt (pe_call GDraw (hr.mono (by omega)) (by rfl) gDraw FDraw.kp bDraw .nil pass0 (pa_cons (pv 0) (pa_cons pe_int pa_nil))) pe_int (nomark _)) (pw_or1 (pt_cmpR op_eq (pv 5) (pv 6) (nomark _))))) (pss_one (ps_ret (pe_tup (pa_cons pe_str (pa_cons (pv 5) pa_nil))))) pss_nil)
      (pss_one (ps_ret (pe_tup (pa_cons (pe_ix (show IxR _ (rIxL K) from ix_list) (pe_lst (pa_cons pe_str (pa_cons pe_str pa_nil))) (pe_callTy call_int1 (by rfl) m_int (by decide +kernel) (pa_cons (pe_cmpR (show OpR _ _ (rIn K false) from op_in_seq) (pv 6) (pe_ix (show IxR _ (rIxT K) from ix_tup) (pv 2) (pv 5) (fun _ _ => rfl)) (by rfl)) pa_nil)) (fun _ _ => rfl)) (pa_cons (pv 5) (pa_cons (pv 6) pa_nil))))))))), hide1 fun t0 ht0 => ?_⟩
    obtain ⟨a, c, b, m, pan, st, ws, rfl, hD, ba, bc, eb, dw, hg, q⟩ := h
    refine ht0 _ _ _ ?_
    obtain ⟨vp, vl, rfl, dp, dl⟩ := dpAll2 dw
    have few := hg.few
    have pos := hg.pos
    have hlp : (pan.map dInts).length = pan.length := List.length_map _
    refine ⟨.ref b, rfl, b, _, rfl, .inl (.inl eb), rfl, vp, [vl], rfl, vl, [], rfl, rfl, ?_⟩
    refine gs_set1 (K := K) (gv_lenT (gv_var rfl dp)) fun vn H1 s1 dn => ?_
    cases dn
    rw [hlp]
    refine ⟨.ref a, rfl, .int (pan.length : Int), rfl, a, c, m + 9, (pan.length : Int), rfl, (hD.same s1).less (by omega), by omega, by omega, fun H2 one b2 D2 o0 o1 => ?_⟩
    refine ⟨.ref a, rfl, .int (pan.length : Int), rfl, a, c, m + 8, (pan.length : Int), rfl, D2.less (by omega), by omega, by omega, fun H3 other b3 D3 u0 u1 => ⟨_, _, rfl, ?_⟩⟩
    have B3 : But a c H H3 := ((But.of s1).trans b2).trans b3
    have k3 : Kp H H3 := ((Kp.of s1).trans (Kp.but (hD.same s1) b2)).trans (Kp.but D2 b3)
    refine ⟨.ref a, rfl, a, c, m + 7, 3, rfl, D3.less (by omega), by decide, by decide, fun H4 r b4 D4 r0 r1 => ?_⟩
    have B4 := B3.trans b4
    have k4 := k3.trans (Kp.but D3 b4)
    have dp4 := dp.kp k4 (lf_pan _)
    have pr : Q = Q → ∀ H', Same H4 H' → tRet (tTup (tCons (tC (.str "press")) (tCons (tVar 5) tNil))) { nx := fun _ H' => Q .non H', rt := Q } [some (.ref a), some (.ref b), some vp, some vl, some (.int (pan.length : Int)), some (.int one), some (.int other)] H' := fun _ H' s' => gs_ret (K := K) (gv_tup (gva_cons gv_str (gva_cons (gv_var rfl (.int one)) gva_nil))) fun v H5 s5 dv => q H5 v _ _ _ (B4.trans (But.of (s'.trans s5))) ((D4.same (s'.trans s5)).less (by omega)) dv (.press o0 o1)
    refine ⟨_, _, rfl, rfl, _, rfl, ite2 (fun e => ?_) (fun e => ?_)⟩
    · exact iteT (pr rfl H4 (Same.refl _))
    · refine (gvt_test (K := K) (gv_eqI (gv_var rfl (.int one)) (gv_var rfl (.int other)))).at fun H5 s5 => ?_
      by_cases eq : one = other
      · rw [decide_eq_true eq]
        exact iteT (pr rfl H5 s5)
      · rw [decide_eq_false eq]
        refine iteF ?_
        have dp5 := dp4.sm s5
        have hI : InP2 pan one other := ⟨o0, o1, u0, u1, eq⟩
        by_cases hm : other ∈ pan.getD one.toNat []
        · refine gs_ret (K := K) (gv_tup (gva_cons (gv_ixL (j := 1) (d := .str "unlink") (gv_lst (gva_cons gv_str (gva_cons gv_str gva_nil))) ((gv_intB rfl (gv_inT (neg := false) (gv_var rfl (.int other)) (gv_pan (gv_var rfl dp5) (gv_var rfl (.int one)) o0 o1))).to (by rw [if_neg Bool.false_ne_true, decide_eq_true hm]; rfl)) rfl rfl) (gva_cons (gv_var rfl (.int one)) (gva_cons (gv_var rfl (.int other)) gva_nil)))) fun v H6 s6 dv => q H6 v _ _ _ (B4.trans (But.of (s5.trans s6))) ((D4.same (s5.trans s6)).less (by omega)) dv (.unlink hI hm)
        · refine gs_ret (K := K) (gv_tup (gva_cons (gv_ixL (j := 0) (d := .str "link") (gv_lst (gva_cons gv_str (gva_cons gv_str gva_nil))) ((gv_intB rfl (gv_inT (neg := false) (gv_var rfl (.int other)) (gv_pan (gv_var rfl dp5) (gv_var rfl (.int one)) o0 o1))).to (by rw [if_neg Bool.false_ne_true, decide_eq_false hm]; rfl)) rfl rfl) (gva_cons (gv_var rfl (.int one)) (gva_cons (gv_var rfl (.int other)) gva_nil)))) fun v H6 s6 dv => q H6 v _ _ _ (B4.trans (But.of (s5.trans s6))) ((D4.same (s5.trans s6)).less (by omega)) dv (.link hI hm)
end
end K54
namespace Pr
open PySem PySem.Spec PyProof.Rows L2
theorem tyx_tup {K : PySem.W.Frag} {H : Hp} {a : Addr} {xs : List V} (h : SqT K H a xs) : TyX K H (.ref a) (.type "tuple") := by
  rcases h with (h | ⟨o, h⟩) | ⟨o, its, n, h, hc, _⟩
  · exact .base (.tup h)
  · exact .fTuple h
  · exact .kTuple h hc
theorem tyx_lst {K : PySem.W.Frag} {H : Hp} {a : Addr} {xs : List V} (h : SqL K H a xs) : TyX K H (.ref a) (.type "list") := by
  rcases h with (h | ⟨o, h⟩) | ⟨o, its, n, h, hc, _⟩
  · exact .base (.lst h)
  · exact .base (.frz h)
  · exact .kList h hc
def tFin (t tf : TS) : TS := fun D σ H => t { nx := fun σ1 H1 => tf D σ1 H1, rt := fun _ _ => False } σ H
section
variable {X : Cx} {body : List Stmt} {f₀ : Stmt} {fs : List Stmt} {pos : Pos} {t tf tfs : TS} {tb : WX → TS} {Wout : WX}
theorem fin_next {D : Ends} {pins : List (Addr × Obj)} {s : Shared} {σ : L2.St} {H : Hp} {E : Value → Shared → Prop} (hf : PSs X.nox (f₀ :: fs) tf) (I : Inv X pins σ H s) (h : tf D σ H) :
    wpAny (model X.prog X.w) X.A (execs (f₀ :: fs) X.env) (fun g s' => match g with
      | .next => SP X pins D .next s'
      | g => SP X pins D g s') E s := by
  refine wpAny_mono (hf.run pins s σ H D (I.wish _) h) (fun g s1 q => ?_) fun _ _ z => False.elim z
  have q' : SP X pins D g s1 := q.unwish
  cases g <;> exact q'
end
end Pr
namespace K54
open PySem PySem.Spec PyProof.Rows L2 Pr
abbrev sDoEdit : Stmt := inClass (topS 50) 14
abbrev sDoBatch : Stmt := inClass (topS 50) 13
abbrev sAttempt : Stmt := inClass (topS 50) 12
/-- edits that can be done one after another: what they lead to, and what they add to the past -/
inductive Eds : List (List Int) → List Int → List PyData → List (List Int) → List Int → List (PyData × List (List Int) × List Int) → Prop
  | nil {pan : List (List Int)} {st : List Int} : Eds pan st [] pan st []
  | cons {pan pan1 pan' : List (List Int)} {st st' : List Int} {d : PyData} {ds : List PyData} {f : List Int → List Int} {xs : List (PyData × List (List Int) × List Int)} (h : Ed pan d pan1 f) (t : Eds pan1 (f st) ds pan' st' xs) : Eds pan st (d :: ds) pan' st' ((d, pan, st) :: xs)
theorem Eds.lf {pan pan' : List (List Int)} {st st' : List Int} {ds : List PyData} {xs : List (PyData × List (List Int) × List Int)} (h : Eds pan st ds pan' st' xs) : ∀ d ∈ ds, Pr.lf d = true := by
  induction h with
  | nil => intro d hd; cases hd
  | cons h t ih =>
    intro d hd
    rcases List.mem_cons.mp hd with rfl | hd
    · exact h.lf
    · exact ih d hd
theorem Eds.len {pan pan' : List (List Int)} {st st' : List Int} {ds : List PyData} {xs : List (PyData × List (List Int) × List Int)} (h : Eds pan st ds pan' st' xs) : xs.length = ds.length := by
  induction h with
  | nil => rfl
  | cons h t ih => rw [List.length_cons, List.length_cons, ih]
theorem Eds.ed {pan pan' : List (List Int)} {st st' : List Int} {ds : List PyData} {xs : List (PyData × List (List Int) × List Int)} (h : Eds pan st ds pan' st' xs) : ∀ d ∈ ds, ∃ p p' f, Ed p d p' f := by
  induction h with
  | nil => intro d hd; cases hd
  | cons h t ih =>
    intro d hd
    rcases List.mem_cons.mp hd with rfl | hd
    · exact ⟨_, _, _, h⟩
    · exact ih d hd
/-- what is_edit takes for an edit -/
def EdS (d : PyData) : Prop := ∃ (w : Str) (ds : List PyData), d = .tuple (.str w :: ds) ∧ ((w = "press" ∧ ds.length = 1) ∨ (w = "link" ∧ ds.length = 2) ∨ (w = "unlink" ∧ ds.length = 2))
theorem Ed.eds {pan pan' : List (List Int)} {d : PyData} {f : List Int → List Int} (h : Ed pan d pan' f) : EdS d := by
  cases h with
  | press _ _ => exact ⟨"press", _, rfl, .inl ⟨rfl, rfl⟩⟩
  | link _ _ => exact ⟨"link", _, rfl, .inr (.inl ⟨rfl, rfl⟩)⟩
  | unlink _ _ => exact ⟨"unlink", _, rfl, .inr (.inr ⟨rfl, rfl⟩)⟩
theorem dp_eds {K : PySem.W.Frag} {H : Hp} {v : V} {d : PyData} (h : EdS d) (dv : Dp K H v d) : ∃ (a : Addr) (w : Str) (xs : List V) (ds : List PyData), v = .ref a ∧ SqT K H a (.str w :: xs) ∧ d = .tuple (.str w :: ds) ∧ xs.length = ds.length ∧ ((w = "press" ∧ ds.length = 1) ∨ (w = "link" ∧ ds.length = 2) ∨ (w = "unlink" ∧ ds.length = 2)) := by
  obtain ⟨w, ds, rfl, hw⟩ := h
  obtain ⟨a, ws, rfl, hq, hr⟩ := dv.tupI
  cases hr with
  | @cons v1 vs _ _ d1 dr =>
    cases d1
    exact ⟨a, w, vs, ds, rfl, hq, rfl, dr.length, hw⟩
theorem at_zero {v : V} {xs : List V} : atI (v :: xs) 0 = some v := atI_nat (xs := v :: xs) (j := 0) rfl
/-- the dict of the module: how many values each edit takes -/
structure KVal (K : PySem.W.Frag) (w : World) (mg : Str → Option Value) (dV : Addr) : Prop where
  g : mg "VALUES" = some (.ref dV)
  kd : ∃ es n, KDict K w dV es n
  v1 : ∃ t, PySem.W.nsIn K dV "press" = some (some (.int 1 t))
  v2 : ∃ t, PySem.W.nsIn K dV "link" = some (some (.int 2 t))
  v3 : ∃ t, PySem.W.nsIn K dV "unlink" = some (some (.int 2 t))
theorem KVal.at {K : PySem.W.Frag} {w : World} {mg : Str → Option Value} {dV : Addr} (V : KVal K w mg dV) {x : Str} {n : Nat} (h : (x = "press" ∧ n = 1) ∨ (x = "link" ∧ n = 2) ∨ (x = "unlink" ∧ n = 2)) : ∃ t, PySem.W.nsIn K dV x = some (some (.int (n : Int) t)) := by
  rcases h with ⟨rfl, rfl⟩ | ⟨rfl, rfl⟩ | ⟨rfl, rfl⟩
  · exact V.v1
  · exact V.v2
  · exact V.v3
def nIsE : List Str := ["value"]
theorem scIsE : FnScope nIsE ["value"] (defScope sIsE) := ⟨rfl, rfl, rfl, by decide +kernel, rfl, by decide +kernel, by decide +kernel⟩
section
variable {P : Program} {w : World} {K : PySem.W.Frag} {mg : Str → Option Value} {base : Heap}
def spIsE (K : PySem.W.Frag) : Sp := fun vs H Q _ => ∃ (v : V) (d : PyData), vs = [v] ∧ Dp K H v d ∧ EdS d ∧ Q (.bl true) H
theorem ok_IsE {f dV : Addr} {fd : FuncData} {k : Nat} (F : Fun K "is_edit" "is_edit" sIsE f fd) (m_isinstance : mg "isinstance" = none) (m_len : mg "len" = none) (m_str : mg "str" = none) (m_tuple : mg "tuple" = none) (VA : KVal K w mg dV) : FnOk P w K mg base CX0 (k + 1) f fd ["value"] (spIsE K) := by
  obtain ⟨es, n, KD_VALUES⟩ := VA.kd
  have y_VALUES := VA.g
  refine F.ok scIsE (fun vs H Q E h => ?_) (fun cdv A outer s H vs Q E hr h => ?_)
  · obtain ⟨v, d, rfl, _⟩ := h
    rfl
  · obtain ⟨v, d, rfl, dv, hE, q⟩ := h
    refine ⟨_, pss_cons (ps_if (PW.pt (pw_or (pt_not (pt_val (pe_callB (show CallR _ _ (rIsi K) from call_isi) (by rfl) m_isinstance (by decide +kernel) (pa_cons (pv 0) (pa_cons (pe_bltn (v := .ty "tuple") (by rfl) m_tuple (by decide +kernel) rfl) pa_nil))))) (pw_or (pt_cmpR op_eq (pe_callB (show CallR _ _ (rLenG K) from cr_lenG) (by rfl) m_len PySem.boot_len (pa_cons (pv 0) pa_nil)) pe_int (nomark _)) (pw_or1 (pt_not (pt_val (pe_callB (show CallR _ _ (rIsi K) from call_isi) (by rfl) m_isinstance (by decide +kernel) (pa_cons (pe_ix (show IxR _ (rIxT K) from ix_tup) (pv 0) pe_int (fun _ _ => rfl)) (pa_cons (pe_bltn (v := .ty "str") (by rfl) m_str (by decide +kernel) rfl) pa_nil))))))))) (pss_one (ps_ret pe_bl)) pss_nil)
      (pss_one (ps_ret (pe_and (pe_cmpR (op_in_kd KD_VALUES) (pe_ix (show IxR _ (rIxT K) from ix_tup) (pv 0) pe_int (fun _ _ => rfl)) (pe_glob (v := .ref dV) (by rfl) y_VALUES rfl) (by rfl)) (pe_one (pe_cmpR op_eq (pe_callB (show CallR _ _ (rLenG K) from cr_lenG) (by rfl) m_len PySem.boot_len (pa_cons (pv 0) pa_nil)) (pe_op op_add pe_int (pe_ix ix_kdict (pe_glob (v := .ref dV) (by rfl) y_VALUES rfl) (pe_ix (show IxR _ (rIxT K) from ix_tup) (pv 0) pe_int (fun _ _ => rfl)) (fun _ _ => rfl))) (nomark _)))))), ?_⟩
    obtain ⟨a, x, xs, ds, rfl, hq, rfl, hl, hw⟩ := dp_eds hE dv
    have hz : (V.str x :: xs).length ≤ 3 := by
      rw [List.length_cons, hl]; rcases hw with h | h | h <;> omega
    obtain ⟨tk, hns⟩ := VA.at (x := x) (n := ds.length) hw
    have ty : TyX K H (.ref a) (.type "tuple") := tyx_tup hq
    refine ⟨.ref a, rfl, .ref a, .ty "tuple", _, _, _, rfl, .ty "tuple", ty, kit_ty (a := "tuple") (b := "tuple") (r := true) (by decide +kernel), _, rfl, iteF ?_⟩
    refine ⟨.ref a, rfl, a, _, rfl, .inr hq, rfl, _, rfl, ?_⟩
    rw [show decide (V.int ((V.str x :: xs).length : Nat) = V.int 0) = false from decide_eq_false (by rw [List.length_cons]; intro z; injection z with z; omega)]
    refine iteF ?_
    refine ⟨.ref a, rfl, a, _, 0, .str x, rfl, rfl, hq, at_zero, .str x, .ty "str", _, _, _, rfl, .ty "str", .base (.str x), kit_ty (a := "str") (b := "str") (r := true) (by decide +kernel), _, rfl, iteF ?_⟩
    refine ⟨.ref a, rfl, a, _, 0, .str x, rfl, rfl, hq, at_zero, x, _, rfl, rfl, hns, true, rfl, iteT ?_⟩
    refine ⟨.ref a, rfl, a, _, rfl, .inr hq, .ref a, rfl, a, _, 0, .str x, rfl, rfl, hq, at_zero, dV, x, .int (ds.length : Int), rfl, rfl, ⟨es, n, _, KD_VALUES.at_, KD_VALUES.lit, hns, ⟨tk, rfl⟩⟩, 1, _, rfl, rfl, rfl, ?_⟩
    rw [show decide (V.int ((V.str x :: xs).length : Nat) = V.int (1 + (ds.length : Int))) = true from decide_eq_true (by rw [List.length_cons, hl]; congr 1; omega)]
    exact q
end
def nCopy : List Str := ["value", "index", "item"]
theorem scCopy : FnScope nCopy ["value"] (defScope sCopy) := ⟨rfl, rfl, rfl, by decide +kernel, rfl, by decide +kernel, by decide +kernel⟩
section
variable {P : Program} {w : World} {K : PySem.W.Frag} {mg : Str → Option Value} {base : Heap}
def spCopy (K : PySem.W.Frag) : Sp := fun vs H Q _ => ∃ (v : V) (ds : List PyData), vs = [v] ∧ Dp K H v (.list ds) ∧ (∀ d ∈ ds, EdS d) ∧ ds.length ≤ 20 ∧ ∀ H' u, Same H H' → Dp K H' u (.tuple ds) → Q u H'
theorem ok_Copy {fIsE : Addr} {fdIsE : FuncData} {f : Addr} {fd : FuncData} {k : Nat} (F : Fun K "copied_batch" "copied_batch" sCopy f fd)
    (FIsE : Fun K "is_edit" "is_edit" sIsE fIsE fdIsE) (bIsE : Binds K fdIsE ["value"] []) (gIsE : mg "is_edit" = some (.ref fIsE))
    (m_enumerate : mg "enumerate" = none) (m_isinstance : mg "isinstance" = none) (m_len : mg "len" = none) (m_list : mg "list" = none) (m_str : mg "str" = none) (m_tuple : mg "tuple" = none) {dV : Addr} {tkB : Tok} (VA : KVal K w mg dV) (y_BATCH : mg "BATCH" = some (.int 20 tkB)) : FnOk P w K mg base CX0 (k + 2) f fd ["value"] (spCopy K) := by
  have GIsE : FnOk P w K mg base CX0 (k + 1) fIsE fdIsE ["value"] (spIsE K) := ok_IsE FIsE m_isinstance m_len m_str m_tuple VA
  refine F.ok scCopy (fun vs H Q E h => ?_) (fun cdv A outer s H vs Q E hr h => ?_)
  · obtain ⟨v, ds, rfl, _⟩ := h
    rfl
  · refine ⟨_, pss_cons (ps_if (PW.pt (pw_or (pt_not (pt_val (pe_callB call_isiT (by rfl) m_isinstance (by decide +kernel) (pa_cons (pv 0) (pa_cons (pe_tup (pa_cons (pe_bltn (v := .ty "list") (by rfl) m_list (by decide +kernel) rfl) (pa_cons (pe_bltn (v := .ty "tuple") (by rfl) m_tuple (by decide +kernel) rfl) pa_nil))) pa_nil))))) (pw_or1 (pt_cmpR op_gt (pe_callB (show CallR _ _ (rLenG K) from cr_lenG) (by rfl) m_len PySem.boot_len (pa_cons (pv 0) pa_nil)) (pe_glob (v := .int 20) (by rfl) y_BATCH ⟨_, rfl⟩) (nomark _))))) (pss_one ps_never) pss_nil)
      (pss_cons (ps_for PassesOwn.never rfl (pi_enum (by rfl) m_enumerate (pa_cons (pv 0) pa_nil)) (pg_tup rfl (pgs_cons (pg_name (i := 1) scCopy.nd rfl (Or.inl rfl)) (pgs_cons (pg_name (i := 2) scCopy.nd rfl (Or.inl rfl)) pgs_nil))) (pss_one (ps_if (pt_not (pt_val (pe_call GIsE (hr.mono (by omega)) (by rfl) gIsE FIsE.kp bIsE .nil pass0 (pa_cons (pv 2) pa_nil)))) (pss_one ps_never) pss_nil)))
      (pss_one (ps_ret (pe_callTy (show CallR _ _ (rTupG K) from cr_tupG) (by rfl) m_tuple (by decide +kernel) (pa_cons (pv 0) pa_nil))))), hide1 fun t0 ht0 => ?_⟩
    obtain ⟨v, ds, rfl, dv, hE, few, q⟩ := h
    refine ht0 _ _ _ ?_
    obtain ⟨a, ws, rfl, hq, hr'⟩ := dv.lstI
    have wl : ws.length = ds.length := hr'.length
    refine ⟨.ref a, rfl, by show 2 ≤ sizeLine; decide, fun tp ntp => ?_⟩
    have s1 := same_new (o := .tup [.ty "list", .ty "tuple"]) ntp
    refine ⟨.ref a, tp, _, _, [.type "list", .type "tuple"], true, rfl, upd_same, .cons (.ty _) (.cons (.ty _) .nil), tyx_lst (s1.seq hq), kitAny_cons (b := true) (kit_ty (by decide +kernel)) (fun z => by cases z) (fun _ => rfl), true, rfl, iteF ?_⟩
    generalize upd H tp (.tup [.ty "list", .ty "tuple"]) = H1 at s1 ⊢
    refine ⟨.ref a, rfl, a, _, rfl, .inl (s1.seq hq), (ws.length : Int), 20, rfl, rfl, _, rfl, ?_⟩
    rw [show decide ((20 : Int) < (ws.length : Int)) = false from decide_eq_false (by omega)]
    refine iteF ?_
    have dv1 := dv.sm s1
    refine gs_each2 (K := K) (R := Same) (δ1 := fun x : PyData × Nat => .int (x.2 : Nat)) (δ2 := fun x : PyData × Nat => x.1) (as := ds.zipIdx) (gvi_enumL (δ := fun x => x) (as := ds) (gv_var rfl (by rw [List.map_id']; exact dv1))) (fun Ha k σ' H' => Same Ha H' ∧ ∃ x1 x2, σ' = [some (.ref a), x1, x2]) (fun Ha sa => ⟨Same.refl _, _, _, rfl⟩) (fun Ha k σ' H' sa hP => hP.1) (fun Ha k x vi vx σ' H3 H4 sa hx hP s4 di dx => ?_) (fun Ha σ' H3 sa hP => ?_)
    · obtain ⟨s3, x1, x2, rfl⟩ := hP
      have hm : x.1 ∈ ds := (List.mem_zipIdx' (List.mem_of_getElem? hx)).2 ▸ List.getElem_mem _
      refine ⟨vx, rfl, vx, x.1, rfl, dx, hE x.1 hm, true, rfl, iteF ?_⟩
      exact ⟨s3.trans s4, _, _, rfl⟩
    · obtain ⟨s3, x1, x2, rfl⟩ := hP
      exact gs_ret (K := K) (gv_tupL (gv_var rfl (dv1.sm (sa.trans s3)))) fun u H4 s4 du => q H4 u ((s1.trans (sa.trans s3)).trans s4) du
end
end K54
namespace Pr
open PySem PySem.Spec PyProof.Rows L2 PySem.Builtin PySem.Builtin.ObjectAttr
section
variable {X : Cx} {e : Expr} {es : List Expr} {ta : TA} {p pos : Pos}
/-- what such a making leaves behind -/
theorem made_endN {pins : List (Addr × Obj)} {σ : L2.St} {H1 H2 : Hp} {Q : XK} {hp hp2 h2 : Heap} {g1 g2 : Array GenState} {d1 d2 : Drawn} {t1 t2 : Nat} {os1 os2 : OsState} {a C d : Addr} {fs : List (Str × V)} (T : Raises X (.ref C)) (J : Inv X pins σ H1 ⟨hp, g1, d1, t1, os1⟩)
    (ha : hp.objs.size ≤ a) (old : ∀ b o, hp.get? b = some o → hp2.get? b = some o) (un : Un (frs X.stack) [] (upd H1 a (exo a C none)) H2 hp2 h2) (hok : HOk X.prog X.w H2 h2) (ho : os2 = os1) (hb : AllBare g2)
    (ea : H2 a = some (exo a C (some d))) (ed : H2 d = some (exd d fs)) (nd : H1 d = none) (q : Q (.ref C) (some d) (upd (del H2 a) d (.xd fs))) : L2N.MkP X pins σ Q (.ref a) ⟨h2, g2, d2, t2, os2⟩ := by
  obtain ⟨tA, G, JG, kG, fresh, there, gone⟩ := mk_end0 (d2 := d2) (t2 := t2) J ha old un hok ho hb ea ed nd
  exact ⟨a, _, _, ⟨G, g2, d2, t2, os2⟩, _, .ref C, some d, rfl, JG, kG, fresh, there, ⟨rfl, rfl, fun vs z => by cases z; rfl⟩, rfl, rfl, gone, rfl, hb, T, q⟩
theorem pmkN_oel {CX : CXT} {x : Str} {C fI : Addr} {k : Nat} {fd : FuncData} {ps : List Str} {sp : Sp} (T : OelC X.K C) (iC : PySem.W.findIn X.K (.ref C) "__init__" = some (some (.ref fI))) (tI : PySem.W.typeIn X.K (.ref fI) = some (.type "function"))
    (F1 : FnOk X.prog X.w X.K X.mg X.base CX k fI fd ps sp) (hr : Room (k + 1) X.A) (hb : Binds X.K fd ps []) (hx : Passes CX X (fun _ _ _ => False)) (hg : Gl X x) (hm : X.mg x = some (.ref C)) (ha : PA X (e :: es) ta)
    (hdb : (x == ("__debug__" : Str)) = false := by decide) (hse : starEach (e :: es) X.env = (false, eval e X.env) :: starEach es X.env := by rfl) (hsp : (backTo pos (starEach es X.env)).any (·.1) = false := by rfl) :
    L2N.PMk X (.Call (.Name x p) (e :: es) [] pos) (tMkO C sp [] ta) := by
  intro pins s σ H Q J h
  obtain ⟨nm, q, N, bs, sn, sub, ab, col, dd, k0, k1, k2, k3, k5, hC⟩ := T.cls
  refine wpAny_Call_Name_kw (ld_glob J hg hm (PySem.W.callWith_K (h₀ := X.base) J.ok.mod.kin T.kC (thn (ha.run pos pins s σ H _ J h) fun us s1 ⟨vs, H1, J1, r1, hz, q1⟩ => ⟨J1.kIn, ?_⟩) hse hsp) hdb)
  show wpAny _ _ (call (.ref C) us) _ _ _
  obtain ⟨hp, g, dr, tk, os⟩ := s1
  have le1 : hp.objs.size ≤ hp.objs.size + 1 := Nat.le_succ _
  have hq := q1 (hp.objs.size + 1) (J1.hok.fresh le1)
  rw [List.append_nil] at hq
  have old : ∀ b o, hp.get? b = some o → ((hp.push (PySem.W.kdv_tup us)).push (PySem.HandSPX.excO C hp.objs.size)).get? b = some o := fun b o z => Heap.get?_push_of_some _ (Heap.get?_push_of_some _ z)
  have new : ((hp.push (PySem.W.kdv_tup us)).push (PySem.HandSPX.excO C hp.objs.size)).get? (hp.objs.size + 1) = some (PySem.HandSPX.excO C hp.objs.size) := by heap_get
  have J2 : Inv X pins σ (upd H1 (hp.objs.size + 1) (exo (hp.objs.size + 1) C none)) ⟨(hp.push (PySem.W.kdv_tup us)).push (PySem.HandSPX.excO C hp.objs.size), g, dr, tk, os⟩ := J1.laid (t' := tk) old le1 (exo_ok new)
  have r2 : Vals (V.ref (hp.objs.size + 1) :: vs) (Value.ref (hp.objs.size + 1) :: us) := .cons rfl r1
  have hln : (Value.ref (hp.objs.size + 1) :: us).length = ps.length := by rw [← r2.length]; exact F1.len _ _ _ _ hq
  have hus : us.length ≤ sizeLine := by
    have := Paired.length r1
    rw [sizeLine_eq]; omega
  have hbd := hb _ (Value.ref (hp.objs.size + 1) :: us) J2.kIn (by rw [List.append_nil]; exact hln)
  rw [List.append_nil] at hbd
  refine wpAny_call (PySem.HandSPX.call_own F.excBase_LookupError (fun _ => rfl) (J1.kIn _ _ hC) (PySem.W.looks_findIn J1.kIn iC) (fun self => PySem.W.bind_fn J1.kIn self tI) hus (codeAny_mono (F1.run _ X.stack _ _ ⟨Value.ref (hp.objs.size + 1) :: us, []⟩ (Value.ref (hp.objs.size + 1) :: us) _ _ (fun _ _ _ => False) (hr.make C us []) (J2.env0.make C us []) hbd r2 hq) fun rs s' hE => ?_))
  cases rs with
  | error er => exact hx pins σ _ _ er s' J2 hE
  | ok fl =>
    cases fl with
    | ret u =>
      obtain ⟨v, H2, o2, bare, un2, hok2, rv, ev, d, fs, ea, ed, hd1, q2⟩ := hE
      cases ev
      obtain ⟨h2, g2, d2, t2, os'⟩ := s'
      exact ⟨rv, made_endN (raises_own T.exC T.tyC) J1 le1 old un2 hok2 o2 bare ea ed hd1 q2⟩
    | next => exact hE.elim
    | brk => exact hE.elim
    | cont => exact hE.elim
theorem pmkN_oex {CX : CXT} {x : Str} {C fI : Addr} {k : Nat} {fd : FuncData} {ps : List Str} {sp : Sp} (T : OexC X.K C) (iC : PySem.W.findIn X.K (.ref C) "__init__" = some (some (.ref fI))) (tI : PySem.W.typeIn X.K (.ref fI) = some (.type "function"))
    (F1 : FnOk X.prog X.w X.K X.mg X.base CX k fI fd ps sp) (hr : Room (k + 1) X.A) (hb : Binds X.K fd ps []) (hx : Passes CX X (fun _ _ _ => False)) (hg : Gl X x) (hm : X.mg x = some (.ref C)) (ha : PA X (e :: es) ta)
    (hdb : (x == ("__debug__" : Str)) = false := by decide) (hse : starEach (e :: es) X.env = (false, eval e X.env) :: starEach es X.env := by rfl) (hsp : (backTo pos (starEach es X.env)).any (·.1) = false := by rfl) :
    L2N.PMk X (.Call (.Name x p) (e :: es) [] pos) (tMkO C sp [] ta) := by
  intro pins s σ H Q J h
  obtain ⟨nm, q, N, bs, bm, sn, sub, ab, col, dd, k0, k1, k2, k3, k5, hC, hbm⟩ := T.cls
  refine wpAny_Call_Name_kw (ld_glob J hg hm (PySem.W.callWith_K (h₀ := X.base) J.ok.mod.kin T.kC (thn (ha.run pos pins s σ H _ J h) fun us s1 ⟨vs, H1, J1, r1, hz, q1⟩ => ⟨J1.kIn, ?_⟩) hse hsp) hdb)
  show wpAny _ _ (call (.ref C) us) _ _ _
  obtain ⟨hp, g, dr, tk, os⟩ := s1
  have le1 : hp.objs.size ≤ hp.objs.size + 1 := Nat.le_succ _
  have hq := q1 (hp.objs.size + 1) (J1.hok.fresh le1)
  rw [List.append_nil] at hq
  have old : ∀ b o, hp.get? b = some o → ((hp.push (PySem.W.kdv_tup us)).push (PySem.HandSPX.excO C hp.objs.size)).get? b = some o := fun b o z => Heap.get?_push_of_some _ (Heap.get?_push_of_some _ z)
  have new : ((hp.push (PySem.W.kdv_tup us)).push (PySem.HandSPX.excO C hp.objs.size)).get? (hp.objs.size + 1) = some (PySem.HandSPX.excO C hp.objs.size) := by heap_get
  have J2 : Inv X pins σ (upd H1 (hp.objs.size + 1) (exo (hp.objs.size + 1) C none)) ⟨(hp.push (PySem.W.kdv_tup us)).push (PySem.HandSPX.excO C hp.objs.size), g, dr, tk, os⟩ := J1.laid (t' := tk) old le1 (exo_ok new)
  have r2 : Vals (V.ref (hp.objs.size + 1) :: vs) (Value.ref (hp.objs.size + 1) :: us) := .cons rfl r1
  have hln : (Value.ref (hp.objs.size + 1) :: us).length = ps.length := by rw [← r2.length]; exact F1.len _ _ _ _ hq
  have hus : us.length ≤ sizeLine := by
    have := Paired.length r1
    rw [sizeLine_eq]; omega
  have hbd := hb _ (Value.ref (hp.objs.size + 1) :: us) J2.kIn (by rw [List.append_nil]; exact hln)
  rw [List.append_nil] at hbd
  refine wpAny_call (PySem.HandSPX.call_own F.excBase_ValueError (fun Y => PySem.HandSPX.refsVE_contains Y bm hbm) (J1.kIn _ _ hC) (PySem.W.looks_findIn J1.kIn iC) (fun self => PySem.W.bind_fn J1.kIn self tI) hus (codeAny_mono (F1.run _ X.stack _ _ ⟨Value.ref (hp.objs.size + 1) :: us, []⟩ (Value.ref (hp.objs.size + 1) :: us) _ _ (fun _ _ _ => False) (hr.make C us []) (J2.env0.make C us []) hbd r2 hq) fun rs s' hE => ?_))
  cases rs with
  | error er => exact hx pins σ _ _ er s' J2 hE
  | ok fl =>
    cases fl with
    | ret u =>
      obtain ⟨v, H2, o2, bare, un2, hok2, rv, ev, d, fs, ea, ed, hd1, q2⟩ := hE
      cases ev
      obtain ⟨h2, g2, d2, t2, os'⟩ := s'
      exact ⟨rv, made_endN (raises_own T.exC T.tyC) J1 le1 old un2 hok2 o2 bare ea ed hd1 q2⟩
    | next => exact hE.elim
    | brk => exact hE.elim
    | cont => exact hE.elim
theorem pmkN_own0 {C : Addr} {bmB : List Value} {B newId initId : String} {x : Str} (F : ExcBaseFacts B newId initId bmB) (q : PySem.W.excIn X.K C bmB newId = true) (gC : X.mg x = some (.ref C)) (kC : PySem.W.keepIn X.K (.ref C) = true) (r : Raises X (.ref C)) (hg : Gl X x)
    (hdb : (x == ("__debug__" : Str)) = false := by decide) : L2N.PMk X (.Call (.Name x p) [] [] pos) (fun _ H Q => Q (.ref C) none H) := by
  intro pins s σ H Q I h
  refine wpAny_Call_Name_kw (ld_glob I hg gC ?_ hdb)
  refine PySem.W.callWith_K0 I.kIn kC ?_
  show wpAny _ _ (call (.ref C) []) _ _ _
  obtain ⟨bm, N, nm, qn, bs, hdct, sn, sub, ab, col, dd, k0, k1, k2, k3, k5, mN, hC, hN, hni, T⟩ := exc_obj I.kIn q
  refine wpAny_call_exc_subT F T hC hN hni (fun h' e hm => ?_) (by show 0 ≤ sizeLine; omega)
  exact L2N.mk_of I hm r h (I.hok.gone hm.new)
theorem Ex0.madeN {nm : Str} {C : Addr} (T : Ex0 X.K X.mg nm C) (hg : Gl X nm) (hdb : (nm == ("__debug__" : Str)) = false := by decide) : L2N.PMk X (.Call (.Name nm p) [] [] pos) (fun _ H Q => Q (.ref C) none H) :=
  pmkN_own0 PySem.F.excBase_ValueError T.q T.g T.k (raises_own T.s T.t) hg hdb
end
section
variable {P : Program} {w : World} {K : PySem.W.Frag} {mg : Str → Option Value} {base : Heap}
theorem Fun.okN {x qual : Str} {st : Stmt} {f : Addr} {fd : FuncData} {N ps : List Str} {k : Nat} {sp : Sp} (F : Fun K x qual st f fd) (S : FnScope N ps (defScope st)) (len : ∀ vs H Q E, sp vs H Q E → vs.length = ps.length)
    (hbody : ∀ (cdv : Value) (A : Around) (outer : List Env) (s : Shared) (H : Hp) (vs : List V) (Q : VK) (E : XK), Room k (A.deeper (envOfC qual (defScope st) s.heap.objs.size f cdv)) → sp vs H Q E →
      ∃ t, PSs (cxOf (L2N.CX P w) P w K mg base N qual (defScope st) f cdv A outer s H E) (defBody st) t ∧ t { nx := fun _ H' => Q .non H', rt := Q } (start N vs) H) : FnOk P w K mg base (L2N.CX P w) (k + 1) f fd ps sp := by
  obtain ⟨oc, od, kV, doc, pm, an, cdv, ct, osl, e, lk, hcd⟩ := F.ex
  subst e
  exact fn_of lk hcd S len (hbody cdv)
/-- a def called while an error is handled -/
theorem Fun.okH {x qual : Str} {st : Stmt} {f : Addr} {fd : FuncData} {N ps : List Str} {k : Nat} {sp : Sp} {CX : CXT} (F : Fun K x qual st f fd) (S : FnScope N ps (defScope st)) (len : ∀ vs H Q E, sp vs H Q E → vs.length = ps.length)
    (hbody : ∀ (cdv : Value) (A : Around) (outer : List Env) (s : Shared) (H : Hp) (vs : List V) (Q : VK) (E : XK) (q : Addr × Obj), L2H.Hot1 A q → L2H.RoomH k (A.deeper (envOfC qual (defScope st) s.heap.objs.size f cdv)) → sp vs H Q E →
      ∃ t, PSs (L2H.cxH CX P w K mg base N qual (defScope st) f cdv A outer s H E q) (defBody st) t ∧ t { nx := fun _ H' => Q .non H', rt := Q } (start N vs) H) : L2H.FnH P w K mg base CX (k + 1) f fd ps sp := by
  obtain ⟨oc, od, kV, doc, pm, an, cdv, ct, osl, e, lk, hcd⟩ := F.ex
  subst e
  exact L2H.fn_ofH lk hcd S len (hbody cdv)
end
end Pr
namespace K54
open PySem PySem.Spec PyProof.Rows L2 Pr
theorem btn_int {n : Int} {d : PyData} (h : isBtn n d = true) : ∃ i : Int, d = .int i ∧ 0 ≤ i ∧ i < n := by
  cases d with
  | int i => exact ⟨i, rfl, by simpa [isBtn] using h⟩
  | _ => cases h
abbrev sInitN : Stmt := inClass (topS 17) 0
theorem scInitN : FnScope ["self", "value"] ["self", "value"] (defScope sInitN) := ⟨rfl, rfl, rfl, by decide +kernel, rfl, by decide +kernel, by decide +kernel⟩
section
variable {P : Program} {w : World} {K : PySem.W.Frag} {mg : Str → Option Value} {base : Heap}
theorem ok_initN {f C : Addr} {fd : FuncData} {k : Nat} (F : Fun K "__init__" "NoButton.__init__" sInitN f fd) : FnOk P w K mg base CX0 (k + 1) f fd ["self", "value"] (spIL K C "value") := by
  refine F.ok scInitN (fun vs H Q E h => ?_) (fun cdv A outer s H vs Q E hr h => ?_)
  · obtain ⟨e, y, rfl, _⟩ := h
    rfl
  · obtain ⟨e, y, rfl, T, hno, he, q⟩ := h
    refine ⟨_, pss_one (ps_ostL (pv 0) (pv 1)), ?_⟩
    exact ⟨y, rfl, .ref e, rfl, e, C, rfl, T, hno, he, q⟩
end
abbrev sInitS : Stmt := inClass (topS 9) 0
theorem scInitS : FnScope ["self", "value"] ["self", "value"] (defScope sInitS) := ⟨rfl, rfl, rfl, by decide +kernel, rfl, by decide +kernel, by decide +kernel⟩
section
variable {P : Program} {w : World} {K : PySem.W.Frag} {mg : Str → Option Value} {base : Heap}
theorem ok_initS {f C : Addr} {fd : FuncData} {k : Nat} (F : Fun K "__init__" "SameButton.__init__" sInitS f fd) : FnOk P w K mg base CX0 (k + 1) f fd ["self", "value"] (spI K C "value") := by
  refine F.ok scInitS (fun vs H Q E h => ?_) (fun cdv A outer s H vs Q E hr h => ?_)
  · obtain ⟨e, y, rfl, _⟩ := h
    rfl
  · obtain ⟨e, y, rfl, T, hno, he, q⟩ := h
    refine ⟨_, pss_one (ps_ost (pv 0) (pv 1)), ?_⟩
    exact ⟨y, rfl, .ref e, rfl, e, C, rfl, T, hno, .inl ⟨he, q⟩⟩
end
abbrev sChkBX := sChkB
def nChkBX : List Str := ["panel", "value"]
theorem scChkBX : FnScope nChkBX ["panel", "value"] (defScope sChkBX) := ⟨rfl, rfl, rfl, by decide +kernel, rfl, by decide +kernel, by decide +kernel⟩
section
variable {P : Program} {w : World} {K : PySem.W.Frag} {mg : Str → Option Value} {base : Heap}
def spChkBX (K : PySem.W.Frag) (CN : Addr) : Sp := fun vs H Q E => ∃ (N : Addr → Prop) (p : Addr) (v : V) (d : PyData) (pan : List (List Int)), vs = [.ref p, v] ∧ PanT K H p pan ∧ Dq K N H v d ∧
  (isBtn (pan.length : Int) d = true → ∀ H', Same H H' → Q .non H') ∧ (isBtn (pan.length : Int) d = false → ∀ H' dd, Same H H' → H' dd = some (.xd [("value", v)]) → E (.ref CN) (some dd) H')
theorem ok_ChkBX {f fBtn CN fIN : Addr} {fd fdBtn fdIN : FuncData} {k : Nat} (F : Fun K "check_button" "check_button" sChkB f fd) (TN : ExL K mg "NoButton" "value" "NoButton.__init__" sInitN CN fIN fdIN)
    (FBtn : Fun K "is_button" "is_button" sBtn fBtn fdBtn) (bBtn : Binds K fdBtn ["value", "many"] []) (gBtn : mg "is_button" = some (.ref fBtn)) (m_bool : mg "bool" = none) (m_int : mg "int" = none) (m_isinstance : mg "isinstance" = none) (m_len : mg "len" = none) :
    FnOk P w K mg base (L2N.CX P w) (k + 3) f fd ["panel", "value"] (spChkBX K CN) := by
  have GBtn : FnOk P w K mg base CX0 (k + 1) fBtn fdBtn ["value", "many"] (spBtn K) := ok_btn FBtn m_isinstance m_bool m_int
  have GN : FnOk P w K mg base CX0 (k + 1) fIN fdIN ["self", "value"] (spIL K CN "value") := ok_initN TN.FI
  refine Pr.Fun.okN F scChkBX (fun vs H Q E h => ?_) (fun cdv A outer s H vs Q E hr h => ?_)
  · obtain ⟨N, p, v, d, pan, rfl, _⟩ := h
    rfl
  · obtain ⟨N, p, v, d, pan, rfl, hp, hd, q1, q2⟩ := h
    refine ⟨_, pss_one (ps_if (pt_not (pt_val (pe_call GBtn (hr.mono (by omega)) (by rfl) gBtn FBtn.kp bBtn .nil pass0 (pa_cons (pv 1) (pa_cons (pe_callB (show CallR _ _ (rLenG K) from cr_lenG) (by rfl) m_len PySem.boot_len (pa_cons (pv 0) pa_nil)) pa_nil))))) (pss_one (L2N.ps_raise rfl (L2N.takes_of rfl rfl rfl rfl) (pmkN_oel TN.oex TN.iC TN.tI GN (hr.mono (by omega)) TN.bI pass0 (by rfl) TN.g (pa_cons (pv 1) pa_nil)))) pss_nil), ?_⟩
    have hlp : (pan.map dInts).length = pan.length := List.length_map _
    refine ⟨v, rfl, (gv_lenT (K := K) (gv_var rfl hp.dp)).at fun vn H1 s1 dn => ?_⟩
    cases dn
    rw [hlp]
    refine ⟨N, v, d, (pan.length : Int), rfl, Dq.same s1 _ _ hd, ⟨_, rfl, ?_⟩⟩
    cases e : isBtn (pan.length : Int) d with
    | true => exact iteF (q1 e H1 s1)
    | false => exact iteT ⟨v, rfl, rzL TN fun H2 dd s2 ed => q2 e H2 dd (s1.trans s2) ed⟩
end
abbrev sLink0X := sLink0
def nLink0X : List Str := ["self", "one", "other"]
theorem scLink0X : FnScope nLink0X ["self", "one", "other"] (defScope sLink0X) := ⟨rfl, rfl, rfl, by decide +kernel, rfl, by decide +kernel, by decide +kernel⟩
section
variable {P : Program} {w : World} {K : PySem.W.Frag} {mg : Str → Option Value} {base : Heap}
def spLink0X (K : PySem.W.Frag) (C CN CS CC : Addr) : Sp := fun vs H Q E => ∃ (N : Addr → Prop) (t : Addr) (pan : List (List Int)) (st : List Int) (past : List (PyData × List (List Int) × List Int)) (v1 v2 : V) (d1 d2 : PyData), vs = [.ref t, v1, v2] ∧ DeskAt K C H t pan st past ∧ past.length < 60 ∧ Dq K N H v1 d1 ∧ Dq K N H v2 d2 ∧
  (isBtn (pan.length : Int) d1 = false → ∀ H' dd, Same H H' → H' dd = some (.xd [("value", v1)]) → E (.ref CN) (some dd) H') ∧
  (isBtn (pan.length : Int) d1 = true → isBtn (pan.length : Int) d2 = false → ∀ H' dd, Same H H' → H' dd = some (.xd [("value", v2)]) → E (.ref CN) (some dd) H') ∧
  (∀ a : Int, d1 = .int a → d2 = .int a → 0 ≤ a → a < (pan.length : Int) → ∀ H' dd, Same H H' → H' dd = some (.xd [("value", v1)]) → E (.ref CS) (some dd) H') ∧
  (∀ a b : Int, d1 = .int a → d2 = .int b → InP2 pan a b → ∀ H', Same H H' → Q .non H')
theorem ok_Link0X {fBtn : Addr} {fdBtn : FuncData} {fChkB : Addr} {fdChkB : FuncData} {C f : Addr} {fd : FuncData} {k : Nat} {CN CS CC fIN fIS : Addr} {fdIN fdIS : FuncData} (F : Fun K "check_link" "Desk.check_link" sLink0X f fd) (T : TxtD K mg C) (TN : ExL K mg "NoButton" "value" "NoButton.__init__" sInitN CN fIN fdIN) (TS : ExF K mg "SameButton" "value" "SameButton.__init__" sInitS CS fIS fdIS) (T_NoChange : Ex0 K mg "NoChange" CC)
    (FBtn : Fun K "is_button" "is_button" sBtn fBtn fdBtn) (bBtn : Binds K fdBtn ["value", "many"] []) (gBtn : mg "is_button" = some (.ref fBtn))
    (FChkB : Fun K "check_button" "check_button" sChkB fChkB fdChkB) (bChkB : Binds K fdChkB ["panel", "value"] []) (gChkB : mg "check_button" = some (.ref fChkB))
    {fFree : Addr} {fdFree : FuncData} (FFree : Fun K "check_free" "Desk.check_free" sFree fFree fdFree) (bFree : Binds K fdFree ["self"] []) (hFree : Meth K C "check_free" fFree)
    {fRoom : Addr} {fdRoom : FuncData} (FRoom : Fun K "check_room" "Desk.check_room" sRoom fRoom fdRoom) (bRoom : Binds K fdRoom ["self"] []) (hRoom : Meth K C "check_room" fRoom)
    (m_bool : mg "bool" = none) (m_int : mg "int" = none) (m_isinstance : mg "isinstance" = none) (m_len : mg "len" = none) : FnOk P w K mg base (L2N.CX P w) (k + 4) f fd ["self", "one", "other"] (spLink0X K C CN CS CC) := by
  have GChkB : FnOk P w K mg base (L2N.CX P w) (k + 3) fChkB fdChkB ["panel", "value"] (spChkBX K CN) := ok_ChkBX FChkB TN FBtn bBtn gBtn m_bool m_int m_isinstance m_len
  have GRoom : FnOk P w K mg base CX0 (k + 2) fRoom fdRoom ["self"] (spRoom K C) := ok_Room FRoom T  FFree bFree hFree m_len
  have GS : FnOk P w K mg base CX0 (k + 1) fIS fdIS ["self", "value"] (spI K CS "value") := ok_initS TS.FI
  refine Pr.Fun.okN F scLink0X (fun vs H Q E h => ?_) (fun cdv A outer s H vs Q E hr h => ?_)
  · obtain ⟨N, t, pan, st, past, v1, v2, d1, d2, rfl, _⟩ := h
    rfl
  · obtain ⟨N, t, pan, st, past, v1, v2, d1, d2, rfl, hD, few, h1, h2, q1, q2, q3, q4⟩ := h
    have hD' := hD
    obtain ⟨⟨dx, pa, p, l, hh, hs, kn, e1, _, h3, _⟩, _⟩ := hD'
    refine ⟨_, pss_cons (ps_expr (pe_meth0 (pv 0) T.cl hRoom GRoom (hr.mono (by omega)) bRoom .nil pass0))
      (pss_cons (ps_expr (pe_callS (E := fun _ => E) GChkB (hr.mono (by omega)) (by rfl) gChkB FChkB.kp bChkB (fun σ => L2N.passAt (W := fun cls d _ H => E cls d H) (L2N.takes_of rfl rfl rfl rfl) σ) (pa_cons (pe_fld (pv 0) rfl) (pa_cons (pv 1) pa_nil))))
      (pss_cons (ps_expr (pe_callS (E := fun _ => E) GChkB (hr.mono (by omega)) (by rfl) gChkB FChkB.kp bChkB (fun σ => L2N.passAt (W := fun cls d _ H => E cls d H) (L2N.takes_of rfl rfl rfl rfl) σ) (pa_cons (pe_fld (pv 0) rfl) (pa_cons (pv 2) pa_nil))))
      (pss_one (ps_if (pt_cmpR op_eq (pv 1) (pv 2) (nomark _)) (pss_one (L2N.ps_raise rfl (L2N.takes_of rfl rfl rfl rfl) (pmkN_oex TS.oex TS.iC TS.tI GS (hr.mono (by omega)) TS.bI pass0 (by rfl) TS.g (pa_cons (pv 1) pa_nil)))) pss_nil)))), ?_⟩
    refine ⟨.ref t, rfl, t, dx, _, rfl, e1, by rfl, t, pan, st, past, rfl, hD, few, fun H1 s1 => ?_⟩
    refine ⟨.ref t, rfl, t, C, dx, _, .ref p, rfl, s1 _ _ e1, T.cl, T.nP, look_panel _ _ _ _ _, v1, rfl, N, p, v1, d1, pan, rfl, h3.same s1, Dq.same s1 _ _ h1, fun b1 H2 s2 => ?_, fun b1 H2 dd s2 ed => q1 b1 H2 dd (s1.trans s2) ed⟩
    have s12 := s1.trans s2
    refine ⟨.ref t, rfl, t, C, dx, _, .ref p, rfl, s12 _ _ e1, T.cl, T.nP, look_panel _ _ _ _ _, v2, rfl, N, p, v2, d2, pan, rfl, h3.same s12, Dq.same s12 _ _ h2, fun b2 H3 s3 => ?_, fun b2 H3 dd s3 ed => q2 b1 b2 H3 dd (s12.trans s3) ed⟩
    obtain ⟨a, rfl, a0, a1⟩ := btn_int b1
    obtain ⟨b, rfl, c0, c1⟩ := btn_int b2
    cases h1
    cases h2
    have s13 := s12.trans s3
    refine ⟨.int a, rfl, .int b, rfl, rfl, _, rfl, ite2 (fun e => ?_) (fun e => ?_)⟩
    · have eab : a = b := by have := of_decide_eq_true e; injection this
      subst eab
      exact ⟨.int a, rfl, rzF TS fun H5 dd s5 ed => q3 a rfl rfl a0 a1 H5 dd (s13.trans s5) ed⟩
    · exact q4 a b rfl rfl ⟨a0, a1, c0, c1, fun z => e (decide_eq_true (by rw [z]))⟩ H3 s13
end
abbrev sChgX := sChg
def nChgX : List Str := ["self", "edit", "panel"]
theorem scChgX : FnScope nChgX ["self", "edit", "panel"] (defScope sChgX) := ⟨rfl, rfl, rfl, by decide +kernel, rfl, by decide +kernel, by decide +kernel⟩
section
variable {P : Program} {w : World} {K : PySem.W.Frag} {mg : Str → Option Value} {base : Heap}
def spChgX (K : PySem.W.Frag) (C CN CS CC : Addr) : Sp := fun vs H Q E => ∃ (t : Addr) (pan : List (List Int)) (st : List Int) (past : List (PyData × List (List Int) × List Int)) (ve : V) (de : PyData) (p' : Addr) (pan' : List (List Int)), vs = [.ref t, ve, .ref p'] ∧ DeskAt K C H t pan st past ∧ past.length ≤ 60 ∧ Dp K H ve de ∧ lf de = true ∧ PEd pan.length (de, pan, st) ∧ PanT K H p' pan' ∧
  (pan' = pan → ∀ H', Same H H' → E (.ref CC) none H') ∧
  (pan' ≠ pan → Good pan' ∧ pan'.length = pan.length ∧ ∀ H', ButO t H H' → DeskAt K C H' t pan' st (past ++ [(de, pan, st)]) → Q (.int ((past.length + 1 : Nat) : Int)) H')
theorem ok_ChgX  {C f : Addr} {fd : FuncData} {k : Nat} {CN CS CC fIN fIS : Addr} {fdIN fdIS : FuncData} (F : Fun K "change_panel" "Desk.change_panel" sChgX f fd) (T : TxtD K mg C) (TN : ExL K mg "NoButton" "value" "NoButton.__init__" sInitN CN fIN fdIN) (TS : ExF K mg "SameButton" "value" "SameButton.__init__" sInitS CS fIS fdIS) (T_NoChange : Ex0 K mg "NoChange" CC)
    {fShow : Addr} {fdShow : FuncData} (GShow0 : ∀ k0 : Nat, FnOk P w K mg base CX0 (k0 + 6) fShow fdShow ["self", "panel", "latched"] (spShow K C)) (bShow : Binds K fdShow ["self", "panel", "latched"] []) (hShow : Meth K C "show" fShow)
    {fAdd : Addr} {fdAdd : FuncData} (FAdd : Fun K "add_edit" "Desk.add_edit" sAdd fAdd fdAdd) (bAdd : Binds K fdAdd ["self", "edit", "panel", "latched"] []) (hAdd : Meth K C "add_edit" fAdd)
    (m_len : mg "len" = none) : FnOk P w K mg base (L2N.CX P w) (k + 8) f fd ["self", "edit", "panel"] (spChgX K C CN CS CC) := by
  have GAdd : FnOk P w K mg base CX0 (k + 7) fAdd fdAdd ["self", "edit", "panel", "latched"] (spAdd K C) := ok_Add FAdd T  GShow0 bShow hShow m_len
  have GS : FnOk P w K mg base CX0 (k + 1) fIS fdIS ["self", "value"] (spI K CS "value") := ok_initS TS.FI
  refine Pr.Fun.okN F scChgX (fun vs H Q E h => ?_) (fun cdv A outer s H vs Q E hr h => ?_)
  · obtain ⟨t, pan, st, past, ve, de, p', pan', rfl, _⟩ := h
    rfl
  · obtain ⟨t, pan, st, past, ve, de, p', pan', rfl, hD, few, dve, lde, ped, hp', q1, q2⟩ := h
    have hD' := hD
    obtain ⟨⟨dx, pa, p, l, hh, hs, kn, h1, h2, h3, h4, h5, h6, h7⟩, hg, hst, lfe⟩ := hD'
    refine ⟨_, pss_cons (ps_if (pt_cmpR (show OpR _ _ (rEqD K) from op_eqD hr.units) (pv 2) (pe_fld (pv 0) rfl) (nomark _)) (pss_one (L2N.ps_raise rfl (L2N.takes_of rfl rfl rfl rfl) (T_NoChange.madeN (by rfl)))) pss_nil)
      (pss_one (ps_ret (pe_meth (pv 0) T.cl hAdd GAdd (hr.mono (by omega)) bAdd .nil pass0 (pa_cons (pv 1) (pa_cons (pv 2) (pa_cons (pe_fld (pv 0) rfl) pa_nil)))))), ?_⟩
    refine gs_if1 (gvt_test (K := K) ((gv_eqD (gv_var rfl hp'.dp) (gv_panel T rfl hD) (shp_rowsT _) (shp_rowsT _)).to (congrArg PyData.bool (eqv_rowsT pan' pan)))) (fun e H1 s1 => ?_) (fun e H1 s1 => ?_)
    · exact q1 (of_decide_eq_true e) H1 s1
    · obtain ⟨hg', hpl, q⟩ := q2 (of_decide_eq_false e)
      exact ⟨.ref t, rfl, t, dx, _, rfl, s1 _ _ h1, by rfl, ve, rfl, .ref p', rfl, .ref t, rfl, t, C, dx, _, .ref l, rfl, s1 _ _ h1, T.cl, T.nL, look_latched _ _ _ _ _, t, pan, st, past, ve, de, p', l, pan', st, rfl, hD.same s1, few, dve.sm s1, lde, ped, hpl, hp'.same s1, hg', s1 _ _ h4, by rw [hpl]; exact hst, fun H2 k2 hN => q H2 ((ButO.of s1).trans k2) hN⟩
end
abbrev sPressX := sPressD
def nPressX : List Str := ["self", "button", "latched"]
theorem scPressX : FnScope nPressX ["self", "button"] (defScope sPressX) := ⟨rfl, rfl, rfl, by decide +kernel, rfl, by decide +kernel, by decide +kernel⟩
section
variable {P : Program} {w : World} {K : PySem.W.Frag} {mg : Str → Option Value} {base : Heap}
def spPressX (K : PySem.W.Frag) (C CN CS CC : Addr) : Sp := fun vs H Q E => ∃ (N : Addr → Prop) (t : Addr) (pan : List (List Int)) (st : List Int) (past : List (PyData × List (List Int) × List Int)) (v : V) (d : PyData), vs = [.ref t, v] ∧ DeskAt K C H t pan st past ∧ past.length < 60 ∧ Dq K N H v d ∧
  (isBtn (pan.length : Int) d = false → ∀ H' dd, Same H H' → H' dd = some (.xd [("value", v)]) → E (.ref CN) (some dd) H') ∧
  (∀ b : Int, d = .int b → 0 ≤ b → b < (pan.length : Int) → ∀ H', ButO t H H' → DeskAt K C H' t pan (pressM pan st b) (past ++ [(.tuple [.str "press", .int b], pan, st)]) → Q (.int ((past.length + 1 : Nat) : Int)) H')
theorem ok_PressX {fBtn : Addr} {fdBtn : FuncData} {fPress : Addr} {fdPress : FuncData} {fChkB : Addr} {fdChkB : FuncData} {C f : Addr} {fd : FuncData} {k : Nat} {CN CS CC fIN fIS : Addr} {fdIN fdIS : FuncData} (F : Fun K "press" "Desk.press" sPressX f fd) (T : TxtD K mg C) (TN : ExL K mg "NoButton" "value" "NoButton.__init__" sInitN CN fIN fdIN) (TS : ExF K mg "SameButton" "value" "SameButton.__init__" sInitS CS fIS fdIS) (T_NoChange : Ex0 K mg "NoChange" CC)
    (FBtn : Fun K "is_button" "is_button" sBtn fBtn fdBtn) (bBtn : Binds K fdBtn ["value", "many"] []) (gBtn : mg "is_button" = some (.ref fBtn))
    (FPress : Fun K "press_button" "press_button" sPress fPress fdPress) (bPress : Binds K fdPress ["panel", "state", "button"] []) (gPress : mg "press_button" = some (.ref fPress))
    (FChkB : Fun K "check_button" "check_button" sChkB fChkB fdChkB) (bChkB : Binds K fdChkB ["panel", "value"] []) (gChkB : mg "check_button" = some (.ref fChkB))
    {fFree : Addr} {fdFree : FuncData} (FFree : Fun K "check_free" "Desk.check_free" sFree fFree fdFree) (bFree : Binds K fdFree ["self"] []) (hFree : Meth K C "check_free" fFree)
    {fRoom : Addr} {fdRoom : FuncData} (FRoom : Fun K "check_room" "Desk.check_room" sRoom fRoom fdRoom) (bRoom : Binds K fdRoom ["self"] []) (hRoom : Meth K C "check_room" fRoom)
    {fShow : Addr} {fdShow : FuncData} (GShow0 : ∀ k0 : Nat, FnOk P w K mg base CX0 (k0 + 6) fShow fdShow ["self", "panel", "latched"] (spShow K C)) (bShow : Binds K fdShow ["self", "panel", "latched"] []) (hShow : Meth K C "show" fShow)
    {fAdd : Addr} {fdAdd : FuncData} (FAdd : Fun K "add_edit" "Desk.add_edit" sAdd fAdd fdAdd) (bAdd : Binds K fdAdd ["self", "edit", "panel", "latched"] []) (hAdd : Meth K C "add_edit" fAdd)
    (m_bool : mg "bool" = none) (m_int : mg "int" = none) (m_isinstance : mg "isinstance" = none) (m_len : mg "len" = none) (m_sorted : mg "sorted" = none) (m_tuple : mg "tuple" = none) : FnOk P w K mg base (L2N.CX P w) (k + 8) f fd ["self", "button"] (spPressX K C CN CS CC) := by
  have GChkB : FnOk P w K mg base (L2N.CX P w) (k + 3) fChkB fdChkB ["panel", "value"] (spChkBX K CN) := ok_ChkBX FChkB TN FBtn bBtn gBtn m_bool m_int m_isinstance m_len
  have GPress : FnOk P w K mg base CX0 (k + 1) fPress fdPress ["panel", "state", "button"] (spPress K) := ok_Press FPress m_sorted m_tuple
  have GRoom : FnOk P w K mg base CX0 (k + 2) fRoom fdRoom ["self"] (spRoom K C) := ok_Room FRoom T  FFree bFree hFree m_len
  have GAdd : FnOk P w K mg base CX0 (k + 7) fAdd fdAdd ["self", "edit", "panel", "latched"] (spAdd K C) := ok_Add FAdd T  GShow0 bShow hShow m_len
  have GS : FnOk P w K mg base CX0 (k + 1) fIS fdIS ["self", "value"] (spI K CS "value") := ok_initS TS.FI
  refine Pr.Fun.okN F scPressX (fun vs H Q E h => ?_) (fun cdv A outer s H vs Q E hr h => ?_)
  · obtain ⟨N, t, pan, st, past, v, d, rfl, _⟩ := h
    rfl
  · obtain ⟨N, t, pan, st, past, v, d, rfl, hD, few, hd, q1, q2⟩ := h
    have hD' := hD
    obtain ⟨⟨dx, pa, p, l, hh, hs, kn, h1, h2, h3, h4, h5, h6, h7⟩, hg, hst, lfe⟩ := hD'
    refine ⟨_, pss_cons (ps_expr (pe_meth0 (pv 0) T.cl hRoom GRoom (hr.mono (by omega)) bRoom .nil pass0))
      (pss_cons (ps_expr (pe_callS (E := fun _ => E) GChkB (hr.mono (by omega)) (by rfl) gChkB FChkB.kp bChkB (fun σ => L2N.passAt (W := fun cls d _ H => E cls d H) (L2N.takes_of rfl rfl rfl rfl) σ) (pa_cons (pe_fld (pv 0) rfl) (pa_cons (pv 1) pa_nil))))
      (pss_cons (ps_set (i := 2) scPressX.nd rfl (.inl rfl) (pe_call GPress (hr.mono (by omega)) (by rfl) gPress FPress.kp bPress .nil pass0 (pa_cons (pe_fld (pv 0) rfl) (pa_cons (pe_fld (pv 0) rfl) (pa_cons (pv 1) pa_nil)))))
      (pss_one (ps_ret (pe_meth (pv 0) T.cl hAdd GAdd (hr.mono (by omega)) bAdd .nil pass0 (pa_cons (pe_tup (pa_cons pe_str (pa_cons (pv 1) pa_nil))) (pa_cons (pe_fld (pv 0) rfl) (pa_cons (pv 2) pa_nil)))))))), ?_⟩
    refine ⟨.ref t, rfl, t, dx, _, rfl, h1, by rfl, t, pan, st, past, rfl, hD, few, fun H1 s1 => ?_⟩
    refine ⟨.ref t, rfl, t, C, dx, _, .ref p, rfl, s1 _ _ h1, T.cl, T.nP, look_panel _ _ _ _ _, v, rfl, N, p, v, d, pan, rfl, h3.same s1, Dq.same s1 _ _ hd, fun eb H2 s2 => ?_, fun eb H2 dd s2 ed => q1 eb H2 dd (s1.trans s2) ed⟩
    obtain ⟨b, rfl, b0, b1⟩ := btn_int eb
    cases hd
    have s12 := s1.trans s2
    have e2 := s12 _ _ h1
    refine ⟨.ref t, rfl, t, C, dx, _, .ref p, rfl, e2, T.cl, T.nP, look_panel _ _ _ _ _, .ref t, rfl, t, C, dx, _, .ref l, rfl, e2, T.cl, T.nL, look_latched _ _ _ _ _, .int b, rfl, pan, st, b, .cons (h3.same s12).dp (.cons (dp_ints (.inl (.inl (s12 _ _ h4)))) (.cons (.int _) .nil)), hst, hg.few, b0, b1, fun H3 l' s3 el => ?_⟩
    have s13 := s12.trans s3
    have e3 := s13 _ _ h1
    refine ⟨.ref t, rfl, t, dx, _, rfl, e3, by rfl, .int b, rfl, by show 2 ≤ sizeLine; decide, fun Te nTe => ?_⟩
    have sTe := same_new (o := .tup [.str "press", .int b]) nTe
    have s14 := s13.trans sTe
    refine ⟨.ref t, rfl, t, C, dx, _, .ref p, rfl, s14 _ _ h1, T.cl, T.nP, look_panel _ _ _ _ _, .ref l', rfl, t, pan, st, past, .ref Te, _, p, l', pan, pressM pan st b, rfl, hD.same s14, by omega, .tup (.inl (.inl upd_same)) (.cons (.str _) (.cons (.int _) .nil)), rfl, ⟨rfl, .inl ⟨b, rfl, b0, b1⟩⟩, rfl, h3.same s14, hg, sTe _ _ el, pressM_asc _ _ _, fun H5 k5 hN => q2 b rfl b0 b1 H5 ((ButO.of s14).trans k5) hN⟩
end
abbrev sLinkX := sLink
def nLinkX : List Str := ["self", "one", "other"]
theorem scLinkX : FnScope nLinkX ["self", "one", "other"] (defScope sLinkX) := ⟨rfl, rfl, rfl, by decide +kernel, rfl, by decide +kernel, by decide +kernel⟩
section
variable {P : Program} {w : World} {K : PySem.W.Frag} {mg : Str → Option Value} {base : Heap}
def spLinkX (K : PySem.W.Frag) (C CN CS CC : Addr) : Sp := fun vs H Q E => ∃ (N : Addr → Prop) (t : Addr) (pan : List (List Int)) (st : List Int) (past : List (PyData × List (List Int) × List Int)) (v1 v2 : V) (d1 d2 : PyData), vs = [.ref t, v1, v2] ∧ DeskAt K C H t pan st past ∧ past.length < 60 ∧ Dq K N H v1 d1 ∧ Dq K N H v2 d2 ∧
  (isBtn (pan.length : Int) d1 = false → ∀ H' dd, Same H H' → H' dd = some (.xd [("value", v1)]) → E (.ref CN) (some dd) H') ∧
  (isBtn (pan.length : Int) d1 = true → isBtn (pan.length : Int) d2 = false → ∀ H' dd, Same H H' → H' dd = some (.xd [("value", v2)]) → E (.ref CN) (some dd) H') ∧
  (∀ a : Int, d1 = .int a → d2 = .int a → 0 ≤ a → a < (pan.length : Int) → ∀ H' dd, Same H H' → H' dd = some (.xd [("value", v1)]) → E (.ref CS) (some dd) H') ∧
  (∀ a b : Int, d1 = .int a → d2 = .int b → InP2 pan a b → decide (b ∈ pan.getD a.toNat []) = true → ∀ H', Same H H' → E (.ref CC) none H') ∧
  (∀ a b : Int, d1 = .int a → d2 = .int b → InP2 pan a b → decide (b ∈ pan.getD a.toNat []) = !true → ∀ H', ButO t H H' → DeskAt K C H' t (liM pan a b) st (past ++ [(dLk "link" a b, pan, st)]) → Q (.int ((past.length + 1 : Nat) : Int)) H')
theorem ok_LinkX {fWl : Addr} {fdWl : FuncData} {fLi : Addr} {fdLi : FuncData} {fBtn : Addr} {fdBtn : FuncData} {fChkB : Addr} {fdChkB : FuncData} {C f : Addr} {fd : FuncData} {k : Nat} {CN CS CC fIN fIS : Addr} {fdIN fdIS : FuncData} (F : Fun K "link" "Desk.link" sLinkX f fd) (T : TxtD K mg C) (TN : ExL K mg "NoButton" "value" "NoButton.__init__" sInitN CN fIN fdIN) (TS : ExF K mg "SameButton" "value" "SameButton.__init__" sInitS CS fIS fdIS) (T_NoChange : Ex0 K mg "NoChange" CC)
    (FWl : Fun K "with_list" "with_list" sWl fWl fdWl) (bWl : Binds K fdWl ["panel", "button", "released"] []) (gWl : mg "with_list" = some (.ref fWl))
    (FLi : Fun K "linked" "linked" sLi fLi fdLi) (bLi : Binds K fdLi ["panel", "one", "other"] []) (gLi : mg "linked" = some (.ref fLi))
    (FBtn : Fun K "is_button" "is_button" sBtn fBtn fdBtn) (bBtn : Binds K fdBtn ["value", "many"] []) (gBtn : mg "is_button" = some (.ref fBtn))
    (FChkB : Fun K "check_button" "check_button" sChkB fChkB fdChkB) (bChkB : Binds K fdChkB ["panel", "value"] []) (gChkB : mg "check_button" = some (.ref fChkB))
    {fFree : Addr} {fdFree : FuncData} (FFree : Fun K "check_free" "Desk.check_free" sFree fFree fdFree) (bFree : Binds K fdFree ["self"] []) (hFree : Meth K C "check_free" fFree)
    {fRoom : Addr} {fdRoom : FuncData} (FRoom : Fun K "check_room" "Desk.check_room" sRoom fRoom fdRoom) (bRoom : Binds K fdRoom ["self"] []) (hRoom : Meth K C "check_room" fRoom)
    {fLink0X : Addr} {fdLink0X : FuncData} (FLink0X : Fun K "check_link" "Desk.check_link" sLink0X fLink0X fdLink0X) (bLink0X : Binds K fdLink0X ["self", "one", "other"] []) (hLink0X : Meth K C "check_link" fLink0X)
    {fShow : Addr} {fdShow : FuncData} (GShow0 : ∀ k0 : Nat, FnOk P w K mg base CX0 (k0 + 6) fShow fdShow ["self", "panel", "latched"] (spShow K C)) (bShow : Binds K fdShow ["self", "panel", "latched"] []) (hShow : Meth K C "show" fShow)
    {fAdd : Addr} {fdAdd : FuncData} (FAdd : Fun K "add_edit" "Desk.add_edit" sAdd fAdd fdAdd) (bAdd : Binds K fdAdd ["self", "edit", "panel", "latched"] []) (hAdd : Meth K C "add_edit" fAdd)
    {fChgX : Addr} {fdChgX : FuncData} (FChgX : Fun K "change_panel" "Desk.change_panel" sChgX fChgX fdChgX) (bChgX : Binds K fdChgX ["self", "edit", "panel"] []) (hChgX : Meth K C "change_panel" fChgX)
    (m_bool : mg "bool" = none) (m_enumerate : mg "enumerate" = none) (m_int : mg "int" = none) (m_isinstance : mg "isinstance" = none) (m_len : mg "len" = none) (m_sorted : mg "sorted" = none) (m_tuple : mg "tuple" = none) : FnOk P w K mg base (L2N.CX P w) (k + 9) f fd ["self", "one", "other"] (spLinkX K C CN CS CC) := by
  have GLi : FnOk P w K mg base CX0 (k + 2) fLi fdLi ["panel", "one", "other"] (spLi K) := ok_Li FLi FWl bWl gWl m_enumerate m_sorted m_tuple
  have GLink0X : FnOk P w K mg base (L2N.CX P w) (k + 4) fLink0X fdLink0X ["self", "one", "other"] (spLink0X K C CN CS CC) := ok_Link0X FLink0X T TN TS T_NoChange FBtn bBtn gBtn FChkB bChkB gChkB FFree bFree hFree FRoom bRoom hRoom m_bool m_int m_isinstance m_len
  have GChgX : FnOk P w K mg base (L2N.CX P w) (k + 8) fChgX fdChgX ["self", "edit", "panel"] (spChgX K C CN CS CC) := ok_ChgX FChgX T TN TS T_NoChange  GShow0 bShow hShow FAdd bAdd hAdd m_len
  have GS : FnOk P w K mg base CX0 (k + 1) fIS fdIS ["self", "value"] (spI K CS "value") := ok_initS TS.FI
  refine Pr.Fun.okN F scLinkX (fun vs H Q E h => ?_) (fun cdv A outer s H vs Q E hr h => ?_)
  · obtain ⟨N, t, pan, st, past, v1, v2, d1, d2, rfl, _⟩ := h
    rfl
  · obtain ⟨N, t, pan, st, past, v1, v2, d1, d2, rfl, hD, few, i1, i2, q1, q2, q3, q4, q5⟩ := h
    have hD' := hD
    obtain ⟨⟨dx, pa, p, l, hh, hs, kn, h1, h2, h3, h4, h5, h6, h7⟩, hg, hst, lfe⟩ := hD'
    refine ⟨_, pss_cons (ps_expr (pe_methE (E := fun _ => E) (pv 0) T.cl hLink0X GLink0X (hr.mono (by omega)) bLink0X (fun σ => L2N.passAt (W := fun cls d _ H => E cls d H) (L2N.takes_of rfl rfl rfl rfl) σ) (pa_cons (pv 1) (pa_cons (pv 2) pa_nil))))
      (pss_one (ps_ret (pe_methE (E := fun _ => E) (pv 0) T.cl hChgX GChgX (hr.mono (by omega)) bChgX (fun σ => L2N.passAt (W := fun cls d _ H => E cls d H) (L2N.takes_of rfl rfl rfl rfl) σ) (pa_cons (pe_tup (pa_cons pe_str (pa_cons (pv 1) (pa_cons (pv 2) pa_nil)))) (pa_cons (pe_call GLi (hr.mono (by omega)) (by rfl) gLi FLi.kp bLi .nil pass0 (pa_cons (pe_fld (pv 0) rfl) (pa_cons (pv 1) (pa_cons (pv 2) pa_nil)))) pa_nil))))), ?_⟩
    refine ⟨.ref t, rfl, t, dx, _, rfl, h1, by rfl, v1, rfl, v2, rfl, N, t, pan, st, past, v1, v2, d1, d2, rfl, hD, few, i1, i2, q1, q2, q3, fun one other ea eb hI H1 s1 => ?_⟩
    subst ea eb
    cases i1
    cases i2
    have e1 := s1 _ _ h1
    refine ⟨.ref t, rfl, t, dx, _, rfl, e1, by rfl, .int one, rfl, .int other, rfl, by show 3 ≤ sizeLine; decide, fun Te nTe => ?_⟩
    have sTe := same_new (o := .tup [.str "link", .int one, .int other]) nTe
    have hD2 := (hD.same s1).same sTe
    refine (gv_Li (K := K) (gva_cons (gv_panel (i := 0) T rfl hD2) (gva_cons (gv_var (i := 1) rfl (.int one)) (gva_cons (gv_var (i := 2) rfl (.int other)) gva_nil))) ⟨(pan_ok hg).1, (pan_ok hg).2, hI.1, hI.2.1⟩).at fun v H3 s3 dv => ?_
    obtain ⟨p', rfl, hp'⟩ := panT_dp dv
    have s13 := (s1.trans sTe).trans s3
    refine ⟨t, pan, st, past, .ref Te, dLk "link" one other, p', _, rfl, hD.same s13, by omega, .tup (.inl (.inl (s3 _ _ upd_same))) (.cons (.str _) (.cons (.int _) (.cons (.int _) .nil))), rfl, ⟨rfl, .inr ⟨_, one, other, by decide +kernel, rfl⟩⟩, hp', fun ep H4 s4 => ?_, fun np => ?_⟩
    · refine q4 one other rfl rfl hI ?_ H4 (s13.trans s4)
      by_cases hm : other ∈ pan.getD one.toNat []
      · first | exact decide_eq_true hm | exact absurd ep (good_li hg hI hm).2.2
      · first | exact decide_eq_false hm | exact absurd ep (good_li hg hI hm).2.2
    · by_cases hm : other ∈ pan.getD one.toNat []
      · first
        | exact ⟨(good_li hg hI hm).1, (good_li hg hI hm).2.1, fun H4 k4 hN => q5 one other rfl rfl hI (decide_eq_true hm) H4 ((ButO.of s13).trans k4) hN⟩
        | exact absurd (show liM pan one other = pan by unfold liM; rw [if_pos hm]) np
      · first
        | exact ⟨(good_li hg hI hm).1, (good_li hg hI hm).2.1, fun H4 k4 hN => q5 one other rfl rfl hI (decide_eq_false hm) H4 ((ButO.of s13).trans k4) hN⟩
        | exact absurd (show liM pan one other = pan by unfold liM; rw [if_neg hm]) np
end
abbrev sUnlinkX := sUnlink
def nUnlinkX : List Str := ["self", "one", "other"]
theorem scUnlinkX : FnScope nUnlinkX ["self", "one", "other"] (defScope sUnlinkX) := ⟨rfl, rfl, rfl, by decide +kernel, rfl, by decide +kernel, by decide +kernel⟩
section
variable {P : Program} {w : World} {K : PySem.W.Frag} {mg : Str → Option Value} {base : Heap}
def spUnlinkX (K : PySem.W.Frag) (C CN CS CC : Addr) : Sp := fun vs H Q E => ∃ (N : Addr → Prop) (t : Addr) (pan : List (List Int)) (st : List Int) (past : List (PyData × List (List Int) × List Int)) (v1 v2 : V) (d1 d2 : PyData), vs = [.ref t, v1, v2] ∧ DeskAt K C H t pan st past ∧ past.length < 60 ∧ Dq K N H v1 d1 ∧ Dq K N H v2 d2 ∧
  (isBtn (pan.length : Int) d1 = false → ∀ H' dd, Same H H' → H' dd = some (.xd [("value", v1)]) → E (.ref CN) (some dd) H') ∧
  (isBtn (pan.length : Int) d1 = true → isBtn (pan.length : Int) d2 = false → ∀ H' dd, Same H H' → H' dd = some (.xd [("value", v2)]) → E (.ref CN) (some dd) H') ∧
  (∀ a : Int, d1 = .int a → d2 = .int a → 0 ≤ a → a < (pan.length : Int) → ∀ H' dd, Same H H' → H' dd = some (.xd [("value", v1)]) → E (.ref CS) (some dd) H') ∧
  (∀ a b : Int, d1 = .int a → d2 = .int b → InP2 pan a b → decide (b ∈ pan.getD a.toNat []) = false → ∀ H', Same H H' → E (.ref CC) none H') ∧
  (∀ a b : Int, d1 = .int a → d2 = .int b → InP2 pan a b → decide (b ∈ pan.getD a.toNat []) = !false → ∀ H', ButO t H H' → DeskAt K C H' t (unM pan a b) st (past ++ [(dLk "unlink" a b, pan, st)]) → Q (.int ((past.length + 1 : Nat) : Int)) H')
theorem ok_UnlinkX {fWl : Addr} {fdWl : FuncData} {fUn : Addr} {fdUn : FuncData} {fBtn : Addr} {fdBtn : FuncData} {fChkB : Addr} {fdChkB : FuncData} {C f : Addr} {fd : FuncData} {k : Nat} {CN CS CC fIN fIS : Addr} {fdIN fdIS : FuncData} (F : Fun K "unlink" "Desk.unlink" sUnlinkX f fd) (T : TxtD K mg C) (TN : ExL K mg "NoButton" "value" "NoButton.__init__" sInitN CN fIN fdIN) (TS : ExF K mg "SameButton" "value" "SameButton.__init__" sInitS CS fIS fdIS) (T_NoChange : Ex0 K mg "NoChange" CC)
    (FWl : Fun K "with_list" "with_list" sWl fWl fdWl) (bWl : Binds K fdWl ["panel", "button", "released"] []) (gWl : mg "with_list" = some (.ref fWl))
    (FUn : Fun K "unlinked" "unlinked" sUn fUn fdUn) (bUn : Binds K fdUn ["panel", "one", "other"] []) (gUn : mg "unlinked" = some (.ref fUn))
    (FBtn : Fun K "is_button" "is_button" sBtn fBtn fdBtn) (bBtn : Binds K fdBtn ["value", "many"] []) (gBtn : mg "is_button" = some (.ref fBtn))
    (FChkB : Fun K "check_button" "check_button" sChkB fChkB fdChkB) (bChkB : Binds K fdChkB ["panel", "value"] []) (gChkB : mg "check_button" = some (.ref fChkB))
    {fFree : Addr} {fdFree : FuncData} (FFree : Fun K "check_free" "Desk.check_free" sFree fFree fdFree) (bFree : Binds K fdFree ["self"] []) (hFree : Meth K C "check_free" fFree)
    {fRoom : Addr} {fdRoom : FuncData} (FRoom : Fun K "check_room" "Desk.check_room" sRoom fRoom fdRoom) (bRoom : Binds K fdRoom ["self"] []) (hRoom : Meth K C "check_room" fRoom)
    {fLink0X : Addr} {fdLink0X : FuncData} (FLink0X : Fun K "check_link" "Desk.check_link" sLink0X fLink0X fdLink0X) (bLink0X : Binds K fdLink0X ["self", "one", "other"] []) (hLink0X : Meth K C "check_link" fLink0X)
    {fShow : Addr} {fdShow : FuncData} (GShow0 : ∀ k0 : Nat, FnOk P w K mg base CX0 (k0 + 6) fShow fdShow ["self", "panel", "latched"] (spShow K C)) (bShow : Binds K fdShow ["self", "panel", "latched"] []) (hShow : Meth K C "show" fShow)
    {fAdd : Addr} {fdAdd : FuncData} (FAdd : Fun K "add_edit" "Desk.add_edit" sAdd fAdd fdAdd) (bAdd : Binds K fdAdd ["self", "edit", "panel", "latched"] []) (hAdd : Meth K C "add_edit" fAdd)
    {fChgX : Addr} {fdChgX : FuncData} (FChgX : Fun K "change_panel" "Desk.change_panel" sChgX fChgX fdChgX) (bChgX : Binds K fdChgX ["self", "edit", "panel"] []) (hChgX : Meth K C "change_panel" fChgX)
    (m_bool : mg "bool" = none) (m_enumerate : mg "enumerate" = none) (m_int : mg "int" = none) (m_isinstance : mg "isinstance" = none) (m_len : mg "len" = none) (m_tuple : mg "tuple" = none) : FnOk P w K mg base (L2N.CX P w) (k + 9) f fd ["self", "one", "other"] (spUnlinkX K C CN CS CC) := by
  have GUn : FnOk P w K mg base CX0 (k + 2) fUn fdUn ["panel", "one", "other"] (spUn K) := ok_Un FUn FWl bWl gWl m_enumerate m_tuple
  have GLink0X : FnOk P w K mg base (L2N.CX P w) (k + 4) fLink0X fdLink0X ["self", "one", "other"] (spLink0X K C CN CS CC) := ok_Link0X FLink0X T TN TS T_NoChange FBtn bBtn gBtn FChkB bChkB gChkB FFree bFree hFree FRoom bRoom hRoom m_bool m_int m_isinstance m_len
  have GChgX : FnOk P w K mg base (L2N.CX P w) (k + 8) fChgX fdChgX ["self", "edit", "panel"] (spChgX K C CN CS CC) := ok_ChgX FChgX T TN TS T_NoChange  GShow0 bShow hShow FAdd bAdd hAdd m_len
  have GS : FnOk P w K mg base CX0 (k + 1) fIS fdIS ["self", "value"] (spI K CS "value") := ok_initS TS.FI
  refine Pr.Fun.okN F scUnlinkX (fun vs H Q E h => ?_) (fun cdv A outer s H vs Q E hr h => ?_)
  · obtain ⟨N, t, pan, st, past, v1, v2, d1, d2, rfl, _⟩ := h
    rfl
  · obtain ⟨N, t, pan, st, past, v1, v2, d1, d2, rfl, hD, few, i1, i2, q1, q2, q3, q4, q5⟩ := h
    have hD' := hD
    obtain ⟨⟨dx, pa, p, l, hh, hs, kn, h1, h2, h3, h4, h5, h6, h7⟩, hg, hst, lfe⟩ := hD'
    refine ⟨_, pss_cons (ps_expr (pe_methE (E := fun _ => E) (pv 0) T.cl hLink0X GLink0X (hr.mono (by omega)) bLink0X (fun σ => L2N.passAt (W := fun cls d _ H => E cls d H) (L2N.takes_of rfl rfl rfl rfl) σ) (pa_cons (pv 1) (pa_cons (pv 2) pa_nil))))
      (pss_one (ps_ret (pe_methE (E := fun _ => E) (pv 0) T.cl hChgX GChgX (hr.mono (by omega)) bChgX (fun σ => L2N.passAt (W := fun cls d _ H => E cls d H) (L2N.takes_of rfl rfl rfl rfl) σ) (pa_cons (pe_tup (pa_cons pe_str (pa_cons (pv 1) (pa_cons (pv 2) pa_nil)))) (pa_cons (pe_call GUn (hr.mono (by omega)) (by rfl) gUn FUn.kp bUn .nil pass0 (pa_cons (pe_fld (pv 0) rfl) (pa_cons (pv 1) (pa_cons (pv 2) pa_nil)))) pa_nil))))), ?_⟩
    refine ⟨.ref t, rfl, t, dx, _, rfl, h1, by rfl, v1, rfl, v2, rfl, N, t, pan, st, past, v1, v2, d1, d2, rfl, hD, few, i1, i2, q1, q2, q3, fun one other ea eb hI H1 s1 => ?_⟩
    subst ea eb
    cases i1
    cases i2
    have e1 := s1 _ _ h1
    refine ⟨.ref t, rfl, t, dx, _, rfl, e1, by rfl, .int one, rfl, .int other, rfl, by show 3 ≤ sizeLine; decide, fun Te nTe => ?_⟩
    have sTe := same_new (o := .tup [.str "unlink", .int one, .int other]) nTe
    have hD2 := (hD.same s1).same sTe
    refine (gv_Un (K := K) (gva_cons (gv_panel (i := 0) T rfl hD2) (gva_cons (gv_var (i := 1) rfl (.int one)) (gva_cons (gv_var (i := 2) rfl (.int other)) gva_nil))) ⟨(pan_ok hg).1, (pan_ok hg).2, hI.1, hI.2.1⟩).at fun v H3 s3 dv => ?_
    obtain ⟨p', rfl, hp'⟩ := panT_dp dv
    have s13 := (s1.trans sTe).trans s3
    refine ⟨t, pan, st, past, .ref Te, dLk "unlink" one other, p', _, rfl, hD.same s13, by omega, .tup (.inl (.inl (s3 _ _ upd_same))) (.cons (.str _) (.cons (.int _) (.cons (.int _) .nil))), rfl, ⟨rfl, .inr ⟨_, one, other, by decide +kernel, rfl⟩⟩, hp', fun ep H4 s4 => ?_, fun np => ?_⟩
    · refine q4 one other rfl rfl hI ?_ H4 (s13.trans s4)
      by_cases hm : other ∈ pan.getD one.toNat []
      · first | exact decide_eq_true hm | exact absurd ep (good_un hg hI hm).2.2
      · first | exact decide_eq_false hm | exact absurd ep (good_un hg hI hm).2.2
    · by_cases hm : other ∈ pan.getD one.toNat []
      · first
        | exact ⟨(good_un hg hI hm).1, (good_un hg hI hm).2.1, fun H4 k4 hN => q5 one other rfl rfl hI (decide_eq_true hm) H4 ((ButO.of s13).trans k4) hN⟩
        | exact absurd (show unM pan one other = pan by unfold unM; rw [if_pos hm]) np
      · first
        | exact ⟨(good_un hg hI hm).1, (good_un hg hI hm).2.1, fun H4 k4 hN => q5 one other rfl rfl hI (decide_eq_false hm) H4 ((ButO.of s13).trans k4) hN⟩
        | exact absurd (show unM pan one other = pan by unfold unM; rw [if_neg hm]) np
end
end K54
namespace Pr
open PySem PySem.Spec PyProof.Rows L2
abbrev ClsN := List (Value × Nat × (Addr → Value → Option Addr → TS))
def wNm (K : PySem.W.Frag) (D : Ends) : ClsN → WX
  | [] => fun _ _ _ _ => False
  | (c, i, ts) :: more => fun cls dx σ H => ∃ yes, PySem.W.exmOne K cls c = some yes ∧
      (yes = true → ∀ ad, H ad = none → ts ad cls dx { nx := fun z Hz => D.nx (z.set i none) Hz, rt := D.rt, bk := fun z Hz => D.bk (z.set i none) Hz, ct := fun z Hz => D.ct (z.set i none) Hz } (σ.set i (some (.ref ad))) H) ∧
      (yes = false → wNm K D more cls dx σ H)
/-- the clauses and what they are read as -/
inductive HdN (X : Cx) : List ExceptHandler → ClsN → Prop
  | none : HdN X [] []
  | one {nm n : Str} {c : Value} {i : Nat} {ts : Addr → Value → Option Addr → TS} {st0 : Stmt} {suite : List Stmt} {np pos' : Pos} {more : List ExceptHandler} {l : ClsN} (ni : X.N[i]? = some n) (lo : X.env.kindOf n = some .local) (hnm : Names X nm c)
      (hsuite : ∀ (ad : Addr) (oe : Obj) (cls : Value) (dx : Option Addr) (pn : List (Addr × Obj)), Zc cls dx oe → (∃ vs, oe.data = .fields vs) → PSs (X.suite ad ((ad, oe) :: pn)) (st0 :: suite) (ts ad cls dx)) (rest : HdN X more l) :
      HdN X (.ExceptHandler (some (.Name nm np)) (some n) (st0 :: suite) pos' :: more) ((c, i, ts) :: l)
section
variable {X : Cx} {body : List Stmt} {pos : Pos} {tb : WX → TS} {h0 : ExceptHandler} {more : List ExceptHandler} {cs : ClsN}
theorem ps_try_nm (hst : X.stack = X.env :: X.outer) (hfr : X.env.frame = some X.env.locals) (nd : X.N.Nodup)
    (hbody : ∀ (W : WX) (pn : List (Addr × Obj)) (xe : Value → Shared → Prop), Takes (X.tr pn xe) W → PassesOwn (model X.prog X.w) X.A X.env xe → PSs (X.tr pn xe) body (tb W))
    (hcs : HdN X (h0 :: more) cs) : PS X (.Try body (h0 :: more) [] [] pos) (fun D σ H => tb (wNm X.K D cs) D σ H) := by
  refine ⟨fun pins s σ H D J0 h0' => wpAny_Try_except ?_⟩
  have hok := J0.ok
  have ffr : X.A.frames = some (X.env :: X.outer) := by rw [hok.frames, hst]
  refine wpAny_mono ((hbody (wNm X.K D cs) (X.pn ++ pins) (fun e sA => wpAny (model X.prog X.w) X.A (noteFrame e X.env) (fun _ sB => wpAny (model X.prog X.w) X.A (setFlight e none) (fun _ sC => wpAny (model X.prog X.w) X.A (handleBy e X.env (h0 :: more)) (SP X pins D) X.xe sC) X.xe sB) X.xe sA) (fun u sR xx => ?_) PassesOwn.looking).run [] s σ H D (J0.toTry _) h0') (fun fl sE hE => ?_) (fun _ _ z => z)
  · obtain ⟨ad, B, sI, pinsI, σI, HI, cls, dx, rfl, JI, nb, up, sky, na, os, ag, hwish⟩ := xx
    have JX : Inv X pins σI HI sI := JI.ofTry hok
    show wpAny (model X.prog X.w) X.A (noteFrame (.ref ad) X.env) _ _ _
    refine Sky.land Zc.steady ffr hfr (by rw [← hst]; exact sky) fun hp fp upp => ?_
    have JL : Inv X pins σI HI { sR with heap := hp } := JX.landed nb fp.1 (up.trans upp) os ag
    obtain ⟨oe, vs, heq, hz, hdt⟩ := fp.there
    have off : ad ∉ frs (X.env :: X.outer) := fun hm => by
      obtain ⟨_, o', e', hnf⟩ := fp.2.2.1.mem hm
      rw [heq] at e'
      cases e'
      exact hnf _ hdt
    have offL : ad ≠ X.env.locals := fun z => off (List.mem_filterMap.mpr ⟨X.env, List.mem_cons_self, by rw [hfr, z]⟩)
    have offF : ad ∉ X.fs := fun hm => by
      obtain ⟨ev, hev, qe⟩ := List.mem_filterMap.mp hm
      exact off (List.mem_filterMap.mpr ⟨ev, List.mem_cons_of_mem _ hev, qe⟩)
    have SL := JL.suite heq hdt na offL offF
    have look : PySem.W.Looks (model X.prog X.w) hp (typeOf (.ref ad)) cls := fun A Q E sX kX qX => wpAny_typeOf_ref (kX _ _ heq) (by rw [hz.1]; exact qX)
    have each : ∀ {hds : List ExceptHandler} {l : ClsN}, HdN X hds l → wNm X.K D l cls dx σI HI → wpAny (model X.prog X.w) X.A (handleBy (.ref ad) X.env hds) (SP X pins D) X.xe { sR with heap := hp } := by
      intro hds l hk
      induction hk with
      | none => intro z; exact False.elim z
      | @one nm n c i ts st0 suite np pos' more' l' ni lo hnm hsuite rest ih =>
        intro z
        obtain ⟨yes, hmt, hyes, hno⟩ := z
        refine wpAny_handleBy_cons (codeAny_handlers_test ?_) (fun q => by cases q)
        have takes := PySem.W.exm_one (M := model X.prog X.w) JL.kIn look hmt
        have cl : ∀ {Q : Value → Shared → Prop} {E : Value → Shared → Prop}, Q c { sR with heap := hp } → wpAny (model X.prog X.w) (X.A.mark (some (.ref ad))) (eval (.Name nm np) X.env) Q E { sR with heap := hp } := fun {Q E} q => by
          obtain ⟨g1, g2, g3 | ⟨g3, g4, g5⟩⟩ := hnm
          · exact ld_glob (X := X.suite ad ((ad, oe) :: (X.pn ++ pins))) SL g1 g3 q g2
          · exact ld_blt (X := X.suite ad ((ad, oe) :: (X.pn ++ pins))) SL g1 g3 g4 q g5 g2
        refine cl (takes.here ?_)
        cases yes with
        | false =>
          show wpAny _ X.A (handleBy (.ref ad) X.env more') _ _ _
          exact ih (hno rfl)
        | true =>
          refine codeAny_handlers_suite_as (HandSPX.lands_againZ fp fun hq fq upq => ?_)
          have JQ : Inv X pins σI HI { sR with heap := hq } := JX.landed nb fq.1 ((up.trans upp).trans upq) os ag
          obtain ⟨oq, vq, heq', hz', hdt'⟩ := fq.there
          refine store_ok (X := X.suite ad ((ad, oq) :: (X.pn ++ pins))) (v := .ref ad) (JQ.suite heq' hdt' na offL offF) nd ni (.inl lo) rfl (fun sS SS => ?_) (.inr lo)
          refine wpAny_mono ((hsuite ad oq cls dx (X.pn ++ pins) hz' ⟨_, hdt'⟩).run [] sS _ HI _ SS (hyes rfl ad na)) (fun fl sT hT => ?_) (fun _ _ z => z.elim)
          have leave : ∀ {σT : L2.St} {HT : Hp} {R : Shared → Prop}, Inv (X.suite ad ((ad, oq) :: (X.pn ++ pins))) [] σT HT sT → (∀ sU, Inv X pins (σT.set i none) HT sU → R sU) → wpAny (model X.prog X.w) X.A (bindName X.env n .none >>= fun _ => unbindBehindTheSuite X.env n pos') (fun _ sU => R sU) X.xe sT := fun ST hR => gone_ok (ST.unsuite hok) nd ni lo hR
          cases fl with
          | next => obtain ⟨_, _, ST, qT⟩ := hT; exact leave ST fun _ JU => ⟨_, _, JU, qT⟩
          | brk => obtain ⟨_, _, ST, qT⟩ := hT; exact leave ST fun _ JU => ⟨_, _, JU, qT⟩
          | cont => obtain ⟨_, _, ST, qT⟩ := hT; exact leave ST fun _ JU => ⟨_, _, JU, qT⟩
          | ret u => obtain ⟨_, _, _, ST, rT, qT⟩ := hT; exact leave ST fun _ JU => ⟨_, _, _, JU, rT, qT⟩
    exact each hcs hwish
  · cases fl with
    | next => obtain ⟨_, _, JE, qE⟩ := hE; exact wpAny_execs_nil ⟨_, _, JE.ofTry hok, qE⟩
    | brk => obtain ⟨_, _, JE, qE⟩ := hE; exact ⟨_, _, JE.ofTry hok, qE⟩
    | cont => obtain ⟨_, _, JE, qE⟩ := hE; exact ⟨_, _, JE.ofTry hok, qE⟩
    | ret u => obtain ⟨_, _, _, JE, rE, qE⟩ := hE; exact ⟨_, _, _, JE.ofTry hok, rE, qE⟩
end
end Pr
namespace Pr
open PySem PySem.Spec PyProof.Rows L2
/-- more is laid: what flies still flies -/
theorem fly_kept {B h h' : Heap} {l : List Env} {a : Addr} {Z : Obj → Prop} (x : HandSPX.FlyingZ B l a Z h) (k : ∀ b o, h.get? b = some o → h'.get? b = some o) : HandSPX.FlyingZ B l a Z h' := by
  obtain ⟨k1, k2, k3, oe, vs, T, oT, ts, he, hz, hd, h1, hnT, hTe, hT, hdT, h3⟩ := x
  exact ⟨fun b o e => k b o (k1 b o e), k2, k3.of_keeps fun b o e _ => ⟨o, k b o e, rfl⟩, oe, vs, T, oT, ts, k _ _ he, hz, hd, h1, hnT, hTe, k _ _ hT, hdT, h3⟩
/-- what the clause wishes: what the body raises is of one of the classes -/
def wFrom (K : PySem.W.Frag) (cs : List Value) (i : Nat) (ts : Addr → Value → Option Addr → TS) (D : Ends) : WX := fun cls d σ H =>
  PySem.W.exmAny K cls cs = some true ∧ PySem.W.subIn K cls (.type "BaseException") = some true ∧
    ∀ a, H a = none → ts a cls d { nx := fun z Hz => D.nx (z.set i none) Hz, rt := D.rt, bk := fun z Hz => D.bk (z.set i none) Hz, ct := fun z Hz => D.ct (z.set i none) Hz } (σ.set i (some (.ref a))) H
/-- the context of a suite that may raise -/
abbrev suiteY (X : Cx) (a : Addr) (pn : List (Addr × Obj)) (xe : Value → Shared → Prop) : Cx := { X with A := X.A.mark (some (.ref a)), calm := false, pn := pn, xe := xe }
end Pr
namespace Pr
open PySem PySem.Spec PyProof.Rows L2 HotX L2H
/-- the heap behind «from x»: the cause is x, and the context is not shown -/
def causeFrom (h : Heap) (a x : Addr) : Heap := (h.update a (Obj.mapFields (·.setIfInBounds 3 (.ref x)))).update a (Obj.mapFields (·.setIfInBounds 4 (.bool true)))
theorem causeFrom_at {h : Heap} {a x : Addr} {oe : Obj} {vs : Array Value} (ha : h.get? a = some oe) (hd : oe.data = .fields vs) :
    (causeFrom h a x).get? a = some ((oe.mapFields (·.setIfInBounds 3 (.ref x))).mapFields (·.setIfInBounds 4 (.bool true))) ∧ ((oe.mapFields (·.setIfInBounds 3 (.ref x))).mapFields (·.setIfInBounds 4 (.bool true))).data = .fields ((vs.setIfInBounds 3 (.ref x)).setIfInBounds 4 (.bool true)) := by
  have d1 := Obj.data_mapFields hd (·.setIfInBounds 3 (.ref x))
  have e1 := Heap.get?_update_self (Obj.mapFields (·.setIfInBounds 3 (.ref x))) ha (Obj.isFreed_of_fields d1)
  have d2 := Obj.data_mapFields d1 (·.setIfInBounds 4 (.bool true))
  exact ⟨Heap.get?_update_self (Obj.mapFields (·.setIfInBounds 4 (.bool true))) e1 (Obj.isFreed_of_fields d2), d2⟩
theorem causeFrom_other {h : Heap} {a b x : Addr} (hne : a ≠ b) : (causeFrom h a x).get? b = h.get? b := by
  unfold causeFrom
  rw [Heap.get?_update_other _ _ hne, Heap.get?_update_other _ _ hne]
/-- the raise itself -/
theorem raise_hot_from {prog : Program} {w : World} {A : Around} {E : Value → Shared → Prop} {env : Env} {s : Shared} {x c : Sem Value} {Q : Flow → Shared → Prop} {x1 : Addr}
    (h : wpAny (model prog w) A x (fun v s₁ => ∃ a oe vs cls ox vx clx, v = .ref a ∧ s₁.heap.get? a = some oe ∧ oe.cls = cls ∧ oe.data = .fields vs ∧ vs[1]? = some .none ∧ 4 < vs.size ∧ x1 ≠ a ∧ HotAt A x1 s₁.heap ∧
      (∀ (Q' : Value → Shared → Prop), Q' (.ref x1) s₁ → wpAny (model prog w) A c Q' E s₁) ∧ s₁.heap.get? x1 = some ox ∧ ox.data = .fields vx ∧ ox.cls = clx ∧ PySem.W.Looks (model prog w) s₁.heap (isSubtype clx (.type "BaseException")) true ∧
      PySem.W.Looks (model prog w) s₁.heap (isSubtype cls (.type "BaseException")) true ∧ PySem.W.Looks (model prog w) (causeFrom s₁.heap a x1) (typeOf cls) (.type "type") ∧
      E (.ref a) { s₁ with heap := (causeFrom s₁.heap a x1).update a (Obj.mapFields (·.setIfInBounds 2 (.ref x1))) }) E s) :
    wpAny (model prog w) A (raiseStmt env (some x) (some c)) Q E s := by
  unfold raiseStmt
  dsimp only
  refine wpAny_bind (wpAny_mono h (fun v s₁ h₁ => ?_) fun _ _ z => z)
  obtain ⟨a, oe, vs, cls, ox, vx, clx, rfl, ha, hcls, hd, h1, hi, hne, hot, hc, hx, hdx, hclx, LB, L1, L3, hE⟩ := h₁
  have lookA : PySem.W.Looks (model prog w) s₁.heap (typeOf (.ref a)) cls := fun A Q E s k q => wpAny_typeOf_ref (k _ _ ha) (by rw [hcls]; exact q)
  have isExc : PySem.W.Looks (model prog w) s₁.heap (isInstance (.ref a) (.type "BaseException")) true := lookA.andThen L1
  have lookX : PySem.W.Looks (model prog w) s₁.heap (typeOf (.ref x1)) clx := fun A Q E s k q => wpAny_typeOf_ref (k _ _ hx) (by rw [hclx]; exact q)
  have isExcX : PySem.W.Looks (model prog w) s₁.heap (isInstance (.ref x1) (.type "BaseException")) true := lookX.andThen LB
  have noType : ∀ {Q' : Bool → Shared → Prop}, Q' false s₁ → wpAny (model prog w) A (isType (.ref a)) Q' E s₁ := by
    intro Q' hq
    simp only [isType, loadHead]
    refine wpAny_bind (wpAny_loadPart ha ?_)
    rw [hd]; exact wpAny_pure hq
  have noTypeX : ∀ {Q' : Bool → Shared → Prop}, Q' false s₁ → wpAny (model prog w) A (isType (.ref x1)) Q' E s₁ := by
    intro Q' hq
    simp only [isType, loadHead]
    refine wpAny_bind (wpAny_loadPart hx ?_)
    rw [hdx]; exact wpAny_pure hq
  have d3 := Obj.data_mapFields hd (·.setIfInBounds 3 (.ref x1))
  have a3 := Heap.get?_update_self (Obj.mapFields (·.setIfInBounds 3 (.ref x1))) ha (Obj.isFreed_of_fields d3)
  obtain ⟨a4, d4⟩ := causeFrom_at (x := x1) ha hd
  have s3 : 3 < vs.size := by omega
  have s4 : 4 < (vs.setIfInBounds 3 (Value.ref x1)).size := by rw [set_size]; exact hi
  have s2 : 2 < ((vs.setIfInBounds 3 (Value.ref x1)).setIfInBounds 4 (Value.bool true)).size := by rw [set_size, set_size]; omega
  have f1 : ((vs.setIfInBounds 3 (Value.ref x1)).setIfInBounds 4 (Value.bool true))[1]? = some Value.none := set_other (by decide) (set_other (by decide) h1)
  have cls4 : ((oe.mapFields (·.setIfInBounds 3 (.ref x1))).mapFields (·.setIfInBounds 4 (.bool true))).cls = cls := by rw [Obj.cls_mapFields, Obj.cls_mapFields]; exact hcls
  have look4 : PySem.W.Looks (model prog w) (causeFrom s₁.heap a x1) (typeOf (.ref a)) cls := fun A Q E s k q => wpAny_typeOf_ref (k _ _ a4) (by rw [cls4]; exact q)
  have noType4 : ∀ {Q' : Bool → Shared → Prop}, Q' false { s₁ with heap := causeFrom s₁.heap a x1 } → wpAny (model prog w) A (isType (.ref a)) Q' E { s₁ with heap := causeFrom s₁.heap a x1 } := by
    intro Q' hq
    simp only [isType, loadHead]
    refine wpAny_bind (wpAny_loadPart a4 ?_)
    rw [d4]; exact wpAny_pure hq
  have hot4 : HotAt A x1 (causeFrom s₁.heap a x1) := by
    obtain ⟨q1, o, vs', q2, q3, q4⟩ := hot
    exact ⟨q1, o, vs', by rw [causeFrom_other (Ne.symm hne)]; exact q2, q3, q4⟩
  have rest : wpAny (model prog w) A (do
      let b ← isType (.ref a)
      if b = true then do
        let e ← holding [.ref a] (raisedFor (.ref a) (.ref a))
        setFlight e none
        raiseNew e
      else do
        let e ← raisedInstance (.ref a)
        setFlight e none
        raiseNew e : Sem Flow) Q E { s₁ with heap := causeFrom s₁.heap a x1 } := by
    refine wpAny_bind (noType4 ?_)
    simp only [Bool.false_eq_true, if_false]
    unfold raisedInstance
    refine wpAny_bind (wpAny_bind (look4.here (wpAny_bind (L3.here ?_))))
    rw [if_pos (beq_self_eq_true _)]
    refine wpAny_pure ?_
    unfold setFlight
    refine wpAny_bind (wpAny_bind (wpAny_field a4 d4 f1 ?_))
    rw [if_neg (by decide)]
    refine wpAny_pure ?_
    exact raiseNew_hot hot4 hne a4 d4 s2 hE
  refine wpAny_bind (wpAny_holding (hc _ (wpAny_bind (wpAny_pure ?_))))
  dsimp only
  refine wpAny_bind (wpAny_holding ?_)
  unfold excFromValue isExcClass
  refine wpAny_bind (wpAny_bind (noType ?_))
  simp only [Bool.false_eq_true, if_false]
  refine wpAny_pure ?_
  simp only [Bool.false_eq_true, if_false]
  refine wpAny_bind (isExc.here ?_)
  simp only [if_true]
  refine wpAny_pure ?_
  have cNo : ¬ ((Value.ref x1 == Value.none) = true) := by simp
  first
  | rw [if_neg cNo]
  | (show wpAny _ _ (if (Value.ref x1 == Value.none) = true then _ else _) _ _ _; rw [if_neg cNo])
  | simp only [if_neg cNo]
  refine wpAny_bind (wpAny_holding (wpAny_bind (wpAny_bind (noTypeX ?_))))
  simp only [Bool.false_eq_true, if_false]
  refine wpAny_pure ?_
  simp only [Bool.false_eq_true, if_false]
  refine wpAny_bind (isExcX.here ?_)
  simp only [if_true]
  refine wpAny_pure ?_
  refine wpAny_bind (wpAny_setField ha hd s3 (wpAny_bind (wpAny_setField a3 d3 s4 ?_)))
  exact rest
end Pr
namespace Pr
open PySem PySem.Spec PyProof.Rows L2 HotX
theorem plain_unchain : plainId "proto.unchain" = true := by kernel_rfl
section
variable {prog : Program} {w : World} {A : Around} {E : Value → Shared → Prop} {s : Shared}
theorem unchained_two {x1 x2 a : Addr} {o1 o2 : Obj} {v1 v2 : Array Value} {Q : Value → Shared → Prop} (h1 : s.heap.get? x1 = some o1) (d1 : o1.data = .fields v1) (c1 : v1[2]? = some (.ref x2)) (n21 : x2 ≠ x1) (n2a : x2 ≠ a)
    (h2 : s.heap.get? x2 = some o2) (d2 : o2.data = .fields v2) (c2 : v2[2]? = some .none) (q : Q .none s) :
    wpAny (model prog w) A (holding [Value.ref a] (runValue (.builtin "proto.unchain" ⟨[.ref a, .ref x1, .ref x1, .bool false], []⟩))) Q E s := by
  refine wpAny_holding (wpAny_runValue (codeAny_builtin HotX.entry_unchain ?_))
  show wpAny _ _ (field (.ref x1) 2 >>= _) _ _ s
  refine wpAny_bind (wpAny_field h1 d1 c1 ?_)
  rw [if_neg (show ¬ ((Value.ref x2 == Value.none) = true) from by simp), if_neg (show ¬ ((Value.ref x2 == Value.ref a) = true) from by simp [n2a]), if_neg (show ¬ ((Value.ref x2 == Value.ref x1) = true) from by simp [n21])]
  dsimp only
  rw [if_neg Bool.false_ne_true]
  refine wpAny_bind (wpAny_pure (wpAny_pure ⟨plainId_quiet plain_unchain _, codeAny_builtin HotX.entry_unchain ?_⟩))
  show wpAny _ _ (field (.ref x2) 2 >>= _) _ _ s
  refine wpAny_bind (wpAny_field h2 d2 c2 ?_)
  rw [if_pos (show (Value.none == Value.none) = true from rfl)]
  first
  | exact wpAny_bind (wpAny_pure (wpAny_pure q))
  | exact wpAny_pure q
/-- the error that is handled: its context is None, or an error without a context -/
def Hot2At (A : Around) (x1 : Addr) (h : Heap) : Prop := A.handled = some (.ref x1) ∧ ∃ (o : Obj) (vs : Array Value), h.get? x1 = some o ∧ o.data = .fields vs ∧
  (vs[2]? = some .none ∨ ∃ (x2 : Addr) (o2 : Obj) (v2 : Array Value), vs[2]? = some (.ref x2) ∧ x2 ≠ x1 ∧ h.get? x2 = some o2 ∧ o2.data = .fields v2 ∧ v2[2]? = some .none)
theorem raiseNew_hot2 {α : Type} {a x1 : Addr} {oe : Obj} {vs : Array Value} {Q : α → Shared → Prop} {h0 : Heap} (hot : Hot2At A x1 h0) (k : ∀ b o, h0.get? b = some o → s.heap.get? b = some o) (hn : h0.get? a = none) (ha : s.heap.get? a = some oe) (da : oe.data = .fields vs) (hi : 2 < vs.size)
    (hE : E (.ref a) { s with heap := s.heap.update a (Obj.mapFields (·.setIfInBounds 2 (.ref x1))) }) : wpAny (model prog w) A (raiseNew (.ref a) : Sem α) Q E s := by
  obtain ⟨hh, o1, vs1, h1, d1, c⟩ := hot
  have ne : ∀ {b : Addr} {o : Obj}, h0.get? b = some o → b ≠ a := fun {b o} e z => by rw [z, hn] at e; cases e
  unfold raiseNew
  refine wpAny_bind (wpAny_handled ?_)
  rw [hh]
  have hb : (Value.ref x1 != Value.ref a) = true := ref_bne (ne h1)
  have un : ∀ {Q' : Value → Shared → Prop}, Q' .none s → wpAny (model prog w) A (holding [Value.ref a] (runValue (.builtin "proto.unchain" ⟨[.ref a, .ref x1, .ref x1, .bool false], []⟩))) Q' E s := fun {Q'} q' => by
    rcases c with c | ⟨x2, o2, v2, c, n21, h2, d2, c2⟩
    · exact unchained (k _ _ h1) d1 c q'
    · exact unchained_two (k _ _ h1) d1 c n21 (ne h2) (k _ _ h2) d2 c2 q'
  first
  | (show wpAny _ _ (if (Value.ref x1 != Value.ref a) = true then _ else _) _ _ _
     rw [if_pos hb]
     first
     | exact wpAny_bind (un (wpAny_bind (chained ha da hi (wpAny_throw hE))))
     | exact wpAny_bind (wpAny_bind (un (chained ha da hi (wpAny_throw hE)))))
  | (refine wpAny_bind ?_
     show wpAny _ _ (if (Value.ref x1 != Value.ref a) = true then _ else _) _ _ _
     rw [if_pos hb]
     exact wpAny_bind (un (chained ha da hi (wpAny_throw hE))))
theorem next_tup_end_hot {it t x1 : Addr} {i : Nat} {items : Array Value} {Q : Option Value → Shared → Prop} {h0 : Heap} (hot : Hot2At A x1 h0) (k : ∀ b o, h0.get? b = some o → s.heap.get? b = some o) (hnew : h0.get? it = none)
    (hit : IsTupIter s.heap it t i) (ht : IsTup s.heap t items) (hx : items[i]? = none)
    (hQ : ∀ h', Heap.ExtBut it s.heap h' → Q none { s with heap := h' }) : wpAny (model prog w) A (pyNext (.ref it)) Q E s := by
  obtain ⟨o, ho, hc, hd⟩ := id hit
  obtain ⟨ol, hol, _, nl, hdl⟩ := ht
  unfold pyNext
  refine wpAny_bind (wpAny_attempt (wpAny_callSpecial?_slot (name := Str.ofString "__next__") hit.typeIs slot_tupleiter_next
    (wpAny_call_entry slot_tupleiter_next hit.typeIs entry_tupleiter_next ?_ (args_tupleiter_next _))))
  show wpAny _ _ (field (.ref it) 0 >>= _) _ _ s
  refine wpAny_bind (wpAny_field ho hd (x := .ref t) rfl ?_)
  show wpAny _ _ (if (Value.ref t == Value.none) = true then _ else _) _ _ s
  rw [if_neg (show ¬ ((Value.ref t == Value.none) = true) from Bool.false_ne_true)]
  show wpAny _ _ (field (.ref it) 1 >>= _) _ _ s
  refine wpAny_bind (wpAny_field ho hd (x := .int i 0) rfl ?_)
  show wpAny _ _ (seqItems? (.ref t) >>= _) _ _ s
  refine wpAny_bind (wpAny_seqItems hol hdl ?_)
  simp only [Int.toNat_natCast, hx]
  refine wpAny_bind (wpAny_rule (wpAny_bind (wpAny_setField ho hd (by simp) ?_)))
  show wpAny _ _ (newExc (.type "StopIteration") [] >>= _) _ _ _
  refine wpAny_bind ?_
  simp only [newExc, newTuple]
  refine wpAny_bind (wpAny_newObj_type ?_ (by size_fits))
  refine wpAny_bind (m := firstArgMember _ _) (wpAny_of_eq (a := Value.none) (by first | rfl | (simp only [firstArgMember]; rfl)) ?_)
  refine wpAny_newObj_type ?_ (by size_fits)
  have up : ∀ b o, h0.get? b = some o → (s.heap.update it (Obj.mapFields (·.setIfInBounds 0 .none))).get? b = some o := fun b o e => by
    rw [Heap.get?_update_other _ _ (fun z => by rw [← z, hnew] at e; cases e)]
    exact k b o e
  have lt : ∀ {b : Addr} {o : Obj}, h0.get? b = some o → b < s.heap.objs.size := fun {b o} e => Heap.lt_size (k b o e)
  refine raiseNew_hot2 (h0 := h0) (show Hot2At _ x1 h0 from hot) (fun b o e => Heap.get?_push_of_some _ (Heap.get?_push_of_some _ (up b o e))) ?_ (Heap.get?_push_size _ rfl) rfl (by first | (simp; done) | (simp; omega) | (simp only [Array.size_append]; simp; omega)) ?_
  · cases q : h0.get? _ with
    | none => rfl
    | some o =>
      have z := Heap.lt_size (Heap.get?_push_of_some (h := s.heap.update it (Obj.mapFields (·.setIfInBounds 0 .none))) ({ cls := .type "tuple", data := .seq #[] } : Obj) (up _ o q))
      exact absurd z (Nat.lt_irrefl _)
  · refine wpAny_bind (wpAny_isInstance (T := "StopIteration") (b := true) ⟨_, Heap.get?_update_self _ (Heap.get?_push_size _ rfl) rfl, rfl⟩ isSubtype_stop ?_)
    refine wpAny_pure (hQ _ ?_)
    intro b o hb e
    have e1 : (s.heap.update it (Obj.mapFields (·.setIfInBounds 0 .none))).get? b = some o := by
      rw [Heap.get?_update_other _ _ (Ne.symm hb)]
      exact e
    have e2 := Heap.get?_push_of_some (h := s.heap.update it (Obj.mapFields (·.setIfInBounds 0 .none))) ({ cls := .type "tuple", data := .seq #[] } : Obj) e1
    rw [Heap.get?_update_other _ _ (Nat.ne_of_gt (Heap.lt_size e2))]
    exact Heap.get?_push_of_some _ e2
end
section
variable {prog : Program} {w : World} {A : Around} {E : Value → Shared → Prop} {s : Shared}
theorem unpack_items_hot {t x1 : Addr} {items : Array Value} {Q : List Value → Shared → Prop} (hot : Hot2At A x1 s.heap) (ht : IsTup s.heap t items)
    (hQ : ∀ h', Heap.ExtBut s.heap.objs.size s.heap h' → Q items.toList { s with heap := h' }) : wpAny (model prog w) A (unpackItems (.ref t) items.size none) Q E s := by
  have far : t ≠ s.heap.objs.size := by obtain ⟨o, ho, _⟩ := ht; exact Nat.ne_of_lt (Heap.lt_size ho)
  have fresh : s.heap.get? s.heap.objs.size = none := by
    cases q : s.heap.get? s.heap.objs.size with
    | none => rfl
    | some o => exact absurd (Heap.lt_size q) (Nat.lt_irrefl _)
  unfold unpackItems
  refine wpAny_bind ?_
  unfold notIterableAtAll
  refine wpAny_bind (wpAny_specialOf ht.typeIs slot_tuple_iter.lookup ?_)
  refine wpAny_pure ?_
  simp only [Bool.false_eq_true, if_false]
  refine wpAny_bind (wpAny_holding (iter_tuple ht ?_))
  refine wpAny_bind (wpAny_holding (draw_tuple far items.size 0 _ _ ⟨_, Heap.get?_push_size _ rfl, rfl, rfl⟩ (ht.push _) (by omega) fun h1 hit1 same1 => ?_))
  have all : List.take items.size (List.drop 0 items.toList) = items.toList := by
    rw [List.drop_zero]; exact List.take_of_length_le (by simp)
  rw [all, if_neg (by simp)]
  have ht1 : IsTup h1 t items := (ht.push _).extBut same1.extBut far
  have k1 : ∀ b o, s.heap.get? b = some o → h1.get? b = some o := fun b o e => same1.extBut b o (Nat.ne_of_lt (Heap.lt_size e)) (Heap.get?_push_of_some _ e)
  refine wpAny_bind (wpAny_holding (next_tup_end_hot hot k1 fresh hit1 ht1 (by simp) fun h2 ext2 => ?_))
  simp only [Option.isSome_none, Bool.false_eq_true, if_false]
  exact wpAny_pure (hQ h2 fun b o hb e => ext2 b o hb (same1.extBut b o hb (Heap.get?_push_of_some _ e)))
end
/-- the pinned error that is handled, and its context -/
def HotC2 (X : Cx) : Prop := ∃ q : Addr × Obj, X.A.handled = some (.ref q.1) ∧ q ∈ X.pn ∧ ∃ vs : Array Value, q.2.data = .fields vs ∧
  (vs[2]? = some .none ∨ ∃ (q2 : Addr × Obj) (v2 : Array Value), q2 ∈ X.pn ∧ vs[2]? = some (.ref q2.1) ∧ q2.1 ≠ q.1 ∧ q2.2.data = .fields v2 ∧ v2[2]? = some .none)
section
variable {X : Cx} {pos apos : Pos} {o : Expr} {f : Str} {to : TE}
theorem HotC2.at {pins : List (Addr × Obj)} {σ : L2.St} {H : Hp} {s : Shared} (c : HotC2 X) (I : Inv X pins σ H s) : ∃ x1, Hot2At X.A x1 s.heap := by
  obtain ⟨q, hh, hq, vs, hd, c⟩ := c
  refine ⟨q.1, hh, q.2, vs, (I.pin q (List.mem_append_left _ hq)).1, hd, ?_⟩
  rcases c with c | ⟨q2, v2, h2, c, ne, d2, c2⟩
  · exact .inl c
  · exact .inr ⟨q2.1, q2.2, v2, c, ne, (I.pin q2 (List.mem_append_left _ h2)).1, d2, c2⟩
/-- .. , .. = a tuple, while an error is handled -/
theorem pg_tup_hot {es : List Expr} {k : Nat} {t : TGs} {n : Nat} (hot : HotC2 X) (h : PGs X es t)
    (hn : (assignEach es X.env).length = n := by rfl) (hst : (assignEach es X.env).findIdx? (·.1) = none := by rfl) : PG X (.Tuple es k pos) (gTup X.K n t) := by
  refine ⟨fun pins s σ H v u Q I r hw => ?_⟩
  obtain ⟨a, xs, e1, hq, hl, hw⟩ := hw
  subst e1
  cases r
  obtain ⟨its, rv, ht, hz⟩ := I.tuple hq
  obtain ⟨x1, hx1⟩ := hot.at I
  have len : (assignEach es X.env).length = its.toArray.size := by simp [hn, ← hl, rv.length]
  rw [PyProof.Rows.assign_Tuple]
  refine wpAny_bind (wpAny_standAt ?_)
  unfold unpack
  rw [len, hst]
  refine wpAny_bind (wpAny_holding (unpack_items_hot hx1 ht fun h' hx => ?_))
  have I1 : Inv X pins σ H { s with heap := h' } := I.kept (t' := s.toks) fun b o e => hx b o (Nat.ne_of_lt (Heap.lt_size e)) e
  exact h.run pins _ σ H xs _ Q I1 (by simpa using rv) hw
/-- o.f as a target -/
def gFld (K : PySem.W.Frag) (to : TE) (f : Str) : TG := fun v σ H Q => to σ H fun x H2 => ∃ a C dx fs, x = .ref a ∧ H2 a = some (.ins C dx fs) ∧ Cls K C ∧ NoAttr K C f ∧ fs.length < 1000 ∧ Q σ (upd H2 a (.ins C dx (putF f v fs)))
theorem pg_fld (ho : PE X o to) : PG X (.Attribute o f apos) (gFld X.K to f) := by
  refine ⟨fun pins s σ H v u Q I r h => ?_⟩
  rw [PySem.assign_Attribute]
  refine wpAny_bind (wpAny_holding (thn (ho.run pins s σ H _ I h) fun ov s2 ⟨x, H2, I2, rx, a, C, dx, fs, ex, ea, c, n, l, q⟩ => ?_))
  subst ex
  obtain rfl : ov = Value.ref a := rx
  refine wpAny_bind (wpAny_standAt (wpAny_bind (wpAny_holding (setattr_ok I2 ea c n l r fun s3 I3 => ?_))))
  exact PySem.wpAny_release ⟨σ, _, I3, q⟩
end
end Pr
namespace L2K
open PySem PySem.Spec PyProof.Rows L2
def ctxV : Option Addr → Value
  | none => .none
  | some x => .ref x
def Ctx (cx : Option Addr) (o : Obj) : Prop := ∀ vs : Array Value, o.data = .fields vs → vs[2]? = some (ctxV cx)
theorem Ctx.steady {cx : Option Addr} : PXN.Steady1 (Ctx cx) := fun o v h => by
  obtain ⟨c, d, dt, sl⟩ := o
  cases dt with
  | fields vs0 =>
    intro vs e
    have e2 : vs0.setIfInBounds 1 v = vs := Data.fields.inj e
    have e3 : (vs0.setIfInBounds 1 v)[2]? = vs0[2]? := by
      first
      | exact Array.getElem?_setIfInBounds_ne (by decide)
      | simp [Array.getElem?_setIfInBounds]
    rw [← e2, e3]
    exact h vs0 rfl
  | _ =>
    intro vs e
    first
    | exact Data.noConfusion e
    | cases e
def Zk (cls : Value) (d cx : Option Addr) : Obj → Prop := fun o => o.cls = cls ∧ o.dict = d ∧ Ctx cx o
theorem Zk.steady {cls : Value} {d cx : Option Addr} : PXN.Steady1 (Zk cls d cx) := fun o v h => ⟨PXN.steady_cls o v h.1, PXN.steady_dict o v h.2.1, Ctx.steady o v h.2.2⟩
theorem Zk.zc {cls : Value} {d cx : Option Addr} {o : Obj} (h : Zk cls d cx o) : Zc cls d o := ⟨h.1, h.2.1⟩
/-- the context lies in the ground -/
def Low (B : Heap) (H : Hp) (cx : Option Addr) : Prop := ∀ x, cx = some x → H x = none ∧ ∃ (ox : Obj) (vx : Array Value), B.get? x = some ox ∧ ox.data = .fields vx ∧ vx[2]? = some .none
/-- such an error in the air of X -/
def XE (X : Cx) (W : WX) (u : Value) (s' : Shared) : Prop :=
  ∃ (a : Addr) (B : Heap) (sI : Shared) (pins : List (Addr × Obj)) (σ : L2.St) (H : Hp) (cls : Value) (d cx : Option Addr),
    u = .ref a ∧ Inv X pins σ H sI ∧ (∀ b o, sI.heap.get? b = some o → b ∉ frs X.stack → B.get? b = some o) ∧ sI.heap.UpToSlots s'.heap ∧
      Sky B X.stack a (Zk cls d cx) X.env.locals s'.heap ∧ H a = none ∧ Low B H cx ∧ s'.os = sI.os ∧ AllBare s'.gens ∧ W cls d σ H
def Takes (X : Cx) (W : WX) : Prop := ∀ u s', XE X W u s' → X.xe u s'
theorem Takes.imp {X : Cx} {W W' : WX} (t : Takes X W) (h : ∀ c d σ H, W' c d σ H → W c d σ H) : Takes X W' := fun u s' ⟨a, B, sI, pins, σ, H, cls, d, cx, e, I, nb, up, sky, na, lo, os, ag, w⟩ =>
  t u s' ⟨a, B, sI, pins, σ, H, cls, d, cx, e, I, nb, up, sky, na, lo, os, ag, h _ _ _ _ w⟩
/-- behind a call that let one out -/
def CX (P : Program) (w : World) (outer : List Env) (H : Hp) (s : Shared) (E : XK) (u : Value) (s' : Shared) : Prop :=
  ∃ (a : Addr) (B : Heap) (H' : Hp) (cls : Value) (d cx : Option Addr), u = .ref a ∧ HandSPX.FlyingZ B outer a (Zk cls d cx) s'.heap ∧ HOk P w H' B ∧ UB (frs outer) H H' s.heap B s'.heap ∧ H' a = none ∧ Low B H' cx ∧ s'.os = s.os ∧ AllBare s'.gens ∧ E cls d H'
theorem CX.toL2 {P : Program} {w : World} {outer : List Env} {H : Hp} {s : Shared} {E : XK} {u : Value} {s' : Shared} (x : CX P w outer H s E u s') : L2.CX P w outer H s E u s' := by
  obtain ⟨a, B, H', cls, d, cx, e, fl, hok, ub, na, _, rest⟩ := x
  exact ⟨a, B, H', cls, d, e, L2H.flyingZ_imp (fun o z => z.zc) fl, hok, ub, na, rest⟩
section
variable {X : Cx} {pins : List (Addr × Obj)} {σ : L2.St} {H : Hp} {sI s s' : Shared} {B : Heap} {W : WX} {E : XK}
theorem XE.of_call (I : Inv X pins σ H s) (hW : ∀ cls d H', E cls d H' → W cls d σ H') {u : Value} (c : CX X.prog X.w X.stack H s E u s') : XE X W u s' := by
  obtain ⟨a, B, H', cls, d, cx, eu, fl, hok, ub, na, lo, os, ag, hE⟩ := c
  obtain ⟨G, gy, gn⟩ := restrict s'.heap fun b => (B.get? b).isSome || decide (b ∈ frs X.stack)
  have keepB : ∀ b o, B.get? b = some o → G.get? b = some o := fun b o e => by
    rw [gy b (by simp [e])]
    exact fl.1 b o e
  have atF : ∀ b, b ∈ frs X.stack → G.get? b = s'.heap.get? b := fun b hb => gy b (by simp [hb])
  have ofG : ∀ b o, G.get? b = some o → s'.heap.get? b = some o ∧ ((B.get? b).isSome = true ∨ b ∈ frs X.stack) := fun b o e => by
    cases q : ((B.get? b).isSome || decide (b ∈ frs X.stack)) with
    | false =>
      rw [gn b q] at e
      cases e
    | true =>
      rw [gy b q] at e
      exact ⟨e, by simpa [Bool.or_eq_true] using q⟩
  have un : Un (frs X.stack) [] H H' s.heap G := by
    refine ⟨fun b o e n hb _ => keepB b o (ub.keep b o e n hb), fun b o e n hb _ => ?_, fun b o e n _ => ub.free b o e n, fun b o e _ => ?_, ub.tups, ub.frzs, ub.tbls⟩
    · obtain ⟨sl, q⟩ := ub.slot b o e hb
      exact ⟨sl, (atF b hb).trans q⟩
    · by_cases hb : b ∈ frs X.stack
      · obtain ⟨sl, q⟩ := ub.slot b o e hb
        exact ⟨_, (atF b hb).trans q⟩
      · obtain ⟨o', q⟩ := ub.there b o e hb
        exact ⟨o', keepB b o' q⟩
  refine ⟨a, B, { s with heap := G, gens := s'.gens, drawn := s'.drawn, toks := s'.toks }, pins, σ, H', cls, d, cx, eu, I.call (ch := []) un (hok.kept keepB) ag (fun _ z => nomatch z), fun b o e hb => ?_, Heap.UpToSlots.of_keeps fun b o e => (ofG b o e).1, .inr (.inl fl), na, lo, os, ag, hW _ _ _ hE⟩
  obtain ⟨e', h⟩ := ofG b o e
  rcases h with h | h
  · obtain ⟨o', q⟩ := Option.isSome_iff_exists.mp h
    have z := fl.1 b o' q
    rw [e'] at z
    cases z
    exact q
  · exact absurd h hb
theorem XE.leave (hst : X.stack = X.env :: X.outer) (hfr : X.env.frame = some X.env.locals) (hex : X.ex = []) {E₁ : Value → Shared → Prop} (hW : ∀ cls d σ H, W cls d σ H → E cls d H) {u : Value} (x : XE X W u s') :
    wpAny (model X.prog X.w) X.A (leaving X.env u) (fun _ s'' => CX X.prog X.w X.outer X.H_0 X.s_0 E u s'') E₁ s' := by
  obtain ⟨a, B, sI, pins, σ, H, cls, d, cx, rfl, I, nb, up, sky, na, lo, os, ag, w⟩ := x
  have frA : X.A.frames = some (X.env :: X.outer) := by rw [I.ok.frames, hst]
  have offS : ∀ b o, X.s_0.heap.get? b = some o → b ∉ X.fs → b ∉ frs X.stack := fun b o e hb hm => by
    rcases List.mem_cons.mp (I.stkSub b hm) with z | z
    · have h1 := Heap.lt_size e
      rw [z] at h1
      exact absurd (Nat.lt_of_lt_of_le h1 I.ok.above) (Nat.lt_irrefl _)
    · exact hb z
  have noEx : ∀ b, b ∉ X.ex := fun b hb => by rw [hex] at hb; cases hb
  have land : ∀ h', HandSPX.FlyingZ B X.outer a (Zk cls d cx) h' → s'.heap.UpToSlots h' → CX X.prog X.w X.outer X.H_0 X.s_0 E (.ref a) { s' with heap := h' } := fun h' fl up' => by
    refine ⟨a, B, H, cls, d, cx, rfl, fl, I.inGround nb, ⟨fun b o e n hb => nb b o (I.base.keep b o e n hb (noEx b)) (offS b o e hb), fun b o e hb => ?_, fun b o e n => I.base.free b o e n (noEx b), fun b o e hb => ?_, I.base.tups, I.base.frzs, I.base.tbls⟩, na, lo, os.trans I.os, ag, hW _ _ _ _ w⟩
    · obtain ⟨_, o₀, e₀, hnf⟩ := I.ok.funs.mem hb
      rw [e] at e₀
      cases e₀
      obtain ⟨l1, e1⟩ := I.base.slot b o e (I.ok.frf b hb) hb (noEx b)
      obtain ⟨l2, e2⟩ := up b _ e1 hnf
      obtain ⟨l3, e3⟩ := up' b _ e2 hnf
      exact ⟨l3, e3⟩
    · obtain ⟨o', e1⟩ := I.base.there b o e (noEx b)
      exact ⟨o', nb b o' e1 (offS b o e hb)⟩
  rw [hst] at sky
  rcases sky with ⟨hB, hn, hl, oe, vs, he, hz, hd, h1⟩ | fl | hd
  · exact PXN.leaving_firstZ Zk.steady frA hl hfr he hB hn hd h1 hz land
  · exact PXN.leaves_onZ Zk.steady frA hfr fl land
  · exact HandSPX.leaves_heldZ hfr hd land
theorem takes_of (hst : X.stack = X.env :: X.outer) (hfr : X.env.frame = some X.env.locals) (hex : X.ex = []) {E₁ : Value → Shared → Prop}
    (hx : X.xe = fun e s' => wpAny (model X.prog X.w) X.A (leaving X.env e) (fun _ s'' => CX X.prog X.w X.outer X.H_0 X.s_0 E e s'') E₁ s') : Takes X (fun cls d _ H => E cls d H) := fun u s' x => by
  rw [hx]
  exact XE.leave (W := fun cls d _ H => E cls d H) (E := E) hst hfr hex (fun _ _ _ _ h => h) x
theorem passAt (tk : Takes X W) (σ : L2.St) : PassesAt (CX X.prog X.w) X σ (WE W σ) := fun _ _ _ e s' I c => tk e s' (XE.of_call I (fun _ _ _ h => h) c)
/-- an error just made, whose context is the pinned x -/
theorem XE.newX {a x : Addr} {oe ox : Obj} {vs vx : Array Value} {cls : Value} {d : Option Addr} (I : Inv X pins σ H sI) (k : ∀ b o, sI.heap.get? b = some o → s'.heap.get? b = some o) (hne : sI.heap.get? a = none) (he : s'.heap.get? a = some oe)
    (hz : Zk cls d (some x) oe) (hd : oe.data = .fields vs) (h1 : vs[1]? = some .none) (na : H a = none) (px : (x, ox) ∈ X.pn ++ pins) (dx : ox.data = .fields vx) (cx2 : vx[2]? = some .none) (os : s'.os = sI.os) (ag : AllBare s'.gens) (w : W cls d σ H) : XE X W (.ref a) s' := by
  obtain ⟨ex, nx, neL, nF, _⟩ := I.pin (x, ox) px
  have off : x ∉ frs X.stack := fun hm => (List.mem_cons.mp (I.stkSub x hm)).elim neL nF
  refine ⟨a, PySem.W.hideAll sI.heap (frs X.stack), sI, pins, σ, H, cls, d, some x, rfl, I, fun b o e hb => PySem.W.hideAll_get _ e hb, Heap.UpToSlots.of_keeps k,
    .inl ⟨fun b o e => k b o (PySem.W.of_hideAll _ e), ?_, ?_, oe, vs, he, hz, hd, h1⟩, na, fun y ey => ?_, os, ag, w⟩
  · cases q : (PySem.W.hideAll sI.heap (frs X.stack)).get? a with
    | none => rfl
    | some o =>
      have z := PySem.W.of_hideAll _ q
      rw [hne] at z
      cases z
  · exact Heap.FunFrames.of_keeps (fun b o e _ => ⟨o, k b o e, rfl⟩) (funFrames_none I.stack fun b hb => PySem.W.hideAll_none _ hb)
  · cases ey
    exact ⟨nx, ox, vx, PySem.W.hideAll_get _ ex off, dx, cx2⟩
end
end L2K
namespace Pr
open PySem PySem.Spec PyProof.Rows L2 HotX L2H
/-- the context, to be pinned -/
theorem ctxPins {B h1 : Heap} {H : Hp} {cx : Option Addr} {l : List Env} {fs : List Addr} (k1 : B.StaysIn h1) (k3 : h1.FunFrames B l) (low : L2K.Low B H cx) (efs : fs = frs l := by rfl) :
    ∃ px : List (Addr × Obj), (∀ p ∈ px, h1.get? p.1 = some p.2 ∧ H p.1 = none ∧ p.1 ∉ fs ∧ ∀ v, p.2.data ≠ .cell v) ∧ ∀ x, cx = some x → ∃ (ox : Obj) (vx : Array Value), (x, ox) ∈ px ∧ ox.data = .fields vx ∧ vx[2]? = some .none := by
  cases cx with
  | none => exact ⟨[], (fun p hp => absurd hp List.not_mem_nil), (fun x e => nomatch e)⟩
  | some x =>
    obtain ⟨hx, ox, vx, eb, dx, c2⟩ := low x rfl
    refine ⟨[(x, ox)], fun p hp => ?_, fun y ey => ?_⟩
    · rw [List.mem_singleton.mp hp]
      refine ⟨k1 _ _ eb, hx, fun hm => ?_, fun v z => ?_⟩
      · rw [efs] at hm
        have z := (k3.mem hm).1
        rw [show B.get? x = some ox from eb] at z
        cases z
      · have z' : ox.data = .cell v := z
        rw [dx] at z'
        cases z'
    · cases ey
      exact ⟨ox, vx, List.mem_singleton.mpr rfl, dx, c2⟩
section
variable {Y : Cx} {W : WX} {i : Nat} {n : Str} {pos' : Pos} {N : Value → Shared → Prop}
/-- an error leaves a suite whose clause has a name: noted, the name goes, on it flies -/
theorem gone_excK (hst : Y.stack = Y.env :: Y.outer) (hfr : Y.env.frame = some Y.env.locals) (hex : Y.ex = []) (nd : Y.N.Nodup) (ni : Y.N[i]? = some n) (lo : Y.env.kindOf n = some .local) (hN : ∀ u s', L2K.XE Y W u s' → N u s') {u : Value} {s' : Shared}
    (xx : L2K.XE Y (fun cls d σ H => W cls d (σ.set i none) H) u s') : AsSuiteRaised (model Y.prog Y.w) Y.A Y.env n pos' N u s' := by
  obtain ⟨a, B, sI, pins, σ, H, cls, d, cx, rfl, J, nb, up, sky, na, low, os, ag, hw⟩ := xx
  have ok := J.ok
  have frA : Y.A.frames = some (Y.env :: Y.outer) := by rw [ok.frames, hst]
  have sky' : Sky B (Y.env :: Y.outer) a (L2K.Zk cls d cx) Y.env.locals s'.heap := by rw [← hst]; exact sky
  have main : ∀ h1, HandSPX.HeldZ B (Y.env :: Y.outer) a (L2K.Zk cls d cx) Y.env.locals h1 → s'.heap.UpToSlots h1 →
      wpAny (model Y.prog Y.w) Y.A (do bindName Y.env n .none; unbindBehindTheSuite Y.env n pos') (fun _ s₂ => wpAny (model Y.prog Y.w) Y.A (passOn "try.except-as" (.ref a) Y.env : Sem Flow) (fun _ _ => False) N s₂)
        (fun y s₂ => wpAny (model Y.prog Y.w) Y.A (setFlight (.ref a) none) (fun _ s₃ => N y s₃) N s₂) { s' with heap := h1 } := fun h1 hh1 up1 => by
    have J1 : Inv Y pins σ H { s' with heap := h1 } := J.landed nb hh1.1 (up.trans up1) os ag
    obtain ⟨k1, k2, k3, oe, vs, T, oT, ts, he, hz, hd, hv1, hnT, hTe, hT, hdT, ht3⟩ := id hh1
    have nT : H T = none := (J.inGround nb).gone hnT
    have off : ∀ (b : Addr) (o : Obj) (fv : Array Value), h1.get? b = some o → o.data = .fields fv → b ∉ frs (Y.env :: Y.outer) := fun b o fv e dd hm => by
      obtain ⟨_, o', e', hnf⟩ := k3.mem hm
      rw [e] at e'
      cases e'
      exact hnf _ dd
    have inL : Y.env.locals ∈ frs (Y.env :: Y.outer) := List.mem_filterMap.mpr ⟨Y.env, List.mem_cons_self, hfr⟩
    have inF : ∀ b, b ∈ Y.fs → b ∈ frs (Y.env :: Y.outer) := fun b hm => by
      obtain ⟨ev, hev, q⟩ := List.mem_filterMap.mp hm
      exact List.mem_filterMap.mpr ⟨ev, List.mem_cons_of_mem _ hev, q⟩
    have fa := off a oe vs he hd
    have fT := off T oT ts hT hdT
    obtain ⟨px, hpx, hcx⟩ := ctxPins (h1 := h1) (fs := frs (Y.env :: Y.outer)) k1 k3 low
    have S1 : Inv (Y.tr ((a, oe) :: (T, oT) :: (px ++ (Y.pn ++ pins))) Y.xe) [] σ H { s' with heap := h1 } :=
      ⟨J1.ok.toTry _ _, J1.os, J1.bare, J1.base, J1.loc, J1.cell, J1.free, J1.freeC, fun p hp => by
        rw [List.append_nil] at hp
        rcases List.mem_cons.mp hp with z | hp
        · rw [z]
          exact ⟨he, na, fun z2 => fa (by rw [show a = Y.env.locals from z2]; exact inL), fun z2 => fa (inF _ z2), fun v z2 => by
            have z3 : oe.data = .cell v := z2
            rw [hd] at z3
            cases z3⟩
        · rcases List.mem_cons.mp hp with z | hp
          · rw [z]
            exact ⟨hT, nT, fun z2 => fT (by rw [show T = Y.env.locals from z2]; exact inL), fun z2 => fT (inF _ z2), fun v z2 => by
              have z3 : oT.data = .cell v := z2
              rw [hdT] at z3
              cases z3⟩
          · rcases List.mem_append.mp hp with hp | hp
            · obtain ⟨p1, p2, p3, p4⟩ := hpx p hp
              exact ⟨p1, p2, fun z2 => p3 (by rw [show p.1 = Y.env.locals from z2]; exact inL), fun z2 => p3 (inF _ z2), p4⟩
            · exact J1.pin p hp, J1.hok, J1.len⟩
    refine gone_ok (X := Y.tr ((a, oe) :: (T, oT) :: (px ++ (Y.pn ++ pins))) Y.xe) S1 nd ni lo fun s6 S6 => ?_
    have J6 : Inv Y pins (σ.set i none) H s6 := ⟨ok, S6.os, S6.bare, S6.base, S6.loc, S6.cell, S6.free, S6.freeC, fun p hp => S6.pin p (List.mem_append_left _ (List.mem_cons_of_mem _ (List.mem_cons_of_mem _ (List.mem_append_right _ hp)))), S6.hok, S6.len⟩
    have ga : s6.heap.get? a = some oe := (S6.pin (a, oe) (List.mem_append_left _ List.mem_cons_self)).1
    have gT : s6.heap.get? T = some oT := (S6.pin (T, oT) (List.mem_append_left _ (List.mem_cons_of_mem _ List.mem_cons_self))).1
    have far : ∀ b o, sI.heap.get? b = some o → b ≠ a ∧ b ≠ T := fun b o e => by
      by_cases hb : b ∈ frs Y.stack
      · rw [hst] at hb
        exact ⟨fun z => fa (z ▸ hb), fun z => fT (z ▸ hb)⟩
      · have q := nb b o e hb
        refine ⟨fun z => ?_, fun z => ?_⟩
        · rw [z, k2] at q; cases q
        · rw [z, hnT] at q; cases q
    have far0 : ∀ b o, Y.s_0.heap.get? b = some o → b ≠ a ∧ b ≠ T := fun b o e => by
      obtain ⟨o', q⟩ := J.base.there b o e (by rw [hex]; simp)
      exact far b o' q
    obtain ⟨G, g1, g2⟩ := restrict s6.heap fun b => !(decide (b = a) || decide (b = T))
    have gIn : ∀ b o, G.get? b = some o → s6.heap.get? b = some o ∧ b ≠ a ∧ b ≠ T := fun b o e => by
      cases q : (!(decide (b = a) || decide (b = T))) with
      | false =>
        rw [g2 b q] at e
        cases e
      | true =>
        rw [g1 b q] at e
        simp only [Bool.not_eq_true', Bool.or_eq_false_iff, decide_eq_false_iff_not] at q
        exact ⟨e, q.1, q.2⟩
    have gOf : ∀ b o, b ≠ a → b ≠ T → s6.heap.get? b = some o → G.get? b = some o := fun b o n1 n2 e => by
      rw [g1 b (by simp [n1, n2])]
      exact e
    have IG : Inv Y pins (σ.set i none) H { s6 with heap := G } := J6.less (fun b o e => (gIn b o e).1) gOf ⟨oe, vs, ga, hd⟩ ⟨oT, ts, gT, hdT⟩ na nT far0 fun p hp => far p.1 p.2 (J.pin p hp).1
    have noG : ∀ b, (b = a ∨ b = T) → (PySem.W.hideAll G (frs Y.stack)).get? b = none := fun b hb => by
      cases q : (PySem.W.hideAll G (frs Y.stack)).get? b with
      | none => rfl
      | some o =>
        obtain ⟨_, n1, n2⟩ := gIn b o (PySem.W.of_hideAll _ q)
        rcases hb with z | z
        · exact absurd z n1
        · exact absurd z n2
    have low6 : L2K.Low (PySem.W.hideAll G (frs Y.stack)) H cx := fun x ex => by
      obtain ⟨ox, vx, hm, dx, c2⟩ := hcx x ex
      have px6 := (S6.pin (x, ox) (List.mem_append_left _ (List.mem_cons_of_mem _ (List.mem_cons_of_mem _ (List.mem_append_left _ hm))))).1
      obtain ⟨_, p2, p3, _⟩ := hpx _ hm
      obtain ⟨_, ob, _, eb, _, _⟩ := low x ex
      exact ⟨p2, ox, vx, PySem.W.hideAll_get _ (gOf x ox (fun z => by rw [z, k2] at eb; cases eb) (fun z => by rw [z, hnT] at eb; cases eb) px6) (by rw [hst]; exact p3), dx, c2⟩
    have ff : s6.heap.FunFrames (PySem.W.hideAll G (frs Y.stack)) (Y.env :: Y.outer) := by
      have z := funFrames_none (B := PySem.W.hideAll G (frs Y.stack)) J6.stack fun b hb => PySem.W.hideAll_none _ hb
      rw [← hst]
      exact z
    have tr6 : HandSPX.TracedZ s6.heap (PySem.W.hideAll G (frs Y.stack)) a (L2K.Zk cls d cx) (rawInt Y.env.locals) := ⟨oe, vs, T, oT, ts, ga, hz, hd, hv1, noG T (.inr rfl), hTe, gT, hdT, ht3⟩
    unfold PySem.passOn
    refine wpAny_bind (wpAny_field ga hd hv1 ?_)
    rw [if_neg (show ¬ ((Value.ref T == Value.none) = true) from by simp)]
    have goOn : wpAny (model Y.prog Y.w) Y.A (setFlight (.ref a) Y.env.frame) (fun _ s7 => wpAny (model Y.prog Y.w) Y.A (throw (.ref a) : Sem Flow) (fun _ _ => False) N s7) N s6 := by
      rw [hfr]
      refine HandSPX.setFlight_anyZ (fun b o e => (gIn b o (PySem.W.of_hideAll _ e)).1) ff tr6 fun h7 m1 m2 m3 up7 => wpAny_throw (hN _ _ ?_)
      refine ⟨a, PySem.W.hideAll G (frs Y.stack), { s6 with heap := G }, pins, σ.set i none, H, cls, d, cx, rfl, IG, fun b o e hb => PySem.W.hideAll_get _ e hb, ?_, .inr (.inr ?_), na, low6, rfl, J6.bare, hw⟩
      · exact Heap.UpToSlots.trans (Heap.UpToSlots.of_keeps fun b o e => (gIn b o e).1) up7
      · have held : HandSPX.HeldZ (PySem.W.hideAll G (frs Y.stack)) (Y.env :: Y.outer) a (L2K.Zk cls d cx) Y.env.locals h7 := ⟨m1, noG a (.inl rfl), m2, m3⟩
        rw [← hst] at held
        exact held
    first
      | exact wpAny_bind (wpAny_pure (wpAny_bind goOn))
      | exact wpAny_bind goOn
  show wpAny (model Y.prog Y.w) Y.A (noteFrame (.ref a) Y.env) _ _ _
  rcases sky' with ⟨hB, hn, hl, oe, vs, he0, hz, hd, hv1⟩ | fl | hh
  · exact PXN.look_newZ L2K.Zk.steady frA hl hfr he0 hB hn hd hv1 hz main
  · exact PXN.looks_onZ L2K.Zk.steady frA hfr fl main
  · exact HandSPX.againZ hfr hh.2.2.2 (main s'.heap hh (Heap.UpToSlots.refl _))
end
section
variable {X : Cx} {body : List Stmt} {pos pos' tpos : Pos} {tb : WX → TS} {ts : Addr → Value → Option Addr → TS} {Wout : WX} {n : Str} {i kk : Nat} {b₀ : Stmt} {suite : List Stmt} {x1 x2 x3 x4 : Str} {c1 c2 c3 c4 : Value} {p1 p2 p3 p4 : Pos}
theorem ps_try_fromK (hst : X.stack = X.env :: X.outer) (hfr : X.env.frame = some X.env.locals) (hex : X.ex = []) (nd : X.N.Nodup) (ni : X.N[i]? = some n) (lo : X.env.kindOf n = some .local) (n1 : Names X x1 c1) (n2 : Names X x2 c2) (n3 : Names X x3 c3) (n4 : Names X x4 c4)
    (hpa : ∀ hd : Option Value, PassesOwnAt (model X.prog X.w) (X.A.mark hd) X.A X.env X.xe) (tk : L2K.Takes X Wout)
    (hbody : ∀ (W : WX) (pn : List (Addr × Obj)) (xe : Value → Shared → Prop), L2N.Takes (X.tr pn xe) W → PassesOwn (model X.prog X.w) X.A X.env xe → PSs (X.tr pn xe) body (tb W))
    (hsuite : ∀ (a : Addr) (oe : Obj) (cls : Value) (d : Option Addr) (pn : List (Addr × Obj)) (xe : Value → Shared → Prop), L2N.Zn cls d oe → PySem.W.subIn X.K cls (.type "BaseException") = some true → (∃ vs, oe.data = .fields vs) → L2K.Takes (suiteY X a ((a, oe) :: pn) xe) (fun cls d σ H => Wout cls d (σ.set i none) H) → L2H.HotC (suiteY X a ((a, oe) :: pn) xe) →
      PSs (suiteY X a ((a, oe) :: pn) xe) (b₀ :: suite) (ts a cls d)) :
    PS X (.Try body [.ExceptHandler (some (.Tuple [.Name x1 p1, .Name x2 p2, .Name x3 p3, .Name x4 p4] kk tpos)) (some n) (b₀ :: suite) pos'] [] [] pos) (fun D σ H => tb (wFrom X.K [c1, c2, c3, c4] i ts D) D σ H) := by
  refine ⟨fun pins s σ H D J0 h0' => wpAny_Try_except ?_⟩
  have hok := J0.ok
  have ffr : X.A.frames = some (X.env :: X.outer) := by rw [hok.frames, hst]
  refine wpAny_mono ((hbody (wFrom X.K [c1, c2, c3, c4] i ts D) (X.pn ++ pins) (fun e sA => wpAny (model X.prog X.w) X.A (noteFrame e X.env) (fun _ sB => wpAny (model X.prog X.w) X.A (setFlight e none) (fun _ sC => wpAny (model X.prog X.w) X.A (handleBy e X.env [.ExceptHandler (some (.Tuple [.Name x1 p1, .Name x2 p2, .Name x3 p3, .Name x4 p4] kk tpos)) (some n) (b₀ :: suite) pos']) (SP X pins D) X.xe sC) X.xe sB) X.xe sA) (fun u sR xx => ?_) PassesOwn.looking).run [] s σ H D (J0.toTry _) h0') (fun fl sE hE => ?_) (fun _ _ z => z)
  · obtain ⟨ad, B, sI, pinsI, σI, HI, cls, dx, rfl, JI, nb, up, sky, na, os, ag, hmt, hbe, hyes⟩ := xx
    have JX : Inv X pins σI HI sI := JI.ofTry hok
    have sky' : Sky B (X.env :: X.outer) ad (L2N.Zn cls dx) X.env.locals sR.heap := by rw [← hst]; exact sky
    show wpAny (model X.prog X.w) X.A (noteFrame (.ref ad) X.env) _ _ _
    refine L2N.Sky.land L2N.Zn.steady ffr hfr sky' fun hp fp upp => ?_
    have JL : Inv X pins σI HI { sR with heap := hp } := JX.landed nb fp.1 (up.trans upp) os ag
    obtain ⟨oe, vs, heq, hz, hdt⟩ := fp.there
    have off : ad ∉ frs (X.env :: X.outer) := fun hm => by
      obtain ⟨_, o', e', hnf⟩ := fp.2.2.1.mem hm
      rw [heq] at e'
      cases e'
      exact hnf _ hdt
    have offL : ad ≠ X.env.locals := fun z => off (List.mem_filterMap.mpr ⟨X.env, List.mem_cons_self, by rw [hfr, z]⟩)
    have offF : ad ∉ X.fs := fun hm => by
      obtain ⟨ev, hev, qe⟩ := List.mem_filterMap.mp hm
      exact off (List.mem_filterMap.mpr ⟨ev, List.mem_cons_of_mem _ hev, qe⟩)
    have SL := JL.suite heq hdt na offL offF
    have look : PySem.W.Looks (model X.prog X.w) hp (typeOf (.ref ad)) cls := fun A Q E sX kX qX => wpAny_typeOf_ref (kX _ _ heq) (by rw [hz.1]; exact qX)
    refine wpAny_handleBy_cons (codeAny_handlers_test ?_) (fun q => by cases q)
    have cl : ∀ {nm : Str} {np : Pos} {c : Value} {Q : Value → Shared → Prop} {E : Value → Shared → Prop}, Names X nm c → Q c { sR with heap := hp } → wpAny (model X.prog X.w) (X.A.mark (some (.ref ad))) (eval (.Name nm np) X.env) Q E { sR with heap := hp } := fun {nm np c Q E} hnm q => by
      obtain ⟨g1, g2, g3 | ⟨g3, g4, g5⟩⟩ := hnm
      · exact ld_glob (X := X.suite ad ((ad, oe) :: (X.pn ++ pins))) SL g1 g3 q g2
      · exact ld_blt (X := X.suite ad ((ad, oe) :: (X.pn ++ pins))) SL g1 g3 g4 q g5 g2
    refine wpAny_Tuple ?_
    refine wpAny_items_cons (cl n1 ?_)
    refine wpAny_items_cons (cl n2 ?_)
    refine wpAny_items_cons (cl n3 ?_)
    refine wpAny_items_cons (cl n4 ?_)
    refine wpAny_items_nil ⟨by size_fits, ?_⟩
    have kp : ∀ q o, hp.get? q = some o → (hp.push { cls := .type "tuple", data := .seq [c1, c2, c3, c4].toArray }).get? q = some o := fun _ _ z => Heap.get?_push_of_some _ z
    refine (PySem.W.exm_tup4 (JL.kIn.keeps kp) (look.keeps kp) (Heap.get?_push_size hp rfl) hmt).here ?_
    refine codeAny_handlers_suite_as (HandSPX.lands_againZ (fly_kept fp kp) fun hq fq upq => ?_)
    have JQ : Inv X pins σI HI { sR with heap := hq } := JX.landed nb fq.1 ((up.trans upp).trans ((Heap.UpToSlots.of_keeps kp).trans upq)) os ag
    obtain ⟨oq, vq, heq', hz', hdt'⟩ := fq.there
    refine store_ok (X := X.suite ad ((ad, oq) :: (X.pn ++ pins))) (v := .ref ad) (JQ.suite heq' hdt' na offL offF) nd ni (.inl lo) rfl (fun sS SS => ?_) (.inr lo)
    obtain ⟨xe3, hxe3⟩ : ∃ xe3 : Value → Shared → Prop, xe3 = fun x s' => AsSuiteRaised (model X.prog X.w) (X.A.mark (some (.ref ad))) X.env n pos' (notedBy (model X.prog X.w) (X.A.mark (some (.ref ad))) X.env (cameBackBy (model X.prog X.w) X.A X.env X.xe)) x s' := ⟨_, rfl⟩
    have SY : Inv (suiteY X ad ((ad, oq) :: (X.pn ++ pins)) xe3) [] (σI.set i (some (.ref ad))) HI sS := Inv.unwish (X := suiteY X ad ((ad, oq) :: (X.pn ++ pins)) xe3) (E := fun _ _ => False) SS
    have backY : ∀ {pn' : List (Addr × Obj)} {σ6 : L2.St} {H6 : Hp} {s6 : Shared}, Inv (suiteY X ad ((ad, oq) :: (X.pn ++ pins)) xe3) pn' σ6 H6 s6 → Inv X pins σ6 H6 s6 := fun {pn' σ6 H6 s6} I6 =>
      Inv.unsuite (X := X) (a := ad) (q := (ad, oq)) (pn' := pn') (show Inv (X.suite ad ((ad, oq) :: (X.pn ++ pins))) pn' σ6 H6 s6 from I6.wish fun _ _ => False) hok
    have tkY : L2K.Takes (suiteY X ad ((ad, oq) :: (X.pn ++ pins)) xe3) (fun cls d σ H => Wout cls d (σ.set i none) H) := fun u sU xU => by
      show xe3 u sU
      rw [hxe3]
      refine gone_excK (Y := suiteY X ad ((ad, oq) :: (X.pn ++ pins)) xe3) (W := Wout) (i := i) hst hfr hex nd ni lo (fun u2 s2 x2 => ?_) xU
      obtain ⟨a2, B2, sI2, pn2, σ2, H2, cls2, d2, cx2, e2, I2, nb2, up2, sky2, na2, lo2, os2, ag2, w2⟩ := x2
      exact hpa (some (.ref ad)) u2 s2 (tk u2 s2 ⟨a2, B2, sI2, pins, σ2, H2, cls2, d2, cx2, e2, backY I2, nb2, up2, sky2, na2, lo2, os2, ag2, w2⟩)
    have hot : L2H.HotC (suiteY X ad ((ad, oq) :: (X.pn ++ pins)) xe3) := ⟨(ad, oq), ⟨rfl, vq, hdt', hz'.2.2 vq hdt'⟩, List.mem_cons_self⟩
    refine wpAny_mono ((hsuite ad oq cls dx (X.pn ++ pins) xe3 hz' hbe ⟨_, hdt'⟩ tkY hot).run [] sS _ HI _ SY (hyes ad na)) (fun fl sT hT => ?_) (fun eT sT z => by
      have z' : xe3 eT sT := z
      rw [hxe3] at z'
      exact z')
    have leave : ∀ {σT : L2.St} {HT : Hp} {R : Shared → Prop}, Inv (suiteY X ad ((ad, oq) :: (X.pn ++ pins)) xe3) [] σT HT sT → (∀ sU, Inv X pins (σT.set i none) HT sU → R sU) → wpAny (model X.prog X.w) X.A (bindName X.env n .none >>= fun _ => unbindBehindTheSuite X.env n pos') (fun _ sU => R sU) X.xe sT := fun ST hR => gone_ok (backY ST) nd ni lo hR
    cases fl with
    | next => obtain ⟨_, _, ST, qT⟩ := hT; exact leave ST fun _ JU => ⟨_, _, JU, qT⟩
    | brk => obtain ⟨_, _, ST, qT⟩ := hT; exact leave ST fun _ JU => ⟨_, _, JU, qT⟩
    | cont => obtain ⟨_, _, ST, qT⟩ := hT; exact leave ST fun _ JU => ⟨_, _, JU, qT⟩
    | ret u => obtain ⟨_, _, _, ST, rT, qT⟩ := hT; exact leave ST fun _ JU => ⟨_, _, _, JU, rT, qT⟩
  · cases fl with
    | next => obtain ⟨_, _, JE, qE⟩ := hE; exact wpAny_execs_nil ⟨_, _, JE.ofTry hok, qE⟩
    | brk => obtain ⟨_, _, JE, qE⟩ := hE; exact ⟨_, _, JE.ofTry hok, qE⟩
    | cont => obtain ⟨_, _, JE, qE⟩ := hE; exact ⟨_, _, JE.ofTry hok, qE⟩
    | ret u => obtain ⟨_, _, _, JE, rE, qE⟩ := hE; exact ⟨_, _, _, JE.ofTry hok, rE, qE⟩
end
section
variable {X : Cx} {W : WX} {e : Expr} {t : L2.St → Hp → XK → Prop} {i : Nat} {n : Str} {cpos pos : Pos}
/-- raise X(..) from n, in the suite of «as n» -/
theorem ps_raiseHK {a0 : Addr} {o0 : Obj} {cls0 : Value} {pn : List (Addr × Obj)} {vx : Array Value} (hh : X.A.handled = some (.ref a0)) (hpn : X.pn = (a0, o0) :: pn) (hcl : o0.cls = cls0) (hdx : o0.data = .fields vx) (hctx : vx[2]? = some .none) (hsub : PySem.W.subIn X.K cls0 (.type "BaseException") = some true)
    (hN : X.N[i]? = some n) (hv : Vis X.env.scope n) (tk : L2K.Takes X W) (he : PMk5 X e t) (hd : (n == ("__debug__" : Str)) = false := by decide) (hcd : (n == ("__classdict__" : Str)) = false := by decide) :
    PS X (.Raise (some e) (some (.Name n cpos)) pos) (fun _ σ H => σ[i]? = some (some (.ref a0)) ∧ t σ H fun cls d H' => W cls d σ H') := by
  refine ⟨fun pins s σ H D I h => ?_⟩
  obtain ⟨hσ, h⟩ := h
  show wpAny _ _ (do standAt pos; raiseStmt X.env (some (do let v ← eval e X.env; standAt pos; pure v)) (some (do let v ← eval (.Name n cpos) X.env; standAt pos; pure v))) _ _ _
  refine wpAny_bind (wpAny_standAt (raise_hot_from (x1 := a0) (wpAny_bind (wpAny_mono (he pins s σ H _ I h) (fun u s1 hu => wpAny_bind (wpAny_standAt (wpAny_pure ?_))) fun _ _ x => x))))
  obtain ⟨⟨a, oe, vs, sI, H', cls, d, rfl, J, k, hne, ha, hz, hdat, h1, na, os, ag, r, q⟩, h5⟩ := hu
  have hi : 4 < vs.size := h5 a oe vs rfl ha hdat
  have P0 : sI.heap.get? a0 = some o0 := (J.pin (a0, o0) (List.mem_append_left _ (by rw [hpn]; exact List.mem_cons_self))).1
  have P1 : s1.heap.get? a0 = some o0 := k _ _ P0
  have nap : a0 ≠ a := fun z => by
    rw [z, hne] at P0
    cases P0
  have k4 : ∀ b u, sI.heap.get? b = some u → (causeFrom s1.heap a a0).get? b = some u := fun b u z => by
    have nab : a ≠ b := fun y => by
      rw [← y, hne] at z
      cases z
    rw [causeFrom_other nab]
    exact k b u z
  have J1 : Inv X pins σ H' s1 := J.landed (B := sI.heap) (fun _ _ z _ => z) k (Heap.UpToSlots.of_keeps k) os ag
  have name : ∀ (Q' : Value → Shared → Prop), Q' (.ref a0) s1 → wpAny (model X.prog X.w) X.A (do let v ← eval (.Name n cpos) X.env; standAt pos; pure v) Q' X.xe s1 := fun Q' q' => by
    obtain ⟨m, hn, hl⟩ := J1.loc
    obtain ⟨u, ru, l⟩ := hl i n (.ref a0) hN hσ hv
    cases ru
    refine wpAny_bind ?_
    have fin : wpAny (model X.prog X.w) X.A (do standAt pos; pure (Value.ref a0)) Q' X.xe s1 := wpAny_bind (wpAny_standAt (wpAny_pure q'))
    rcases l with ⟨hk, hm⟩ | ⟨hk, c, hc, hcell⟩
    · exact wpAny_Name (wpAny_loadName_local J1.ok.kind hk hn hm fin) hd
    · rcases hk with hk | hk
      · exact wpAny_Name (wpAny_loadName_cell J1.ok.kind hk hc hcell fin) hd
      · exact wpAny_Name (wpAny_loadName_free J1.ok.kind hk hc hcell fin hcd) hd
  obtain ⟨r1, _⟩ := r (model X.prog X.w) s1.heap (J.kIn.keeps k)
  obtain ⟨_, r2⟩ := r (model X.prog X.w) (causeFrom s1.heap a a0) (J.kIn.keeps k4)
  obtain ⟨a4, d4⟩ := causeFrom_at (x := a0) ha hdat
  have f1 : (((vs.setIfInBounds 3 (Value.ref a0)).setIfInBounds 4 (Value.bool true)).setIfInBounds 2 (Value.ref a0))[1]? = some Value.none := set_other (by decide) (set_other (by decide) (set_other (by decide) h1))
  have f2 : (((vs.setIfInBounds 3 (Value.ref a0)).setIfInBounds 4 (Value.bool true)).setIfInBounds 2 (Value.ref a0))[2]? = some (L2K.ctxV (some a0)) := by
    have hlt : 2 < ((vs.setIfInBounds 3 (Value.ref a0)).setIfInBounds 4 (Value.bool true)).size := by rw [set_size, set_size]; omega
    show _ = some (Value.ref a0)
    first
    | exact Array.getElem?_setIfInBounds_self_of_lt hlt
    | rw [Array.getElem?_setIfInBounds, if_pos rfl, if_pos hlt]
    | (rw [Array.getElem?_setIfInBounds]; simp only [if_true, if_pos hlt])
  refine ⟨a, oe, vs, cls, o0, vx, cls0, rfl, ha, hz.1, hdat, h1, hi, nap, ⟨hh, o0, vx, P1, hdx, hctx⟩, name, P1, hdx, hcl, PySem.W.looks_subIn (J.kIn.keeps k) hsub, r1, r2, tk _ _ (L2K.XE.newX (x := a0) (ox := o0) J (fun b u z => ?_) hne (Heap.get?_update_self _ a4 (Obj.isFreed_of_fields (Obj.data_mapFields d4 _)))
    ⟨by rw [Obj.cls_mapFields, Obj.cls_mapFields, Obj.cls_mapFields]; exact hz.1, by rw [HandSPX.dict_mapFields, HandSPX.dict_mapFields, HandSPX.dict_mapFields]; exact hz.2.1, fun ws ew => by
      have z := (Obj.data_mapFields d4 (·.setIfInBounds 2 (.ref a0))).symm.trans ew
      cases z
      exact f2⟩ (Obj.data_mapFields d4 _) f1 na (List.mem_append_left _ (by rw [hpn]; exact List.mem_cons_self)) hdx hctx os ag q)⟩
  have nab : a ≠ b := fun y => by
    rw [← y, hne] at z
    cases z
  show ((causeFrom s1.heap a a0).update a (Obj.mapFields (·.setIfInBounds 2 (.ref a0)))).get? b = some u
  rw [Heap.get?_update_other _ _ nab]
  exact k4 b u z
end
end Pr
namespace Pr
open PySem PySem.Spec PyProof.Rows L2 HotX L2H
section
variable {X : Cx} {body : List Stmt} {f₀ : Stmt} {fs : List Stmt} {pos : Pos} {tf tfs : TS} {tb : WX → TS} {Wout : WX}
theorem fin_excK {pins : List (Addr × Obj)} {D : Ends} {u : Value} {s' : Shared} (hst : X.stack = X.env :: X.outer) (hfr : X.env.frame = some X.env.locals) (hex : X.ex = []) (ok : X.Ok) (tk : L2K.Takes X Wout)
    (hsu : ∀ (a : Addr) (pn : List (Addr × Obj)), HotC2 (X.suite a pn) → PSs (X.suite a pn) (f₀ :: fs) tfs) {xe : Value → Shared → Prop} (xx : L2K.XE (X.tr (X.pn ++ pins) xe) (wFin tfs Wout) u s') :
    wpAny (model X.prog X.w) X.A (noteFrame u X.env) (fun _ s₂ => FinallyRaised X.prog X.w X.A X.xe X.env (f₀ :: fs) (SP X pins D) u s₂) (FinallyRaised X.prog X.w X.A X.xe X.env (f₀ :: fs) (SP X pins D)) s' := by
  have frA : X.A.frames = some (X.env :: X.outer) := by rw [ok.frames, hst]
  obtain ⟨a, B, sI, pins', σ, H, cls, d, cx, rfl, J', nb, up, sky, na, low, os, ag, hw⟩ := xx
  have J : Inv X pins σ H sI := J'.ofTry ok
  have sky' : Sky B (X.env :: X.outer) a (L2K.Zk cls d cx) X.env.locals s'.heap := by rw [← hst]; exact sky
  have main : ∀ h0, HandSPX.HeldZ B (X.env :: X.outer) a (L2K.Zk cls d cx) X.env.locals h0 → s'.heap.UpToSlots h0 → FinallyRaised X.prog X.w X.A X.xe X.env (f₀ :: fs) (SP X pins D) (.ref a) { s' with heap := h0 } := fun h0 hh0 up0 => by
    refine ⟨ref_ne_byPass a, HandSPX.againZ hfr hh0.2.2.2 (HandSPX.landsZ hh0 fun h1 fl1 up1 => ?_)⟩
    have J1 : Inv X pins σ H { s' with heap := h1 } := J.landed nb fl1.1 ((up.trans up0).trans up1) os ag
    obtain ⟨k1, k2, k3, oe, vs, T, oT, ts, he, hz, hd, hv1, hnT, hTe, hT, hdT, ht3⟩ := id fl1
    have nT : H T = none := (J.inGround nb).gone hnT
    have off : ∀ (b : Addr) (o : Obj) (fv : Array Value), h1.get? b = some o → o.data = .fields fv → b ∉ frs (X.env :: X.outer) := fun b o fv e dd hm => by
      obtain ⟨_, o', e', hnf⟩ := k3.mem hm
      rw [e] at e'
      cases e'
      exact hnf _ dd
    have inL : X.env.locals ∈ frs (X.env :: X.outer) := List.mem_filterMap.mpr ⟨X.env, List.mem_cons_self, hfr⟩
    have inF : ∀ b, b ∈ X.fs → b ∈ frs (X.env :: X.outer) := fun b hm => by
      obtain ⟨ev, hev, q⟩ := List.mem_filterMap.mp hm
      exact List.mem_filterMap.mpr ⟨ev, List.mem_cons_of_mem _ hev, q⟩
    have fa := off a oe vs he hd
    have fT := off T oT ts hT hdT
    obtain ⟨px, hpx, hcx⟩ := ctxPins (h1 := h1) (fs := frs (X.env :: X.outer)) k1 k3 low
    have S1 : Inv (X.suite a ((a, oe) :: (T, oT) :: (px ++ (X.pn ++ pins)))) [] σ H { s' with heap := h1 } :=
      ⟨J1.ok.suite _ _, J1.os, J1.bare, J1.base, J1.loc, J1.cell, J1.free, J1.freeC, fun p hp => by
        rw [List.append_nil] at hp
        rcases List.mem_cons.mp hp with z | hp
        · rw [z]
          exact ⟨he, na, fun z2 => fa (by rw [show a = X.env.locals from z2]; exact inL), fun z2 => fa (inF _ z2), fun v z2 => by
            have z3 : oe.data = .cell v := z2
            rw [hd] at z3
            cases z3⟩
        · rcases List.mem_cons.mp hp with z | hp
          · rw [z]
            exact ⟨hT, nT, fun z2 => fT (by rw [show T = X.env.locals from z2]; exact inL), fun z2 => fT (inF _ z2), fun v z2 => by
              have z3 : oT.data = .cell v := z2
              rw [hdT] at z3
              cases z3⟩
          · rcases List.mem_append.mp hp with hp | hp
            · obtain ⟨p1, p2, p3, p4⟩ := hpx p hp
              exact ⟨p1, p2, fun z2 => p3 (by rw [show p.1 = X.env.locals from z2]; exact inL), fun z2 => p3 (inF _ z2), p4⟩
            · exact J1.pin p hp, J1.hok, J1.len⟩
    have hot : HotC2 (X.suite a ((a, oe) :: (T, oT) :: (px ++ (X.pn ++ pins)))) := by
      refine ⟨(a, oe), rfl, List.mem_cons_self, vs, hd, ?_⟩
      have c := hz.2.2 vs hd
      cases cx with
      | none => exact .inl c
      | some x =>
        obtain ⟨ox, vx, hm, dx, c2⟩ := hcx x rfl
        obtain ⟨_, ob, _, eb, _, _⟩ := low x rfl
        have nxa : x ≠ a := fun z => by
          rw [z, k2] at eb
          cases eb
        exact .inr ⟨(x, ox), vx, List.mem_cons_of_mem _ (List.mem_cons_of_mem _ (List.mem_append_left _ hm)), c, nxa, dx, c2⟩
    refine wpAny_mono ((hsu a ((a, oe) :: (T, oT) :: (px ++ (X.pn ++ pins))) hot).run [] { s' with heap := h1 } σ H { nx := fun σ2 H2 => Wout cls d σ2 H2, rt := fun _ _ => False } S1 hw) (fun g s6 hsp => ?_) fun _ _ z => False.elim z
    cases g with
    | ret u =>
      obtain ⟨_, _, _, _, _, q⟩ := hsp
      exact False.elim q
    | brk =>
      obtain ⟨_, _, _, q⟩ := hsp
      exact False.elim q
    | cont =>
      obtain ⟨_, _, _, q⟩ := hsp
      exact False.elim q
    | next =>
    obtain ⟨σ6, H6, S6, q6⟩ := hsp
    have J6 : Inv X pins σ6 H6 s6 := ⟨ok, S6.os, S6.bare, S6.base, S6.loc, S6.cell, S6.free, S6.freeC, fun p hp => S6.pin p (List.mem_append_left _ (List.mem_cons_of_mem _ (List.mem_cons_of_mem _ (List.mem_append_right _ hp)))), S6.hok, S6.len⟩
    have pa := S6.pin (a, oe) (List.mem_append_left _ List.mem_cons_self)
    have pT := S6.pin (T, oT) (List.mem_append_left _ (List.mem_cons_of_mem _ List.mem_cons_self))
    have ga : s6.heap.get? a = some oe := pa.1
    have gT : s6.heap.get? T = some oT := pT.1
    have na6 : H6 a = none := pa.2.1
    have nT6 : H6 T = none := pT.2.1
    have far : ∀ b o, sI.heap.get? b = some o → b ≠ a ∧ b ≠ T := fun b o e => by
      by_cases hb : b ∈ frs X.stack
      · rw [hst] at hb
        exact ⟨fun z => fa (z ▸ hb), fun z => fT (z ▸ hb)⟩
      · have q := nb b o e hb
        refine ⟨fun z => ?_, fun z => ?_⟩
        · rw [z, k2] at q; cases q
        · rw [z, hnT] at q; cases q
    have far0 : ∀ b o, X.s_0.heap.get? b = some o → b ≠ a ∧ b ≠ T := fun b o e => by
      obtain ⟨o', q⟩ := J.base.there b o e (by rw [hex]; simp)
      exact far b o' q
    obtain ⟨G, g1, g2⟩ := restrict s6.heap fun b => !(decide (b = a) || decide (b = T))
    have gIn : ∀ b o, G.get? b = some o → s6.heap.get? b = some o ∧ b ≠ a ∧ b ≠ T := fun b o e => by
      cases q : (!(decide (b = a) || decide (b = T))) with
      | false =>
        rw [g2 b q] at e
        cases e
      | true =>
        rw [g1 b q] at e
        simp only [Bool.not_eq_true', Bool.or_eq_false_iff, decide_eq_false_iff_not] at q
        exact ⟨e, q.1, q.2⟩
    have gOf : ∀ b o, b ≠ a → b ≠ T → s6.heap.get? b = some o → G.get? b = some o := fun b o n1 n2 e => by
      rw [g1 b (by simp [n1, n2])]
      exact e
    have IG : Inv X pins σ6 H6 { s6 with heap := G } := J6.less (fun b o e => (gIn b o e).1) gOf ⟨oe, vs, ga, hd⟩ ⟨oT, ts, gT, hdT⟩ na6 nT6 far0 fun p hp => far p.1 p.2 (J.pin p hp).1
    have noG : ∀ b, (b = a ∨ b = T) → (PySem.W.hideAll G (frs X.stack)).get? b = none := fun b hb => by
      cases q : (PySem.W.hideAll G (frs X.stack)).get? b with
      | none => rfl
      | some o =>
        obtain ⟨_, n1, n2⟩ := gIn b o (PySem.W.of_hideAll _ q)
        rcases hb with z | z
        · exact absurd z n1
        · exact absurd z n2
    have low6 : L2K.Low (PySem.W.hideAll G (frs X.stack)) H6 cx := fun x ex => by
      obtain ⟨ox, vx, hm, dx, c2⟩ := hcx x ex
      have px6 := S6.pin (x, ox) (List.mem_append_left _ (List.mem_cons_of_mem _ (List.mem_cons_of_mem _ (List.mem_append_left _ hm))))
      obtain ⟨_, _, p3, _⟩ := hpx _ hm
      obtain ⟨_, ob, _, eb, _, _⟩ := low x ex
      exact ⟨px6.2.1, ox, vx, PySem.W.hideAll_get _ (gOf x ox (fun z => by rw [z, k2] at eb; cases eb) (fun z => by rw [z, hnT] at eb; cases eb) px6.1) (by rw [hst]; exact p3), dx, c2⟩
    have ff : s6.heap.FunFrames (PySem.W.hideAll G (frs X.stack)) (X.env :: X.outer) := by
      have z := funFrames_none (B := PySem.W.hideAll G (frs X.stack)) J6.stack fun b hb => PySem.W.hideAll_none _ hb
      rw [← hst]
      exact z
    have tr6 : HandSPX.TracedZ s6.heap (PySem.W.hideAll G (frs X.stack)) a (L2K.Zk cls d cx) .none := ⟨oe, vs, T, oT, ts, ga, hz, hd, hv1, noG T (.inr rfl), hTe, gT, hdT, ht3⟩
    show wpAny (model X.prog X.w) X.A (PySem.passOn "try.finally" (.ref a) X.env) (SP X pins D) X.xe s6
    unfold PySem.passOn
    refine wpAny_bind (wpAny_field ga hd hv1 ?_)
    rw [if_neg (show ¬ ((Value.ref T == Value.none) = true) from by simp)]
    have goOn : wpAny (model X.prog X.w) X.A (setFlight (.ref a) X.env.frame) (fun _ s7 => wpAny (model X.prog X.w) X.A (throw (.ref a) : Sem Flow) (SP X pins D) X.xe s7) X.xe s6 := by
      rw [hfr]
      refine HandSPX.setFlight_anyZ (fun b o e => (gIn b o (PySem.W.of_hideAll _ e)).1) ff tr6 fun h7 m1 m2 m3 up7 => wpAny_throw (tk _ _ ?_)
      refine ⟨a, PySem.W.hideAll G (frs X.stack), { s6 with heap := G }, pins, σ6, H6, cls, d, cx, rfl, IG, fun b o e hb => PySem.W.hideAll_get _ e hb, ?_, .inr (.inr ?_), na6, low6, rfl, J6.bare, q6⟩
      · exact Heap.UpToSlots.trans (Heap.UpToSlots.of_keeps fun b o e => (gIn b o e).1) up7
      · have held : HandSPX.HeldZ (PySem.W.hideAll G (frs X.stack)) (X.env :: X.outer) a (L2K.Zk cls d cx) X.env.locals h7 := ⟨m1, noG a (.inl rfl), m2, m3⟩
        rw [← hst] at held
        exact held
    first
      | exact wpAny_bind (wpAny_pure (wpAny_bind goOn))
      | exact wpAny_bind goOn
  show wpAny (model X.prog X.w) X.A (noteFrame (.ref a) X.env) _ _ _
  rcases sky' with ⟨hB, hn, hl, oe, vs, he0, hz, hd, hv1⟩ | fl | hh
  · exact PXN.look_newZ L2K.Zk.steady frA hl hfr he0 hB hn hd hv1 hz main
  · exact PXN.looks_onZ L2K.Zk.steady frA hfr fl main
  · exact HandSPX.againZ hfr hh.2.2.2 (main s'.heap hh (Heap.UpToSlots.refl _))
theorem ps_finXK (hst : X.stack = X.env :: X.outer) (hfr : X.env.frame = some X.env.locals) (hex : X.ex = []) (tk : L2K.Takes X Wout)
    (hb : ∀ (W : WX) (pn : List (Addr × Obj)) (xe : Value → Shared → Prop), L2K.Takes (X.tr pn xe) W → PassesOwn (model X.prog X.w) X.A X.env xe → PSs (X.tr pn xe) body (tb W))
    (hf : PSs X.nox (f₀ :: fs) tf) (hsu : ∀ (a : Addr) (pn : List (Addr × Obj)), HotC2 (X.suite a pn) → PSs (X.suite a pn) (f₀ :: fs) tfs) : PS X (.Try body [] [] (f₀ :: fs) pos) (fun D σ H => tFin (tb (wFin tfs Wout)) tf D σ H) := by
  refine ⟨fun pins s σ H D I h => ?_⟩
  have ok := I.ok
  refine wpAny_Try_finally ?_
  refine wpAny_mono ((hb (wFin tfs Wout) (X.pn ++ pins) (fun x s₁ => wpAny (model X.prog X.w) X.A (noteFrame x X.env) (fun _ s₂ => FinallyRaised X.prog X.w X.A X.xe X.env (f₀ :: fs) (SP X pins D) x s₂) (FinallyRaised X.prog X.w X.A X.xe X.env (f₀ :: fs) (SP X pins D)) s₁)
    (fun u s' xx => ?_) PassesOwn.looking).run [] s σ H _ (I.toTry _) h) (fun g s1 q => ?_) (fun x s1 hx => hx)
  · exact fin_excK hst hfr hex ok tk hsu xx
  · cases g with
    | next =>
      obtain ⟨σ1, H1, I1, q1⟩ := q
      exact wpAny_execs_nil (fin_next hf (I1.ofTry ok) q1)
    | ret u => obtain ⟨_, _, _, _, _, z⟩ := q; exact False.elim z
    | brk => obtain ⟨_, _, _, z⟩ := q; exact False.elim z
    | cont => obtain ⟨_, _, _, z⟩ := q; exact False.elim z
end
section
variable {P : Program} {w : World} {K : PySem.W.Frag} {mg : Str → Option Value} {base : Heap}
theorem Fun.okK {x qual : Str} {st : Stmt} {f : Addr} {fd : FuncData} {N ps : List Str} {k : Nat} {sp : Sp} (F : Fun K x qual st f fd) (S : FnScope N ps (defScope st)) (len : ∀ vs H Q E, sp vs H Q E → vs.length = ps.length)
    (hbody : ∀ (cdv : Value) (A : Around) (outer : List Env) (s : Shared) (H : Hp) (vs : List V) (Q : VK) (E : XK), Room k (A.deeper (envOfC qual (defScope st) s.heap.objs.size f cdv)) → sp vs H Q E →
      ∃ t, PSs (cxOf (L2K.CX P w) P w K mg base N qual (defScope st) f cdv A outer s H E) (defBody st) t ∧ t { nx := fun _ H' => Q .non H', rt := Q } (start N vs) H) : FnOk P w K mg base (L2K.CX P w) (k + 1) f fd ps sp := by
  obtain ⟨oc, od, kV, doc, pm, an, cdv, ct, osl, e, lk, hcd⟩ := F.ex
  subst e
  exact fn_of lk hcd S len (hbody cdv)
end
end Pr
namespace K54
open PySem PySem.Spec PyProof.Rows L2 Pr
abbrev sInitR : Stmt := inClass (topS 14) 0
theorem scInitR : FnScope ["self", "index"] ["self", "index"] (defScope sInitR) := ⟨rfl, rfl, rfl, by decide +kernel, rfl, by decide +kernel, by decide +kernel⟩
section
variable {P : Program} {w : World} {K : PySem.W.Frag} {mg : Str → Option Value} {base : Heap}
theorem ok_initRH {f C : Addr} {fd : FuncData} {k : Nat} (F : Fun K "__init__" "Rejected.__init__" sInitR f fd) : L2H.FnH P w K mg base CX0 (k + 1) f fd ["self", "index"] (spI K C "index") := by
  refine Pr.Fun.okH F scInitR (fun vs H Q E h => ?_) (fun cdv A outer s H vs Q E q0 hot hr h => ?_)
  · obtain ⟨e, y, rfl, _⟩ := h
    rfl
  · obtain ⟨e, y, rfl, T, hno, he, q⟩ := h
    refine ⟨_, pss_one (ps_ost (pv 0) (pv 1)), ?_⟩
    exact ⟨y, rfl, .ref e, rfl, e, C, rfl, T, hno, .inl ⟨he, q⟩⟩
end
theorem btn_of {n b : Int} (h0 : 0 ≤ b) (h1 : b < n) : isBtn n (.int b) = true := by simp [isBtn, h0, h1]
abbrev sDoEditX := sDoEdit
def nDoEditX : List Str := ["self", "index", "edit", "reason"]
theorem scDoEditX : FnScope nDoEditX ["self", "index", "edit"] (defScope sDoEditX) := ⟨rfl, rfl, rfl, by decide +kernel, rfl, by decide +kernel, by decide +kernel⟩
section
variable {P : Program} {w : World} {K : PySem.W.Frag} {mg : Str → Option Value} {base : Heap}
def spDoEditX (K : PySem.W.Frag) (C CR : Addr) : Sp := fun vs H Q E => ∃ (t : Addr) (i : Int) (pan : List (List Int)) (st : List Int) (past : List (PyData × List (List Int) × List Int)) (v : V) (d : PyData), vs = [.ref t, .int i, v] ∧ DeskAt K C H t pan st past ∧ past.length < 60 ∧ Dp K H v d ∧
  ((∃ (pan' : List (List Int)) (f : List Int → List Int), Ed pan d pan' f ∧ ∀ H', ButO t H H' → DeskAt K C H' t pan' (f st) (past ++ [(d, pan, st)]) → Q .non H') ∨
   (∃ a : Int, d = dLk "link" a a ∧ 0 ≤ a ∧ a < (pan.length : Int) ∧ ∀ H' dd, Same H H' → H' dd = some (.xd [("index", .int i)]) → E (.ref CR) (some dd) H'))
theorem ok_DoEditX {fWl : Addr} {fdWl : FuncData} {fLi : Addr} {fdLi : FuncData} {fUn : Addr} {fdUn : FuncData} {fBtn : Addr} {fdBtn : FuncData} {fPress : Addr} {fdPress : FuncData} {fChkB : Addr} {fdChkB : FuncData} {C f : Addr} {fd : FuncData} {k : Nat} {CN CS CC fIN fIS : Addr} {fdIN fdIS : FuncData} {CT CR fIR : Addr} {fdIR : FuncData} (F : Fun K "do_edit" "Desk.do_edit" sDoEditX f fd) (T : TxtD K mg C) (TN : ExL K mg "NoButton" "value" "NoButton.__init__" sInitN CN fIN fdIN) (TS : ExF K mg "SameButton" "value" "SameButton.__init__" sInitS CS fIS fdIS) (T_NoChange : Ex0 K mg "NoChange" CC) (TR : ExF K mg "Rejected" "index" "Rejected.__init__" sInitR CR fIR fdIR) (gT : mg "TooManyEdits" = some (.ref CT)) (xS : PySem.W.exmAny K (.ref CS) [.ref CT, .ref CN, .ref CS, .ref CC] = some true)
    (FWl : Fun K "with_list" "with_list" sWl fWl fdWl) (bWl : Binds K fdWl ["panel", "button", "released"] []) (gWl : mg "with_list" = some (.ref fWl))
    (FLi : Fun K "linked" "linked" sLi fLi fdLi) (bLi : Binds K fdLi ["panel", "one", "other"] []) (gLi : mg "linked" = some (.ref fLi))
    (FUn : Fun K "unlinked" "unlinked" sUn fUn fdUn) (bUn : Binds K fdUn ["panel", "one", "other"] []) (gUn : mg "unlinked" = some (.ref fUn))
    (FBtn : Fun K "is_button" "is_button" sBtn fBtn fdBtn) (bBtn : Binds K fdBtn ["value", "many"] []) (gBtn : mg "is_button" = some (.ref fBtn))
    (FPress : Fun K "press_button" "press_button" sPress fPress fdPress) (bPress : Binds K fdPress ["panel", "state", "button"] []) (gPress : mg "press_button" = some (.ref fPress))
    (FChkB : Fun K "check_button" "check_button" sChkB fChkB fdChkB) (bChkB : Binds K fdChkB ["panel", "value"] []) (gChkB : mg "check_button" = some (.ref fChkB))
    {fFree : Addr} {fdFree : FuncData} (FFree : Fun K "check_free" "Desk.check_free" sFree fFree fdFree) (bFree : Binds K fdFree ["self"] []) (hFree : Meth K C "check_free" fFree)
    {fRoom : Addr} {fdRoom : FuncData} (FRoom : Fun K "check_room" "Desk.check_room" sRoom fRoom fdRoom) (bRoom : Binds K fdRoom ["self"] []) (hRoom : Meth K C "check_room" fRoom)
    {fShow : Addr} {fdShow : FuncData} (GShow0 : ∀ k0 : Nat, FnOk P w K mg base CX0 (k0 + 6) fShow fdShow ["self", "panel", "latched"] (spShow K C)) (bShow : Binds K fdShow ["self", "panel", "latched"] []) (hShow : Meth K C "show" fShow)
    {fAdd : Addr} {fdAdd : FuncData} (FAdd : Fun K "add_edit" "Desk.add_edit" sAdd fAdd fdAdd) (bAdd : Binds K fdAdd ["self", "edit", "panel", "latched"] []) (hAdd : Meth K C "add_edit" fAdd)
    {fPressX : Addr} {fdPressX : FuncData} (FPressX : Fun K "press" "Desk.press" sPressX fPressX fdPressX) (bPressX : Binds K fdPressX ["self", "button"] []) (hPressX : Meth K C "press" fPressX)
    {fLink0X : Addr} {fdLink0X : FuncData} (FLink0X : Fun K "check_link" "Desk.check_link" sLink0X fLink0X fdLink0X) (bLink0X : Binds K fdLink0X ["self", "one", "other"] []) (hLink0X : Meth K C "check_link" fLink0X)
    {fChgX : Addr} {fdChgX : FuncData} (FChgX : Fun K "change_panel" "Desk.change_panel" sChgX fChgX fdChgX) (bChgX : Binds K fdChgX ["self", "edit", "panel"] []) (hChgX : Meth K C "change_panel" fChgX)
    {fLinkX : Addr} {fdLinkX : FuncData} (FLinkX : Fun K "link" "Desk.link" sLinkX fLinkX fdLinkX) (bLinkX : Binds K fdLinkX ["self", "one", "other"] []) (hLinkX : Meth K C "link" fLinkX)
    {fUnlinkX : Addr} {fdUnlinkX : FuncData} (FUnlinkX : Fun K "unlink" "Desk.unlink" sUnlinkX fUnlinkX fdUnlinkX) (bUnlinkX : Binds K fdUnlinkX ["self", "one", "other"] []) (hUnlinkX : Meth K C "unlink" fUnlinkX)
    (m_bool : mg "bool" = none) (m_enumerate : mg "enumerate" = none) (m_int : mg "int" = none) (m_isinstance : mg "isinstance" = none) (m_len : mg "len" = none) (m_sorted : mg "sorted" = none) (m_tuple : mg "tuple" = none) : FnOk P w K mg base (L2K.CX P w) (k + 10) f fd ["self", "index", "edit"] (spDoEditX K C CR) := by
  have GPressX : FnOk P w K mg base (L2N.CX P w) (k + 8) fPressX fdPressX ["self", "button"] (spPressX K C CN CS CC) := ok_PressX FPressX T TN TS T_NoChange FBtn bBtn gBtn FPress bPress gPress FChkB bChkB gChkB FFree bFree hFree FRoom bRoom hRoom GShow0 bShow hShow FAdd bAdd hAdd m_bool m_int m_isinstance m_len m_sorted m_tuple
  have GLinkX : FnOk P w K mg base (L2N.CX P w) (k + 9) fLinkX fdLinkX ["self", "one", "other"] (spLinkX K C CN CS CC) := ok_LinkX FLinkX T TN TS T_NoChange FWl bWl gWl FLi bLi gLi FBtn bBtn gBtn FChkB bChkB gChkB FFree bFree hFree FRoom bRoom hRoom FLink0X bLink0X hLink0X GShow0 bShow hShow FAdd bAdd hAdd FChgX bChgX hChgX m_bool m_enumerate m_int m_isinstance m_len m_sorted m_tuple
  have GUnlinkX : FnOk P w K mg base (L2N.CX P w) (k + 9) fUnlinkX fdUnlinkX ["self", "one", "other"] (spUnlinkX K C CN CS CC) := ok_UnlinkX FUnlinkX T TN TS T_NoChange FWl bWl gWl FUn bUn gUn FBtn bBtn gBtn FChkB bChkB gChkB FFree bFree hFree FRoom bRoom hRoom FLink0X bLink0X hLink0X GShow0 bShow hShow FAdd bAdd hAdd FChgX bChgX hChgX m_bool m_enumerate m_int m_isinstance m_len m_tuple
  have GS : FnOk P w K mg base CX0 (k + 1) fIS fdIS ["self", "value"] (spI K CS "value") := ok_initS TS.FI
  refine Pr.Fun.okK F scDoEditX (fun vs H Q E h => ?_) (fun cdv A outer s H vs Q E hr h => ?_)
  · obtain ⟨t, i, pan, st, past, v, d, rfl, _⟩ := h
    rfl
  · obtain ⟨t, i, pan, st, past, v, d, rfl, hD, few, dv, q⟩ := h
    refine ⟨_, pss_one (ps_try_fromK (i := 3) rfl rfl rfl scDoEditX.nd (by rfl) (by rfl) ⟨by rfl, by decide, .inl gT⟩ ⟨by rfl, by decide, .inl TN.g⟩ ⟨by rfl, by decide, .inl TS.g⟩ ⟨by rfl, by decide, .inl T_NoChange.g⟩ (fun hd => L2H.passesAt_of rfl hd) (L2K.takes_of rfl rfl rfl rfl) (fun W pn xe tkN po => pss_one (ps_if (pt_cmpR op_eq (pe_ix (show IxR _ (rIxT K) from ix_tup) (pv 2) pe_int (fun _ _ => rfl)) pe_str (nomark _)) (pss_one (ps_expr (pe_methE (E := fun σ => WE W σ) (pv 0) T.cl hPressX GPressX (hr.mono (by omega)) bPressX (fun σ => L2N.passAt tkN σ) (pa_cons (pe_ix (show IxR _ (rIxT K) from ix_tup) (pv 2) pe_int (fun _ _ => rfl)) pa_nil)))) (pss_one (ps_if (pt_cmpR op_eq (pe_ix (show IxR _ (rIxT K) from ix_tup) (pv 2) pe_int (fun _ _ => rfl)) pe_str (nomark _)) (pss_one (ps_expr (pe_methE (E := fun σ => WE W σ) (pv 0) T.cl hLinkX GLinkX (hr.mono (by omega)) bLinkX (fun σ => L2N.passAt tkN σ) (pa_cons (pe_ix (show IxR _ (rIxT K) from ix_tup) (pv 2) pe_int (fun _ _ => rfl)) (pa_cons (pe_ix (show IxR _ (rIxT K) from ix_tup) (pv 2) pe_int (fun _ _ => rfl)) pa_nil))))) (pss_one (ps_expr (pe_methE (E := fun σ => WE W σ) (pv 0) T.cl hUnlinkX GUnlinkX (hr.mono (by omega)) bUnlinkX (fun σ => L2N.passAt tkN σ) (pa_cons (pe_ix (show IxR _ (rIxT K) from ix_tup) (pv 2) pe_int (fun _ _ => rfl)) (pa_cons (pe_ix (show IxR _ (rIxT K) from ix_tup) (pv 2) pe_int (fun _ _ => rfl)) pa_nil))))))))) (fun a oe cls d pn xe hz hbe hd tkY hot => by
      obtain ⟨vs, hdat⟩ := hd
      exact pss_one (ps_raiseHK (i := 3) (vx := vs) rfl rfl hz.1 hdat (hz.2.2 vs hdat) hbe (by rfl) (.inl rfl) tkY (L2H.pmk5_oexH TR.oex TR.iC TR.tI (ok_initRH (k := k) (C := CR) (K := K) TR.FI) (L2H.roomH_mark (hr.mono (by omega)) _) hot TR.bI pass0 (by rfl) TR.g (pa_cons (pv 1) pa_nil))))), ?_⟩
    rcases q with ⟨pan', f, hE, q⟩ | ⟨a, rfl, a0, a1, q⟩
    · cases hE with
      | press h0 h1 =>
        refine gs_if (gvt_test (K := K) (gv_eqS (gv_ixT (j := 0) (gv_var rfl dv) gv_int rfl rfl) gv_str)) (fun _ H1 s1 => ?_) (fun z => by simp at z)
        have hD1 := hD.same s1
        refine hD1.at fun dx fs e l => ⟨.ref t, rfl, t, dx, fs, rfl, e, l _ (by decide +kernel), ?_⟩
        refine (gv_ixT (K := K) (j := 1) (d := .int _) (gv_var rfl (dv.sm s1)) gv_int rfl rfl).at fun w H2 s2 dw => ?_
        cases dw
        exact ⟨fun _ => False, t, pan, st, past, _, _, rfl, hD1.same s2, few, .int _, fun z => Bool.noConfusion (z.symm.trans (btn_of h0 h1)), fun b eb _ _ H3 k3 hN => by (cases eb; exact q H3 ((ButO.of (s1.trans s2)).trans k3) hN)⟩
      | link h hn =>
        refine gs_if (gvt_test (K := K) (gv_eqS (gv_ixT (j := 0) (gv_var rfl dv) gv_int rfl rfl) gv_str)) (fun z => absurd z (by decide +kernel)) (fun _ H0 s0 => ?_)
        refine gs_if (gvt_test (K := K) (gv_eqS (gv_ixT (j := 0) (gv_var rfl (dv.sm s0)) gv_int rfl rfl) gv_str)) (fun _ H1 s1 => ?_) (fun z => by simp at z)
        have s01 := s0.trans s1
        have hD1 := hD.same s01
        refine hD1.at fun dx fs e l => ⟨.ref t, rfl, t, dx, fs, rfl, e, l _ (by decide +kernel), ?_⟩
        refine gva_at (gva_cons (K := K) (gv_ixT (j := 1) (d := .int _) (gv_var rfl (dv.sm s01)) gv_int rfl rfl) (gva_cons (gv_ixT (j := 2) (d := .int _) (gv_var rfl (dv.sm s01)) gv_int rfl rfl) gva_nil)) fun ws H2 s2 dw => ?_
        obtain ⟨w1, w2, rfl, dw1, dw2⟩ := dpAll2 dw
        cases dw1
        cases dw2
        exact ⟨fun _ => False, t, pan, st, past, _, _, _, _, rfl, hD1.same s2, few, .int _, .int _, fun z => Bool.noConfusion (z.symm.trans (btn_of h.1 h.2.1)), fun _ z => Bool.noConfusion (z.symm.trans (btn_of h.2.2.1 h.2.2.2.1)), fun a e1 e2 => absurd ((PyData.int.inj e1).trans (PyData.int.inj e2).symm) h.2.2.2.2,
          fun a b e1 e2 hI hin => by (cases e1; cases e2; exact absurd (of_decide_eq_true hin) hn),
          fun a b e1 e2 hI _ H3 k3 hN => by (cases e1; cases e2; exact q H3 ((ButO.of (s01.trans s2)).trans k3) hN)⟩
      | unlink h hn =>
        refine gs_if (gvt_test (K := K) (gv_eqS (gv_ixT (j := 0) (gv_var rfl dv) gv_int rfl rfl) gv_str)) (fun z => absurd z (by decide +kernel)) (fun _ H0 s0 => ?_)
        refine gs_if (gvt_test (K := K) (gv_eqS (gv_ixT (j := 0) (gv_var rfl (dv.sm s0)) gv_int rfl rfl) gv_str)) (fun z => absurd z (by decide +kernel)) (fun _ H1 s1 => ?_)
        have s01 := s0.trans s1
        have hD1 := hD.same s01
        refine hD1.at fun dx fs e l => ⟨.ref t, rfl, t, dx, fs, rfl, e, l _ (by decide +kernel), ?_⟩
        refine gva_at (gva_cons (K := K) (gv_ixT (j := 1) (d := .int _) (gv_var rfl (dv.sm s01)) gv_int rfl rfl) (gva_cons (gv_ixT (j := 2) (d := .int _) (gv_var rfl (dv.sm s01)) gv_int rfl rfl) gva_nil)) fun ws H2 s2 dw => ?_
        obtain ⟨w1, w2, rfl, dw1, dw2⟩ := dpAll2 dw
        cases dw1
        cases dw2
        exact ⟨fun _ => False, t, pan, st, past, _, _, _, _, rfl, hD1.same s2, few, .int _, .int _, fun z => Bool.noConfusion (z.symm.trans (btn_of h.1 h.2.1)), fun _ z => Bool.noConfusion (z.symm.trans (btn_of h.2.2.1 h.2.2.2.1)), fun a e1 e2 => absurd ((PyData.int.inj e1).trans (PyData.int.inj e2).symm) h.2.2.2.2,
          fun a b e1 e2 hI hin => by (cases e1; cases e2; exact absurd hn (of_decide_eq_false hin)),
          fun a b e1 e2 hI _ H3 k3 hN => by (cases e1; cases e2; exact q H3 ((ButO.of (s01.trans s2)).trans k3) hN)⟩
    · unfold dLk at dv
      refine gs_if (gvt_test (K := K) (gv_eqS (gv_ixT (j := 0) (gv_var rfl dv) gv_int rfl rfl) gv_str)) (fun z => absurd z (by decide +kernel)) (fun _ H0 s0 => ?_)
      refine gs_if (gvt_test (K := K) (gv_eqS (gv_ixT (j := 0) (gv_var rfl (dv.sm s0)) gv_int rfl rfl) gv_str)) (fun _ H1 s1 => ?_) (fun z => by simp at z)
      have s01 := s0.trans s1
      have hD1 := hD.same s01
      refine hD1.at fun dx fs e l => ⟨.ref t, rfl, t, dx, fs, rfl, e, l _ (by decide +kernel), ?_⟩
      refine gva_at (gva_cons (K := K) (gv_ixT (j := 1) (d := .int _) (gv_var rfl (dv.sm s01)) gv_int rfl rfl) (gva_cons (gv_ixT (j := 2) (d := .int _) (gv_var rfl (dv.sm s01)) gv_int rfl rfl) gva_nil)) fun ws H2 s2 dw => ?_
      obtain ⟨w1, w2, rfl, dw1, dw2⟩ := dpAll2 dw
      cases dw1
      cases dw2
      exact ⟨fun _ => False, t, pan, st, past, _, _, _, _, rfl, hD1.same s2, few, .int _, .int _, fun z => Bool.noConfusion (z.symm.trans (btn_of a0 a1)), fun _ z => Bool.noConfusion (z.symm.trans (btn_of a0 a1)),
        fun a' e1 e2 _ _ H3 dd s3 ed => ⟨xS, TS.oex.exC, fun ad nad => ⟨by rfl, .int i, by rfl, rzF TR fun H4 dd4 s4 ed4 => q H4 dd4 (((s01.trans s2).trans s3).trans s4) ed4⟩⟩,
        fun a' b' e1 e2 hI => absurd ((PyData.int.inj e1).symm.trans (PyData.int.inj e2)) hI.2.2.2.2, fun a' b' e1 e2 hI => absurd ((PyData.int.inj e1).symm.trans (PyData.int.inj e2)) hI.2.2.2.2⟩
end
end K54
namespace Pr
open PySem PySem.Spec PyProof.Rows L2
section
variable {K : PySem.W.Frag} {σ : L2.St} {H : Hp} {d : PyData} {i j : Nat} {S : Addr} {xs : List V} {v : V}
theorem gvt_neE (hi : σ[i]? = some (some (.ref S))) (e : H S = some (.lst xs)) : GvT (tTest (tOp rNeE1 (tVar i) (tLst tNil))) σ H (!xs.isEmpty) := fun H1 s Q q =>
  ⟨.ref S, hi, Nat.zero_le _, fun L nL => ⟨S, L, xs, rfl, rfl, same_new nL _ _ (s _ _ e), upd_same, _, rfl, q _ (same_new nL)⟩⟩
end
end Pr
namespace Pr
open PySem PySem.Spec PyProof.Rows L2 LamX
def LtK (a b : List Int) : Prop := a.length < b.length ∨ (a.length = b.length ∧ a < b)
instance (a b : List Int) : Decidable (LtK a b) := inferInstanceAs (Decidable (_ ∨ _))
theorem LtK.trans {a b c : List Int} (h : LtK a b) (g : LtK b c) : LtK a c := by
  rcases h with h | ⟨e, h⟩ <;> rcases g with g | ⟨e', g⟩
  · exact .inl (Nat.lt_trans h g)
  · exact .inl (e' ▸ h)
  · exact .inl (e ▸ g)
  · exact .inr ⟨e.trans e', List.lt_trans h g⟩
section
variable {X : Cx} {T : List (Addr × Str)} {c P : Addr} {o : Expr} {to : TE} {params : Arguments} {body : Expr} {scope : Scope} {p pos lpos kpos : Pos} {k : Nat}
theorem sqL_extN {K : PySem.W.Frag} {H H' : Hp} {a : Addr} {xs : List V} (e : ExtN H H') (h : SqL K H a xs) : SqL K H' a xs := by
  rcases h with (h | ⟨o, h⟩) | h
  · exact .inl (.inl (e _ _ h (fun _ z => by cases z)))
  · exact .inl (.inr ⟨o, e _ _ h (fun _ z => by cases z)⟩)
  · exact .inr h
theorem sqT_extN {K : PySem.W.Frag} {H H' : Hp} {a : Addr} {xs : List V} (e : ExtN H H') (h : SqT K H a xs) : SqT K H' a xs := by
  rcases h with (h | ⟨o, h⟩) | h
  · exact .inl (.inl (e _ _ h (fun _ z => by cases z)))
  · exact .inl (.inr ⟨o, e _ _ h (fun _ z => by cases z)⟩)
  · exact .inr h
end
theorem Fun.okC {P : Program} {w : World} {K : PySem.W.Frag} {mg : Str → Option Value} {base : Heap} {x qual : Str} {st : Stmt} {f c : Addr} {fd : FuncData} {N ps : List Str} {k : Nat} {sp : Sp} (F : Fun K x qual st f fd) (S : FnScope N ps (defScope st)) (ecd : fd.code = .ref c) (len : ∀ vs H Q E, sp vs H Q E → vs.length = ps.length)
    (hbody : ∀ (A : Around) (outer : List Env) (s : Shared) (H : Hp) (vs : List V) (Q : VK) (E : XK), Room k (A.deeper (envOfC qual (defScope st) s.heap.objs.size f (.ref c))) → sp vs H Q E →
      ∃ t, PSs (cxOf CX0 P w K mg base N qual (defScope st) f (.ref c) A outer s H E).nox (defBody st) t ∧ t { nx := fun _ H' => Q .non H', rt := Q } (start N vs) H) : FnOk P w K mg base CX0 (k + 1) f fd ps sp := by
  obtain ⟨oc, od, kV, doc, pm, an, cdv, ct, osl, rfl, lk, hcd⟩ := F.ex
  obtain rfl : cdv = Value.ref c := ecd
  refine fn_of lk hcd S len fun A outer s H vs Q E hr hsp => ?_
  obtain ⟨t, h, q⟩ := hbody A outer s H vs Q E hr hsp
  exact ⟨t, h.nox, q⟩
mutual
theorem dp_extN {K : PySem.W.Frag} {H H' : Hp} (e : ExtN H H') : ∀ (d : PyData) (v : V), Dp K H v d → Dp K H' v d
  | .none, _, h => by cases h; exact .non
  | .bool b, _, h => by cases h; exact .bl b
  | .int i, _, h => by cases h; exact .int i
  | .str x, _, h => by cases h; exact .str x
  | .list ds, _, h => by cases h with | lst q r => exact .lst (sqL_extN e q) (dpAll_extN e ds _ r)
  | .tuple ds, _, h => by cases h with | tup q r => exact .tup (sqT_extN e q) (dpAll_extN e ds _ r)
  | .dict _, _, h => by cases h
theorem dpAll_extN {K : PySem.W.Frag} {H H' : Hp} (e : ExtN H H') : ∀ (ds : List PyData) (vs : List V), DpAll K H vs ds → DpAll K H' vs ds
  | [], _, h => by cases h; exact .nil
  | d :: r, _, h => by cases h with | cons x y => exact .cons (dp_extN e d _ x) (dpAll_extN e r _ y)
end
theorem extN_same {H H' : Hp} (s : Same H H') : ExtN H H' := .of fun b o e => s b o e
theorem deck_extN {H H' : Hp} {a c : Addr} {m : Nat} (e : ExtN H H') (h : Deck H a c m) : Deck H' a c m := by
  obtain ⟨cs, k, e1, e2, e3⟩ := h
  exact ⟨cs, k, e _ _ e1 (fun _ z => by cases z), e _ _ e2 (fun _ z => by cases z), e3⟩
end Pr
namespace Pr
open PySem PySem.Spec PyProof.Rows L2 LamX NdefX
/-- the lambda F (its words but the body) stands at f, untracked; its cells hold ws; none is a frame -/
structure LamAt (F : NF) (body : Expr) (f : Addr) (fr : List Str) (ws : List (Option V)) (outer : List Env) (s : Shared) (H : Hp) : Prop where
  fn : ∃ pm ctv, s.heap.get? f = some (PySem.W.kla_obj "<lambda>" F.qual F.params body F.scope F.cl pm F.c ctv)
  un : H f = none
  nf : f ∉ frs outer
  cells : CellsAt F.cl fr ws s.heap H
  nc : ∀ y c, F.cl.lookup y = some c → c ∉ frs outer
section
variable {X : Cx} {pins : List (Addr × Obj)} {σ : L2.St} {H : Hp} {s : Shared} {F : NF} {body : Expr} {f : Addr} {fr : List Str} {ws : List (Option V)}
theorem stk_old (I : Inv X pins σ H s) {b : Addr} {o : Obj} (e : X.s_0.heap.get? b = some o) (n : b ∉ X.fs) : b ∉ frs X.stack := fun z => by
  rcases List.mem_cons.mp (I.stkSub b z) with h | h
  · have h1 := Heap.lt_size e
    have h2 := I.ok.above
    rw [h] at h1
    exact Nat.lt_irrefl _ (Nat.lt_of_lt_of_le h1 h2)
  · exact n h
/-- what stood at a def's beginning stands at any place of it, also for what it calls -/
theorem LamAt.later (I : Inv X pins σ H s) (hx : X.ex = []) (L : LamAt F body f fr ws X.outer X.s_0 X.H_0) : LamAt F body f fr ws X.stack s H := by
  obtain ⟨pm, ctv, hf⟩ := L.fn
  have nx : ∀ b, b ∉ X.ex := fun b z => by rw [hx] at z; cases z
  refine ⟨⟨pm, ctv, I.base.keep f _ hf L.un L.nf (nx f)⟩, I.base.free f _ hf L.un (nx f), stk_old I hf L.nf, L.cells.later (fun y c e => L.nc y c e) (fun y c e => nx c) I, fun y c e => ?_⟩
  obtain ⟨n, v, o, ho, hd⟩ := L.cells.all y c e
  exact stk_old I ho (L.nc y c e)
end
structure LOk (P : Program) (w : World) (K : PySem.W.Frag) (mg : Str → Option Value) (base : Heap) (CX : CXT) (k : Nat) (F : NF) (body : Expr) (ps fr : List Str) (sp : List (Option V) → Sp) : Prop where
  len : ∀ ws vs H Q E, sp ws vs H Q E → vs.length = ps.length
  run : ∀ (f : Addr) (A : Around) (outer : List Env) (s : Shared) (H : Hp) (us : List Value) (vs : List V) (ws : List (Option V)) (Q : VK) (E : XK), Room k A → Env0 P w K mg base A outer s H → LamAt F body f fr ws outer s H → H F.c = some (CodeO F.c F.qual) →
    Vals vs us → sp ws vs H Q E → codeAny (model P w) A (.call (.ref f) ⟨us, []⟩) (CR CX outer P w H s Q E) s
section
variable {CX : CXT} {P : Program} {w : World} {K : PySem.W.Frag} {mg : Str → Option Value} {base : Heap} {N ps fr : List Str} {F : NF} {body : Expr} {f : Addr} {k j : Nat} {sp sp' : List (Option V) → Sp}
theorem LOk.mono (o : LOk P w K mg base CX j F body ps fr sp) (h : j ≤ k) : LOk P w K mg base CX k F body ps fr sp := ⟨o.len, fun f A outer s H us vs ws Q E hr => o.run f A outer s H us vs ws Q E (hr.mono h)⟩
theorem lok_of (S : NScope N ps fr F.scope) (hb : ∀ (pm ctv : Value) (us : List Value), us.length = ps.length → bindArgs (PySem.W.kla_fn "<lambda>" F.qual F.params body F.scope F.cl pm (.ref F.c) ctv) ⟨us, []⟩ = pure (ps.zip us)) (len : ∀ ws vs H Q E, sp ws vs H Q E → vs.length = ps.length)
    (hbody : ∀ (f : Addr) (A : Around) (outer : List Env) (s : Shared) (H : Hp) (vs : List V) (ws : List (Option V)) (Q : VK) (E : XK), Room k (A.deeper (envF F f s.heap.objs.size)) → H F.c = some (CodeO F.c F.qual) → ws.length = fr.length → sp ws vs H Q E →
      ∃ t, PE (ncx CX P w K mg base N F f A outer s H E) body t ∧ t (startF N vs ws) H Q) :
    LOk P w K mg base CX (k + 1) F body ps fr sp := by
  refine ⟨len, fun f A outer s H us vs ws Q E hr e0 hL hc r hsp => ?_⟩
  have hl := len _ _ _ _ _ hsp
  have lim : s.heap.NoLimit := e0.mod.nolimit.keeps fun b o e => (e0.bs b o e).1
  obtain ⟨pm, ctv, ho⟩ := hL.fn
  refine PySem.W.kla_callFunE hr.depth ho rfl S.co S.gen rfl (codeO_at e0.hok hc) ?_
  rw [hb pm ctv us (by rw [← r.length]; exact hl)]
  refine wpAny_pure (wpAny_newFunctionEnv S.nocell (fun ⟨n, _⟩ hy => S.par n (List.of_mem_zip hy).1) (fun h₁ hns hsb => ⟨lim.fresh _ hsb, ?_⟩) S.kind)
  show codeAny _ _ (.expr body (envF F f s.heap.objs.size)) _ _
  have kp : ∀ b o, s.heap.get? b = some o → h₁.get? b = some o := fun b o e => hsb.extBut b o (Nat.ne_of_lt (Heap.lt_size e)) (Heap.get?_push_of_some _ e)
  obtain ⟨t, ht, hq⟩ := hbody f A outer s H vs ws Q E (hr.deeper _) hc hL.cells.len hsp
  have I : Inv (ncx CX P w K mg base N F f A outer s H E) [] (startF N vs ws) H { s with heap := h₁, toks := s.toks + (ps.zip us).length } := inv_startN S hr.hd e0 hl r hL.cells hns kp
  refine PySem.W.kla_codeExpr (wpAny_mono (ht.run [] _ (startF N vs ws) H Q I hq) (fun v s' hq => ?_) fun e s' hq => hq)
  obtain ⟨w', H', J', rv, q⟩ := hq
  exact ⟨w', H', J'.os, J'.bare, J'.base, J'.hok, rv, q⟩
end
abbrev SPhi := List Env → Shared → Hp → Prop
structure FnOkS (P : Program) (w : World) (K : PySem.W.Frag) (mg : Str → Option Value) (base : Heap) (CX : CXT) (k : Nat) (f : Addr) (fd : FuncData) (ps : List Str) (Φ : SPhi) (sp : Sp) : Prop where
  len : ∀ vs H Q E, sp vs H Q E → vs.length = ps.length
  run : ∀ (A : Around) (outer : List Env) (s : Shared) (H : Hp) (args : Args) (us : List Value) (vs : List V) (Q : VK) (E : XK), Room k A → Env0 P w K mg base A outer s H → Φ outer s H → BindsTo s fd args (ps.zip us) → Vals vs us → sp vs H Q E →
    codeAny (model P w) A (.call (.ref f) args) (CR CX outer P w H s Q E) s
section
variable {CX : CXT} {P : Program} {w : World} {K : PySem.W.Frag} {mg : Str → Option Value} {base : Heap} {k : Nat} {f : Addr} {sp : Sp} {Φ : SPhi} {N ps : List Str}
theorem fn_ofS {name qual : Str} {params : Arguments} {body : List Stmt} {scope : Scope} {dV kV doc pm cdv ct oc : Value} {an od : Option Addr}
    {osl : Array (Option Value)} (lk : K.lookup f = some ⟨oc, od, .func (PySem.W.fnOf name qual params body scope dV kV doc pm an cdv ct), osl⟩) (hcd : PySem.W.codeIn K cdv qual = true) (S : FnScope N ps scope)
    (len : ∀ vs H Q E, sp vs H Q E → vs.length = ps.length)
    (hbody : ∀ (A : Around) (outer : List Env) (s : Shared) (H : Hp) (vs : List V) (Q : VK) (E : XK), Room k (A.deeper (envOfC qual scope s.heap.objs.size f cdv)) → Φ outer s H → sp vs H Q E →
      ∃ t, PSs (cxOf CX P w K mg base N qual scope f cdv A outer s H E) body t ∧ t { nx := fun _ H' => Q .non H', rt := Q } (L2.start N vs) H) :
    FnOkS P w K mg base CX (k + 1) f (PySem.W.fnOf name qual params body scope dV kV doc pm an cdv ct) ps Φ sp := by
  refine ⟨len, fun A outer s H args us vs Q E hr e0 hΦ hb r hsp => ?_⟩
  have hl := len _ _ _ _ hsp
  refine run_ofS (N := N) (ps := ps) (us := us) (vs := vs) lk hcd S hr e0 hb r hl fun hr' => hbody A outer s H vs Q E hr' hΦ hsp
theorem fun_okS {x qual : Str} {st : Stmt} {fd : FuncData} (F : Fun K x qual st f fd) (S : FnScope N ps (defScope st)) (len : ∀ vs H Q E, sp vs H Q E → vs.length = ps.length)
    (hbody : ∀ (cdv : Value) (A : Around) (outer : List Env) (s : Shared) (H : Hp) (vs : List V) (Q : VK) (E : XK), Room k (A.deeper (envOfC qual (defScope st) s.heap.objs.size f cdv)) → Φ outer s H → sp vs H Q E →
      ∃ t, PSs (cxOf CX P w K mg base N qual (defScope st) f cdv A outer s H E) (defBody st) t ∧ t { nx := fun _ H' => Q .non H', rt := Q } (L2.start N vs) H) : FnOkS P w K mg base CX (k + 1) f fd ps Φ sp := by
  obtain ⟨oc, od, kV, doc, pm, an, cdv, ct, osl, rfl, lk, hcd⟩ := F.ex
  exact fn_ofS lk hcd S len fun A outer s H vs Q E hr hΦ hsp => hbody cdv A outer s H vs Q E hr hΦ hsp
theorem funD_okS {x qual : Str} {params : Arguments} {body : List Stmt} {scope : Scope} {dvs : List V} {kws : List (Str × V)} {fd : FuncData} (F : FunD K x qual params body scope dvs kws f fd) (S : FnScope N ps scope) (len : ∀ vs H Q E, sp vs H Q E → vs.length = ps.length)
    (hbody : ∀ (cdv : Value) (A : Around) (outer : List Env) (s : Shared) (H : Hp) (vs : List V) (Q : VK) (E : XK), Room k (A.deeper (envOfC qual scope s.heap.objs.size f cdv)) → Φ outer s H → sp vs H Q E →
      ∃ t, PSs (cxOf CX P w K mg base N qual scope f cdv A outer s H E) body t ∧ t { nx := fun _ H' => Q .non H', rt := Q } (L2.start N vs) H) : FnOkS P w K mg base CX (k + 1) f fd ps Φ sp := by
  obtain ⟨oc, od, dV, kV, doc, pm, an, cdv, ct, osl, rfl, lk, hcd, _, _⟩ := F.ex
  exact fn_ofS lk hcd S len fun A outer s H vs Q E hr hΦ hsp => hbody cdv A outer s H vs Q E hr hΦ hsp
theorem FnOkS.mono {j : Nat} {fd : FuncData} (F : FnOkS P w K mg base CX j f fd ps Φ sp) (h : j ≤ k) : FnOkS P w K mg base CX k f fd ps Φ sp := ⟨F.len, fun A outer s H args us vs Q E hr => F.run A outer s H args us vs Q E (hr.mono h)⟩
end
section
variable {X : Cx} {CX : CXT} {pins : List (Addr × Obj)} {σ : L2.St} {H : Hp} {s : Shared} {Q : VK} {k n : Nat} {f C : Addr} {fd : FuncData} {ps ks : List Str} {sp : Sp} {Φ : SPhi} {E : XK} {us zs : List Value} {vs ws : List V}
theorem run_fnS (F : FnOkS X.prog X.w X.K X.mg X.base CX k f fd ps Φ sp) (hr : Room k X.A) (hb : Binds X.K fd ps []) (hx : Passes CX X E) (I : Inv X pins σ H s) (hΦ : Φ X.stack s H) (r : Vals vs us) (q : sp vs H Q E) :
    wpAny (model X.prog X.w) X.A (call (.ref f) us) (EP X pins σ Q) X.xe s := by
  have hl : us.length = ps.length := by rw [← r.length]; exact F.len _ _ _ _ q
  refine wpAny_call (codeAny_mono (F.run X.A X.stack s H ⟨us, []⟩ us vs Q E hr I.env0 hΦ (by have := hb s us I.kIn (by simpa using hl); simpa using this) r q) fun r s' hq => ?_)
  cases r with
  | error e => exact hx pins σ H s e s' I hq
  | ok fl =>
    cases fl with
    | ret u => exact I.after hq
    | next => exact False.elim hq
    | brk => exact False.elim hq
    | cont => exact False.elim hq
end
section
variable {X : Cx} {CX : CXT} {k n : Nat} {f C : Addr} {fd : FuncData} {ps ks : List Str} {sp : Sp} {Φ : SPhi} {E : XK} {m : Str} {p pos apos : Pos} {e o : Expr} {es : List Expr} {ta : TE} {t : TA}
/-- o.m(e, ..): the method asks something of the state -/
theorem pe_methS {pl : Sem Bool} (he : PE X o ta) (c : Cls X.K C) (hm : Meth X.K C m f) (F : FnOkS X.prog X.w X.K X.mg X.base CX k f fd ps Φ sp) (hr : Room k X.A) (hb : Binds X.K fd ps []) (hx : Passes CX X E) (hΦ : ∀ pins σ H s, Inv X pins σ H s → Φ X.stack s H) (ha : PA X (e :: es) t)
    (hst : starEach (e :: es) X.env = (false, eval e X.env) :: starEach es X.env := by rfl) (hpl : (backTo pos (starEach es X.env)).any (·.1) = false := by rfl)
    (ht : eval (.Call (.Attribute o m apos) (e :: es) [] pos) X.env = (do
      let ov ← eval o X.env
      standAt apos.atName
      let (f, first) ← holding [ov] (getMethod ov m pl)
      callWith pos f first (backTo pos (starEach (e :: es) X.env)) (backToKw pos (keywordEach [] X.env))) := by rfl) :
    PE X (.Call (.Attribute o m apos) (e :: es) [] pos) (tMeth C m sp [] E ta t) := by
  refine ⟨fun pins s σ H Q I h => ?_⟩
  refine PySem.W.methodCall_KW (pl := pl) (thn (he.run pins s σ H _ I h) fun u s1 ⟨x, H1, I1, rx, a, dx, fs, ex, ea, l, q⟩ => ?_) ht
  subst ex
  obtain rfl : u = Value.ref a := rx
  refine getmeth_ok I1 ea c hm l ?_
  refine PySem.W.callWith_K (first := [.ref a]) (h₀ := X.base) I.ok.mod.kin hm.kp (thn (ha.run pos pins s1 σ H1 _ I1 q) fun us s2 ⟨vs, H2, I2, r, q2⟩ => ⟨I2.kIn, ?_⟩) hst hpl
  exact run_fnS (us := .ref a :: us) (vs := .ref a :: vs) F hr hb hx I2 (hΦ _ _ _ _ I2) (.cons rfl r) (by simpa using q2)
/-- x(e, ..), x a name that holds a lambda -/
def tCallL (F : NF) (f : Addr) (i : Nat) (ws : List (Option V)) (sp : List (Option V) → Sp) (E : XK) (t : TA) : TE := fun σ H Q => σ[i]? = some (some (.ref f)) ∧ t σ H fun vs H1 => H1 F.c = some (CodeO F.c F.qual) ∧ sp ws vs H1 Q E
theorem pe_callL1 {F : NF} {body : Expr} {fr : List Str} {ws : List (Option V)} {spw : List (Option V) → Sp} {i j : Nat} {x : Str} (Fn : LOk X.prog X.w X.K X.mg X.base CX k F body ps fr spw) (hr : Room j X.A) (hk : k ≤ j) (hx : Passes CX X E) (hΦ : ∀ pins σ H s, Inv X pins σ H s → LamAt F body f fr ws X.stack s H)
    (hN : X.N[i]? = some x) (hv : Vis X.env.scope x) (ha : PA X (e :: es) t)
    (hd : (x == ("__debug__" : Str)) = false := by decide) (hcd : (x == ("__classdict__" : Str)) = false := by decide)
    (he : starEach (e :: es) X.env = (false, eval e X.env) :: starEach es X.env := by rfl) (hpl : (backTo pos (starEach es X.env)).any (·.1) = false := by rfl) :
    PE X (.Call (.Name x p) (e :: es) [] pos) (tCallL F f i ws spw E t) := by
  refine ⟨fun pins s σ H Q I h => ?_⟩
  obtain ⟨hs, ht⟩ := h
  refine wpAny_Call_Name_kw (thn ((pe_var (pos := p) hN hv hd hcd).run pins s σ H (fun v H1 => v = .ref f ∧ H1 = H) I ⟨.ref f, hs, rfl, rfl⟩) fun u s1 ⟨v, H1, I1, r1, q1⟩ => ?_)
  obtain ⟨ev, eH⟩ := q1
  subst ev
  rw [eH] at I1
  obtain rfl : u = Value.ref f := r1
  have fnAt : ∀ {σ : L2.St} {H : Hp} {s : Shared}, Inv X pins σ H s → PySem.W.FnAt f s.heap := fun I => by
    obtain ⟨pm, ctv, ho⟩ := (hΦ _ _ _ _ I).fn
    exact ⟨_, _, _, _, ho⟩
  refine PySem.W.callWith_F (first := []) (fnAt I1) (thn (ha.run pos pins s1 σ H _ I1 ht) fun us s2 ⟨vs, H2, I2, r, h2, q⟩ => ⟨fnAt I2, ?_⟩) he hpl
  show wpAny _ _ (call (.ref f) us) _ _ _
  refine wpAny_call (codeAny_mono (Fn.run f X.A X.stack s2 H2 us vs ws Q E (hr.mono hk) I2.env0 (hΦ _ _ _ _ I2) h2 r q) fun r s' hq => ?_)
  cases r with
  | error e => exact hx pins σ H2 s2 e s' I2 hq
  | ok fl =>
    cases fl with
    | ret u => exact I2.after hq
    | next => exact False.elim hq
    | brk => exact False.elim hq
    | cont => exact False.elim hq
end
end Pr
namespace Pr
open PySem PySem.Spec PyProof.Rows L2 LamX NdefX
abbrev lamF (X : Cx) (params : Arguments) (scope : Scope) (c' : Addr) : NF := ⟨"<lambda>", X.env.qual ++ "<lambda>", params, [], scope, cloFrom X.env.cells scope.names [], c'⟩
section
variable {X : Cx} {pins : List (Addr × Obj)} {σ : L2.St} {H : Hp} {s : Shared}
theorem frs_cell (I : Inv X pins σ H s) (hfn : ∀ y, X.fn y = true) {y : Str} {c : Addr} (e : X.env.cells.lookup y = some c) : c ∉ frs X.stack := fun z => by
  rcases List.mem_cons.mp (I.stkSub c z) with h | h
  · obtain ⟨v, o, ho, hd⟩ := I.cell y c e
    obtain ⟨m, ⟨o2, es, ep, ho2, hd2, _⟩, _⟩ := I.loc
    rw [h, ho2] at ho
    cases ho
    rw [hd2] at hd
    cases hd
  · obtain ⟨_, o, ho, _⟩ := I.ok.funs.mem h
    exact Nat.lt_irrefl _ (Nat.lt_of_lt_of_le (Heap.lt_size ho) (I.ok.cab y c (hfn y) e))
end
end Pr
namespace Pr
open PySem PySem.Spec PyProof.Rows L2
section
variable {X : Cx} {CX : CXT} {k : Nat} {f C : Addr} {fd : FuncData} {ps : List Str} {sp : Sp} {Φ : SPhi} {E : L2.St → XK} {m : Str} {pos apos : Pos} {e o : Expr} {es : List Expr} {ta : TE} {t : TA}
theorem pe_methSE {pl : Sem Bool} (he : PE X o ta) (c : Cls X.K C) (hm : Meth X.K C m f) (F : FnOkS X.prog X.w X.K X.mg X.base CX k f fd ps Φ sp) (hr : Room k X.A) (hb : Binds X.K fd ps []) (hx : ∀ σ, PassesAt CX X σ (E σ)) (hΦ : ∀ pins σ H s, Inv X pins σ H s → Φ X.stack s H) (ha : PA X (e :: es) t)
    (hst : starEach (e :: es) X.env = (false, eval e X.env) :: starEach es X.env := by rfl) (hpl : (backTo pos (starEach es X.env)).any (·.1) = false := by rfl)
    (ht : eval (.Call (.Attribute o m apos) (e :: es) [] pos) X.env = (eval o X.env >>= fun ov => standAt apos.atName >>= fun _ => holding [ov] (getMethod ov m pl) >>= fun p => callWith pos p.1 p.2 (backTo pos (starEach (e :: es) X.env)) (backToKw pos (keywordEach [] X.env))) := by rfl) :
    PE X (.Call (.Attribute o m apos) (e :: es) [] pos) (tMethS' C m sp E ta t) := by
  refine ⟨fun pins s σ H Q J h => PySem.W.methodCall_KW (pl := pl) (thn (he.run pins s σ H _ J h) fun u s1 ⟨x, H1, J1, rx, a, dx, fs, ex, ea, lk, q⟩ => ?_) ht⟩
  cases ex
  obtain rfl : u = Value.ref a := rx
  refine getmeth_ok J1 ea c hm lk ?_
  refine PySem.W.callWith_K (first := [.ref a]) (h₀ := X.base) J.ok.mod.kin hm.kp (thn (ha.run pos pins s1 σ H1 _ J1 q) fun us s2 ⟨vs, H2, J2, r, q2⟩ => ⟨J2.kIn, ?_⟩) hst hpl
  have r2 : Vals (.ref a :: vs) (.ref a :: us) := .cons rfl r
  have hl : (Value.ref a :: us).length = ps.length := by rw [← r2.length]; exact F.len _ _ _ _ q2
  show wpAny _ _ (call (.ref f) (.ref a :: us)) _ _ _
  refine wpAny_call (codeAny_mono (F.run X.A X.stack s2 H2 ⟨.ref a :: us, []⟩ (.ref a :: us) _ _ _ hr J2.env0 (hΦ _ _ _ _ J2) (by have := hb s2 (.ref a :: us) J2.kIn (by simpa using hl); simpa using this) r2 q2) fun rs s' hq => ?_)
  cases rs with
  | error er => exact hx σ pins H2 s2 er s' J2 hq
  | ok fl =>
    cases fl with
    | ret u => exact J2.after hq
    | next => exact False.elim hq
    | brk => exact False.elim hq
    | cont => exact False.elim hq
end
end Pr
namespace K54
open PySem PySem.Spec PyProof.Rows L2 Pr
open NdefX LamX
abbrev sAccBy : Stmt := inClass (topS 50) 15
def rBoolB : List V → Hp → VK → Prop := fun xs H Q => ∃ k, xs = [.bl k] ∧ Q (.bl k) H
theorem cr_boolB {X : Cx} : CallR X (.type "bool") rBoolB := fun pins s σ H xs us Q I rv h => call_bool1 pins s σ H xs us Q I rv (.inr h)
def fldsW (pa p l h kn : Addr) : List (Str × V) := [("past", V.ref pa), ("watched", V.bl true), ("panel", V.ref p), ("latched", V.ref l), ("held", V.ref h), ("known", V.ref kn)]
theorem put_w1 (pa p l h kn : Addr) : putF "watched" (.bl true) (fldsD pa p l h kn) = fldsW pa p l h kn := by rfl
theorem put_w0 (pa p l h kn : Addr) : putF "watched" (.bl false) (fldsW pa p l h kn) = fldsD pa p l h kn := by rfl
/-- what the lambda promises is the more the less is wished -/
def MonoL (ws : List (Option V)) (wsp : List (Option V) → Sp) : Prop := ∀ vs H (Q Q' : VK), (∀ v H', Q v H' → Q' v H') → wsp ws vs H Q E0 → wsp ws vs H Q' E0
/-- the code object of the lambda F -/
abbrev CoAt (F : NF) (H : Hp) : Prop := H F.c = some (CodeO F.c F.qual)
theorem CoAt.ne {F : NF} {H : Hp} {C t dx : Addr} {fs : List (Str × V)} (h : CoAt F H) (e : H t = some (.ins C dx fs)) : F.c ≠ t := ne_of h e (by intro z; unfold CodeO at z; cases z)
theorem CoAt.butO {F : NF} {H H' : Hp} {C t dx : Addr} {fs : List (Str × V)} (h : CoAt F H) (e : H t = some (.ins C dx fs)) (b : ButO t H H') : CoAt F H' := b _ _ (h.ne e) h
theorem CoAt.same {F : NF} {H H' : Hp} (h : CoAt F H) (s : Same H H') : CoAt F H' := s _ _ h
def nAccBy : List Str := ["self", "watch"]
theorem scAccBy : FnScope nAccBy ["self", "watch"] (defScope sAccBy) := ⟨rfl, rfl, rfl, by decide +kernel, rfl, by decide +kernel, by decide +kernel⟩
section
variable {P : Program} {w : World} {K : PySem.W.Frag} {mg : Str → Option Value} {base : Heap}
def spAcc (C : Addr) (F : NF) (f : Addr) (ws : List (Option V)) (wsp : List (Option V) → Sp) : Sp := fun vs H Q _ => ∃ (t pa p l hh kn dx : Addr), vs = [.ref t, .ref f] ∧ H t = some (.ins C dx (fldsD pa p l hh kn)) ∧ CoAt F H ∧
  wsp ws [.ref t] (upd H t (.ins C dx (fldsW pa p l hh kn))) (fun v H2 => ∃ b, v = .bl b ∧ H2 t = some (.ins C dx (fldsW pa p l hh kn)) ∧ Q (.bl b) (upd H2 t (.ins C dx (fldsD pa p l hh kn)))) E0
theorem ok_AccBy {C f fl : Addr} {fd : FuncData} {k : Nat} {Fl : NF} {body : Expr} {fr : List Str} {ws : List (Option V)} {wsp : List (Option V) → Sp} (F : Fun K "accepted_by" "Desk.accepted_by" sAccBy f fd) (T : TxtD K mg C) (LK : LOk P w K mg base CX0 k Fl body ["_law_one"] fr wsp) (MW : MonoL ws wsp) (m_bool : mg "bool" = none) :
    FnOkS P w K mg base CX0 (k + 1) f fd ["self", "watch"] (LamAt Fl body fl fr ws) (spAcc C Fl fl ws wsp) := by
  refine fun_okS F scAccBy (fun vs H Q E h => ?_) (fun cdv A outer s H vs Q E hr hΦ h => ?_)
  · obtain ⟨t, pa, p, l, hh, kn, dx, rfl, _⟩ := h
    rfl
  · obtain ⟨t, pa, p, l, hh, kn, dx, rfl, e, hc, q⟩ := h
    refine ⟨_, pss_cons (ps_fld (pv 0) pe_bl rfl)
      (pss_one (ps_retFin (pe_callTy (show CallR _ _ rBoolB from cr_boolB) (by rfl) m_bool (by decide +kernel) (pa_cons (pe_callL1 (x := "watch") (i := 1) LK hr (Nat.le_refl _) pass0 (fun _ _ _ _ I => hΦ.later I rfl) rfl (.inl rfl) (pa_cons (pv 0) pa_nil)) pa_nil)) (pss_one (ps_fld (pv 0) pe_bl rfl)))), ?_⟩
    refine ⟨.ref t, rfl, t, C, dx, _, rfl, e, T.cl, T.nW, by show 6 < 1000; decide, ?_⟩
    rw [put_w1]
    have hc1 : CoAt Fl (upd H t (.ins C dx (fldsW pa p l hh kn))) := by unfold CoAt; rw [upd_ne (hc.ne e)]; exact hc
    refine ⟨rfl, .ref t, rfl, hc1, MW _ _ _ _ (fun v H2 ⟨b, ev, e2, q2⟩ => ?_) q⟩
    subst ev
    refine ⟨b, rfl, .ref t, rfl, t, C, dx, _, rfl, e2, T.cl, T.nW, by show 6 < 1000; decide, ?_⟩
    rw [put_w0]
    exact q2
end
end K54
namespace K54
open PySem PySem.Spec PyProof.Rows L2 Pr
open NdefX LamX
theorem Ed.det {pan p p' : List (List Int)} {d : PyData} {f f' : List Int → List Int} (h : Ed pan d p f) (h' : Ed pan d p' f') : p = p' ∧ f = f' := by
  have hx : ∀ {d d' : PyData}, Ed pan d p f → Ed pan d' p' f' → d = d' → p = p' ∧ f = f' := by
    intro d d' h h' e
    have ne : ∀ {a b : Str} {x y : List PyData}, a ≠ b → PyData.tuple (.str a :: x) = .tuple (.str b :: y) → False := fun n z => by
      injection z with z
      injection z with z _
      injection z with z
      exact n z
    cases h with
    | press _ _ =>
      cases h' with
      | press _ _ =>
        injection e with e
        injection e with _ e
        injection e with e _
        injection e with e
        subst e
        exact ⟨rfl, rfl⟩
      | link _ _ => exact (ne (by decide +kernel) e).elim
      | unlink _ _ => exact (ne (by decide +kernel) e).elim
    | link _ _ =>
      cases h' with
      | press _ _ => exact (ne (by decide +kernel) e).elim
      | link _ _ =>
        unfold dLk at e
        injection e with e
        injection e with _ e
        injection e with e1 e
        injection e with e2 _
        injection e1 with e1
        injection e2 with e2
        subst e1 e2
        exact ⟨rfl, rfl⟩
      | unlink _ _ => exact (ne (by decide +kernel) e).elim
    | unlink _ _ =>
      cases h' with
      | press _ _ => exact (ne (by decide +kernel) e).elim
      | link _ _ => exact (ne (by decide +kernel) e).elim
      | unlink _ _ =>
        unfold dLk at e
        injection e with e
        injection e with _ e
        injection e with e1 e
        injection e with e2 _
        injection e1 with e1
        injection e2 with e2
        subst e1 e2
        exact ⟨rfl, rfl⟩
  exact hx h h' rfl
theorem Eds.det {pan p p' : List (List Int)} {st s s' : List Int} {ds : List PyData} {xs xs' : List (PyData × List (List Int) × List Int)} (h : Eds pan st ds p s xs) (h' : Eds pan st ds p' s' xs') : p = p' ∧ s = s' ∧ xs = xs' := by
  induction h generalizing p' s' xs' with
  | nil => cases h'; exact ⟨rfl, rfl, rfl⟩
  | cons h t ih =>
    cases h' with
    | cons h2 t2 =>
      obtain ⟨rfl, rfl⟩ := h.det h2
      obtain ⟨rfl, rfl, rfl⟩ := ih t2
      exact ⟨rfl, rfl, rfl⟩
theorem Eds.snoc {pan p p1 : List (List Int)} {st s : List Int} {ds : List PyData} {d : PyData} {f : List Int → List Int} {xs : List (PyData × List (List Int) × List Int)} (h : Eds pan st ds p s xs) (e : Ed p d p1 f) : Eds pan st (ds ++ [d]) p1 (f s) (xs ++ [(d, p, s)]) := by
  induction h with
  | nil => exact .cons e .nil
  | cons h t ih => exact .cons h (ih e)
/-- a desk while a watch runs -/
structure DeskWAt (K : PySem.W.Frag) (C : Addr) (H : Hp) (t : Addr) (pan : List (List Int)) (st : List Int) (past : List (PyData × List (List Int) × List Int)) : Prop where
  ob : ∃ dx pa p l h hs kn, H t = some (.ins C dx (fldsW pa p l h kn)) ∧ PastAt K H pa past ∧ PanT K H p pan ∧ H l = some (.tup (st.map V.int)) ∧ SqT K H h (hs.map V.int) ∧ IsHeld pan st hs
  good : Good pan
  asc : Asc pan.length st
  lfe : ∀ x ∈ past, lf x.1 = true ∧ Good x.2.1 ∧ Asc x.2.1.length x.2.2
/-- what the lambda says of a desk, while WH holds -/
structure WSay (K : PySem.W.Frag) (C t : Addr) (F : NF) (ws : List (Option V)) (wsp : List (Option V) → Sp) (WH : Hp → Prop) (wb : List (List Int) → List Int → Nat → Bool) : Prop where
  say : ∀ H pan st past (Q : VK), DeskWAt K C H t pan st past → past.length ≤ 60 → WH H → CoAt F H → (∀ H', Same H H' → Q (.bl (wb pan st past.length)) H') → wsp ws [.ref t] H Q E0
  keep : ∀ H H' dx fs, H t = some (.ins C dx fs) → ButO t H H' → WH H → WH H'
/-- the edits are done until the watch accepts -/
structure Done (wb : List (List Int) → List Int → Nat → Bool) (pan : List (List Int)) (st : List Int) (ds : List PyData) (xs : List (PyData × List (List Int) × List Int)) (m k : Nat) (pk : List (List Int)) (sk : List Int) : Prop where
  le : k ≤ ds.length
  at_ : Eds pan st (ds.take k) pk sk (xs.take k)
  stop : k = ds.length ∨ (1 ≤ k ∧ wb pk sk (m + k) = true)
  go : ∀ i pi si, 1 ≤ i → i < k → Eds pan st (ds.take i) pi si (xs.take i) → wb pi si (m + i) = false
theorem notN_ref {f : Addr} : V.bl (!decide (V.ref f = V.non)) = V.bl true := congrArg V.bl (by rw [decide_eq_false (by intro z; cases z)]; rfl)
def nDoBatchX : List Str := ["self", "batch", "watch", "index", "edit"]
theorem scDoBatchX : FnScope nDoBatchX ["self", "batch", "watch"] (defScope sDoBatch) := ⟨rfl, rfl, rfl, by decide +kernel, rfl, by decide +kernel, by decide +kernel⟩
section
variable {P : Program} {w : World} {K : PySem.W.Frag} {mg : Str → Option Value} {base : Heap}
def spDoBatchWX (K : PySem.W.Frag) (C CR : Addr) (F : NF) (f : Addr) (ws : List (Option V)) (wsp : List (Option V) → Sp) : Sp := fun vs H Q E => ∃ (t : Addr) (pan : List (List Int)) (st : List Int) (past xs : List (PyData × List (List Int) × List Int)) (v : V) (ds : List PyData) (WH : Hp → Prop) (wb : List (List Int) → List Int → Nat → Bool), vs = [.ref t, v, .ref f] ∧ DeskAt K C H t pan st past ∧ past.length + ds.length ≤ 60 ∧ Dp K H v (.tuple ds) ∧ WSay K C t F ws wsp WH wb ∧ WH H ∧ CoAt F H ∧
  ((∃ pan' st', Eds pan st ds pan' st' xs ∧ ∀ H' k pk sk, ButO t H H' → Done wb pan st ds xs past.length k pk sk → DeskAt K C H' t pk sk (past ++ xs.take k) → Q (.int (k : Nat)) H') ∨
   (∃ (gs : List PyData) (a : Int), ds = gs ++ [dLk "link" a a] ∧ ∃ pan' st', Eds pan st gs pan' st' xs ∧ 0 ≤ a ∧ a < (pan'.length : Int) ∧ (∀ i pi si, 1 ≤ i → i ≤ gs.length → Eds pan st (gs.take i) pi si (xs.take i) → wb pi si (past.length + i) = false) ∧
     ∀ H' dd, ButO t H H' → DeskAt K C H' t pan' st' (past ++ xs) → H' dd = some (.xd [("index", .int (gs.length : Nat))]) → E (.ref CR) (some dd) H'))
theorem ok_DoBatchWX {fWl : Addr} {fdWl : FuncData} {fLi : Addr} {fdLi : FuncData} {fUn : Addr} {fdUn : FuncData} {fBtn : Addr} {fdBtn : FuncData} {fPress : Addr} {fdPress : FuncData} {fChkB : Addr} {fdChkB : FuncData} {C f : Addr} {fd : FuncData} {k : Nat} {CN CS CC fIN fIS : Addr} {fdIN fdIS : FuncData} {CT CR fIR : Addr} {fdIR : FuncData} (F : Fun K "do_batch" "Desk.do_batch" sDoBatch f fd) (T : TxtD K mg C) (TN : ExL K mg "NoButton" "value" "NoButton.__init__" sInitN CN fIN fdIN) (TS : ExF K mg "SameButton" "value" "SameButton.__init__" sInitS CS fIS fdIS) (T_NoChange : Ex0 K mg "NoChange" CC) (TR : ExF K mg "Rejected" "index" "Rejected.__init__" sInitR CR fIR fdIR) (gT : mg "TooManyEdits" = some (.ref CT)) (xS : PySem.W.exmAny K (.ref CS) [.ref CT, .ref CN, .ref CS, .ref CC] = some true)
    (FWl : Fun K "with_list" "with_list" sWl fWl fdWl) (bWl : Binds K fdWl ["panel", "button", "released"] []) (gWl : mg "with_list" = some (.ref fWl))
    (FLi : Fun K "linked" "linked" sLi fLi fdLi) (bLi : Binds K fdLi ["panel", "one", "other"] []) (gLi : mg "linked" = some (.ref fLi))
    (FUn : Fun K "unlinked" "unlinked" sUn fUn fdUn) (bUn : Binds K fdUn ["panel", "one", "other"] []) (gUn : mg "unlinked" = some (.ref fUn))
    (FBtn : Fun K "is_button" "is_button" sBtn fBtn fdBtn) (bBtn : Binds K fdBtn ["value", "many"] []) (gBtn : mg "is_button" = some (.ref fBtn))
    (FPress : Fun K "press_button" "press_button" sPress fPress fdPress) (bPress : Binds K fdPress ["panel", "state", "button"] []) (gPress : mg "press_button" = some (.ref fPress))
    (FChkB : Fun K "check_button" "check_button" sChkB fChkB fdChkB) (bChkB : Binds K fdChkB ["panel", "value"] []) (gChkB : mg "check_button" = some (.ref fChkB))
    {fFree : Addr} {fdFree : FuncData} (FFree : Fun K "check_free" "Desk.check_free" sFree fFree fdFree) (bFree : Binds K fdFree ["self"] []) (hFree : Meth K C "check_free" fFree)
    {fRoom : Addr} {fdRoom : FuncData} (FRoom : Fun K "check_room" "Desk.check_room" sRoom fRoom fdRoom) (bRoom : Binds K fdRoom ["self"] []) (hRoom : Meth K C "check_room" fRoom)
    {fShow : Addr} {fdShow : FuncData} (GShow0 : ∀ k0 : Nat, FnOk P w K mg base CX0 (k0 + 6) fShow fdShow ["self", "panel", "latched"] (spShow K C)) (bShow : Binds K fdShow ["self", "panel", "latched"] []) (hShow : Meth K C "show" fShow)
    {fAdd : Addr} {fdAdd : FuncData} (FAdd : Fun K "add_edit" "Desk.add_edit" sAdd fAdd fdAdd) (bAdd : Binds K fdAdd ["self", "edit", "panel", "latched"] []) (hAdd : Meth K C "add_edit" fAdd)
    {fPressX : Addr} {fdPressX : FuncData} (FPressX : Fun K "press" "Desk.press" sPressX fPressX fdPressX) (bPressX : Binds K fdPressX ["self", "button"] []) (hPressX : Meth K C "press" fPressX)
    {fLink0X : Addr} {fdLink0X : FuncData} (FLink0X : Fun K "check_link" "Desk.check_link" sLink0X fLink0X fdLink0X) (bLink0X : Binds K fdLink0X ["self", "one", "other"] []) (hLink0X : Meth K C "check_link" fLink0X)
    {fChgX : Addr} {fdChgX : FuncData} (FChgX : Fun K "change_panel" "Desk.change_panel" sChgX fChgX fdChgX) (bChgX : Binds K fdChgX ["self", "edit", "panel"] []) (hChgX : Meth K C "change_panel" fChgX)
    {fLinkX : Addr} {fdLinkX : FuncData} (FLinkX : Fun K "link" "Desk.link" sLinkX fLinkX fdLinkX) (bLinkX : Binds K fdLinkX ["self", "one", "other"] []) (hLinkX : Meth K C "link" fLinkX)
    {fUnlinkX : Addr} {fdUnlinkX : FuncData} (FUnlinkX : Fun K "unlink" "Desk.unlink" sUnlinkX fUnlinkX fdUnlinkX) (bUnlinkX : Binds K fdUnlinkX ["self", "one", "other"] []) (hUnlinkX : Meth K C "unlink" fUnlinkX)
    {fDoEditX : Addr} {fdDoEditX : FuncData} (FDoEditX : Fun K "do_edit" "Desk.do_edit" sDoEditX fDoEditX fdDoEditX) (bDoEditX : Binds K fdDoEditX ["self", "index", "edit"] []) (hDoEditX : Meth K C "do_edit" fDoEditX)
    {fAccBy : Addr} {fdAccBy : FuncData} (FAccBy : Fun K "accepted_by" "Desk.accepted_by" sAccBy fAccBy fdAccBy) (bAccBy : Binds K fdAccBy ["self", "watch"] []) (hAccBy : Meth K C "accepted_by" fAccBy)
    (m_bool : mg "bool" = none) (m_enumerate : mg "enumerate" = none) (m_int : mg "int" = none) (m_isinstance : mg "isinstance" = none) (m_len : mg "len" = none) (m_sorted : mg "sorted" = none) (m_tuple : mg "tuple" = none) {fl : Addr} {Fl : NF} {body : Expr} {fr : List Str} {ws : List (Option V)} {wsp : List (Option V) → Sp} (LK : LOk P w K mg base CX0 (k + 9) Fl body ["_law_one"] fr wsp) (MW : MonoL ws wsp) : FnOkS P w K mg base (L2K.CX P w) (k + 11) f fd ["self", "batch", "watch"] (LamAt Fl body fl fr ws) (spDoBatchWX K C CR Fl fl ws wsp) := by
  have GDoEditX : FnOk P w K mg base (L2K.CX P w) (k + 10) fDoEditX fdDoEditX ["self", "index", "edit"] (spDoEditX K C CR) := ok_DoEditX FDoEditX T TN TS T_NoChange TR gT xS FWl bWl gWl FLi bLi gLi FUn bUn gUn FBtn bBtn gBtn FPress bPress gPress FChkB bChkB gChkB FFree bFree hFree FRoom bRoom hRoom GShow0 bShow hShow FAdd bAdd hAdd FPressX bPressX hPressX FLink0X bLink0X hLink0X FChgX bChgX hChgX FLinkX bLinkX hLinkX FUnlinkX bUnlinkX hUnlinkX m_bool m_enumerate m_int m_isinstance m_len m_sorted m_tuple
  have GAccBy : FnOkS P w K mg base CX0 (k + 10) fAccBy fdAccBy ["self", "watch"] (LamAt Fl body fl fr ws) (spAcc C Fl fl ws wsp) := ok_AccBy FAccBy T LK MW m_bool
  refine fun_okS F scDoBatchX (fun vs H Q E h => ?_) (fun cdv A outer s H vs Q E hr hΦ h => ?_)
  · obtain ⟨t, pan, st, past, xs, v, ds, WH, wb, rfl, _⟩ := h
    rfl
  · obtain ⟨t, pan, st, past, xs, v, ds, WH, wb, rfl, hD, few, dv, W, hw, hc, q⟩ := h
    refine ⟨_, pss_cons (ps_for (passes_of rfl) rfl (pi_enumT (by rfl) m_enumerate (pa_cons (pv 1) pa_nil)) (pg_tup rfl (pgs_cons (pg_name (i := 3) scDoBatchX.nd rfl (Or.inl rfl)) (pgs_cons (pg_name (i := 4) scDoBatchX.nd rfl (Or.inl rfl)) pgs_nil))) (pss_cons (ps_expr (pe_methE (E := fun _ => E) (pv 0) T.cl hDoEditX GDoEditX (hr.mono (by omega)) bDoEditX (fun σ => L2K.passAt (W := fun cls d _ H => E cls d H) (L2K.takes_of rfl rfl rfl rfl) σ) (pa_cons (pv 3) (pa_cons (pv 4) pa_nil))))
      (pss_one (ps_if (PW.pt (pw_and (pt_cmpR op_notN (pv 2) pe_non (by rfl)) (pw_and1 (pt_val (pe_methS (pv 0) T.cl hAccBy GAccBy (hr.mono (by omega)) bAccBy pass0 (fun _ _ _ _ I => hΦ.later I rfl) (pa_cons (pv 2) pa_nil)))))) (pss_one (ps_ret (pe_op op_add (pv 3) pe_int))) pss_nil))))
      (pss_one (ps_ret (pe_callB (show CallR _ _ (rLenG K) from cr_lenG) (by rfl) m_len PySem.boot_len (pa_cons (pv 1) pa_nil)))), ?_⟩
    rcases q with ⟨pan', st', hE, q⟩ | ⟨gs, a, eds, pan', st', q⟩
    · skip
      have hxl := hE.len
      refine gs_seqJ (J := fun σ' H' => ButO t H H' ∧ (∃ pk sk, DeskAt K C H' t pk sk (past ++ xs) ∧ Eds pan st ds pk sk xs) ∧ (∀ i pi si, 1 ≤ i → i ≤ ds.length → Eds pan st (ds.take i) pi si (xs.take i) → wb pi si (past.length + i) = false) ∧ ∃ x3 x4, σ' = [some (.ref t), some v, some (.ref fl), x3, x4]) (fun σ' H' hJ => ?_) (fun hk => ?_)
      · obtain ⟨b1, ⟨pk, sk, hD1, hE1⟩, hgo, x3, x4, rfl⟩ := hJ
        refine hD.at fun dx fs e1 _ => ?_
        refine gs_ret (K := K) (gv_lenT (gv_var rfl (dv.kp (b1.kp e1) (lf_tup hE.lf)))) fun u H2 s2 du => ?_
        cases du
        exact q H2 ds.length pk sk (b1.trans (ButO.of s2)) ⟨Nat.le_refl _, by rw [List.take_length, List.take_of_length_le (by omega)]; exact hE1, .inl rfl, fun i pi si h1 h2 => hgo i pi si h1 (by omega)⟩ (by rw [List.take_of_length_le (by omega)]; exact hD1.same s2)
      · refine gs_each2 (K := K) (R := Kp) (δ1 := fun x : PyData × Nat => .int (x.2 : Nat)) (δ2 := fun x : PyData × Nat => x.1) (as := ds.zipIdx) (gvi_enumTK (δ := fun x => x) (as := ds) (gv_var rfl (by rw [List.map_id']; exact dv)) (fun d hd => hE.lf d hd))
          (fun Ha k σ' H' => ButO t Ha H' ∧ (∃ (pk : List (List Int)) (sk : List Int) (ys zs : List (PyData × List (List Int) × List Int)), xs = ys ++ zs ∧ ys.length = k ∧ DeskAt K C H' t pk sk (past ++ ys) ∧ Eds pk sk (ds.drop k) pan' st' zs ∧ Eds pan st (ds.take k) pk sk ys) ∧ (∀ i pi si, 1 ≤ i → i ≤ k → Eds pan st (ds.take i) pi si (xs.take i) → wb pi si (past.length + i) = false) ∧ ∃ x3 x4, σ' = [some (.ref t), some v, some (.ref fl), x3, x4])
          (fun Ha sa => ⟨ButO.refl _ _, ⟨pan, st, [], xs, rfl, rfl, by rw [List.append_nil]; exact hD.same sa, hE, .nil⟩, fun i pi si h1 h2 => absurd h2 (by omega), _, _, rfl⟩) (fun Ha k σ' H' sa hP => (hD.same sa).at fun dx fs e1 _ => hP.1.kp e1) (fun Ha k x vi vx σ' H3 H4 sa hx hP s4 di dx_ => ?_) (fun Ha σ' H3 sa hP => ?_)
        · obtain ⟨b3, ⟨pk, sk, ys, zs, exs, yl, hDk, hEk, hEt⟩, hgo, x3, x4, rfl⟩ := hP
          have hxx : ds[k]? = some x.1 ∧ x.2 = k := by
            rw [List.getElem?_zipIdx] at hx
            cases e : ds[k]? with
            | none => rw [e] at hx; cases hx
            | some d => rw [e] at hx; cases hx; exact ⟨rfl, Nat.zero_add k⟩
          obtain ⟨hxk, hx2⟩ := hxx
          have hk' := (List.getElem?_eq_some_iff.mp hxk).1
          have ed : ds.drop k = x.1 :: ds.drop (k + 1) := by rw [List.drop_eq_getElem_cons hk']; congr 1; exact (List.getElem?_eq_some_iff.mp hxk).2
          have et : ds.take (k + 1) = ds.take k ++ [x.1] := by rw [List.take_add_one, hxk]; rfl
          rw [ed] at hEk
          cases hEk with
          | @cons _ p1 _ _ _ _ _ f zs' he ht =>
          cases di
          have hD4 := hDk.same s4
          refine hD4.at fun dx fs e l => ⟨.ref t, rfl, t, dx, fs, rfl, e, l _ (by decide +kernel), .int (x.2 : Nat), rfl, vx, rfl, t, _, pk, sk, past ++ ys, vx, x.1, rfl, hD4, by rw [List.length_append]; omega, dx_, .inl ⟨p1, f, he, fun H5 b5 hD5 => ?_⟩⟩
          have b05 : ButO t H H5 := (((ButO.of sa).trans b3).trans (ButO.of s4)).trans b5
          have hE5 : Eds pan st (ds.take (k + 1)) p1 (f sk) (ys ++ [(x.1, pk, sk)]) := by rw [et]; exact hEt.snoc he
          have exs5 : xs = (ys ++ [(x.1, pk, sk)]) ++ zs' := by rw [exs, List.append_assoc]; rfl
          have yl5 : (ys ++ [(x.1, pk, sk)]).length = k + 1 := by rw [List.length_append, yl]; rfl
          have tk5 : xs.take (k + 1) = ys ++ [(x.1, pk, sk)] := by rw [exs5, List.take_left' yl5]
          rw [List.append_assoc] at hD5
          refine ⟨.ref fl, rfl, rfl, true, notN_ref, iteT ?_⟩
          have hD5' := hD5
          obtain ⟨⟨dx5, pa, p, l5, hh, hs, kn, h1, h2, h3, h4, h5, h6, h7⟩, g5, a5, lf5⟩ := hD5'
          have hc5 : CoAt Fl H5 := hD.at fun dx fs e1 _ => hc.butO e1 b05
          have hw5 : WH H5 := hD.at fun dx fs e1 _ => W.keep H H5 dx fs e1 b05 hw
          have b56 : ButO t H5 (upd H5 t (.ins C dx5 (fldsW pa p l5 hh kn))) := ButO.upd
          have k56 := b56.kp h1
          have e6 : (upd H5 t (.ins C dx5 (fldsW pa p l5 hh kn))) t = some (.ins C dx5 (fldsW pa p l5 hh kn)) := upd_same
          have hD6 : DeskWAt K C (upd H5 t (.ins C dx5 (fldsW pa p l5 hh kn))) t p1 (f sk) (past ++ (ys ++ [(x.1, pk, sk)])) := ⟨⟨dx5, pa, p, l5, hh, hs, kn, e6, h2.kp k56 (fun x hx => ⟨(lf5 x hx).1, (lf5 x hx).2.1, (lf5 x hx).2.2.1⟩), h3.kp k56, k56.1 _ _ h4, sqT_kp k56 h5, h6⟩, g5, a5, fun x hx => ⟨(lf5 x hx).1, (lf5 x hx).2.1, (lf5 x hx).2.2.1⟩⟩
          have pl : (past ++ (ys ++ [(x.1, pk, sk)])).length = past.length + (k + 1) := by rw [List.length_append, yl5]
          refine ⟨.ref t, rfl, t, dx5, _, rfl, h1, by rfl, .ref fl, rfl, t, pa, p, l5, hh, kn, dx5, rfl, h1, hc5, ?_⟩
          refine W.say _ _ _ _ _ hD6 (by rw [pl]; omega) (W.keep _ _ _ _ h1 b56 hw5) (hc5.butO h1 b56) fun H6 s6 => ⟨_, rfl, s6 _ _ e6, ?_⟩
          have b57 : ButO t H5 (upd H6 t (.ins C dx5 (fldsD pa p l5 hh kn))) := (b56.trans (ButO.of s6)).trans ButO.upd
          have hD7 : DeskAt K C (upd H6 t (.ins C dx5 (fldsD pa p l5 hh kn))) t p1 (f sk) (past ++ (ys ++ [(x.1, pk, sk)])) := hD5.kpAt (b57.kp h1) (by rw [upd_same, h1])
          rw [pl]
          generalize upd H6 t (.ins C dx5 (fldsD pa p l5 hh kn)) = H7 at b57 hD7 ⊢
          refine ⟨wb p1 (f sk) (past.length + (k + 1)), rfl, ite2 (fun eb => ?_) (fun eb => ?_)⟩
          · refine ⟨.int (x.2 : Nat), rfl, ((x.2 : Nat) : Int), 1, rfl, rfl, ?_⟩
            show Q (.int (((x.2 : Nat) : Int) + 1)) H7
            rw [show ((x.2 : Nat) : Int) + 1 = ((k + 1 : Nat) : Int) by rw [hx2]; omega]
            refine q H7 (k + 1) p1 (f sk) (b05.trans b57) ⟨by omega, by rw [tk5]; exact hE5, .inr ⟨by omega, eb⟩, fun i pi si i1 i2 => hgo i pi si i1 (by omega)⟩ (by rw [tk5]; exact hD7)
          · refine ⟨((b3.trans (ButO.of s4)).trans b5).trans b57, ⟨p1, f sk, ys ++ [(x.1, pk, sk)], zs', exs5, yl5, hD7, ht, hE5⟩, fun i pi si i1 i2 hi => ?_, _, _, rfl⟩
            rcases Nat.lt_or_ge i (k + 1) with hlt | hge
            · exact hgo i pi si i1 (by omega) hi
            · have : i = k + 1 := by omega
              subst this
              rw [tk5] at hi
              obtain ⟨rfl, rfl, _⟩ := hE5.det hi
              exact (Bool.not_eq_true _).mp eb
        · obtain ⟨b3, ⟨pk, sk, ys, zs, exs, yl, hDk, hEk, hEt⟩, hgo, x3, x4, rfl⟩ := hP
          rw [List.length_zipIdx] at hEt yl hgo
          rw [List.length_zipIdx, List.drop_length] at hEk
          cases hEk
          rw [List.append_nil] at exs
          subst exs
          rw [List.take_length] at hEt
          exact hk _ _ ⟨(ButO.of sa).trans b3, ⟨pan', st', hDk, hEt⟩, hgo, _, _, rfl⟩
    · obtain ⟨hE, a0, a1, hno, q⟩ := q
      subst eds
      have hxl := hE.len
      have hlf : ∀ d ∈ gs ++ [dLk "link" a a], lf d = true := fun d hd => by
        rcases List.mem_append.mp hd with hd | hd
        · exact hE.lf d hd
        · rw [List.mem_singleton.mp hd]; rfl
      refine gs_seqJ (J := fun σ' H' => False) (fun σ' H' hJ => ?_) (fun hk => ?_)
      · exact False.elim hJ
      · refine gs_each2 (K := K) (R := Kp) (δ1 := fun x : PyData × Nat => .int (x.2 : Nat)) (δ2 := fun x : PyData × Nat => x.1) (as := (gs ++ [dLk "link" a a]).zipIdx) (gvi_enumTK (δ := fun x => x) (as := gs ++ [dLk "link" a a]) (gv_var rfl (by rw [List.map_id']; exact dv)) (fun d hd => hlf d hd))
          (fun Ha k σ' H' => k ≤ gs.length ∧ ButO t Ha H' ∧ (∃ (pk : List (List Int)) (sk : List Int) (ys zs : List (PyData × List (List Int) × List Int)), xs = ys ++ zs ∧ ys.length = k ∧ DeskAt K C H' t pk sk (past ++ ys) ∧ Eds pk sk (gs.drop k) pan' st' zs ∧ Eds pan st (gs.take k) pk sk ys) ∧ ∃ x3 x4, σ' = [some (.ref t), some v, some (.ref fl), x3, x4])
          (fun Ha sa => ⟨Nat.zero_le _, ButO.refl _ _, ⟨pan, st, [], xs, rfl, rfl, by rw [List.append_nil]; exact hD.same sa, hE, .nil⟩, _, _, rfl⟩) (fun Ha k σ' H' sa hP => (hD.same sa).at fun dx fs e1 _ => hP.2.1.kp e1) (fun Ha k x vi vx σ' H3 H4 sa hx hP s4 di dx_ => ?_) (fun Ha σ' H3 sa hP => ?_)
        · obtain ⟨kle, b3, ⟨pk, sk, ys, zs, exs, yl, hDk, hEk, hEt⟩, x3, x4, rfl⟩ := hP
          have hxx : (gs ++ [dLk "link" a a])[k]? = some x.1 ∧ x.2 = k := by
            rw [List.getElem?_zipIdx] at hx
            cases e : (gs ++ [dLk "link" a a])[k]? with
            | none => rw [e] at hx; cases hx
            | some d => rw [e] at hx; cases hx; exact ⟨rfl, Nat.zero_add k⟩
          obtain ⟨hxk, hx2⟩ := hxx
          cases di
          have hD4 := hDk.same s4
          have hlen : ys.length + zs.length = gs.length := by rw [← List.length_append, ← exs]; exact hxl
          have hfew : (past ++ ys).length < 60 := by rw [List.length_append]; rw [List.length_append, List.length_singleton] at few; omega
          rcases Nat.lt_or_ge k gs.length with hk' | hk'
          · rw [List.getElem?_append_left hk'] at hxk
            have ed : gs.drop k = x.1 :: gs.drop (k + 1) := by rw [List.drop_eq_getElem_cons hk']; congr 1; exact (List.getElem?_eq_some_iff.mp hxk).2
            have et : gs.take (k + 1) = gs.take k ++ [x.1] := by rw [List.take_add_one, hxk]; rfl
            rw [ed] at hEk
            cases hEk with
            | @cons _ p1 _ _ _ _ _ f zs' he ht =>
            refine hD4.at fun dx fs e l => ⟨.ref t, rfl, t, dx, fs, rfl, e, l _ (by decide +kernel), .int (x.2 : Nat), rfl, vx, rfl, t, _, pk, sk, past ++ ys, vx, x.1, rfl, hD4, hfew, dx_, .inl ⟨p1, f, he, fun H5 b5 hD5 => ?_⟩⟩
            have b05 : ButO t H H5 := (((ButO.of sa).trans b3).trans (ButO.of s4)).trans b5
            have hE5 : Eds pan st (gs.take (k + 1)) p1 (f sk) (ys ++ [(x.1, pk, sk)]) := by rw [et]; exact hEt.snoc he
            have exs5 : xs = (ys ++ [(x.1, pk, sk)]) ++ zs' := by rw [exs, List.append_assoc]; rfl
            have yl5 : (ys ++ [(x.1, pk, sk)]).length = k + 1 := by rw [List.length_append, yl]; rfl
            have tk5 : xs.take (k + 1) = ys ++ [(x.1, pk, sk)] := by rw [exs5, List.take_left' yl5]
            rw [List.append_assoc] at hD5
            refine ⟨.ref fl, rfl, rfl, true, notN_ref, iteT ?_⟩
            have hD5' := hD5
            obtain ⟨⟨dx5, pa, p, l5, hh, hs, kn, h1, h2, h3, h4, h5, h6, h7⟩, g5, a5, lf5⟩ := hD5'
            have hc5 : CoAt Fl H5 := hD.at fun dx fs e1 _ => hc.butO e1 b05
            have hw5 : WH H5 := hD.at fun dx fs e1 _ => W.keep H H5 dx fs e1 b05 hw
            have b56 : ButO t H5 (upd H5 t (.ins C dx5 (fldsW pa p l5 hh kn))) := ButO.upd
            have k56 := b56.kp h1
            have e6 : (upd H5 t (.ins C dx5 (fldsW pa p l5 hh kn))) t = some (.ins C dx5 (fldsW pa p l5 hh kn)) := upd_same
            have hD6 : DeskWAt K C (upd H5 t (.ins C dx5 (fldsW pa p l5 hh kn))) t p1 (f sk) (past ++ (ys ++ [(x.1, pk, sk)])) := ⟨⟨dx5, pa, p, l5, hh, hs, kn, e6, h2.kp k56 (fun x hx => ⟨(lf5 x hx).1, (lf5 x hx).2.1, (lf5 x hx).2.2.1⟩), h3.kp k56, k56.1 _ _ h4, sqT_kp k56 h5, h6⟩, g5, a5, fun x hx => ⟨(lf5 x hx).1, (lf5 x hx).2.1, (lf5 x hx).2.2.1⟩⟩
            have pl : (past ++ (ys ++ [(x.1, pk, sk)])).length = past.length + (k + 1) := by rw [List.length_append, yl5]
            refine ⟨.ref t, rfl, t, dx5, _, rfl, h1, by rfl, .ref fl, rfl, t, pa, p, l5, hh, kn, dx5, rfl, h1, hc5, ?_⟩
            refine W.say _ _ _ _ _ hD6 (by rw [pl]; rw [List.length_append, List.length_singleton] at few; omega) (W.keep _ _ _ _ h1 b56 hw5) (hc5.butO h1 b56) fun H6 s6 => ⟨_, rfl, s6 _ _ e6, ?_⟩
            have b57 : ButO t H5 (upd H6 t (.ins C dx5 (fldsD pa p l5 hh kn))) := (b56.trans (ButO.of s6)).trans ButO.upd
            have hD7 : DeskAt K C (upd H6 t (.ins C dx5 (fldsD pa p l5 hh kn))) t p1 (f sk) (past ++ (ys ++ [(x.1, pk, sk)])) := hD5.kpAt (b57.kp h1) (by rw [upd_same, h1])
            rw [pl]
            generalize upd H6 t (.ins C dx5 (fldsD pa p l5 hh kn)) = H7 at b57 hD7 ⊢
            have eb : wb p1 (f sk) (past.length + (k + 1)) = false := hno (k + 1) p1 (f sk) (by omega) (by omega) (by rw [tk5]; exact hE5)
            refine ⟨wb p1 (f sk) (past.length + (k + 1)), rfl, ?_⟩
            rw [eb]
            exact iteF ⟨hk', ((b3.trans (ButO.of s4)).trans b5).trans b57, ⟨p1, f sk, ys ++ [(x.1, pk, sk)], zs', exs5, yl5, hD7, ht, hE5⟩, _, _, rfl⟩
          · have hke : k = gs.length := by omega
            subst hke
            rw [List.getElem?_append_right (Nat.le_refl _), Nat.sub_self] at hxk
            have hx1 : dLk "link" a a = x.1 := by simpa using hxk
            rw [List.drop_length] at hEk
            cases hEk
            rw [List.append_nil] at exs
            subst exs
            rw [← hx1] at dx_
            exact hD4.at fun dx fs e l => ⟨.ref t, rfl, t, dx, fs, rfl, e, l _ (by decide +kernel), .int (x.2 : Nat), rfl, vx, rfl, t, _, _, _, past ++ xs, vx, _, rfl, hD4, hfew, dx_, .inr ⟨a, rfl, a0, a1, fun H5 dd s5 ed => q H5 dd ((((ButO.of sa).trans b3).trans (ButO.of s4)).trans (ButO.of s5)) (hD4.same s5) (by rw [hx2] at ed; exact ed)⟩⟩
        · obtain ⟨kle, _⟩ := hP
          rw [List.length_zipIdx, List.length_append, List.length_singleton] at kle
          omega
end
end K54
namespace K54
open PySem PySem.Spec PyProof.Rows L2 Pr
open NdefX LamX
abbrev sDoBatchX := sDoBatch
def nAttempt : List Str := ["self", "edits", "watch", "batch", "past", "panel", "latched", "held", "done"]
theorem scAttempt : FnScope nAttempt ["self", "edits", "watch"] (defScope sAttempt) := ⟨rfl, rfl, rfl, by decide +kernel, rfl, by decide +kernel, by decide +kernel⟩
section
variable {P : Program} {w : World} {K : PySem.W.Frag} {mg : Str → Option Value} {base : Heap}
theorem put_r1 (pa pa' p l h kn : Addr) : putF "past" (.ref pa) (fldsD pa' p l h kn) = fldsD pa p l h kn := by rfl
theorem put_r2 (pa p p' l h kn : Addr) : putF "panel" (.ref p) (fldsD pa p' l h kn) = fldsD pa p l h kn := by rfl
theorem put_r3 (pa p l l' h kn : Addr) : putF "latched" (.ref l) (fldsD pa p l' h kn) = fldsD pa p l h kn := by rfl
theorem put_r4 (pa p l h h' kn : Addr) : putF "held" (.ref h) (fldsD pa p l h' kn) = fldsD pa p l h kn := by rfl
def spAttemptWX (K : PySem.W.Frag) (C CR : Addr) (F : NF) (f : Addr) (ws : List (Option V)) (wsp : List (Option V) → Sp) : Sp := fun vs H Q E => ∃ (t : Addr) (pan : List (List Int)) (st : List Int) (past xs : List (PyData × List (List Int) × List Int)) (v : V) (ds : List PyData) (WH : Hp → Prop) (wb : List (List Int) → List Int → Nat → Bool), vs = [.ref t, v, .ref f] ∧ DeskAt K C H t pan st past ∧ past.length + ds.length ≤ 60 ∧ ds.length ≤ 20 ∧ Dp K H v (.list ds) ∧ WSay K C t F ws wsp WH wb ∧ WH H ∧ CoAt F H ∧
  ((∃ pan' st', Eds pan st ds pan' st' xs ∧ ∀ H' k pk sk, ButO t H H' → Done wb pan st ds xs past.length k pk sk → DeskAt K C H' t pk sk (past ++ xs.take k) → Q (.int (k : Nat)) H') ∨
   (∃ (gs : List PyData) (a : Int), ds = gs ++ [dLk "link" a a] ∧ ∃ pan' st', Eds pan st gs pan' st' xs ∧ 0 ≤ a ∧ a < (pan'.length : Int) ∧ (∀ i pi si, 1 ≤ i → i ≤ gs.length → Eds pan st (gs.take i) pi si (xs.take i) → wb pi si (past.length + i) = false) ∧
     ∀ H' dd, (∀ dx pa p l hh kn, H t = some (.ins C dx (fldsD pa p l hh kn)) → ∃ dx' kn', H' t = some (.ins C dx' (fldsD pa p l hh kn'))) → ButO t H H' → H' dd = some (.xd [("index", .int (gs.length : Nat))]) → E (.ref CR) (some dd) H'))
theorem ok_AttemptWX {fWl : Addr} {fdWl : FuncData} {fLi : Addr} {fdLi : FuncData} {fUn : Addr} {fdUn : FuncData} {fBtn : Addr} {fdBtn : FuncData} {fPress : Addr} {fdPress : FuncData} {fChkB : Addr} {fdChkB : FuncData} {fIsE : Addr} {fdIsE : FuncData} {fCopy : Addr} {fdCopy : FuncData} {C f dV : Addr} {fd : FuncData} {k : Nat} {tkB : Tok} {CN CS CC fIN fIS : Addr} {fdIN fdIS : FuncData} {CT CR fIR : Addr} {fdIR : FuncData} (F : FunD K "attempt" "Desk.attempt" (defArgs sAttempt) (defBody sAttempt) (defScope sAttempt) [] [("watch", .non)] f fd) (T : TxtD K mg C) (TN : ExL K mg "NoButton" "value" "NoButton.__init__" sInitN CN fIN fdIN) (TS : ExF K mg "SameButton" "value" "SameButton.__init__" sInitS CS fIS fdIS) (T_NoChange : Ex0 K mg "NoChange" CC) (TR : ExF K mg "Rejected" "index" "Rejected.__init__" sInitR CR fIR fdIR) (gT : mg "TooManyEdits" = some (.ref CT)) (xS : PySem.W.exmAny K (.ref CS) [.ref CT, .ref CN, .ref CS, .ref CC] = some true)
    (FWl : Fun K "with_list" "with_list" sWl fWl fdWl) (bWl : Binds K fdWl ["panel", "button", "released"] []) (gWl : mg "with_list" = some (.ref fWl))
    (FLi : Fun K "linked" "linked" sLi fLi fdLi) (bLi : Binds K fdLi ["panel", "one", "other"] []) (gLi : mg "linked" = some (.ref fLi))
    (FUn : Fun K "unlinked" "unlinked" sUn fUn fdUn) (bUn : Binds K fdUn ["panel", "one", "other"] []) (gUn : mg "unlinked" = some (.ref fUn))
    (FBtn : Fun K "is_button" "is_button" sBtn fBtn fdBtn) (bBtn : Binds K fdBtn ["value", "many"] []) (gBtn : mg "is_button" = some (.ref fBtn))
    (FPress : Fun K "press_button" "press_button" sPress fPress fdPress) (bPress : Binds K fdPress ["panel", "state", "button"] []) (gPress : mg "press_button" = some (.ref fPress))
    (FChkB : Fun K "check_button" "check_button" sChkB fChkB fdChkB) (bChkB : Binds K fdChkB ["panel", "value"] []) (gChkB : mg "check_button" = some (.ref fChkB))
    (FIsE : Fun K "is_edit" "is_edit" sIsE fIsE fdIsE) (bIsE : Binds K fdIsE ["value"] []) (gIsE : mg "is_edit" = some (.ref fIsE))
    (FCopy : Fun K "copied_batch" "copied_batch" sCopy fCopy fdCopy) (bCopy : Binds K fdCopy ["value"] []) (gCopy : mg "copied_batch" = some (.ref fCopy))
    {fFree : Addr} {fdFree : FuncData} (FFree : Fun K "check_free" "Desk.check_free" sFree fFree fdFree) (bFree : Binds K fdFree ["self"] []) (hFree : Meth K C "check_free" fFree)
    {fRoom : Addr} {fdRoom : FuncData} (FRoom : Fun K "check_room" "Desk.check_room" sRoom fRoom fdRoom) (bRoom : Binds K fdRoom ["self"] []) (hRoom : Meth K C "check_room" fRoom)
    {fShow : Addr} {fdShow : FuncData} (GShow0 : ∀ k0 : Nat, FnOk P w K mg base CX0 (k0 + 6) fShow fdShow ["self", "panel", "latched"] (spShow K C)) (bShow : Binds K fdShow ["self", "panel", "latched"] []) (hShow : Meth K C "show" fShow)
    {fAdd : Addr} {fdAdd : FuncData} (FAdd : Fun K "add_edit" "Desk.add_edit" sAdd fAdd fdAdd) (bAdd : Binds K fdAdd ["self", "edit", "panel", "latched"] []) (hAdd : Meth K C "add_edit" fAdd)
    {fPressX : Addr} {fdPressX : FuncData} (FPressX : Fun K "press" "Desk.press" sPressX fPressX fdPressX) (bPressX : Binds K fdPressX ["self", "button"] []) (hPressX : Meth K C "press" fPressX)
    {fLink0X : Addr} {fdLink0X : FuncData} (FLink0X : Fun K "check_link" "Desk.check_link" sLink0X fLink0X fdLink0X) (bLink0X : Binds K fdLink0X ["self", "one", "other"] []) (hLink0X : Meth K C "check_link" fLink0X)
    {fChgX : Addr} {fdChgX : FuncData} (FChgX : Fun K "change_panel" "Desk.change_panel" sChgX fChgX fdChgX) (bChgX : Binds K fdChgX ["self", "edit", "panel"] []) (hChgX : Meth K C "change_panel" fChgX)
    {fLinkX : Addr} {fdLinkX : FuncData} (FLinkX : Fun K "link" "Desk.link" sLinkX fLinkX fdLinkX) (bLinkX : Binds K fdLinkX ["self", "one", "other"] []) (hLinkX : Meth K C "link" fLinkX)
    {fUnlinkX : Addr} {fdUnlinkX : FuncData} (FUnlinkX : Fun K "unlink" "Desk.unlink" sUnlinkX fUnlinkX fdUnlinkX) (bUnlinkX : Binds K fdUnlinkX ["self", "one", "other"] []) (hUnlinkX : Meth K C "unlink" fUnlinkX)
    {fDoEditX : Addr} {fdDoEditX : FuncData} (FDoEditX : Fun K "do_edit" "Desk.do_edit" sDoEditX fDoEditX fdDoEditX) (bDoEditX : Binds K fdDoEditX ["self", "index", "edit"] []) (hDoEditX : Meth K C "do_edit" fDoEditX)
    {fAccBy : Addr} {fdAccBy : FuncData} (FAccBy : Fun K "accepted_by" "Desk.accepted_by" sAccBy fAccBy fdAccBy) (bAccBy : Binds K fdAccBy ["self", "watch"] []) (hAccBy : Meth K C "accepted_by" fAccBy)
    {fDoBatchX : Addr} {fdDoBatchX : FuncData} (FDoBatchX : Fun K "do_batch" "Desk.do_batch" sDoBatchX fDoBatchX fdDoBatchX) (bDoBatchX : Binds K fdDoBatchX ["self", "batch", "watch"] []) (hDoBatchX : Meth K C "do_batch" fDoBatchX)
    (m_bool : mg "bool" = none) (m_enumerate : mg "enumerate" = none) (m_int : mg "int" = none) (m_isinstance : mg "isinstance" = none) (m_len : mg "len" = none) (m_list : mg "list" = none) (m_sorted : mg "sorted" = none) (m_str : mg "str" = none) (m_tuple : mg "tuple" = none) (VA : KVal K w mg dV) (y_BATCH : mg "BATCH" = some (.int 20 tkB)) {fl : Addr} {Fl : NF} {body : Expr} {fr : List Str} {ws : List (Option V)} {wsp : List (Option V) → Sp} (LK : LOk P w K mg base CX0 (k + 9) Fl body ["_law_one"] fr wsp) (MW : MonoL ws wsp) : FnOkS P w K mg base (L2K.CX P w) (k + 12) f fd ["self", "edits", "watch"] (LamAt Fl body fl fr ws) (spAttemptWX K C CR Fl fl ws wsp) := by
  have GCopy : FnOk P w K mg base CX0 (k + 2) fCopy fdCopy ["value"] (spCopy K) := ok_Copy FCopy FIsE bIsE gIsE m_enumerate m_isinstance m_len m_list m_str m_tuple VA y_BATCH
  have GFree : FnOk P w K mg base CX0 (k + 1) fFree fdFree ["self"] (spFree K C) := ok_Free FFree T   
  have GDoBatchX : FnOkS P w K mg base (L2K.CX P w) (k + 11) fDoBatchX fdDoBatchX ["self", "batch", "watch"] (LamAt Fl body fl fr ws) (spDoBatchWX K C CR Fl fl ws wsp) := ok_DoBatchWX FDoBatchX T TN TS T_NoChange TR gT xS FWl bWl gWl FLi bLi gLi FUn bUn gUn FBtn bBtn gBtn FPress bPress gPress FChkB bChkB gChkB FFree bFree hFree FRoom bRoom hRoom GShow0 bShow hShow FAdd bAdd hAdd FPressX bPressX hPressX FLink0X bLink0X hLink0X FChgX bChgX hChgX FLinkX bLinkX hLinkX FUnlinkX bUnlinkX hUnlinkX FDoEditX bDoEditX hDoEditX FAccBy bAccBy hAccBy m_bool m_enumerate m_int m_isinstance m_len m_sorted m_tuple LK MW
  refine funD_okS F scAttempt (fun vs H Q E h => ?_) (fun cdv A outer s H vs Q E hr hΦ h => ?_)
  · obtain ⟨t, pan, st, past, xs, v, ds, WH, wb, rfl, _⟩ := h
    rfl
  · obtain ⟨t, pan, st, past, xs, v, ds, WH, wb, rfl, hD, few, few2, dv, W, hw, hc, q⟩ := h
    refine ⟨_, pss_cons (ps_expr (pe_meth0 (pv 0) T.cl hFree GFree (hr.mono (by omega)) bFree .nil pass0))
      (pss_cons (ps_set (i := 3) scAttempt.nd rfl (.inl rfl) (pe_call GCopy (hr.mono (by omega)) (by rfl) gCopy FCopy.kp bCopy .nil pass0 (pa_cons (pv 1) pa_nil)))
      (pss_cons (ps_asg (pe_tup (pa_cons (pe_fld (pv 0) rfl) (pa_cons (pe_fld (pv 0) rfl) (pa_cons (pe_fld (pv 0) rfl) (pa_cons (pe_fld (pv 0) rfl) pa_nil))))) (pg_tup rfl (pgs_cons (pg_name (i := 4) scAttempt.nd rfl (Or.inl rfl)) (pgs_cons (pg_name (i := 5) scAttempt.nd rfl (Or.inl rfl)) (pgs_cons (pg_name (i := 6) scAttempt.nd rfl (Or.inl rfl)) (pgs_cons (pg_name (i := 7) scAttempt.nd rfl (Or.inl rfl)) pgs_nil))))))
      (pss_cons (ps_set (i := 8) scAttempt.nd rfl (.inl rfl) pe_non)
      (pss_cons (ps_finXK rfl rfl rfl (L2K.takes_of rfl rfl rfl rfl) (fun W pn xe tkN po => (pss_one (ps_set (i := 8) scAttempt.nd rfl (.inl rfl) (pe_methSE (E := fun σ => WE W σ) (pv 0) T.cl hDoBatchX GDoBatchX (hr.mono (by omega)) bDoBatchX (fun σ => L2K.passAt tkN σ) (fun _ _ _ _ I => hΦ.later I rfl) (pa_cons (pv 3) (pa_cons (pv 2) pa_nil)))))) (pss_one (ps_if (pt_cmpR op_isN (pv 8) pe_non (by rfl)) (pss_cons ps_never
      (pss_one ps_never)) pss_nil)) (fun a pn hot => pss_one (ps_if (pt_cmpR op_isN (pv 8) pe_non (by rfl)) (pss_cons (ps_asg (pe_tup (pa_cons (pv 4) (pa_cons (pv 5) pa_nil))) (show PG _ _ (gTup K 2 (gCons (gFld K (tVar 0) "past") (gCons (gFld K (tVar 0) "panel") gNil))) from pg_tup_hot hot (pgs_cons (pg_fld (pv 0)) (pgs_cons (pg_fld (pv 0)) pgs_nil)))) (pss_one (ps_asg (pe_tup (pa_cons (pv 6) (pa_cons (pv 7) pa_nil))) (show PG _ _ (gTup K 2 (gCons (gFld K (tVar 0) "latched") (gCons (gFld K (tVar 0) "held") gNil))) from pg_tup_hot hot (pgs_cons (pg_fld (pv 0)) (pgs_cons (pg_fld (pv 0)) pgs_nil)))))) pss_nil)))
      (pss_one (ps_ret (pv 8))))))), ?_⟩
    have hD' := hD
    obtain ⟨⟨dx, pa, p, l, hh, hs, kn, h1, h2, h3, h4, h5, h6, h7⟩, hg, hst, lfe⟩ := hD'
    have hEdS : ∀ d ∈ ds, EdS d := by
      rcases q with ⟨pan', st', hE, q⟩ | ⟨gs, a, rfl, pan', st', hE, _⟩
      · intro d hd
        obtain ⟨_, _, _, he⟩ := hE.ed d hd
        exact he.eds
      · intro d hd
        rcases List.mem_append.mp hd with hd | hd
        · obtain ⟨_, _, _, he⟩ := hE.ed d hd
          exact he.eds
        · rw [List.mem_singleton.mp hd]
          exact ⟨"link", _, rfl, .inr (.inl ⟨rfl, rfl⟩)⟩
    refine ⟨.ref t, rfl, t, dx, _, rfl, h1, by rfl, t, pan, st, past, rfl, hD, fun H1 s1 => ?_⟩
    refine ⟨v, rfl, v, ds, rfl, dv.sm s1, hEdS, few2, fun H2 u s2 du => ?_⟩
    have s12 := s1.trans s2
    have e2 := s12 _ _ h1
    refine ⟨.ref t, rfl, t, C, dx, _, .ref pa, rfl, e2, T.cl, T.nA, look_past _ _ _ _ _, .ref t, rfl, t, C, dx, _, .ref p, rfl, e2, T.cl, T.nP, look_panel _ _ _ _ _, .ref t, rfl, t, C, dx, _, .ref l, rfl, e2, T.cl, T.nL, look_latched _ _ _ _ _, .ref t, rfl, t, C, dx, _, .ref hh, rfl, e2, T.cl, T.nH, look_held _ _ _ _ _, by show 4 ≤ sizeLine; decide, fun tp ntp => ?_⟩
    have s3 := same_new (o := .tup [.ref pa, .ref p, .ref l, .ref hh]) ntp
    have e3 : upd H2 tp (.tup [.ref pa, .ref p, .ref l, .ref hh]) tp = some (.tup [.ref pa, .ref p, .ref l, .ref hh]) := upd_same
    generalize upd H2 tp (.tup [.ref pa, .ref p, .ref l, .ref hh]) = H3 at s3 e3 ⊢
    refine ⟨tp, _, rfl, .inl (.inl e3), rfl, .ref pa, [.ref p, .ref l, .ref hh], rfl, .ref p, [.ref l, .ref hh], rfl, .ref l, [.ref hh], rfl, .ref hh, [], rfl, rfl, ?_⟩
    have s13 := s12.trans s3
    refine ⟨.ref t, rfl, t, dx, _, rfl, s13 _ _ h1, by rfl, u, rfl, .ref fl, rfl, t, pan, st, past, xs, u, ds, WH, wb, rfl, hD.same s13, few, du.sm s3, W, W.keep _ _ _ _ h1 (ButO.of s13) hw, hc.same s13, ?_⟩
    rcases q with ⟨pan', st', hE, q⟩ | ⟨gs, a, eds, pan', st', hE, a0, a1, hno, q⟩
    · refine .inl ⟨pan', st', hE, fun H4 k pk sk b4 hdn hD4 => ?_⟩
      refine ⟨_, rfl, rfl, _, rfl, iteF ?_⟩
      exact ⟨_, rfl, q H4 k pk sk ((ButO.of s13).trans b4) hdn hD4⟩
    · refine .inr ⟨gs, a, eds, pan', st', hE, a0, a1, hno, fun H4 dd b4 hD4 ed => ?_⟩
      obtain ⟨⟨dx4, pa4, p4, l4, hh4, hs4, kn4, g1, _⟩, _⟩ := hD4
      refine ⟨.non, rfl, rfl, true, rfl, iteT ?_⟩
      refine ⟨.ref pa, rfl, .ref p, rfl, by show 2 ≤ sizeLine; decide, fun t1 n1 => ?_⟩
      have s5 := same_new (o := .tup [.ref pa, .ref p]) n1
      have e5 : upd H4 t1 (.tup [.ref pa, .ref p]) t1 = some (.tup [.ref pa, .ref p]) := upd_same
      generalize upd H4 t1 (.tup [.ref pa, .ref p]) = H5 at s5 e5 ⊢
      have g5 := s5 _ _ g1
      refine ⟨t1, _, rfl, .inl (.inl e5), rfl, .ref pa, [.ref p], rfl, .ref t, rfl, t, C, dx4, _, rfl, g5, T.cl, T.nA, by show 6 < 1000; decide, .ref p, [], rfl, .ref t, rfl, t, C, dx4, _, rfl, upd_same, T.cl, T.nP, by rw [put_r1]; show 6 < 1000; decide, rfl, ?_⟩
      rw [put_r1, put_r2]
      have b6 : ButO t H5 (upd (upd H5 t (.ins C dx4 (fldsD pa p4 l4 hh4 kn4))) t (.ins C dx4 (fldsD pa p l4 hh4 kn4))) := ButO.upd.trans ButO.upd
      have g6 : upd (upd H5 t (.ins C dx4 (fldsD pa p4 l4 hh4 kn4))) t (.ins C dx4 (fldsD pa p l4 hh4 kn4)) t = some (.ins C dx4 (fldsD pa p l4 hh4 kn4)) := upd_same
      have d6 : upd (upd H5 t (.ins C dx4 (fldsD pa p4 l4 hh4 kn4))) t (.ins C dx4 (fldsD pa p l4 hh4 kn4)) dd = some (.xd [("index", .int (gs.length : Nat))]) := b6 _ _ (ne_of (s5 _ _ ed) g5 (fun z => by cases z)) (s5 _ _ ed)
      generalize upd (upd H5 t (.ins C dx4 (fldsD pa p4 l4 hh4 kn4))) t (.ins C dx4 (fldsD pa p l4 hh4 kn4)) = H6 at b6 g6 d6 ⊢
      refine ⟨.ref l, rfl, .ref hh, rfl, by show 2 ≤ sizeLine; decide, fun t2 n2 => ?_⟩
      have s7 := same_new (o := .tup [.ref l, .ref hh]) n2
      have e7 : upd H6 t2 (.tup [.ref l, .ref hh]) t2 = some (.tup [.ref l, .ref hh]) := upd_same
      generalize upd H6 t2 (.tup [.ref l, .ref hh]) = H7 at s7 e7 ⊢
      have g7 := s7 _ _ g6
      refine ⟨t2, _, rfl, .inl (.inl e7), rfl, .ref l, [.ref hh], rfl, .ref t, rfl, t, C, dx4, _, rfl, g7, T.cl, T.nL, by show 6 < 1000; decide, .ref hh, [], rfl, .ref t, rfl, t, C, dx4, _, rfl, upd_same, T.cl, T.nH, by rw [put_r3]; show 6 < 1000; decide, rfl, ?_⟩
      rw [put_r3, put_r4]
      have b8 : ButO t H7 (upd (upd H7 t (.ins C dx4 (fldsD pa p l hh4 kn4))) t (.ins C dx4 (fldsD pa p l hh kn4))) := ButO.upd.trans ButO.upd
      refine q _ dd (fun dx0 pa0 p0 l0 h0 k0 e0 => ?_) (((((ButO.of s13).trans b4).trans (ButO.of s5)).trans b6).trans ((ButO.of s7).trans b8)) (b8 _ _ (ne_of (s7 _ _ d6) g7 (fun z => by cases z)) (s7 _ _ d6))
      rw [h1] at e0
      injection e0 with e0
      injection e0 with _ e0 e00
      unfold fldsD at e00
      simp only [List.cons.injEq, Prod.mk.injEq, V.ref.injEq, true_and, and_true] at e00
      obtain ⟨r1, r2, r3, r4, r5⟩ := e00
      subst r1 r2 r3 r4
      exact ⟨dx4, kn4, upd_same⟩
end
end K54
namespace Pr
open PySem PySem.Spec PyProof.Rows L2 NdefX
/-- as SFun, with keyword-only defaults -/
structure SFunD (K : PySem.W.Frag) (x qual : Str) (st : Stmt) (cc c : Addr) (kws : List (Str × V)) (f : Addr) (fd : FuncData) : Prop where
  ex : ∃ (oc : Value) (od : Option Addr) (kV doc pm : Value) (an : Option Addr) (ct : Value) (osl : Array (Option Value)),
    fd = PySem.W.fnX x qual (defArgs st) (defBody st) (defScope st) [("__class__", cc)] .none kV doc pm an (.ref c) ct ∧ K.lookup f = some ⟨oc, od, .func fd, osl⟩ ∧ PySem.W.codeIn K (.ref c) qual = true ∧ KwdV K kV kws
  kp : PySem.W.keepIn K (.ref f) = true
section
variable {K : PySem.W.Frag} {x qual : Str} {st : Stmt} {cc c f : Addr} {kws : List (Str × V)} {fd : FuncData} {ps : List Str}
theorem SFunD.s (F : SFunD K x qual st cc c kws f fd) : SFun K x qual st cc c f fd := by
  obtain ⟨oc, od, kV, doc, pm, an, ct, osl, h1, h2, h3, _⟩ := F.ex
  exact ⟨⟨oc, od, kV, doc, pm, an, ct, osl, h1, h2, h3⟩, F.kp⟩
theorem SFunD.binds0 (F : SFunD K x qual st cc c kws f fd) (n : Nat) (hk : kws ≠ []) (hn : n + kws.length = ps.length)
    (h : ∀ (D : Addr) (doc pm : Value) (an : Option Addr) (ct : Value) (us ks : List Value), us.length = n → ks.length = kws.length →
      KwChain D ((kws.map (·.1)).zip ks) (bindArgs (PySem.W.fnX x qual (defArgs st) (defBody st) (defScope st) [("__class__", cc)] .none (.ref D) doc pm an (.ref c) ct) ⟨us, []⟩) (ps.zip (us ++ ks))) : ∃ ds, Vals (kws.map (·.2)) ds ∧ Binds K fd ps ds := by
  obtain ⟨oc, od, kV, doc, pm, an, ct, osl, rfl, lk, hcd, hK⟩ := F.ex
  rcases hK with e | ⟨D, rfl, hq⟩
  · exact absurd e hk
  · obtain ⟨ks, hl, rk, hks⟩ := kwd_vals hq
    refine ⟨ks, rk, fun s us X hlen => ?_⟩
    have l2 : us.length = n := by
      rw [List.length_append, hl] at hlen
      omega
    exact BindsTo.of_looks fun M => KwChain.looks X hks (h D doc pm an ct us ks l2 hl)
end
theorem sfund_mk {K : PySem.W.Frag} {x qual : Str} {st : Stmt} {cc c f D : Addr} {kws : List (Str × V)} {oc : Value} {od an : Option Addr} {osl : Array (Option Value)} {doc pm ct : Value} (l : K.lookup f = some ⟨oc, od, .func (PySem.W.fnX x qual (defArgs st) (defBody st) (defScope st) [("__class__", cc)] .none (.ref D) doc pm an (.ref c) ct), osl⟩)
    (hc : PySem.W.codeIn K (.ref c) qual = true) (k : PySem.W.keepIn K (.ref f) = true) (hq : ∀ q ∈ kws, ∃ u, PySem.W.nsIn K D q.1 = some (some u) ∧ RelV q.2 u) : SFunD K x qual st cc c kws f (PySem.W.fnX x qual (defArgs st) (defBody st) (defScope st) [("__class__", cc)] .none (.ref D) doc pm an (.ref c) ct) :=
  ⟨⟨oc, od, .ref D, doc, pm, an, ct, osl, rfl, l, hc, .inr ⟨D, rfl, hq⟩⟩, k⟩
section
variable {α : Type} {prog : Program} {w : World} {M : Model} {A : Around} {c : Code} {E : Value → Shared → Prop} {s : Shared} {env : Env}
theorem at_attempt {m : Sem α} {Q : Except Value α → Shared → Prop} (h : _root_.PySem.wpAt M A c m (fun a => Q (.ok a)) (fun e => Q (.error e)) s) :
    _root_.PySem.wpAt M A c m.attempt Q E s := fun Γ p hc hΓ => by rw [Sem.wp_attempt]; exact h Γ p hc hΓ
end
section
variable {X : Cx} {pins : List (Addr × Obj)} {σ : L2.St} {H : Hp} {s : Shared} {body : List Stmt}
/-- a plain statement, then the rest at the code -/
theorem at_cons {st : Stmt} {rest : List Stmt} {t : TS} {D : Ends} (N : L2.St → Hp → Prop) (h : PS X st t) (I : Inv X pins σ H s) (q : t { D with nx := N } σ H)
    (k : ∀ σ' H' s', Inv X pins σ' H' s' → N σ' H' → _root_.PySem.wpAt (model X.prog X.w) X.A (.func body X.env) (execs rest X.env) (SP X pins D) X.xe s') :
    _root_.PySem.wpAt (model X.prog X.w) X.A (.func body X.env) (execs (st :: rest) X.env) (SP X pins D) X.xe s := by
  refine PySem.ks_wpAt_execs_cons (PySem.wpAt_of_wpAny (thn (h.run pins s σ H { D with nx := N } I q) fun f s' hf => ?_))
  cases f with
  | next =>
    obtain ⟨σ', H', I', q'⟩ := hf
    exact k σ' H' s' I' q'
  | ret u => exact hf
  | brk => exact hf
  | cont => exact hf
end
end Pr
namespace Pr
open PySem PySem.Spec PyProof.Rows L2 NdefX HotX L2H
section
variable {P : Program} {w : World} {K : PySem.W.Frag} {mg : Str → Option Value} {base : Heap}
theorem SFun.okS {CX : CXT} {Φ : SPhi} {x qual : Str} {st : Stmt} {cc c D f : Addr} {fd : FuncData} {N ps : List Str} {k : Nat} {sp : Sp} (F : SFun K x qual st cc c f fd) (T : SCls P K mg cc c D) (S : NScope N ps ["__class__"] (defScope st)) (len : ∀ vs H Q E, sp vs H Q E → vs.length = ps.length)
    (hbody : ∀ (A : Around) (outer : List Env) (s : Shared) (H : Hp) (vs : List V) (Q : VK) (E : XK), Room k (A.deeper (envF (sNF x qual st cc c) f s.heap.objs.size)) → Φ outer s H → sp vs H Q E → ∀ s1,
      Inv (ncx CX P w K mg base N (sNF x qual st cc c) f A outer s H E) [] (startF N vs [none]) H s1 →
      _root_.PySem.wpAt (model P w) (A.deeper (envF (sNF x qual st cc c) f s.heap.objs.size)) (.func (defBody st) (envF (sNF x qual st cc c) f s.heap.objs.size)) (execs (defBody st) (envF (sNF x qual st cc c) f s.heap.objs.size))
        (SP (ncx CX P w K mg base N (sNF x qual st cc c) f A outer s H E) [] { nx := fun _ H' => Q .non H', rt := Q }) (ncx CX P w K mg base N (sNF x qual st cc c) f A outer s H E).xe s1) :
    FnOkS P w K mg base CX (k + 1) f fd ps Φ sp := by
  obtain ⟨oc, od, kV, doc, pm, an, ct, osl, rfl, lk, hcd⟩ := F.ex
  obtain ⟨occ, odc, osc, hcell⟩ := T.cell
  refine ⟨len, fun A outer s H args us vs Q E hr e0 hΦ hb r hsp => ?_⟩
  have hl := len _ _ _ _ hsp
  have kin : K.In s.heap := e0.mod.kin.keeps fun b o e => (e0.bs b o e).1
  have lim : s.heap.NoLimit := e0.mod.nolimit.keeps fun b o e => (e0.bs b o e).1
  have Cc : s.heap.IsCell cc (some (.ref D)) := ⟨_, kin _ _ hcell, rfl⟩
  have Hc : H cc = none := (e0.bs cc _ (e0.mod.kin _ _ hcell)).2
  have lkc : ∀ (y : Str) (d : Addr), [(("__class__" : Str), cc)].lookup y = some d → y = "__class__" ∧ d = cc := by
    intro y d e
    have := PySem.mem_of_lookup e
    simp at this
    exact this
  have CA : CellsAt [(("__class__" : Str), cc)] ["__class__"] [none] s.heap H := by
    refine ⟨rfl, fun y d e => ?_, fun y z d e1 e2 => ?_, fun i y hi => ?_⟩
    · obtain ⟨_, rfl⟩ := lkc y d e
      exact ⟨Hc, _, Cc⟩
    · rw [(lkc y d e1).1, (lkc z d e2).1]
    · have : y = "__class__" := by
        cases i with
        | zero => simpa using hi.symm
        | succ i => simp at hi
      subst this
      refine ⟨cc, rfl, fun v hv => ?_⟩
      cases i with
      | zero => simp at hv
      | succ i => simp at hv
  have hloc : ∀ y ∈ ps.zip us, (defScope st).names.lookup y.1 = some .local := fun ⟨n, v⟩ hy => S.par n (List.of_mem_zip hy).1
  refine PySem.ks_codeAny_call_defAt (fd := PySem.W.fnX x qual (defArgs st) (defBody st) (defScope st) [("__class__", cc)] .none kV doc pm an (.ref c) ct) (body := defBody st) (binds := ps.zip us) hr.depth (kin _ _ lk) rfl lim (PySem.W.codeRec_of kin hcd) rfl hb (fun y hy => S.nocell y hy) hloc (fun h₁ hns kp => ?_) S.co S.gen S.kind
  have I : Inv (ncx CX P w K mg base N (sNF x qual st cc c) f A outer s H E) [] (startF N vs [none]) H { s with heap := h₁, toks := s.toks + (ps.zip us).length } := inv_startN S hr.hd e0 hl r CA hns kp
  refine PySem.ks_wpAt_mono (hbody A outer s H vs Q E (hr.deeper _) hΦ hsp _ I) (fun fl s' hs => ?_) fun e s' hs => hs
  have fin : ∀ {σ' : L2.St} {H' : Hp} {v : V} {u : Value}, Inv (ncx CX P w K mg base N (sNF x qual st cc c) f A outer s H E) [] σ' H' s' → L2.RelV v u → Q v H' → CE outer P w H s Q u s' :=
    fun {σ' H' v u} J rv q => ⟨v, H', J.os, J.bare, J.base, J.hok, rv, q⟩
  cases fl with
  | ret u =>
    obtain ⟨v, σ', H', J, rv, q⟩ := hs
    exact fin J rv q
  | next =>
    obtain ⟨σ', H', J, q⟩ := hs
    exact fin (v := V.non) (u := Value.none) J rfl q
  | brk =>
    obtain ⟨_, _, _, q⟩ := hs
    exact False.elim q
  | cont =>
    obtain ⟨_, _, _, q⟩ := hs
    exact False.elim q
end
section
variable {X : Cx} {body : List Stmt} {f₀ : Stmt} {fs : List Stmt} {pos : Pos} {tf tfs : TS} {tb : WX → TS} {Wout : WX}
theorem fin_excQ {pins : List (Addr × Obj)} {QQ : Flow → Shared → Prop} {u : Value} {s' : Shared} (hst : X.stack = X.env :: X.outer) (hfr : X.env.frame = some X.env.locals) (hex : X.ex = []) (ok : X.Ok) (tk : L2K.Takes X Wout)
    (hsu : ∀ (a : Addr) (pn : List (Addr × Obj)), HotC2 (X.suite a pn) → PSs (X.suite a pn) (f₀ :: fs) tfs) {xe : Value → Shared → Prop} (xx : L2K.XE (X.tr (X.pn ++ pins) xe) (wFin tfs Wout) u s') :
    wpAny (model X.prog X.w) X.A (noteFrame u X.env) (fun _ s₂ => FinallyRaised X.prog X.w X.A X.xe X.env (f₀ :: fs) QQ u s₂) (FinallyRaised X.prog X.w X.A X.xe X.env (f₀ :: fs) QQ) s' := by
  have frA : X.A.frames = some (X.env :: X.outer) := by rw [ok.frames, hst]
  obtain ⟨a, B, sI, pins', σ, H, cls, d, cx, rfl, J', nb, up, sky, na, low, os, ag, hw⟩ := xx
  have J : Inv X pins σ H sI := J'.ofTry ok
  have sky' : Sky B (X.env :: X.outer) a (L2K.Zk cls d cx) X.env.locals s'.heap := by rw [← hst]; exact sky
  have main : ∀ h0, HandSPX.HeldZ B (X.env :: X.outer) a (L2K.Zk cls d cx) X.env.locals h0 → s'.heap.UpToSlots h0 → FinallyRaised X.prog X.w X.A X.xe X.env (f₀ :: fs) QQ (.ref a) { s' with heap := h0 } := fun h0 hh0 up0 => by
    refine ⟨ref_ne_byPass a, HandSPX.againZ hfr hh0.2.2.2 (HandSPX.landsZ hh0 fun h1 fl1 up1 => ?_)⟩
    have J1 : Inv X pins σ H { s' with heap := h1 } := J.landed nb fl1.1 ((up.trans up0).trans up1) os ag
    obtain ⟨k1, k2, k3, oe, vs, T, oT, ts, he, hz, hd, hv1, hnT, hTe, hT, hdT, ht3⟩ := id fl1
    have nT : H T = none := (J.inGround nb).gone hnT
    have off : ∀ (b : Addr) (o : Obj) (fv : Array Value), h1.get? b = some o → o.data = .fields fv → b ∉ frs (X.env :: X.outer) := fun b o fv e dd hm => by
      obtain ⟨_, o', e', hnf⟩ := k3.mem hm
      rw [e] at e'
      cases e'
      exact hnf _ dd
    have inL : X.env.locals ∈ frs (X.env :: X.outer) := List.mem_filterMap.mpr ⟨X.env, List.mem_cons_self, hfr⟩
    have inF : ∀ b, b ∈ X.fs → b ∈ frs (X.env :: X.outer) := fun b hm => by
      obtain ⟨ev, hev, q⟩ := List.mem_filterMap.mp hm
      exact List.mem_filterMap.mpr ⟨ev, List.mem_cons_of_mem _ hev, q⟩
    have fa := off a oe vs he hd
    have fT := off T oT ts hT hdT
    obtain ⟨px, hpx, hcx⟩ := ctxPins (h1 := h1) (fs := frs (X.env :: X.outer)) k1 k3 low
    have S1 : Inv (X.suite a ((a, oe) :: (T, oT) :: (px ++ (X.pn ++ pins)))) [] σ H { s' with heap := h1 } :=
      ⟨J1.ok.suite _ _, J1.os, J1.bare, J1.base, J1.loc, J1.cell, J1.free, J1.freeC, fun p hp => by
        rw [List.append_nil] at hp
        rcases List.mem_cons.mp hp with z | hp
        · rw [z]
          exact ⟨he, na, fun z2 => fa (by rw [show a = X.env.locals from z2]; exact inL), fun z2 => fa (inF _ z2), fun v z2 => by
            have z3 : oe.data = .cell v := z2
            rw [hd] at z3
            cases z3⟩
        · rcases List.mem_cons.mp hp with z | hp
          · rw [z]
            exact ⟨hT, nT, fun z2 => fT (by rw [show T = X.env.locals from z2]; exact inL), fun z2 => fT (inF _ z2), fun v z2 => by
              have z3 : oT.data = .cell v := z2
              rw [hdT] at z3
              cases z3⟩
          · rcases List.mem_append.mp hp with hp | hp
            · obtain ⟨p1, p2, p3, p4⟩ := hpx p hp
              exact ⟨p1, p2, fun z2 => p3 (by rw [show p.1 = X.env.locals from z2]; exact inL), fun z2 => p3 (inF _ z2), p4⟩
            · exact J1.pin p hp, J1.hok, J1.len⟩
    have hot : HotC2 (X.suite a ((a, oe) :: (T, oT) :: (px ++ (X.pn ++ pins)))) := by
      refine ⟨(a, oe), rfl, List.mem_cons_self, vs, hd, ?_⟩
      have c := hz.2.2 vs hd
      cases cx with
      | none => exact .inl c
      | some x =>
        obtain ⟨ox, vx, hm, dx, c2⟩ := hcx x rfl
        obtain ⟨_, ob, _, eb, _, _⟩ := low x rfl
        have nxa : x ≠ a := fun z => by
          rw [z, k2] at eb
          cases eb
        exact .inr ⟨(x, ox), vx, List.mem_cons_of_mem _ (List.mem_cons_of_mem _ (List.mem_append_left _ hm)), c, nxa, dx, c2⟩
    refine wpAny_mono ((hsu a ((a, oe) :: (T, oT) :: (px ++ (X.pn ++ pins))) hot).run [] { s' with heap := h1 } σ H { nx := fun σ2 H2 => Wout cls d σ2 H2, rt := fun _ _ => False } S1 hw) (fun g s6 hsp => ?_) fun _ _ z => False.elim z
    cases g with
    | ret u =>
      obtain ⟨_, _, _, _, _, q⟩ := hsp
      exact False.elim q
    | brk =>
      obtain ⟨_, _, _, q⟩ := hsp
      exact False.elim q
    | cont =>
      obtain ⟨_, _, _, q⟩ := hsp
      exact False.elim q
    | next =>
    obtain ⟨σ6, H6, S6, q6⟩ := hsp
    have J6 : Inv X pins σ6 H6 s6 := ⟨ok, S6.os, S6.bare, S6.base, S6.loc, S6.cell, S6.free, S6.freeC, fun p hp => S6.pin p (List.mem_append_left _ (List.mem_cons_of_mem _ (List.mem_cons_of_mem _ (List.mem_append_right _ hp)))), S6.hok, S6.len⟩
    have pa := S6.pin (a, oe) (List.mem_append_left _ List.mem_cons_self)
    have pT := S6.pin (T, oT) (List.mem_append_left _ (List.mem_cons_of_mem _ List.mem_cons_self))
    have ga : s6.heap.get? a = some oe := pa.1
    have gT : s6.heap.get? T = some oT := pT.1
    have na6 : H6 a = none := pa.2.1
    have nT6 : H6 T = none := pT.2.1
    have far : ∀ b o, sI.heap.get? b = some o → b ≠ a ∧ b ≠ T := fun b o e => by
      by_cases hb : b ∈ frs X.stack
      · rw [hst] at hb
        exact ⟨fun z => fa (z ▸ hb), fun z => fT (z ▸ hb)⟩
      · have q := nb b o e hb
        refine ⟨fun z => ?_, fun z => ?_⟩
        · rw [z, k2] at q; cases q
        · rw [z, hnT] at q; cases q
    have far0 : ∀ b o, X.s_0.heap.get? b = some o → b ≠ a ∧ b ≠ T := fun b o e => by
      obtain ⟨o', q⟩ := J.base.there b o e (by rw [hex]; simp)
      exact far b o' q
    obtain ⟨G, g1, g2⟩ := restrict s6.heap fun b => !(decide (b = a) || decide (b = T))
    have gIn : ∀ b o, G.get? b = some o → s6.heap.get? b = some o ∧ b ≠ a ∧ b ≠ T := fun b o e => by
      cases q : (!(decide (b = a) || decide (b = T))) with
      | false =>
        rw [g2 b q] at e
        cases e
      | true =>
        rw [g1 b q] at e
        simp only [Bool.not_eq_true', Bool.or_eq_false_iff, decide_eq_false_iff_not] at q
        exact ⟨e, q.1, q.2⟩
    have gOf : ∀ b o, b ≠ a → b ≠ T → s6.heap.get? b = some o → G.get? b = some o := fun b o n1 n2 e => by
      rw [g1 b (by simp [n1, n2])]
      exact e
    have IG : Inv X pins σ6 H6 { s6 with heap := G } := J6.less (fun b o e => (gIn b o e).1) gOf ⟨oe, vs, ga, hd⟩ ⟨oT, ts, gT, hdT⟩ na6 nT6 far0 fun p hp => far p.1 p.2 (J.pin p hp).1
    have noG : ∀ b, (b = a ∨ b = T) → (PySem.W.hideAll G (frs X.stack)).get? b = none := fun b hb => by
      cases q : (PySem.W.hideAll G (frs X.stack)).get? b with
      | none => rfl
      | some o =>
        obtain ⟨_, n1, n2⟩ := gIn b o (PySem.W.of_hideAll _ q)
        rcases hb with z | z
        · exact absurd z n1
        · exact absurd z n2
    have low6 : L2K.Low (PySem.W.hideAll G (frs X.stack)) H6 cx := fun x ex => by
      obtain ⟨ox, vx, hm, dx, c2⟩ := hcx x ex
      have px6 := S6.pin (x, ox) (List.mem_append_left _ (List.mem_cons_of_mem _ (List.mem_cons_of_mem _ (List.mem_append_left _ hm))))
      obtain ⟨_, _, p3, _⟩ := hpx _ hm
      obtain ⟨_, ob, _, eb, _, _⟩ := low x ex
      exact ⟨px6.2.1, ox, vx, PySem.W.hideAll_get _ (gOf x ox (fun z => by rw [z, k2] at eb; cases eb) (fun z => by rw [z, hnT] at eb; cases eb) px6.1) (by rw [hst]; exact p3), dx, c2⟩
    have ff : s6.heap.FunFrames (PySem.W.hideAll G (frs X.stack)) (X.env :: X.outer) := by
      have z := funFrames_none (B := PySem.W.hideAll G (frs X.stack)) J6.stack fun b hb => PySem.W.hideAll_none _ hb
      rw [← hst]
      exact z
    have tr6 : HandSPX.TracedZ s6.heap (PySem.W.hideAll G (frs X.stack)) a (L2K.Zk cls d cx) .none := ⟨oe, vs, T, oT, ts, ga, hz, hd, hv1, noG T (.inr rfl), hTe, gT, hdT, ht3⟩
    show wpAny (model X.prog X.w) X.A (PySem.passOn "try.finally" (.ref a) X.env) QQ X.xe s6
    unfold PySem.passOn
    refine wpAny_bind (wpAny_field ga hd hv1 ?_)
    rw [if_neg (show ¬ ((Value.ref T == Value.none) = true) from by simp)]
    have goOn : wpAny (model X.prog X.w) X.A (setFlight (.ref a) X.env.frame) (fun _ s7 => wpAny (model X.prog X.w) X.A (throw (.ref a) : Sem Flow) QQ X.xe s7) X.xe s6 := by
      rw [hfr]
      refine HandSPX.setFlight_anyZ (fun b o e => (gIn b o (PySem.W.of_hideAll _ e)).1) ff tr6 fun h7 m1 m2 m3 up7 => wpAny_throw (tk _ _ ?_)
      refine ⟨a, PySem.W.hideAll G (frs X.stack), { s6 with heap := G }, pins, σ6, H6, cls, d, cx, rfl, IG, fun b o e hb => PySem.W.hideAll_get _ e hb, ?_, .inr (.inr ?_), na6, low6, rfl, J6.bare, q6⟩
      · exact Heap.UpToSlots.trans (Heap.UpToSlots.of_keeps fun b o e => (gIn b o e).1) up7
      · have held : HandSPX.HeldZ (PySem.W.hideAll G (frs X.stack)) (X.env :: X.outer) a (L2K.Zk cls d cx) X.env.locals h7 := ⟨m1, noG a (.inl rfl), m2, m3⟩
        rw [← hst] at held
        exact held
    first
      | exact wpAny_bind (wpAny_pure (wpAny_bind goOn))
      | exact wpAny_bind goOn
  show wpAny (model X.prog X.w) X.A (noteFrame (.ref a) X.env) _ _ _
  rcases sky' with ⟨hB, hn, hl, oe, vs, he0, hz, hd, hv1⟩ | fl | hh
  · exact PXN.look_newZ L2K.Zk.steady frA hl hfr he0 hB hn hd hv1 hz main
  · exact PXN.looks_onZ L2K.Zk.steady frA hfr fl main
  · exact HandSPX.againZ hfr hh.2.2.2 (main s'.heap hh (Heap.UpToSlots.refl _))
end
section
variable {prog : Program} {w : World} {A : Around} {c : Code} {E : Value → Shared → Prop} {s : Shared} {env : Env}
theorem at_tryfinX {body orelse : Sem Flow} {f₀ : Stmt} {fs : List Stmt} {Q : Flow → Shared → Prop}
    (h : _root_.PySem.wpAt (model prog w) A c body (fun f s₁ => f = .next ∧ wpAny (model prog w) A orelse (FinallyPlain prog w A E env (f₀ :: fs) Q) (fun _ _ => False) s₁)
      (fun e s₁ => wpAny (model prog w) A (noteFrame e env) (fun _ s₂ => FinallyRaised prog w A E env (f₀ :: fs) Q e s₂) (FinallyRaised prog w A E env (f₀ :: fs) Q) s₁) s) :
    _root_.PySem.wpAt (model prog w) A c (tryStmt false body [] orelse (f₀ :: fs) env) Q E s := by
  have plain : ∀ (f : Flow) (s₁ : Shared), FinallyPlain prog w A E env (f₀ :: fs) Q f s₁ →
      wpAny (model prog w) A (do
        match ← holding (match f with | .ret v => [v] | _ => []) (runOwn (.block (f₀ :: fs) env) env) with
        | .next => pure f
        | f' => do rule "try.finally-overrides-flow"; pure f') Q E s₁ := by
    intro f s₁ hp
    refine wpAny_bind (wpAny_holding (wpAny_runOwn (codeAny_block ?_)))
    rw [Around.mark_none]
    refine wpAny_mono hp (fun g s₂ hg => ?_) (fun _ _ he => he)
    cases g <;> first | exact wpAny_pure hg | exact wpAny_bind (wpAny_rule (wpAny_pure hg))
  have raised : ∀ (e : Value) (s₁ : Shared), FinallyRaised prog w A E env (f₀ :: fs) Q e s₁ →
      wpAny (model prog w) A (do
        noteFrame e env
        setFlight e none
        match ← holding [e] (runOwn (.block (f₀ :: fs) env) env (some e)) with
        | .next => passOn "try.finally" e env
        | f' => do rule "try.finally-swallows-exception"; setFlight e none; pure f') Q E s₁ := by
    intro e s₁ hr
    refine wpAny_bind (wpAny_mono hr.2 (fun _ s₂ h₂ => ?_) (fun _ _ he => he))
    refine wpAny_bind (wpAny_mono h₂ (fun _ s₃ h₃ => ?_) (fun _ _ he => he))
    refine wpAny_bind (wpAny_holding (wpAny_runOwn (codeAny_block (wpAny_mono h₃ (fun g s₄ hg => ?_) (fun _ _ he => he))) (by intro x; exact hr.1 (Option.some.inj x))))
    cases g <;> first | exact hg | exact wpAny_bind (wpAny_rule (wpAny_bind (wpAny_mono hg (fun _ _ hq => wpAny_pure hq) (fun _ _ he => he))))
  unfold tryStmt
  simp only [List.isEmpty_nil, if_true, List.isEmpty_cons, Bool.false_eq_true, if_false]
  refine PySem.wpAt_bind (at_attempt (PySem.wpAt_bind (at_attempt (PySem.ks_wpAt_mono h (fun f s₁ h₁ => ?_) fun e s₁ h₁ => ?_))))
  · obtain ⟨rfl, h₁⟩ := h₁
    exact PySem.wpAt_of_wpAny (wpAny_mono h₁ (fun f' s₂ h₂ => PySem.wpAt_of_wpAny (plain f' s₂ h₂)) fun e s₂ h₂ => False.elim h₂)
  · exact PySem.wpAt_of_wpAny (wpAny_bind (wpAny_mono h₁ (fun _ s₂ h₂ => wpAny_throw (PySem.wpAt_of_wpAny (raised e s₂ h₂))) (fun e' s₂ h₂ => PySem.wpAt_of_wpAny (raised e' s₂ h₂))))
theorem at_TryX {body orelse : List Stmt} {f₀ : Stmt} {fs : List Stmt} {pos : Pos} {Q : Flow → Shared → Prop}
    (h : _root_.PySem.wpAt (model prog w) A c (execs body env) (fun f s₁ => f = .next ∧ wpAny (model prog w) A (execs orelse env) (FinallyPlain prog w A E env (f₀ :: fs) Q) (fun _ _ => False) s₁)
      (fun e s₁ => wpAny (model prog w) A (noteFrame e env) (fun _ s₂ => FinallyRaised prog w A E env (f₀ :: fs) Q e s₂) (FinallyRaised prog w A E env (f₀ :: fs) Q) s₁) s) :
    _root_.PySem.wpAt (model prog w) A c (exec (.Try body [] orelse (f₀ :: fs) pos) env) Q E s := by
  rw [arm_exec_Try]
  exact PySem.wpAt_bind (PySem.wpAt_of_wpAny (wpAny_standAt (at_tryfinX h)))
end
section
variable {X : Cx} {pins : List (Addr × Obj)} {σ : L2.St} {H : Hp} {s : Shared} {body : List Stmt}
theorem sup_set {Φ : SPhi} {k j : Nat} {sp : Sp} {f cc c D C x dx g : Addr} {slf m d : Str} {fs : List (Str × V)} {p0 p1 p2 pd apos pos : Pos} {e : Expr} {es : List Expr} {kws : List Keyword} {ks : List Str} {fd : FuncData} {ps : List Str} {n : Nat} {gB : List Value → List Value → List Value} {gV : List V → List V → List V}
    {ta tk : TA} {W : WX} {E1 : Value → Shared → Prop} {R : Shared → Prop} {Qv : VK} {i : Nat} (I : Inv X pins σ H s) (B : SEnv X f cc c D slf) (hN : X.N[i]? = some slf) (hσ : σ[i]? = some (some (.ref x)))
    (hx : H x = some (.ins C dx fs)) (M : SMeth X.K C D m g) (F : FnOkS X.prog X.w X.K X.mg X.base (L2K.CX X.prog X.w) k g fd ps Φ sp) (hΦ : ∀ pn xe pins σ H s, Inv (X.tr pn xe) pins σ H s → Φ X.stack s H) (hr : Room k X.A) (hb : KBn X.K fd ps (n + 1) ks gB gV) (he : ∀ u s', L2K.XE (X.tr (X.pn ++ pins) E1) W u s' → E1 u s') (hR : ∀ v H4 s6, Inv X pins (σ.set j (some v)) H4 s6 → Qv v H4 → R s6) (ha : ∀ pn xe, PA (X.tr pn xe) (e :: es) ta) (hkw : ∀ pn xe, PK (X.tr pn xe) kws tk)
    (hNd : X.N.Nodup) (hj : X.N[j]? = some d) (hd : Loc X.env.scope d) (hfd : X.fn d = true ∨ X.env.scope.names.lookup d = some .local)
    (q : ta σ H fun vs H2 => tk σ H2 fun zs H3 => vs.length = n ∧ zs.length = ks.length ∧ sp (gV (.ref x :: vs) zs) H3 Qv (fun cls d H4 => W cls d σ H4))
    (pl : Sem Bool) (ht : eval (.Call (.Attribute (.Call (.Name "super" p0) [] [] p1) m apos) (e :: es) kws pos) X.env = (do
      let ov ← attributeBase (.Call (.Name "super" p0) [] [] p1) m X.env (eval (.Call (.Name "super" p0) [] [] p1) X.env)
      standAt apos.atName
      let (f, first) ← holding [ov] (getMethod ov m pl)
      callWith pos f first (backTo pos (starEach (e :: es) X.env)) (backToKw pos (keywordEach kws X.env))) := by rfl)
    (hall : (backToKw pos (keywordEach kws X.env)).all (·.1.isSome) = true := by rfl) (hks : (backToKw pos (keywordEach kws X.env)).filterMap (·.1) = ks := by rfl)
    (hs : swapsWith (.Call (.Attribute (.Call (.Name "super" p0) [] [] p1) m apos) (e :: es) kws pos) (some (.Name d pd)) p2.line X.env = pure false := by rfl)
    (hm : (m == ("__class__" : Str)) = false := by decide) (hst : starEach (e :: es) X.env = (false, eval e X.env) :: starEach es X.env := by rfl)
    (hpl : ((backTo pos (starEach (e :: es) X.env)).any (·.1) || (backToKw pos (keywordEach kws X.env)).any (·.1.isNone)) = false := by rfl) :
    _root_.PySem.wpAt (model X.prog X.w) X.A (.func body X.env) (execs [.Assign [.Name d pd] (.Call (.Attribute (.Call (.Name "super" p0) [] [] p1) m apos) (e :: es) kws pos) p2] X.env) (fun f s₁ => f = .next ∧ R s₁) E1 s := by
  have ok := I.ok
  have I0 : Inv (X.tr (X.pn ++ pins) E1) [] σ H s := I.toTry E1
  have B0 : SEnv (X.tr (X.pn ++ pins) E1) f cc c D slf := ⟨B.cls, B.fu, B.co, B.cel, B.fo, B.ks, B.kc, B.kslf⟩
  obtain ⟨mA, O, _, _, _, hdx⟩ := ins_get I0.hok hx
  obtain ⟨od, hod, _⟩ := lookIn_ns O.ns
  have J : PySem.W.InstAt s.heap x (PySem.W.instObj C dx) C (some od) := ⟨O.obj, rfl, rfl, hod⟩
  refine PySem.ks_wpAt_execs_cons (PySem.ks_wpAt_Assign_Name ?_ hs)
  rw [ht]
  refine PySem.wpAt_bind (sup_base (X := X.tr (X.pn ++ pins) E1) I0 B0 hN hσ J M.sub hm fun s1 I1 k1 => PySem.wpAt_of_wpAny (wpAny_bind (wpAny_standAt (wpAny_bind (wpAny_holding ?_)))))
  have J1 : PySem.W.InstAt s1.heap x (PySem.W.instObj C dx) C (some od) := ⟨k1 _ _ O.obj, rfl, rfl, k1 _ _ hod⟩
  refine sup_meth (X := X.tr (X.pn ++ pins) E1) I1 J1 M hm fun s2 I2 hb2 => ?_
  refine PySem.W.callWith_of (P := PySem.W.MethP X.K _ g (.ref x)) hpl (PySem.W.keeps_M M.fi) (evalArgs_kw2 hall (thn ((ha _ _).run pos _ s2 σ H _ I2 q) fun us s3 ⟨vs, H3, I3, r3, q3⟩ => ?_) hst)
  refine thn ((hkw _ _).run pos _ s3 σ H3 _ I3 q3) fun ws s4 ⟨zs, H4, I4, r4, l1, l2, q4⟩ => ⟨⟨ClX.pin_at I4, I4.kIn⟩, ?_⟩
  have r1 : Vals (.ref x :: vs) (.ref x :: us) := .cons rfl r3
  have r2 := hb.rel r1 r4
  have hcall := F.run X.A X.stack s4 H4 ⟨.ref x :: us, ks.zip ws⟩ (gB (.ref x :: us) ws) (gV (.ref x :: vs) zs) _ _ hr I4.env0 (hΦ _ _ _ _ _ _ I4) (hb.to s4 (.ref x :: us) ws I4.kIn (by rw [← r1.length, List.length_cons, l1]) (r4.length.symm.trans l2)) r2 q4
  show wpAny _ _ (call (.ref s1.heap.objs.size) ([] ++ us) (((backToKw pos (keywordEach kws X.env)).filterMap (·.1)).zip ws)) _ _ s4
  rw [hks]
  refine wpAny_call (PySem.W.method_call (ClX.pin_at I4) (codeAny_mono hcall fun r s5 hq => ?_))
  cases r with
  | error e => exact he e s5 (L2K.XE.of_call I4 (fun cls d H' z => z) hq)
  | ok fl =>
    cases fl with
    | ret w5 =>
      obtain ⟨v, H5, I5, r5, q5⟩ : EP (X.tr (X.pn ++ pins) E1) _ σ _ w5 s5 := I4.after hq
      refine store_ok (X := X.tr (X.pn ++ pins) E1) (ClX.unpin I5) hNd hj hd r5 (fun s6 I6 => ?_) hfd
      exact PySem.wpAt_of_wpAny (wpAny_execs_nil ⟨rfl, hR v H5 s6 (I6.ofTry ok) q5⟩)
    | next => exact False.elim hq
    | brk => exact False.elim hq
    | cont => exact False.elim hq
theorem sup_tryK {Φ : SPhi} {k j : Nat} {sp : Sp} {rest : List Stmt} {f cc c D C x dx g : Addr} {slf m d : Str} {fs : List (Str × V)} {p0 p1 p2 p3 pd apos pos : Pos} {e : Expr} {es : List Expr} {kws : List Keyword} {ks : List Str} {fd : FuncData} {ps : List Str} {n : Nat} {gB : List Value → List Value → List Value} {gV : List V → List V → List V}
    {ta tk : TA} {f₀ : Stmt} {fts : List Stmt} {tf tfs u : TS} {Wout : WX} {D' : Ends} {i : Nat} (I : Inv X pins σ H s) (B : SEnv X f cc c D slf) (hN : X.N[i]? = some slf) (hσ : σ[i]? = some (some (.ref x)))
    (hx : H x = some (.ins C dx fs)) (M : SMeth X.K C D m g) (F : FnOkS X.prog X.w X.K X.mg X.base (L2K.CX X.prog X.w) k g fd ps Φ sp) (hΦ : ∀ pn xe pins σ H s, Inv (X.tr pn xe) pins σ H s → Φ X.stack s H) (hr : Room k X.A) (hb : KBn X.K fd ps (n + 1) ks gB gV) (hst2 : X.stack = X.env :: X.outer) (hfr : X.env.frame = some X.env.locals) (hex : X.ex = []) (tkK : L2K.Takes X Wout) (ha : ∀ pn xe, PA (X.tr pn xe) (e :: es) ta) (hkw : ∀ pn xe, PK (X.tr pn xe) kws tk) (hf : PSs X.nox (f₀ :: fts) tf) (hsu : ∀ (a : Addr) (pn : List (Addr × Obj)), HotC2 (X.suite a pn) → PSs (X.suite a pn) (f₀ :: fts) tfs) (hrest : PSs X rest u)
    (hNd : X.N.Nodup) (hj : X.N[j]? = some d) (hd : Loc X.env.scope d) (hfd : X.fn d = true ∨ X.env.scope.names.lookup d = some .local)
    (q : ta σ H fun vs H2 => tk σ H2 fun zs H3 => vs.length = n ∧ zs.length = ks.length ∧ sp (gV (.ref x :: vs) zs) H3 (fun v H4 => tf { D' with nx := u D' } (σ.set j (some v)) H4) (fun cls d H4 => wFin tfs Wout cls d σ H4))
    (pl : Sem Bool) (ht : eval (.Call (.Attribute (.Call (.Name "super" p0) [] [] p1) m apos) (e :: es) kws pos) X.env = (do
      let ov ← attributeBase (.Call (.Name "super" p0) [] [] p1) m X.env (eval (.Call (.Name "super" p0) [] [] p1) X.env)
      standAt apos.atName
      let (f, first) ← holding [ov] (getMethod ov m pl)
      callWith pos f first (backTo pos (starEach (e :: es) X.env)) (backToKw pos (keywordEach kws X.env))) := by rfl)
    (hall : (backToKw pos (keywordEach kws X.env)).all (·.1.isSome) = true := by rfl) (hks : (backToKw pos (keywordEach kws X.env)).filterMap (·.1) = ks := by rfl)
    (hs : swapsWith (.Call (.Attribute (.Call (.Name "super" p0) [] [] p1) m apos) (e :: es) kws pos) (some (.Name d pd)) p2.line X.env = pure false := by rfl)
    (hm : (m == ("__class__" : Str)) = false := by decide) (hst : starEach (e :: es) X.env = (false, eval e X.env) :: starEach es X.env := by rfl)
    (hpl : ((backTo pos (starEach (e :: es) X.env)).any (·.1) || (backToKw pos (keywordEach kws X.env)).any (·.1.isNone)) = false := by rfl) :
    _root_.PySem.wpAt (model X.prog X.w) X.A (.func body X.env) (execs (.Try [.Assign [.Name d pd] (.Call (.Attribute (.Call (.Name "super" p0) [] [] p1) m apos) (e :: es) kws pos) p2] [] [] (f₀ :: fts) p3 :: rest) X.env) (SP X pins D') X.xe s := by
  have ok := I.ok
  refine PySem.ks_wpAt_execs_cons (at_TryX (sup_set (W := wFin tfs Wout) (Qv := fun v H4 => tf { D' with nx := u D' } (σ.set j (some v)) H4) I B hN hσ hx M F hΦ hr hb (fun u2 s2 xx => fin_excQ hst2 hfr hex ok tkK hsu xx) (fun v H4 s6 I6 q5 => wpAny_execs_nil ?_) ha hkw hNd hj hd hfd q pl ht hall hks hs hm hst hpl))
  refine wpAny_mono (hf.run pins s6 _ H4 { D' with nx := u D' } (I6.wish _) q5) (fun g s7 q7 => ?_) fun _ _ z => False.elim z
  have q' : SP X pins { D' with nx := u D' } g s7 := q7.unwish
  cases g with
  | next =>
    obtain ⟨σ7, H7, I7, q8⟩ := q'
    exact PySem.wpAt_of_wpAny (hrest.run pins s7 σ7 H7 D' I7 q8)
  | ret w7 => exact q'
  | brk => exact q'
  | cont => exact q'
end
end Pr
namespace K54
open PySem PySem.Spec PyProof.Rows L2 Pr
open NdefX LamX
abbrev sAttG : Stmt := inClass (topS 52) 2
def nAttG : List Str := ["self", "edits", "watch", "__class__", "known", "done"]
theorem scAttG : NdefX.NScope nAttG ["self", "edits", "watch"] ["__class__"] (defScope sAttG) := NdefX.nscope_by (by decide +kernel)
theorem put_kn2 (pa p l h kn kn' : Addr) : putF "known" (.ref kn) (fldsD pa p l h kn') = fldsD pa p l h kn := by rfl
section
variable {P : Program} {w : World} {K : PySem.W.Frag} {mg : Str → Option Value} {base : Heap}
def spAttGX (K : PySem.W.Frag) (C CR : Addr) (F : NF) (f : Addr) (ws : List (Option V)) (wsp : List (Option V) → Sp) : Sp := fun vs H Q E => ∃ (t : Addr) (pan : List (List Int)) (st : List Int) (past xs : List (PyData × List (List Int) × List Int)) (v : V) (ds : List PyData) (WH : Hp → Prop) (wb : List (List Int) → List Int → Nat → Bool), vs = [.ref t, v, .ref f] ∧ DeskAt K C H t pan st past ∧ past.length + ds.length ≤ 60 ∧ ds.length ≤ 20 ∧ Dp K H v (.list ds) ∧ WSay K C t F ws wsp WH wb ∧ WH H ∧ CoAt F H ∧
  ((∃ pan' st', Eds pan st ds pan' st' xs ∧ ∀ H' k pk sk, ButO t H H' → Done wb pan st ds xs past.length k pk sk → DeskAt K C H' t pk sk (past ++ xs.take k) → Q (.int (k : Nat)) H') ∨
   (∃ (gs : List PyData) (a : Int), ds = gs ++ [dLk "link" a a] ∧ ∃ pan' st', Eds pan st gs pan' st' xs ∧ 0 ≤ a ∧ a < (pan'.length : Int) ∧ (∀ i pi si, 1 ≤ i → i ≤ gs.length → Eds pan st (gs.take i) pi si (xs.take i) → wb pi si (past.length + i) = false) ∧
     ∀ H' dd, ButO t H H' → DeskAt K C H' t pan st past → H' dd = some (.xd [("index", .int (gs.length : Nat))]) → E (.ref CR) (some dd) H'))
theorem ok_AttGX {fWl : Addr} {fdWl : FuncData} {fLi : Addr} {fdLi : FuncData} {fUn : Addr} {fdUn : FuncData} {fBtn : Addr} {fdBtn : FuncData} {fPress : Addr} {fdPress : FuncData} {fChkB : Addr} {fdChkB : FuncData} {fIsE : Addr} {fdIsE : FuncData} {fCopy : Addr} {fdCopy : FuncData} {C D cc c f fA dV : Addr} {fd fdA : FuncData} {k : Nat} {tkB : Tok} {CN CS CC fIN fIS : Addr} {fdIN fdIS : FuncData} {CT CR fIR : Addr} {fdIR : FuncData} (F : SFunD K "attempt" "GuessDesk.attempt" sAttG cc c [("watch", .non)] f fd) (S : SCls P K mg cc c D) (SM : SMeth K C D "attempt" fA) (FA : FunD K "attempt" "Desk.attempt" (defArgs sAttempt) (defBody sAttempt) (defScope sAttempt) [] [("watch", .non)] fA fdA) (kbA : KBn K fdA ["self", "edits", "watch"] 2 ["watch"] (fun us ws => us ++ ws) (fun vs zs => vs ++ zs)) (T : TxtD K mg C) (TN : ExL K mg "NoButton" "value" "NoButton.__init__" sInitN CN fIN fdIN) (TS : ExF K mg "SameButton" "value" "SameButton.__init__" sInitS CS fIS fdIS) (T_NoChange : Ex0 K mg "NoChange" CC) (TR : ExF K mg "Rejected" "index" "Rejected.__init__" sInitR CR fIR fdIR) (gT : mg "TooManyEdits" = some (.ref CT)) (xS : PySem.W.exmAny K (.ref CS) [.ref CT, .ref CN, .ref CS, .ref CC] = some true)
    (FWl : Fun K "with_list" "with_list" sWl fWl fdWl) (bWl : Binds K fdWl ["panel", "button", "released"] []) (gWl : mg "with_list" = some (.ref fWl))
    (FLi : Fun K "linked" "linked" sLi fLi fdLi) (bLi : Binds K fdLi ["panel", "one", "other"] []) (gLi : mg "linked" = some (.ref fLi))
    (FUn : Fun K "unlinked" "unlinked" sUn fUn fdUn) (bUn : Binds K fdUn ["panel", "one", "other"] []) (gUn : mg "unlinked" = some (.ref fUn))
    (FBtn : Fun K "is_button" "is_button" sBtn fBtn fdBtn) (bBtn : Binds K fdBtn ["value", "many"] []) (gBtn : mg "is_button" = some (.ref fBtn))
    (FPress : Fun K "press_button" "press_button" sPress fPress fdPress) (bPress : Binds K fdPress ["panel", "state", "button"] []) (gPress : mg "press_button" = some (.ref fPress))
    (FChkB : Fun K "check_button" "check_button" sChkB fChkB fdChkB) (bChkB : Binds K fdChkB ["panel", "value"] []) (gChkB : mg "check_button" = some (.ref fChkB))
    (FIsE : Fun K "is_edit" "is_edit" sIsE fIsE fdIsE) (bIsE : Binds K fdIsE ["value"] []) (gIsE : mg "is_edit" = some (.ref fIsE))
    (FCopy : Fun K "copied_batch" "copied_batch" sCopy fCopy fdCopy) (bCopy : Binds K fdCopy ["value"] []) (gCopy : mg "copied_batch" = some (.ref fCopy))
    {fFree : Addr} {fdFree : FuncData} (FFree : Fun K "check_free" "Desk.check_free" sFree fFree fdFree) (bFree : Binds K fdFree ["self"] []) (hFree : Meth K C "check_free" fFree)
    {fRoom : Addr} {fdRoom : FuncData} (FRoom : Fun K "check_room" "Desk.check_room" sRoom fRoom fdRoom) (bRoom : Binds K fdRoom ["self"] []) (hRoom : Meth K C "check_room" fRoom)
    {fShow : Addr} {fdShow : FuncData} (GShow0 : ∀ k0 : Nat, FnOk P w K mg base CX0 (k0 + 6) fShow fdShow ["self", "panel", "latched"] (spShow K C)) (bShow : Binds K fdShow ["self", "panel", "latched"] []) (hShow : Meth K C "show" fShow)
    {fAdd : Addr} {fdAdd : FuncData} (FAdd : Fun K "add_edit" "Desk.add_edit" sAdd fAdd fdAdd) (bAdd : Binds K fdAdd ["self", "edit", "panel", "latched"] []) (hAdd : Meth K C "add_edit" fAdd)
    {fPressX : Addr} {fdPressX : FuncData} (FPressX : Fun K "press" "Desk.press" sPressX fPressX fdPressX) (bPressX : Binds K fdPressX ["self", "button"] []) (hPressX : Meth K C "press" fPressX)
    {fLink0X : Addr} {fdLink0X : FuncData} (FLink0X : Fun K "check_link" "Desk.check_link" sLink0X fLink0X fdLink0X) (bLink0X : Binds K fdLink0X ["self", "one", "other"] []) (hLink0X : Meth K C "check_link" fLink0X)
    {fChgX : Addr} {fdChgX : FuncData} (FChgX : Fun K "change_panel" "Desk.change_panel" sChgX fChgX fdChgX) (bChgX : Binds K fdChgX ["self", "edit", "panel"] []) (hChgX : Meth K C "change_panel" fChgX)
    {fLinkX : Addr} {fdLinkX : FuncData} (FLinkX : Fun K "link" "Desk.link" sLinkX fLinkX fdLinkX) (bLinkX : Binds K fdLinkX ["self", "one", "other"] []) (hLinkX : Meth K C "link" fLinkX)
    {fUnlinkX : Addr} {fdUnlinkX : FuncData} (FUnlinkX : Fun K "unlink" "Desk.unlink" sUnlinkX fUnlinkX fdUnlinkX) (bUnlinkX : Binds K fdUnlinkX ["self", "one", "other"] []) (hUnlinkX : Meth K C "unlink" fUnlinkX)
    {fDoEditX : Addr} {fdDoEditX : FuncData} (FDoEditX : Fun K "do_edit" "Desk.do_edit" sDoEditX fDoEditX fdDoEditX) (bDoEditX : Binds K fdDoEditX ["self", "index", "edit"] []) (hDoEditX : Meth K C "do_edit" fDoEditX)
    {fAccBy : Addr} {fdAccBy : FuncData} (FAccBy : Fun K "accepted_by" "Desk.accepted_by" sAccBy fAccBy fdAccBy) (bAccBy : Binds K fdAccBy ["self", "watch"] []) (hAccBy : Meth K C "accepted_by" fAccBy)
    {fDoBatchX : Addr} {fdDoBatchX : FuncData} (FDoBatchX : Fun K "do_batch" "Desk.do_batch" sDoBatchX fDoBatchX fdDoBatchX) (bDoBatchX : Binds K fdDoBatchX ["self", "batch", "watch"] []) (hDoBatchX : Meth K C "do_batch" fDoBatchX)
    (m_bool : mg "bool" = none) (m_enumerate : mg "enumerate" = none) (m_int : mg "int" = none) (m_isinstance : mg "isinstance" = none) (m_len : mg "len" = none) (m_list : mg "list" = none) (m_sorted : mg "sorted" = none) (m_str : mg "str" = none) (m_tuple : mg "tuple" = none) (VA : KVal K w mg dV) (y_BATCH : mg "BATCH" = some (.int 20 tkB)) {fl : Addr} {Fl : NF} {body : Expr} {fr : List Str} {ws : List (Option V)} {wsp : List (Option V) → Sp} (LK : LOk P w K mg base CX0 (k + 9) Fl body ["_law_one"] fr wsp) (MW : MonoL ws wsp) : FnOkS P w K mg base (L2K.CX P w) (k + 13) f fd ["self", "edits", "watch"] (LamAt Fl body fl fr ws) (spAttGX K C CR Fl fl ws wsp) := by
  have GA : FnOkS P w K mg base (L2K.CX P w) (k + 12) fA fdA ["self", "edits", "watch"] (LamAt Fl body fl fr ws) (spAttemptWX K C CR Fl fl ws wsp) := ok_AttemptWX FA T TN TS T_NoChange TR gT xS FWl bWl gWl FLi bLi gLi FUn bUn gUn FBtn bBtn gBtn FPress bPress gPress FChkB bChkB gChkB FIsE bIsE gIsE FCopy bCopy gCopy FFree bFree hFree FRoom bRoom hRoom GShow0 bShow hShow FAdd bAdd hAdd FPressX bPressX hPressX FLink0X bLink0X hLink0X FChgX bChgX hChgX FLinkX bLinkX hLinkX FUnlinkX bUnlinkX hUnlinkX FDoEditX bDoEditX hDoEditX FAccBy bAccBy hAccBy FDoBatchX bDoBatchX hDoBatchX m_bool m_enumerate m_int m_isinstance m_len m_list m_sorted m_str m_tuple VA y_BATCH LK MW
  refine SFun.okS F.s S scAttG (fun vs H Q E h => ?_) (fun A outer s H vs Q E hr hΦ h s1 I => ?_)
  · obtain ⟨t, pan, st, past, xs, v, ds, WH, wb, rfl, _⟩ := h
    rfl
  · obtain ⟨t, pan, st, past, xs, v, ds, WH, wb, rfl, hD, few, few2, dv, W, hw, hc, q⟩ := h
    obtain ⟨oc, od, kV, doc, pm, an, ct, osl, rfl, lkf, _⟩ := F.ex
    have B : SEnv (NdefX.ncx (L2K.CX P w) P w K mg base nAttG (sNF "attempt" "GuessDesk.attempt" sAttG cc c) f A outer s H E) f cc c D "self" := { cls := S, fu := rfl, co := rfl, cel := rfl, fo := ⟨_, _, _, _, _, lkf, rfl, rfl⟩, ks := rfl, kc := rfl, kslf := rfl }
    have hD' := hD
    obtain ⟨⟨dx, pa, p, l, hh, hs, kn, h1, h2, h3, h4, h5, h6, h7⟩, hg, hst, lfe⟩ := hD'
    refine at_cons (fun σ' H' => σ' = [some (.ref t), some v, some (.ref fl), none, some (.ref kn), none] ∧ H' = H) (ps_set (i := 4) scAttG.nd rfl (.inl rfl) (pe_fld (pv 0) rfl) rfl (.inr rfl)) I ?_ fun σ1 H1 s1 I1 q1 => ?_
    · exact ⟨.ref t, rfl, t, C, dx, _, .ref kn, rfl, h1, T.cl, T.nK, look_known _ _ _ _ _, rfl, rfl⟩
    obtain ⟨rfl, rfl⟩ := q1
    refine at_cons (fun σ' H' => σ' = [some (.ref t), some v, some (.ref fl), none, some (.ref kn), some .non] ∧ H' = H1) (ps_set (i := 5) scAttG.nd rfl (.inl rfl) pe_non rfl (.inr rfl)) I1 ⟨rfl, rfl⟩ fun σ2 H2 s2 I2 q2 => ?_
    obtain ⟨rfl, rfl⟩ := q2
    refine sup_tryK (i := 0) (j := 5) (n := 1) (Wout := fun cls d _ H => E cls d H) I2 B rfl rfl h1 SM GA (fun _ _ _ _ _ _ J => by have z := LamAt.later J rfl hΦ; exact z) (hr.mono (by omega)) kbA rfl rfl rfl (L2K.takes_of rfl rfl rfl rfl) (fun pn xe => pa_cons (pv 1) pa_nil) (fun pn xe => pk_cons (pv 2) pk_nil) (pss_one (ps_if (pt_cmpR op_isN (pv 5) pe_non (by rfl)) (pss_one (ps_fld (pv 0) (pv 4) rfl)) pss_nil))
      (fun a pn hot => pss_one (ps_if (pt_cmpR op_isN (pv 5) pe_non (by rfl)) (pss_one (show PS _ _ (sFld K (tVar 0) (tVar 4) "known") from ps_fld (pv 0) (pv 4) rfl)) pss_nil)) (pss_one (ps_ret (pv 5))) scAttG.nd rfl (.inl rfl) (.inr rfl) ?_ _ (by rfl)
    refine ⟨v, rfl, .ref fl, rfl, rfl, rfl, t, pan, st, past, xs, v, ds, WH, wb, rfl, hD, few, few2, dv, W, hw, hc, ?_⟩
    rcases q with ⟨pan', st', hE, q⟩ | ⟨gs, a, eds, pan', st', hE, a0, a1, hno, q⟩
    · refine .inl ⟨pan', st', hE, fun H3 k3 pk sk b3 hdn hD3 => ?_⟩
      refine ⟨_, rfl, rfl, _, rfl, iteF ?_⟩
      exact ⟨_, rfl, q H3 k3 pk sk b3 hdn hD3⟩
    · refine .inr ⟨gs, a, eds, pan', st', hE, a0, a1, hno, fun H3 dd hf b3 ed => ?_⟩
      obtain ⟨dx', kn', e3⟩ := hf _ _ _ _ _ _ h1
      refine ⟨.non, rfl, rfl, true, rfl, iteT ?_⟩
      refine ⟨.ref kn, rfl, .ref t, rfl, t, C, dx', _, rfl, e3, T.cl, T.nK, by show 6 < 1000; decide, ?_⟩
      rw [put_kn2]
      have b4 : ButO t _ (upd H3 t (.ins C dx' (fldsD pa p l hh kn))) := b3.trans ButO.upd
      have k4 := b4.kp h1
      exact q _ dd b4 ⟨⟨dx', pa, p, l, hh, hs, kn, upd_same, h2.kp k4 (fun x hx => ⟨(lfe x hx).1, (lfe x hx).2.1, (lfe x hx).2.2.1⟩), h3.kp k4, k4.1 _ _ h4, sqT_kp k4 h5, h6, h7.kp k4⟩, hg, hst, lfe⟩ (by rw [upd_ne (ne_of ed e3 (fun z => by cases z))]; exact ed)
end
end K54
namespace K54
open PySem PySem.Spec PyProof.Rows L2 Pr
open NdefX LamX
theorem gv_pastW {K : PySem.W.Frag} {mg : Str → Option Value} {C t : Addr} {H : Hp} {pan : List (List Int)} {st : List Int} {past : List (PyData × List (List Int) × List Int)} {σ : L2.St} {i : Nat} (T : TxtD K mg C) (hi : σ[i]? = some (some (.ref t))) (h : DeskWAt K C H t pan st past) : Gv K (tFld K (tVar i) "past") σ H (dPast past) := fun H1 s Q q => by
  obtain ⟨⟨dx, pa, p, l, hh, hs, kn, h1, h2, _⟩, _⟩ := h
  exact ⟨.ref t, hi, t, C, dx, _, .ref pa, rfl, s _ _ h1, T.cl, T.nA, by rfl, q _ H1 (Same.refl _) (h2.dp.sm s)⟩
abbrev sLenW : Stmt := sLenD
def nLenW : List Str := ["self"]
theorem scLenW : FnScope nLenW ["self"] (defScope sLenW) := ⟨rfl, rfl, rfl, by decide +kernel, rfl, by decide +kernel, by decide +kernel⟩
section
variable {P : Program} {w : World} {K : PySem.W.Frag} {mg : Str → Option Value} {base : Heap}
def spLenW (K : PySem.W.Frag) (C : Addr) : Sp := fun vs H Q _ => ∃ (t : Addr) (pan : List (List Int)) (st : List Int) (past : List (PyData × List (List Int) × List Int)), vs = [.ref t] ∧ DeskWAt K C H t pan st past ∧ ∀ H', Same H H' → Q (.int (past.length : Nat)) H'
theorem ok_LenW {C f : Addr} {fd : FuncData} {k : Nat} (F : Fun K "__len__" "Desk.__len__" sLenW f fd) (T : TxtD K mg C) (m_len : mg "len" = none) : FnOk P w K mg base CX0 (k + 1) f fd ["self"] (spLenW K C) := by
  refine F.ok scLenW (fun vs H Q E h => ?_) (fun cdv A outer s H vs Q E hr h => ?_)
  · obtain ⟨t, pan, st, past, rfl, _⟩ := h
    rfl
  · obtain ⟨t, pan, st, past, rfl, hD, q⟩ := h
    refine ⟨_, pss_one (ps_ret (pe_callB (show CallR _ _ (rLenG K) from cr_lenG) (by rfl) m_len PySem.boot_len (pa_cons (pe_fld (pv 0) rfl) pa_nil))), ?_⟩
    refine gs_ret (K := K) (gv_lenT (gv_pastW T rfl hD)) fun v H1 s1 dv => ?_
    cases dv
    rw [List.length_map]
    exact q H1 s1
/-- what the law writes as a watch -/
structure LamJ (params : Arguments) (body : Expr) (scope : Scope) : Prop where
  bd : ∃ p1 p2 p3 p4 p5 p6 p7, body = .Compare (.BinOp (.Call (.Name "len" p1) [.Name "_law_one" p2] [] p3) .Sub (.Name "_law_many" p4) p5) [.Eq] [.Name "_law_last" p6] p7
  S : NScope ["_law_one", "_law_last", "_law_many"] ["_law_one"] ["_law_last", "_law_many"] scope
  gl : scope.names.lookup ("len" : Str) = some NameKind.globalImplicit
  bind : ∀ (q : Str) (cl : List (Str × Addr)) (pm cv ctv u : Value), bindArgs (PySem.W.kla_fn "<lambda>" q params body scope cl pm cv ctv) ⟨[u], []⟩ = pure [(("_law_one" : Str), u)]
def spJ (K : PySem.W.Frag) (C : Addr) : List (Option V) → Sp := fun ws vs H Q E => ∃ (t : Addr) (pan : List (List Int)) (st : List Int) (past : List (PyData × List (List Int) × List Int)) (many last : Int), ws = [some (.int last), some (.int many)] ∧ vs = [.ref t] ∧ DeskWAt K C H t pan st past ∧ past.length ≤ 60 ∧ ∀ H', Same H H' → Q (.bl (decide (((past.length : Nat) : Int) - many = last))) H'
theorem mono_J {K : PySem.W.Frag} {C : Addr} (ws : List (Option V)) : MonoL ws (spJ K C) := fun vs H Q Q' m h => by
  obtain ⟨t, pan, st, past, many, last, e1, e2, hD, few, q⟩ := h
  exact ⟨t, pan, st, past, many, last, e1, e2, hD, few, fun H' s => m _ _ (q H' s)⟩
theorem ok_J {C f c' : Addr} {fd : FuncData} {k : Nat} {params : Arguments} {body : Expr} {scope : Scope} {q : Str} {cl : List (Str × Addr)} (L : LamJ params body scope) (G : FnOk P w K mg base CX0 k f fd ["self"] (spLenW K C)) (b : Binds K fd ["self"] []) (hs : PySem.W.findIn K (.ref C) "__len__" = some (some (.ref f))) (hf : PySem.W.isFn K (.ref f) = true) (m_len : mg "len" = none) :
    LOk P w K mg base CX0 (k + 2) ⟨"<lambda>", q, params, [], scope, cl, c'⟩ body ["_law_one"] ["_law_last", "_law_many"] (spJ K C) := by
  obtain ⟨⟨p1, p2, p3, p4, p5, p6, p7, rfl⟩, S, hgl, hb⟩ := L
  refine lok_of (N := ["_law_one", "_law_last", "_law_many"]) S (fun pm ctv us hl => ?_) (fun ws vs H Q E h => ?_) (fun f' A outer s H vs ws Q E hr hc hw h => ?_)
  · match us, hl with
    | [u], _ => exact hb _ _ _ _ _ _
  · obtain ⟨t, pan, st, past, many, last, _, rfl, _⟩ := h
    rfl
  · obtain ⟨t, pan, st, past, many, last, rfl, rfl, hD, few, h⟩ := h
    refine ⟨_, pe_cmpR op_eq (pe_op op_sub (pe_callB (show CallR _ _ (rLenO C (spLenW K C)) from cr_lenO G hr b hs hf) (show scope.names.lookup _ = _ from hgl) m_len PySem.boot_len (pa_cons (pe_var (x := "_law_one") (i := 0) rfl (.inl (S.par _ (by simp)))) pa_nil)) (pe_var (x := "_law_many") (i := 2) rfl (.inr (.inr (S.frk _ (by simp)))))) (pe_var (x := "_law_last") (i := 1) rfl (.inr (.inr (S.frk _ (by simp))))) (nomark _), ?_⟩
    have hD' := hD
    obtain ⟨⟨dx, pa, p, l, hh, hs', kn, h1, _⟩, _⟩ := hD'
    refine ⟨.ref t, rfl, t, dx, _, rfl, h1, t, pan, st, past, rfl, hD, fun H1 s1 => ⟨_, rfl, by omega, by omega, .int many, rfl, _, _, rfl, rfl, .int last, rfl, rfl, ?_⟩⟩
    have e : decide (V.int (((past.length : Nat) : Int) - many) = V.int last) = decide (((past.length : Nat) : Int) - many = last) := by
      by_cases z : ((past.length : Nat) : Int) - many = last
      · rw [z, decide_eq_true rfl, decide_eq_true rfl]
      · rw [decide_eq_false z, decide_eq_false (fun y => z (V.int.inj y))]
    rw [e]
    exact h H1 s1
end
theorem say_J {K : PySem.W.Frag} {C t : Addr} {F : NF} {many last : Int} : WSay K C t F [some (.int last), some (.int many)] (spJ K C) (fun _ => True) (fun _ _ n => decide (((n : Nat) : Int) - many = last)) :=
  ⟨fun H pan st past Q hD few _ _ q => ⟨t, pan, st, past, many, last, rfl, rfl, hD, few, fun H' s => q H' s⟩, fun _ _ _ _ _ _ _ => True.intro⟩
end K54
namespace K54
open PySem PySem.Spec PyProof.Rows L2 Pr
abbrev sInitV : Stmt := inClass (topS 18) 0
theorem scInitV : FnScope ["self", "value"] ["self", "value"] (defScope sInitV) := ⟨rfl, rfl, rfl, by decide +kernel, rfl, by decide +kernel, by decide +kernel⟩
section
variable {P : Program} {w : World} {K : PySem.W.Frag} {mg : Str → Option Value} {base : Heap}
theorem ok_initV {f C : Addr} {fd : FuncData} {k : Nat} (F : Fun K "__init__" "NoVersion.__init__" sInitV f fd) : FnOk P w K mg base CX0 (k + 1) f fd ["self", "value"] (spIL K C "value") := by
  refine F.ok scInitV (fun vs H Q E h => ?_) (fun cdv A outer s H vs Q E hr h => ?_)
  · obtain ⟨e, y, rfl, _⟩ := h
    rfl
  · obtain ⟨e, y, rfl, T, hno, he, q⟩ := h
    refine ⟨_, pss_one (ps_ostL (pv 0) (pv 1)), ?_⟩
    exact ⟨y, rfl, .ref e, rfl, e, C, rfl, T, hno, he, q⟩
end
/-- what a version is: the present state, one before an edit, or none -/
def verM (pan : List (List Int)) (st : List Int) (past : List (PyData × List (List Int) × List Int)) : PyData → Option (List (List Int) × List Int)
  | .none => some (pan, st)
  | .int i => if 0 ≤ i ∧ i ≤ (past.length : Int) then (past.map (·.2) ++ [(pan, st)])[i.toNat]? else none
  | _ => none
theorem verM_int (pan : List (List Int)) (st : List Int) (past : List (PyData × List (List Int) × List Int)) (i : Int) : verM pan st past (.int i) = if 0 ≤ i ∧ i ≤ (past.length : Int) then (past.map (·.2) ++ [(pan, st)])[i.toNat]? else none := rfl
theorem verM_now {pan : List (List Int)} {st : List Int} {past : List (PyData × List (List Int) × List Int)} : verM pan st past (.int (past.length : Int)) = some (pan, st) := by
  rw [verM_int, if_pos ⟨by omega, by omega⟩, Int.toNat_natCast, List.getElem?_append_right (by rw [List.length_map]; omega), List.length_map, Nat.sub_self]; rfl
theorem verM_at {pan : List (List Int)} {st : List Int} {past : List (PyData × List (List Int) × List Int)} {j : Nat} {y : PyData × List (List Int) × List Int} (h : past[j]? = some y) : verM pan st past (.int (j : Int)) = some y.2 := by
  have hj := (List.getElem?_eq_some_iff.mp h).1
  rw [verM_int, if_pos ⟨by omega, by omega⟩, Int.toNat_natCast, List.getElem?_append_left (by rw [List.length_map]; exact hj), List.getElem?_map, h]; rfl
theorem verM_no {pan : List (List Int)} {st : List Int} {past : List (PyData × List (List Int) × List Int)} {d : PyData} (hn : d ≠ .none) : isBtn ((past.length : Int) + 1) d = false → verM pan st past d = none := by
  cases d with
  | none => exact absurd rfl hn
  | int i =>
    intro h
    rw [verM_int, if_neg]
    rintro ⟨h1, h2⟩
    have : isBtn ((past.length : Int) + 1) (.int i) = true := by simp [isBtn, h1]; omega
    rw [this] at h; cases h
  | _ => intro _; rfl
theorem dq_non {K : PySem.W.Frag} {N : Addr → Prop} {H : Hp} {v : V} {d : PyData} (h : Dq K N H v d) : decide (v = .non) = true ↔ d = .none := by
  cases h <;> simp
def nIsV : List Str := ["value", "latest"]
theorem scIsV : FnScope nIsV ["value", "latest"] (defScope sIsV) := ⟨rfl, rfl, rfl, by decide +kernel, rfl, by decide +kernel, by decide +kernel⟩
section
variable {P : Program} {w : World} {K : PySem.W.Frag} {mg : Str → Option Value} {base : Heap}
def spIsV (K : PySem.W.Frag) : Sp := fun vs H Q _ => ∃ (N : Addr → Prop) (v : V) (d : PyData) (n : Int), vs = [v, .int n] ∧ Dq K N H v d ∧ Q (.bl (isBtn (n + 1) d)) H
theorem ok_IsV {fBtn : Addr} {fdBtn : FuncData} {f : Addr} {fd : FuncData} {k : Nat} (F : Fun K "is_version" "is_version" sIsV f fd)
    (FBtn : Fun K "is_button" "is_button" sBtn fBtn fdBtn) (bBtn : Binds K fdBtn ["value", "many"] []) (gBtn : mg "is_button" = some (.ref fBtn))
    (m_bool : mg "bool" = none) (m_int : mg "int" = none) (m_isinstance : mg "isinstance" = none) : FnOk P w K mg base CX0 (k + 2) f fd ["value", "latest"] (spIsV K) := by
  have GBtn : FnOk P w K mg base CX0 (k + 1) fBtn fdBtn ["value", "many"] (spBtn K) := ok_btn FBtn m_isinstance m_bool m_int
  refine F.ok scIsV (fun vs H Q E h => ?_) (fun cdv A outer s H vs Q E hr h => ?_)
  · obtain ⟨N, v, d, n, rfl, _⟩ := h
    rfl
  · refine ⟨_, pss_one (ps_ret (pe_call GBtn (hr.mono (by omega)) (by rfl) gBtn FBtn.kp bBtn .nil pass0 (pa_cons (pv 0) (pa_cons (pe_op op_add (pv 1) pe_int) pa_nil)))), hide1 fun t0 ht0 => ?_⟩
    obtain ⟨N, v, d, n, rfl, hd, q⟩ := h
    refine ht0 _ _ _ ?_
    exact ⟨v, rfl, .int n, rfl, n, 1, rfl, rfl, N, v, d, n + 1, rfl, hd, q⟩
end
def nState : List Str := ["self", "version", "edit", "panel", "latched"]
theorem scState : FnScope nState ["self", "version"] (defScope sState) := ⟨rfl, rfl, rfl, by decide +kernel, rfl, by decide +kernel, by decide +kernel⟩
section
variable {P : Program} {w : World} {K : PySem.W.Frag} {mg : Str → Option Value} {base : Heap}
def spState (K : PySem.W.Frag) (C CV : Addr) : Sp := fun vs H Q E => ∃ (N : Addr → Prop) (t : Addr) (v : V) (d : PyData) (pan : List (List Int)) (st : List Int) (past : List (PyData × List (List Int) × List Int)), vs = [.ref t, v] ∧ DeskAt K C H t pan st past ∧ Dq K N H v d ∧
  (∀ y, verM pan st past d = some y → ∀ H' u p l, Same H H' → H' u = some (.tup [.ref p, .ref l]) → PanT K H' p y.1 → H' l = some (.tup (y.2.map V.int)) → Good y.1 → Asc y.1.length y.2 → Q (.ref u) H') ∧
  (verM pan st past d = none → ∀ H' dd, Same H H' → H' dd = some (.xd [("value", v)]) → E (.ref CV) (some dd) H')
theorem ok_State {fBtn : Addr} {fdBtn : FuncData} {fIsV : Addr} {fdIsV : FuncData} {C CV f fIV : Addr} {fd fdIV : FuncData} {k : Nat} (F : FunD K "state" "Desk.state" (defArgs sState) (defBody sState) (defScope sState) [] [("version", .non)] f fd) (T : TxtD K mg C) (TV : ExL K mg "NoVersion" "value" "NoVersion.__init__" sInitV CV fIV fdIV)
    (FBtn : Fun K "is_button" "is_button" sBtn fBtn fdBtn) (bBtn : Binds K fdBtn ["value", "many"] []) (gBtn : mg "is_button" = some (.ref fBtn))
    (FIsV : Fun K "is_version" "is_version" sIsV fIsV fdIsV) (bIsV : Binds K fdIsV ["value", "latest"] []) (gIsV : mg "is_version" = some (.ref fIsV))
    (m_bool : mg "bool" = none) (m_int : mg "int" = none) (m_isinstance : mg "isinstance" = none) (m_len : mg "len" = none) : FnOk P w K mg base (L2.CX P w) (k + 3) f fd ["self", "version"] (spState K C CV) := by
  have GIsV : FnOk P w K mg base CX0 (k + 2) fIsV fdIsV ["value", "latest"] (spIsV K) := ok_IsV FIsV FBtn bBtn gBtn m_bool m_int m_isinstance
  have GV : FnOk P w K mg base CX0 (k + 1) fIV fdIV ["self", "value"] (spIL K CV "value") := ok_initV TV.FI
  refine F.ok (CX := L2.CX P w) scState (fun vs H Q E h => ?_) (fun cdv A outer s H vs Q E hr h => ?_)
  · obtain ⟨N, t, v, d, pan, st, past, rfl, _⟩ := h
    rfl
  · obtain ⟨N, t, v, d, pan, st, past, rfl, hD, hd, q1, q2⟩ := h
    refine ⟨_, pss_cons (ps_if (pt_cmpR op_isN (pv 1) pe_non (by rfl)) (pss_one (ps_ret (pe_tup (pa_cons (pe_fld (pv 0) rfl) (pa_cons (pe_fld (pv 0) rfl) pa_nil))))) pss_nil)
      (pss_cons (ps_if (pt_not (pt_val (pe_call GIsV (hr.mono (by omega)) (by rfl) gIsV FIsV.kp bIsV .nil pass0 (pa_cons (pv 1) (pa_cons (pe_callB (show CallR _ _ (rLenG K) from cr_lenG) (by rfl) m_len PySem.boot_len (pa_cons (pe_fld (pv 0) rfl) pa_nil)) pa_nil))))) (pss_one (ps_raise rfl (takes_of rfl rfl rfl rfl) (pmk_oel TV.oex TV.iC TV.tI GV (hr.mono (by omega)) TV.bI pass0 (by rfl) TV.g (pa_cons (pv 1) pa_nil)))) pss_nil)
      (pss_cons (ps_if (pt_cmpR op_eq (pv 1) (pe_callB (show CallR _ _ (rLenG K) from cr_lenG) (by rfl) m_len PySem.boot_len (pa_cons (pe_fld (pv 0) rfl) pa_nil)) (nomark _)) (pss_one (ps_ret (pe_tup (pa_cons (pe_fld (pv 0) rfl) (pa_cons (pe_fld (pv 0) rfl) pa_nil))))) pss_nil)
      (pss_cons (ps_asg (pe_ix (show IxR _ (rIxT K) from ix_tup) (pe_fld (pv 0) rfl) (pv 1) (fun _ _ => rfl)) (pg_tup rfl (pgs_cons (pg_name (i := 2) scState.nd rfl (Or.inl rfl)) (pgs_cons (pg_name (i := 3) scState.nd rfl (Or.inl rfl)) (pgs_cons (pg_name (i := 4) scState.nd rfl (Or.inl rfl)) pgs_nil)))))
      (pss_one (ps_ret (pe_tup (pa_cons (pv 3) (pa_cons (pv 4) pa_nil)))))))), ?_⟩
    refine seq_hide fun u1 hu1 => ?_
    have hD0 := hD
    obtain ⟨⟨dx, pa, p, l, hh, hs, kn, h1, h2, h3, h4, h5, h6, h7⟩, hg, hst, lfe⟩ := hD0
    have now : ∀ {D : Ends} (H1 : Hp) (x2 x3 x4 : Option V), Same H H1 → D.rt = Q → verM pan st past d = some (pan, st) → tRet (tTup (tCons (tFld K (tVar 0) "panel") (tCons (tFld K (tVar 0) "latched") tNil))) D [some (.ref t), some v, x2, x3, x4] H1 := fun {D} H1 x2 x3 x4 s1 eD ev => by
      refine ⟨.ref t, rfl, t, C, dx, _, .ref p, rfl, s1 _ _ h1, T.cl, T.nP, look_panel _ _ _ _ _, .ref t, rfl, t, C, dx, _, .ref l, rfl, s1 _ _ h1, T.cl, T.nL, look_latched _ _ _ _ _, by show 2 ≤ sizeLine; decide, fun u nu => ?_⟩
      have su := same_new (o := .tup [.ref p, .ref l]) nu
      have sA := s1.trans su
      rw [eD]
      exact q1 (pan, st) ev _ u p l sA upd_same (h3.same sA) (sA _ _ h4) hg hst
    refine ⟨v, rfl, rfl, _, rfl, ?_⟩
    by_cases dn : d = .none
    · rw [(dq_non hd).mpr dn]
      subst dn
      exact iteT (now H none none none (Same.refl _) rfl rfl)
    · rw [show decide (v = .non) = false from by cases e : decide (v = .non) with | false => rfl | true => exact absurd ((dq_non hd).mp e) dn]
      refine iteF (next_of ?_)
      dsimp only
      refine hu1 _ _ _ (seq_hide fun u2 hu2 => ?_)
      refine ⟨v, rfl, (gv_lenT (K := K) (gv_past (i := 0) T rfl hD)).at fun vn H1 s1 dv => ?_⟩
      cases dv
      rw [List.length_map]
      refine ⟨N, v, d, (past.length : Int), rfl, Dq.same s1 _ _ hd, ⟨_, rfl, ?_⟩⟩
      cases eb : isBtn ((past.length : Int) + 1) d with
      | false => exact iteT ⟨v, rfl, rzL TV fun H2 dd s2 ed => q2 (verM_no dn eb) H2 dd (s1.trans s2) ed⟩
      | true =>
        refine iteF (next_of ?_)
        dsimp only
        refine hu2 _ _ _ (seq_hide fun u3 hu3 => ?_)
        obtain ⟨i, rfl, i0, i1⟩ := btn_int eb
        cases hd
        obtain ⟨j, rfl⟩ : ∃ j : Nat, i = (j : Int) := ⟨i.toNat, by omega⟩
        refine gs_if1 (gvt_test (K := K) (gv_eqI (gv_var rfl (.int (j : Int))) ((gv_lenT (gv_past (i := 0) T rfl (hD.same s1))).to (by rw [List.length_map])))) (fun e H2 s2 => ?_) (fun e H2 s2 => ?_)
        · have ej : (j : Int) = (past.length : Int) := of_decide_eq_true e
          have s12 := s1.trans s2
          exact now H2 none none none s12 rfl (by rw [ej]; exact verM_now)
        · refine hu3 _ _ _ ?_
          have ej : ¬ (j : Int) = (past.length : Int) := of_decide_eq_false e
          have s12 := s1.trans s2
          have e2 := s12 _ _ h1
          obtain ⟨xs, hpa, hxs⟩ := h2.sm s12
          obtain ⟨y, hy⟩ : ∃ y, past[j]? = some y := ⟨_, List.getElem?_eq_getElem (by omega)⟩
          obtain ⟨x, hx, ⟨au, pu, lu, vu, rfl, hau, dvu, hpu, elu⟩⟩ := prGet hxs hy
          refine ⟨.ref t, rfl, t, C, dx, _, .ref pa, rfl, e2, T.cl, T.nA, look_past _ _ _ _ _, .int (j : Int), rfl, pa, _, _, .ref au, rfl, rfl, hpa, at_nat hx, ?_⟩
          refine ⟨au, _, rfl, hau, rfl, vu, [.ref pu, .ref lu], rfl, .ref pu, [.ref lu], rfl, .ref lu, [], rfl, rfl, ?_⟩
          refine ⟨.ref pu, rfl, .ref lu, rfl, by show 2 ≤ sizeLine; decide, fun u nu => ?_⟩
          have su := same_new (o := .tup [.ref pu, .ref lu]) nu
          have hyy := lfe y (List.mem_of_getElem? hy)
          exact q1 y.2 (verM_at hy) _ u pu lu (s12.trans su) upd_same (hpu.same su) (su _ _ elu) hyy.2.1 hyy.2.2.1
end
end K54
namespace K54
open PySem PySem.Spec PyProof.Rows L2 Pr
abbrev sNoteG : Stmt := inClass (topS 52) 3
def nNoteG : List Str := ["self", "button"]
theorem scNoteG : FnScope nNoteG ["self", "button"] (defScope sNoteG) := ⟨rfl, rfl, rfl, by decide +kernel, rfl, by decide +kernel, by decide +kernel⟩
section
variable {P : Program} {w : World} {K : PySem.W.Frag} {mg : Str → Option Value} {base : Heap}
def spNoteG (CL : Addr) : Sp := fun vs H Q E => ∃ (t : Addr) (v : V), vs = [.ref t, v] ∧ E (.ref CL) none H
theorem ok_NoteG {f CL : Addr} {fd : FuncData} {k : Nat} (F : Fun K "note" "GuessDesk.note" sNoteG f fd) (T_Locked : Ex0 K mg "Locked" CL) : FnOk P w K mg base (L2.CX P w) (k + 1) f fd ["self", "button"] (spNoteG CL) := by
  refine F.okX scNoteG (fun vs H Q E h => ?_) (fun cdv A outer s H vs Q E hr h => ?_)
  · obtain ⟨t, v, rfl, _⟩ := h
    rfl
  · obtain ⟨t, v, rfl, q⟩ := h
    exact ⟨_, pss_one (ps_raise rfl (takes_of rfl rfl rfl rfl) (T_Locked.made (by rfl))), q⟩
end
end K54
namespace Pr
open PySem PySem.Spec PyProof.Rows L2
def Dk3 (H : Hp) (a c r : Addr) (m : Nat) : Prop :=
  ∃ (cells rests : List Int) (n : Nat), H a = some (.lst [.ref c, .int (n : Int), .ref r]) ∧ H c = some (.lst (cells.map V.int)) ∧ H r = some (.lst (rests.map V.int)) ∧ a ≠ c ∧ a ≠ r ∧ c ≠ r ∧
    1 ≤ cells.length ∧ cells.length ≤ 63 ∧ rests.length = cells.length ∧ n + m ≤ 1000000
theorem Dk3.same {H H' : Hp} {a c r : Addr} {m : Nat} (e : Same H H') (h : Dk3 H a c r m) : Dk3 H' a c r m :=
  let ⟨cs, rs, n, h1, h2, h3, h4⟩ := h; ⟨cs, rs, n, e _ _ h1, e _ _ h2, e _ _ h3, h4⟩
theorem Dk3.less {H : Hp} {a c r : Addr} {m m' : Nat} (h : Dk3 H a c r m) (z : m' ≤ m) : Dk3 H a c r m' :=
  let ⟨cs, rs, n, h1, h2, h3, h4, h5, h6, h7, h8, h9, h10⟩ := h; ⟨cs, rs, n, h1, h2, h3, h4, h5, h6, h7, h8, h9, by omega⟩
theorem Dk3.apart {H : Hp} {a c r : Addr} {m : Nat} (h : Dk3 H a c r m) {b : Addr} {o : HO} (e : H b = some o) (ho : ∀ xs, o ≠ .lst xs) : b ≠ a ∧ b ≠ r := by
  obtain ⟨cs, rs, n, h1, h2, h3, _⟩ := h
  exact ⟨ne_of e h1 (ho _), ne_of e h3 (ho _)⟩
theorem Dk3.fresh {H : Hp} {a c r : Addr} {m : Nat} (h : Dk3 H a c r m) {b : Addr} (e : H b = none) : b ≠ a ∧ b ≠ r ∧ b ≠ c := by
  obtain ⟨cs, rs, n, h1, h2, h3, _⟩ := h
  exact ⟨Ne.symm (ne_of_none h1 e), Ne.symm (ne_of_none h3 e), Ne.symm (ne_of_none h2 e)⟩
/-- a store at a place that is none of the deck's -/
theorem Dk3.upd {H : Hp} {a c r : Addr} {m : Nat} {b : Addr} {o : HO} (h : Dk3 H a c r m) (n : b ≠ a ∧ b ≠ r ∧ b ≠ c) : Dk3 (upd H b o) a c r m := by
  obtain ⟨cs, rs, n', h1, h2, h3, h4⟩ := h
  exact ⟨cs, rs, n', by rw [upd_ne (Ne.symm n.1)]; exact h1, by rw [upd_ne (Ne.symm n.2.2)]; exact h2, by rw [upd_ne (Ne.symm n.2.1)]; exact h3, h4⟩
theorem But.free {a c : Addr} {H H' : Hp} {b : Addr} (x : But a c H H') (h1 : b ≠ a) (h2 : b ≠ c) (e : H' b = none) : H b = none := by
  cases q : H b with
  | none => rfl
  | some o => have := x b o h1 h2 q; rw [e] at this; cases this
theorem cut_ints (ns : List Int) (lo hi : Option Int) : ∃ ms : List Int, cutV (ns.map V.int) lo hi = ms.map V.int ∧ ms.length ≤ ns.length := by
  refine ⟨(ns.drop (HT.sIx ns.length 0 lo)).take (HT.sIx ns.length ns.length hi - HT.sIx ns.length 0 lo), ?_, ?_⟩
  · unfold cutV
    rw [List.length_map, List.map_take, List.map_drop]
  · rw [List.length_take, List.length_drop]; omega
end Pr
namespace Pr
open PySem PySem.Spec PyProof.Rows L2
/-- kvs holds the last place of each of the first i -/
def LastAt (row : List Int) (i : Nat) (kvs : List (Key × V)) : Prop :=
  ∀ x : Int, x ∈ row.take i → ∃ j : Nat, row[j]? = some x ∧ j < i ∧ (∀ m, j < m → m < i → row[m]? ≠ some x) ∧ valV kvs (Sum.inl x) = some (.int (j : Int))
theorem LastAt.nil (row : List Int) (kvs : List (Key × V)) : LastAt row 0 kvs := fun x h => by simp at h
end Pr
namespace Pr
open PySem PySem.Spec PyProof.Rows L2
end Pr
namespace Pr
open PySem PySem.Spec PyProof.Rows L2
end Pr
namespace Pr
open PySem PySem.Spec PyProof.Rows L2
def rReprB (K : PySem.W.Frag) : List V → Hp → VK → Prop := fun xs H Q => rReprN K xs H Q ∨ ∃ b : Bool, xs = [.bl b] ∧ Q (.str (PyData.shown (.bool b))) H
theorem shq_bool (b : Bool) : Shq 60 sizeLine (.bool b) := by cases b <;> exact ⟨by simp only [PyData.showable], by simp [PyData.depth], by simp only [PyData.shown]; decide⟩
theorem cr_reprB {X : Cx} {k : Nat} (gd : X.A.guards = some []) (hr : Room k X.A) : CallR X (.builtin "repr") (rReprB X.K) := by
  intro pins s σ H xs us Q I rv h
  rcases h with h | ⟨b, rfl, q⟩
  · exact cr_reprN gd hr pins s σ H xs us Q I rv h
  · exact call_reprQ gd hr pins s σ H _ us Q I rv ⟨fun _ => False, .bl b, .bool b, rfl, .bl b, shq_bool b, q⟩
theorem gv_reprB {K : PySem.W.Frag} {σ : L2.St} {H : Hp} {t : TE} {d : PyData} (h : Gv K t σ H d) (hd : RepOk d) : Gv K (tCB (rReprB K) (tCons t tNil)) σ H (.str d.shown) := fun H1 s Q q =>
  gva_cons h gva_nil H1 s _ fun vs H2 s2 dv => .inl (by
    have := gv_reprN (K := K) (t := fun _ H Q => Q (vs.headD .non) H) (σ := σ) (H := H2) (d := d) (fun H3 s3 Q' q' => q' _ H3 (Same.refl _) (by obtain ⟨v, rfl, hv⟩ := dpAll1 dv; exact hv.sm s3)) hd H2 (Same.refl _) Q (fun v H' s' d' => q v H' (s2.trans s') d')
    obtain ⟨v, rfl, hv⟩ := dpAll1 dv
    exact this)
def rReprA (K : PySem.W.Frag) : List V → Hp → VK → Prop := fun xs H Q => rReprB K xs H Q ∨ rReprQ K xs H Q
theorem cr_reprA {X : Cx} {k : Nat} (gd : X.A.guards = some []) (hr : Room k X.A) : CallR X (.builtin "repr") (rReprA X.K) := by
  intro pins s σ H xs us Q I rv h
  rcases h with h | h
  · exact cr_reprB gd hr pins s σ H xs us Q I rv h
  · exact call_reprQ gd hr pins s σ H xs us Q I rv h
section
variable {K : PySem.W.Frag} {σ : L2.St} {H : Hp} {t : TE}
theorem gv_reprA {d : PyData} (h : Gv K t σ H d) (hd : RepOk d) : Gv K (tCB (rReprA K) (tCons t tNil)) σ H (.str d.shown) := fun H1 s Q q => by
  have := gv_reprB h hd H1 s Q q
  exact gva_cons h gva_nil H1 s _ fun vs H2 s2 dv => .inl (by
    have := gv_reprB (K := K) (t := fun _ H Q => Q (vs.headD .non) H) (σ := σ) (H := H2) (d := d) (fun H3 s3 Q' q' => q' _ H3 (Same.refl _) (by obtain ⟨v, rfl, hv⟩ := dpAll1 dv; exact hv.sm s3)) hd H2 (Same.refl _) Q (fun v H' s' d' => q v H' (s2.trans s') d')
    obtain ⟨v, rfl, hv⟩ := dpAll1 dv
    exact this)
end
end Pr
namespace Pr
open PySem PySem.Spec PyProof.Rows L2
structure Sm (n : Nat) (x : Str) : Prop where
  ln : x.length ≤ n
  cs : ∀ c ∈ TL.tl x, c < 128
theorem Sm.mono {n m : Nat} {x : Str} (h : Sm n x) (g : n ≤ m) : Sm m x := ⟨Nat.le_trans h.ln g, h.cs⟩
theorem tl_mem {x : Str} {c : Nat} (h : c ∈ x.cps.toList) : c ∈ TL.tl x := h
theorem shq_str {n : Nat} {x : Str} (h : Sm n x) (hn : n ≤ 5000) : Shq 0 (10 * n + 2) (.str x) := by
  refine ⟨by simp only [PyData.showable], by simp [PyData.depth], ?_⟩
  simp only [PyData.shown]
  refine Nat.le_trans (StrLaws.reprText_len x fun c hc => Nat.lt_trans (h.cs c (tl_mem hc)) (by decide)) ?_
  have := h.ln
  omega
theorem shw_str {n : Nat} {x : Str} (h : Sm n x) (hn : n ≤ 5000) : Shw 0 (10 * n + 2) (.str x) := ⟨(shq_str h hn).sh, by simp only [PyData.hasDict], (shq_str h hn).dp, (shq_str h hn).ln⟩
def rStrI : List V → Hp → VK → Prop := fun xs H Q => ∃ i, xs = [.int i] ∧ i.natAbs.log2 < 1920 ∧ Q (.str (toString i)) H
end Pr
namespace K54
open PySem PySem.Spec PyProof.Rows L2 Pr
section
variable {K : PySem.W.Frag} {C : Addr} {H H' : Hp} {t : Addr} {pan : List (List Int)} {st : List Int} {past : List (PyData × List (List Int) × List Int)} {σ : L2.St} {i : Nat} {E : XK} {te : TE}
theorem gv_StateD {CV : Addr} (hi : σ[i]? = some (some (.ref t))) (h : DeskAt K C H t pan st past) : Gv K (tMeth C "state" (spState K C CV) [.non] E (tVar i) tNil) σ H (.tuple [dPan pan, dInts st]) := fun H1 s Q q => by
  have hD := h.same s
  exact hD.at fun dx fs e l => ⟨.ref t, hi, t, dx, fs, rfl, e, l _ (by decide +kernel), fun _ => False, t, .non, .none, pan, st, past, rfl, hD, .non, fun y ey H2 u p l s2 eu hp el _ _ => by
    cases ey
    exact q _ H2 s2 (.tup (.inl (.inl eu)) (.cons hp.dp (.cons (dp_ints (.inl (.inl el))) .nil))), (fun z => by cases z)⟩
theorem gv_EditsD (hi : σ[i]? = some (some (.ref t))) (h : DeskAt K C H t pan st past) (few : past.length ≤ 1000) : Gv K (tMeth C "edits" (spEdits K C) [] E (tVar i) tNil) σ H (.tuple (past.map (·.1))) := fun H1 s Q q => by
  have hD := h.same s
  exact hD.at fun dx fs e l => ⟨.ref t, hi, t, dx, fs, rfl, e, l _ (by decide +kernel), t, pan, st, past, rfl, hD, few, fun H2 v s2 dv => q v H2 s2 dv⟩
theorem gv_lenD (hi : σ[i]? = some (some (.ref t))) (h : DeskAt K C H t pan st past) (few : past.length ≤ 1000) : Gv K (tCB (rLenO C (spLenD K C)) (tCons (tVar i) tNil)) σ H (.int (past.length : Nat)) := fun H1 s Q q => by
  have hD := h.same s
  exact hD.at fun dx fs e l => ⟨.ref t, hi, t, dx, fs, rfl, e, t, pan, st, past, rfl, hD, fun H2 s2 => ⟨_, rfl, by omega, by omega, q _ H2 s2 (.int _)⟩⟩
theorem gv_strD (hi : σ[i]? = some (some (.ref t))) (h : DeskAt K C H t pan st past) (few : past.length ≤ 1000) : Gv K (tCB (rStrO C (spStrD K C)) (tCons (tVar i) tNil)) σ H (.str (txtD pan.length st.length past.length)) := fun H1 s Q q => by
  have hD := h.same s
  exact hD.at fun dx fs e l => ⟨.ref t, hi, t, dx, fs, rfl, e, t, pan, st, past, rfl, hD, few, fun H2 s2 => ⟨_, rfl, q _ H2 s2 (.str _)⟩⟩
theorem gv_strI {n : Nat} (h : Gv K te σ H (.int (n : Int))) (hn : n ≤ 1000) : Gv K (tCB rStrI (tCons te tNil)) σ H (.str (toString (n : Int))) := gv_cb (gva_cons h gva_nil) fun vs H1 Q s hd' q => by
  obtain ⟨v, rfl, hv⟩ := dpAll1 hd'
  cases hv
  exact ⟨_, rfl, log_num n hn, q _ _ (Same.refl _) (.str _)⟩
theorem dpAll_strI : ∀ {vs : List V} {l : List Str}, DpAll K H vs (l.map PyData.str) → vs = l.map V.str
  | [], [], _ => rfl
  | _, _ :: _, h => by
    cases h with
    | cons h1 h2 =>
      cases h1
      rw [dpAll_strI h2]; rfl
theorem gv_join1 {td tl : TE} {a : Str} {ys : List Str} (h1 : Gv K td σ H (.str a)) (h2 : Gv K tl σ H (.list (ys.map PyData.str))) (hl : (ys.map (·.length)).sum + ys.length * a.length ≤ 16777216) :
    Gv K (tM1 (fun x xs H Q => ∃ a p, ∃ ys : List Str, x = .str a ∧ xs = [.ref p] ∧ (SqL K H p (ys.map V.str) ∨ SqT K H p (ys.map V.str)) ∧
      (ys.map (·.length)).sum + ys.length * a.length ≤ 16777216 ∧ Q (.str (Txt.join a ys)) H) td tl) σ H (.str (Txt.join a ys)) := fun H1 s Q q => h1 H1 s _ fun v H2 s2 d2 => by
  cases d2
  refine ⟨⟨_, rfl⟩, h2 H2 (s.trans s2) _ fun w H3 s3 d3 => ?_⟩
  obtain ⟨p, xs, rfl, hp, hr⟩ := d3.lstI
  rw [dpAll_strI hr] at hp
  exact ⟨_, p, ys, rfl, rfl, .inl hp, hl, q _ H3 (s2.trans s3) (.str _)⟩
end
theorem txt_is (a b c : Nat) : txtD a b c = Txt.join (" " : Str) [(toString (a : Int) : Str), "buttons,", (toString (b : Int) : Str), "latched,", (toString (c : Int) : Str), "edits"] := by
  have e1 : (" buttons, " : Str) = (" " : Str) ++ (("buttons," : Str) ++ (" " : Str)) := by decide +kernel
  have e2 : (" latched, " : Str) = (" " : Str) ++ (("latched," : Str) ++ (" " : Str)) := by decide +kernel
  have e3 : (" edits" : Str) = (" " : Str) ++ ("edits" : Str) := by decide +kernel
  have j : Txt.join (" " : Str) [(toString (a : Int) : Str), "buttons,", (toString (b : Int) : Str), "latched,", (toString (c : Int) : Str), "edits"] = (toString (a : Int) : Str) ++ " " ++ (("buttons," : Str) ++ " " ++ ((toString (b : Int) : Str) ++ " " ++ (("latched," : Str) ++ " " ++ ((toString (c : Int) : Str) ++ " " ++ ("edits" : Str))))) := (TL.join_eq _ _).trans rfl
  rw [j]
  unfold txtD
  rw [e1, e2, e3]
  simp only [Str.empty_append, Str.append_assoc]
theorem all2 {p : PyData → Prop} {a b : PyData} (ha : p a) (hb : p b) : ∀ x ∈ [a, b], p x := fun x hx => by
  rcases (show x = a ∨ x = b by simpa using hx) with rfl | rfl <;> assumption
theorem all3 {p : PyData → Prop} {a b c : PyData} (ha : p a) (hb : p b) (hc : p c) : ∀ x ∈ [a, b, c], p x := fun x hx => by
  rcases (show x = a ∨ x = b ∨ x = c by simpa using hx) with rfl | rfl | rfl <;> assumption
theorem all5 {p : PyData → Prop} {a b c d e : PyData} (ha : p a) (hb : p b) (hc : p c) (hd : p d) (he : p e) : ∀ x ∈ [a, b, c, d, e], p x := fun x hx => by
  rcases (show x = a ∨ x = b ∨ x = c ∨ x = d ∨ x = e by simpa using hx) with rfl | rfl | rfl | rfl | rfl <;> assumption
theorem shw_str {x : Str} {n : Nat} (h : (PyData.shown (.str x)).length ≤ n) : Shw 0 n (.str x) := ⟨by simp only [PyData.showable], by simp only [PyData.hasDict], by simp [PyData.depth], h⟩
theorem Ed.shw {pan pan' : List (List Int)} {d : PyData} {f : List Int → List Int} (h : Ed pan d pan' f) (g : Good pan) : Shw 1 39 d := by
  have few := g.few
  have w : ∀ {x : Str}, x = "press" ∨ x = "link" ∨ x = "unlink" → Shw 0 10 (.str x) := fun {x} h => shw_str (by simp only [PyData.shown]; rcases h with rfl | rfl | rfl <;> decide +kernel)
  have i : ∀ {b : Int}, 0 ≤ b → b < (pan.length : Int) → Shw 0 10 (.int b) := fun h0 h1 => (Shw.int (k := 2) h0 (by decide) (by decide) (by show _ < (100 : Int); omega)).mono (by decide) (by decide)
  have t : ∀ {ds : List PyData}, (∀ e ∈ ds, Shw 0 10 e) → ds.length ≤ 3 → Shw 1 39 (.tuple ds) := fun h hl => (Shw.tuple (m := 3) h hl).mono (by decide) (by decide)
  cases h with
  | press h0 h1 => exact t (all2 (w (.inl rfl)) (i h0 h1)) (by simp)
  | link h hn => exact t (all3 (w (.inr (.inl rfl))) (i h.1 h.2.1) (i h.2.2.1 h.2.2.2.1)) (by simp)
  | unlink h hn => exact t (all3 (w (.inr (.inr rfl))) (i h.1 h.2.1) (i h.2.2.1 h.2.2.2.1)) (by simp)
theorem rep_found {pan : List (List Int)} {st : List Int} {es : List PyData} (g : Good pan) (hst : Asc pan.length st) (he : ∀ d ∈ es, Shw 1 39 d) (hl : es.length ≤ 60) : RepOk (.list [dPan pan, dInts st, .tuple [dPan pan, dInts st], .tuple es, .int (es.length : Int)]) := by
  have few := g.few
  have s0 : Shw 1 33 (dInts st) := (shw_ints (m := 10) (by have := hst.len; omega) fun x hx => by have := hst.rng x hx; omega).mono (by decide) (by decide)
  have s1 : Shw 3 713 (.tuple [dPan pan, dInts st]) := (Shw.tuple (m := 2) (n := 353) (dep := 2) (all2 g.shw (s0.mono (by decide) (by decide))) (by simp)).mono (by decide) (by decide)
  have s2 : Shw 2 2463 (.tuple es) := (Shw.tuple (m := 60) he hl).mono (by decide) (by decide)
  have s3 : Shw 0 2 (.int (es.length : Int)) := Shw.int (by omega) (by decide) (by decide) (by show _ < (100 : Int); omega)
  exact .inr ⟨(Shw.list (m := 5) (n := 2463) (dep := 3) (all5 (g.shw.mono (by decide) (by decide)) (s0.mono (by decide) (by decide)) (s1.mono (by decide) (by decide)) (s2.mono (by decide) (by decide)) (s3.mono (by decide) (by decide))) (by simp)).mono (by decide) (by decide), _, .inr rfl⟩
end K54
namespace Pr
open PySem PySem.Spec PyProof.Rows L2
def rIsZ (K : PySem.W.Frag) (a : Addr) (cls : Value) (d : Option Addr) : List V → Hp → VK → Prop := fun xs H Q => ∃ D, ExcC K D ∧ rIsY K D a cls d xs H Q
def rIsZT (K : PySem.W.Frag) (a : Addr) (cls : Value) (d : Option Addr) : List V → Hp → VK → Prop := fun xs H Q => ∃ D, ExcC K D ∧ rIsYT K D a cls d xs H Q
def tXfZ (K : PySem.W.Frag) (a : Addr) (cls : Value) (d : Option Addr) (n : Str) (te : TE) : TE := fun σ H Q => ∃ C, XfC K C ∧ PySem.W.findIn K (.ref C) n = some none ∧ tXf a cls d C n te σ H Q
section
variable {X : Cx} {a : Addr} {oe : Obj} {cls : Value} {d : Option Addr} {pn : List (Addr × Obj)}
theorem call_isZ (hz : Zc cls d oe) (hf : ∃ vs, oe.data = .fields vs) : CallR (X.suite a ((a, oe) :: pn)) (.builtin "isinstance") (rIsZ X.K a cls d) := by
  intro pins s σ H xs us Q I r h
  obtain ⟨D, hC, h⟩ := h
  exact call_isY hC hz hf pins s σ H xs us Q I r h
theorem call_isZT (hz : Zc cls d oe) (hf : ∃ vs, oe.data = .fields vs) : CallR (X.suite a ((a, oe) :: pn)) (.builtin "isinstance") (rIsZT X.K a cls d) := by
  intro pins s σ H xs us Q I r h
  obtain ⟨D, hC, h⟩ := h
  exact call_isYT hC hz hf pins s σ H xs us Q I r h
theorem pe_xfZ {e : Expr} {te : TE} {pos : Pos} {n : Str} (hz : Zc cls d oe) (hf : ∃ vs, oe.data = .fields vs) (he : PE (X.suite a ((a, oe) :: pn)) e te) (hb : attributeBase e n X.env (eval e X.env) = eval e X.env := by rfl) :
    PE (X.suite a ((a, oe) :: pn)) (.Attribute e n pos) (tXfZ X.K a cls d n te) := by
  refine ⟨fun pins s σ H Q I h => ?_⟩
  obtain ⟨C, hx, hn, h⟩ := h
  exact (pe_xf hx hn hz hf he hb).run pins s σ H Q I h
end
end Pr
namespace K54
open PySem PySem.Spec PyProof.Rows L2 Pr
def nLocked : List Str := ["_law_table", "_law_value", "_law_found", "e"]
theorem scLocked : FnScope nLocked ["_law_table", "_law_value"] (defScope sLocked) := ⟨rfl, rfl, rfl, by decide +kernel, rfl, by decide +kernel, by decide +kernel⟩
structure LockF (K : PySem.W.Frag) (mg : Str → Option Value) (CP CN CL CB CC : Addr) : Prop where
  gP : mg "PanelError" = some (.ref CP)
  gN : mg "NoButton" = some (.ref CN)
  gL : mg "Locked" = some (.ref CL)
  gB : mg "Busy" = some (.ref CB)
  gC : mg "NoChange" = some (.ref CC)
  excL : ExcC K CL
  mL : PySem.W.exmOne K (.ref CL) (.ref CP) = some true
  kL2 : PySem.W.kitOne K (.ref CL) (.type "ValueError") = some true
  kL3 : PySem.W.kitAny K (.ref CL) [.ref CB, .ref CC] = some false
section
variable {P : Program} {w : World} {K : PySem.W.Frag} {mg : Str → Option Value} {base : Heap}
def spLocked (K : PySem.W.Frag) (C : Addr) : Sp := fun vs H Q _ => ∃ (t : Addr) (v : V) (pan : List (List Int)) (st : List Int) (past : List (PyData × List (List Int) × List Int)), vs = [.ref t, v] ∧ DeskAt K C H t pan st past ∧ ∀ H', Same H H' → Q (.bl true) H'
theorem ok_Locked {C f CP CN CL CB CC fNoteG : Addr} {fd fdNoteG : FuncData} {k : Nat} (F : Fun K "_law_is_locked" "_law_is_locked" sLocked f fd) (T : TxtD K mg C) (Y : LockF K mg CP CN CL CB CC) (FNoteG : Fun K "note" "GuessDesk.note" sNoteG fNoteG fdNoteG) (bNoteG : Binds K fdNoteG ["self", "button"] []) (hNoteG : Meth K C "note" fNoteG) (T_Locked : Ex0 K mg "Locked" CL)
    (m_isinstance : mg "isinstance" = none) (m_ValueError : mg "ValueError" = none) : FnOk P w K mg base CX0 (k + 2) f fd ["_law_table", "_law_value"] (spLocked K C) := by
  have GNoteG : FnOk P w K mg base (L2.CX P w) (k + 1) fNoteG fdNoteG ["self", "button"] (spNoteG CL) := ok_NoteG FNoteG T_Locked
  refine F.ok scLocked (fun vs H Q E h => ?_) (fun cdv A outer s H vs Q E hr h => ?_)
  · obtain ⟨t, v, pan, st, past, rfl, _⟩ := h
    rfl
  · obtain ⟨t, v, pan, st, past, rfl, hD, q⟩ := h
    refine ⟨_, pss_cons (ps_set (i := 2) scLocked.nd rfl (.inl rfl) pe_bl) (pss_cons (ps_try_nm rfl rfl scLocked.nd
        (fun W pn xe tk _ => (pss_one (ps_set (i := 2) scLocked.nd rfl (.inl rfl) (pe_cmpR op_eq (pe_methE (E := fun σ => WE W σ) (pv 0) T.cl hNoteG GNoteG (hr.mono (by omega)) bNoteG (fun σ => passAt tk σ) (pa_cons (pv 1) pa_nil)) (pe_un un_neg pe_int) (nomark _)))))
        (by exact (HdN.one (c := .ref CP) (i := 3) rfl rfl ⟨rfl, by decide, Or.inl Y.gP⟩ (fun a oe cls d pn hz hf => pss_one (ps_set (i := 2) scLocked.nd rfl (.inl rfl) (pe_and (pe_callB (call_isZ hz hf) (by rfl) m_isinstance (by decide +kernel) (pa_cons (pv 3) (pa_cons (pe_glob (v := .ref CL) (by rfl) Y.gL rfl) pa_nil))) (pe_and (pe_callB (call_isZ hz hf) (by rfl) m_isinstance (by decide +kernel) (pa_cons (pv 3) (pa_cons (pe_bltn (v := .ty "ValueError") (by rfl) m_ValueError (by decide +kernel) rfl) pa_nil))) (pe_one (pe_not (pe_callB (call_isZT hz hf) (by rfl) m_isinstance (by decide +kernel) (pa_cons (pv 3) (pa_cons (pe_tup (pa_cons (pe_glob (v := .ref CB) (by rfl) Y.gB rfl) (pa_cons (pe_glob (v := .ref CC) (by rfl) Y.gC rfl) pa_nil))) pa_nil)))))))))
        (HdN.one (c := .ref CN) (i := 3) rfl rfl ⟨rfl, by decide, Or.inl Y.gN⟩ (fun a oe cls d pn hz hf => pss_one (ps_set (i := 2) scLocked.nd rfl (.inl rfl) pe_bl)) HdN.none))))
      (pss_one (ps_ret (pv 2)))), ?_⟩
    refine hD.at fun dx fs e1 l1 => ?_
    refine ⟨.ref t, rfl, t, dx, fs, rfl, e1, l1 _ (by decide +kernel), v, rfl, t, v, rfl, ?_⟩
    refine ⟨true, Y.mL, fun _ a na => ?_, fun z => by cases z⟩
    refine ⟨.ref a, rfl, CL, Y.excL, ⟨rfl, .inl rfl⟩, .ref CL, _, true, rfl, .own CL, kit_selfY, true, rfl, iteT ?_⟩
    refine ⟨.ref a, rfl, CL, Y.excL, ⟨rfl, .inl rfl⟩, .ty "ValueError", _, true, rfl, .ty _, Y.kL2, true, rfl, iteT ?_⟩
    refine ⟨.ref a, rfl, by show 2 ≤ sizeLine; decide, fun tp ntp => ?_⟩
    have sT := same_new (o := .tup [.ref CB, .ref CC]) ntp
    refine ⟨CL, Y.excL, ⟨rfl, .inl rfl⟩, tp, _, [.ref CB, .ref CC], false, rfl, upd_same, .cons (.own CB) (.cons (.own CC) .nil), Y.kL3, false, rfl, ?_⟩
    exact ⟨_, rfl, q _ sT⟩
end
end K54
namespace K54
open PySem PySem.Spec PyProof.Rows L2 Pr
theorem dp_to {K : PySem.W.Frag} {H : Hp} {v : V} {d d' : PyData} (h : Dp K H v d) (e : d = d') : Dp K H v d' := e ▸ h
theorem kn_step {pan : List (List Int)} (g : Good pan) {k : List Str} {b : Int} (hk : k.length = pan.length) (b0 : 0 ≤ b) (b1 : b < (pan.length : Int)) :
    (k.zipIdx.map fun x => if ((x.2 : Nat) : Int) ∈ pan.getD b.toNat [] then wOff else x.1).set b.toNat wOn = joinM k (pressW pan b) := by
  have own := g.own' b0 b1
  refine List.ext_getElem? fun c => ?_
  by_cases hc : c < pan.length
  · have hp : (pressW pan b)[c]? = some (onM (pan.getD b.toNat []) b c) := by
      unfold pressW
      rw [List.getElem?_map, List.getElem?_range hc]; rfl
    have hk' : c < k.length := by rw [hk]; exact hc
    rw [joinM_get (List.getElem?_eq_getElem hk') hp]
    by_cases e : (c : Int) = b
    · have ec : b.toNat = c := by omega
      have key : onM (pan.getD b.toNat []) b c = wOn := by unfold onM; rw [if_neg (show (c : Int) ∉ pan.getD b.toNat [] by rw [e]; exact own), if_pos e]
      rw [key, if_neg (fun z => same_ne_on z.symm), List.getElem?_set, if_pos ec, if_pos (by rw [List.length_map, List.length_zipIdx]; omega)]
    · rw [List.getElem?_set_ne (by omega), List.getElem?_map, List.getElem?_zipIdx, List.getElem?_eq_getElem hk']
      simp only [Option.map_some, Nat.zero_add]
      unfold onM
      by_cases e1 : (c : Int) ∈ pan.getD b.toNat []
      · rw [if_pos e1, if_pos e1, if_neg (fun z => same_ne_off z.symm)]
      · rw [if_neg e1, if_neg e1, if_neg e, if_pos rfl]
  · have h1 : (joinM k (pressW pan b)).length = pan.length := by rw [joinM_len (by rw [hk, pressW_len]), pressW_len]
    rw [List.getElem?_eq_none (by rw [List.length_set, List.length_map, List.length_zipIdx]; omega), List.getElem?_eq_none (by omega)]
theorem isPress_press (b : Int) : isPress (.tuple [.str "press", .int b]) = some b := (show (if ("press" : Str) = ("press" : Str) then some b else none) = some b from if_pos rfl)
theorem isPress_lk (y : Str) (a c : Int) : isPress (dLk y a c) = none := rfl
theorem knM_snoc {n : Nat} {past : List (PyData × List (List Int) × List Int)} {x : PyData × List (List Int) × List Int} : knM n (past ++ [x]) = match isPress x.1 with | some b => joinM (knM n past) (pressW x.2.1 b) | none => knM n past := by
  unfold knM; rw [List.foldl_append]; rfl
theorem eds_plen {pan p : List (List Int)} {st s : List Int} {ds : List PyData} {xs : List (PyData × List (List Int) × List Int)} (h : Eds pan st ds p s xs) (g : Good pan) : Good p ∧ p.length = pan.length := by
  induction h with
  | nil => exact ⟨g, rfl⟩
  | cons h t ih =>
    have g2 := h.good g
    obtain ⟨h1, h2⟩ := ih g2.1
    exact ⟨h1, h2.trans g2.2⟩
theorem eds_step {pan p : List (List Int)} {st s : List Int} {ds : List PyData} {xs : List (PyData × List (List Int) × List Int)} (h : Eds pan st ds p s xs) : ∀ (j : Nat) (pj : List (List Int)) (sj : List Int), j < ds.length → Eds pan st (ds.take j) pj sj (xs.take j) → ∃ d f p1, ds[j]? = some d ∧ Ed pj d p1 f ∧ xs.take (j + 1) = xs.take j ++ [(d, pj, sj)] ∧ Eds pan st (ds.take (j + 1)) p1 (f sj) (xs.take (j + 1)) := by
  induction h with
  | nil => intro j pj sj hj; exact absurd hj (Nat.not_lt_zero _)
  | cons h t ih =>
    intro j pj sj hj e
    cases j with
    | zero =>
      cases e
      exact ⟨_, _, _, rfl, h, rfl, .cons h .nil⟩
    | succ j =>
      cases e with
      | cons h2 t2 =>
        obtain ⟨rfl, rfl⟩ := h.det h2
        obtain ⟨d, f, p1, h3, h4, h5, h6⟩ := ih j pj sj (by simpa using hj) t2
        exact ⟨d, f, p1, h3, h4, congrArg (List.cons _) h5, .cons h h6⟩
theorem knM_lenE {pan p : List (List Int)} {st s : List Int} {ds : List PyData} {xs : List (PyData × List (List Int) × List Int)} (h : Eds pan st ds p s xs) (g : Good pan) : ∀ (k : List Str), k.length = pan.length → (xs.foldl (fun k x => match isPress x.1 with | some b => joinM k (pressW x.2.1 b) | none => k) k).length = pan.length := by
  induction h with
  | nil => intro k hk; exact hk
  | @cons p0 p1 p2 s0 s2 d f ds xs h t ih =>
    intro k hk
    have g2 := h.good g
    rw [List.foldl_cons]
    rw [← g2.2]
    refine ih g2.1 _ ?_
    rw [g2.2]
    show (match isPress d with | some b => joinM k (pressW p0 b) | none => k).length = p0.length
    cases isPress d with
    | none => exact hk
    | some b => 
      show (joinM k (pressW p0 b)).length = p0.length
      rw [joinM_len (by rw [hk, pressW_len]), pressW_len]
def nKnown : List Str := ["_law_panel_here", "_law_edits", "_law_found", "_law_edit_here", "_law_word", "_law_at"]
theorem scKnown : FnScope nKnown ["_law_panel_here", "_law_edits"] (defScope sKnown) := ⟨rfl, rfl, rfl, by decide +kernel, rfl, by decide +kernel, by decide +kernel⟩
section
variable {P : Program} {w : World} {K : PySem.W.Frag} {mg : Str → Option Value} {base : Heap}
def spKnown (K : PySem.W.Frag) : Sp := fun vs H Q _ => ∃ (v e : V) (pan0 pan : List (List Int)) (st0 st : List Int) (ds : List PyData) (xs : List (PyData × List (List Int) × List Int)), vs = [v, e] ∧ Dp K H v (dPan pan0) ∧ Dp K H e (.list ds) ∧ Good pan0 ∧ Eds pan0 st0 ds pan st xs ∧ ∀ H' v, Same H H' → Dp K H' v (.tuple ((knM pan0.length xs).map PyData.str)) → Q v H'
theorem ok_Known {fChanged : Addr} {fdChanged : FuncData} {f : Addr} {fd : FuncData} {k : Nat} (F : Fun K "_law_known" "_law_known" sKnown f fd)
    (FChanged : Fun K "_law_changed" "_law_changed" sChanged fChanged fdChanged) (bChanged : Binds K fdChanged ["_law_panel_here", "_law_one", "_law_other", "_law_is_link"] []) (gChanged : mg "_law_changed" = some (.ref fChanged))
    (m_enumerate : mg "enumerate" = none) (m_int : mg "int" = none) (m_len : mg "len" = none) (m_sorted : mg "sorted" = none) (m_tuple : mg "tuple" = none) : FnOk P w K mg base CX0 (k + 2) f fd ["_law_panel_here", "_law_edits"] (spKnown K) := by
  have GChanged : FnOk P w K mg base CX0 (k + 1) fChanged fdChanged ["_law_panel_here", "_law_one", "_law_other", "_law_is_link"] (spChanged K) := ok_Changed FChanged m_int m_sorted m_tuple
  refine F.ok scKnown (fun vs H Q E h => ?_) (fun cdv A outer s H vs Q E hr h => ?_)
  · obtain ⟨v, e, pan0, pan, st0, st, ds, xs, rfl, _⟩ := h
    rfl
  · refine ⟨_, pss_cons (ps_set (i := 2) scKnown.nd rfl (.inl rfl) (pe_op op_rep (pe_lst (pa_cons pe_str pa_nil)) (pe_callB (show CallR _ _ (rLenG K) from cr_lenG) (by rfl) m_len PySem.boot_len (pa_cons (pv 0) pa_nil))))
      (pss_cons (ps_for PassesOwn.never rfl (show PI _ _ _ (iList K _) from pi_list (pv 1)) (pg_name (i := 3) scKnown.nd rfl (Or.inr rfl)) (pss_one (ps_if (pt_cmpR op_eq (pe_ix (show IxR _ (rIxT K) from ix_tup) (pv 3) pe_int (fun _ _ => rfl)) pe_str (nomark _)) (pss_cons (ps_setLc (i := 2) (own := [("_law_at", 5), ("_law_word", 4)]) (g := gTup K 2 (gCons (gName 5) (gCons (gName 4) gNil))) (tt := tYes) rfl scKnown.nd rfl rfl (sw_true rfl rfl rfl (by decide +kernel)) (pi_enum (by rfl) m_enumerate (pa_cons (pv 2) pa_nil)) (blkOk_by (own := [("_law_at", 5), ("_law_word", 4)]) (N := nKnown) (sc := defScope sKnown) (by decide +kernel)) (fun _ _ _ _ _ => pg_tup rfl (pgs_cons (pg_name (i := 5) scKnown.nd rfl (Or.inl rfl)) (pgs_cons (pg_name (i := 4) scKnown.nd rfl (Or.inl rfl)) pgs_nil))) (fun _ _ _ _ _ => pts_nil) (fun _ _ _ _ _ => pe_ix (show IxR _ (rIxL K) from ix_list) (pe_lst (pa_cons pe_str (pa_cons (pv 4) pa_nil))) (pe_callTy call_int1 (by rfl) m_int (by decide +kernel) (pa_cons (pe_cmpR (show OpR _ _ (rIn K true) from op_notIn_seq) (pv 5) (pe_ix (show IxR _ (rIxT K) from ix_tup) (pv 0) (pe_ix (show IxR _ (rIxT K) from ix_tup) (pv 3) pe_int (fun _ _ => rfl)) (fun _ _ => rfl)) (by rfl)) pa_nil)) (fun _ _ => rfl)))
      (pss_one (ps_asg pe_str (pg_sub (pv 2) (pe_ix (show IxR _ (rIxT K) from ix_tup) (pv 3) pe_int (fun _ _ => rfl)) set_list)))) (pss_one (ps_set (i := 0) scKnown.nd rfl (.inr rfl) (pe_call GChanged (hr.mono (by omega)) (by rfl) gChanged FChanged.kp bChanged .nil pass0 (pa_cons (pv 0) (pa_cons (pe_ix (show IxR _ (rIxT K) from ix_tup) (pv 3) pe_int (fun _ _ => rfl)) (pa_cons (pe_ix (show IxR _ (rIxT K) from ix_tup) (pv 3) pe_int (fun _ _ => rfl)) (pa_cons (pe_cmpR op_eq (pe_ix (show IxR _ (rIxT K) from ix_tup) (pv 3) pe_int (fun _ _ => rfl)) pe_str (nomark _)) pa_nil))))))))))
      (pss_one (ps_ret (pe_callTy (show CallR _ _ (rTupG K) from cr_tupG) (by rfl) m_tuple (by decide +kernel) (pa_cons (pv 2) pa_nil))))), hide1 fun t0 ht0 => ?_⟩
    obtain ⟨v, e, pan0, pan, st0, st, ds, xs, rfl, dv, de, hg, hE, q⟩ := h
    refine ht0 _ _ _ ?_
    have few := hg.few
    have hlp : (pan0.map dInts).length = pan0.length := List.length_map _
    refine gs_setN (K := K) (gn_repL1 (k := pan0.length) (gl_lst (gva_cons gv_str gva_nil)) ((gv_lenT (gv_var rfl dv)).to (by rw [hlp])) (by omega)) fun a vs H1 s1 na ea da => ?_
    refine gs_each (K := K) (δ := fun d : PyData => d) (as := ds) (gvi_list (gv_var rfl (dp_to (de.sm s1) (by rw [List.map_id'])))) (fun H2 k σ' H' => Same H2 H' ∧ ∃ (vp : V) (F : Addr) (pk : List (List Int)) (sk : List Int) (x3 x4 x5 : Option V), Dp K H' vp (dPan pk) ∧ Eds pan0 st0 (ds.take k) pk sk (xs.take k) ∧ Dp K H' (.ref F) (.list ((knM pan0.length (xs.take k)).map PyData.str)) ∧ σ' = [some vp, some e, some (.ref F), x3, x4, x5])
      (fun H2 s2 => ⟨Same.refl _, v, a, pan0, st0, none, none, none, dv.sm (s1.trans s2), .nil, (show Dp K H1 (.ref a) (.list ((knM pan0.length []).map PyData.str)) from dp_to (Dp.lst (.inl (.inl ea)) da) (by unfold knM; rw [List.foldl_nil, List.map_replicate])).sm s2, rfl⟩) (fun H2 k σ' H' _ hP => hP.1) (fun H2 k d vd σ' H3 H4 s2 hd hP s4 dd => ?_) (fun H2 σ' H' s2 hP => ?_)
    · obtain ⟨s3, vp, F, pk, sk, x3, x4, x5, dvp, hEk, dF, rfl⟩ := hP
      have hk : k < ds.length := (List.getElem?_eq_some_iff.mp hd).1
      obtain ⟨d', f, p1, hd', hed, htk, hE1⟩ := eds_step hE k pk sk hk hEk
      obtain rfl : d' = d := Option.some.inj (hd'.symm.trans hd)
      have gk := eds_plen hEk hg
      have fewk := gk.1.few
      have hlk : (pk.map dInts).length = pk.length := List.length_map _
      have kl : (knM pan0.length (xs.take k)).length = pk.length := by rw [gk.2]; exact knM_lenE hEk hg _ List.length_replicate
      cases hed with
      | press b0 b1 =>
        rename_i b
        refine gs_if (gvt_test (K := K) (gv_eqS (gv_ixT (j := 0) (gv_var rfl dd) gv_int rfl rfl) gv_str)) (fun _ H5 s5 => ?_) (fun z => absurd z (by decide +kernel))
        have dvp5 := (dvp.sm s4).sm s5
        have dd5 := dd.sm s5
        refine gs_setN (K := K) (gn_lc2 (δ1 := fun x : Str × Nat => PyData.int (x.2 : Nat)) (δ2 := fun x : Str × Nat => PyData.str x.1) (as := (knM pan0.length (xs.take k)).zipIdx) (p := fun _ => true) (f := fun x : Str × Nat => PyData.str (if ((x.2 : Nat) : Int) ∈ pk.getD b.toNat [] then wOff else x.1)) (gvi_enumL (δ := PyData.str) (gv_var rfl ((dF.sm s4).sm s5)))
          (fun x v1 v2 H6 hx s6 d1 d2 => ⟨gvt_yes, fun _ => (gv_ixL (j := if ((x.2 : Nat) : Int) ∈ pk.getD b.toNat [] then 0 else 1) (d := .str (if ((x.2 : Nat) : Int) ∈ pk.getD b.toNat [] then wOff else x.1)) (gv_lst (gva_cons gv_str (gva_cons (gv_var rfl d2) gva_nil))) (gv_intB rfl (gv_inT (neg := true) (i := ((x.2 : Nat) : Int)) (l := pk.getD b.toNat []) (gv_var rfl d1) (gv_pan (gv_var rfl (dvp5.sm s6)) (gv_ixT (j := 1) (d := .int b) (gv_var rfl (dd5.sm s6)) gv_int rfl rfl) b0 b1))) (by by_cases z : ((x.2 : Nat) : Int) ∈ pk.getD b.toNat [] <;> simp only [z, decide_true, decide_false, if_true, if_false, Bool.not_true, Bool.not_false] <;> rfl) (by by_cases z : ((x.2 : Nat) : Int) ∈ pk.getD b.toNat [] <;> simp only [z, if_true, if_false] <;> rfl))⟩) (fun _ _ => rfl) (by rw [List.length_zipIdx]; omega) (by decide)) fun F2 ws H6 s6 nF eF dF2 => ?_
        have fil : (knM pan0.length (xs.take k)).zipIdx.filter (fun _ => true) = (knM pan0.length (xs.take k)).zipIdx := List.filter_eq_self.mpr fun _ _ => rfl
        rw [fil] at dF2
        have wl : ws.length = pk.length := by rw [dF2.length, List.length_map, List.length_zipIdx, kl]
        refine ⟨.ref F2, rfl, (gv_ixT (K := K) (j := 1) (d := .int b) (gv_var rfl (dd5.sm s6)) gv_int rfl rfl).at fun vb H7 s7 db => ?_⟩
        cases db
        refine ⟨F2, ws, b, b.toNat, rfl, rfl, s7 _ _ eF, by rw [wl]; have z := ixN_nat (n := pk.length) (j := b.toNat) (by omega); rwa [show ((b.toNat : Nat) : Int) = b by omega] at z, ?_⟩
        have s26 : Same H2 H7 := ((s3.trans s4).trans (s5.trans s6)).trans s7
        have s8 : Same H5 (upd H7 F2 (.lst (ws.set b.toNat (.str "on")))) := fun c o e => by rw [upd_ne (ne_of_none e nF)]; exact s7 _ _ (s6 _ _ e)
        have s28 := ((s3.trans s4).trans s5).trans s8
        refine ⟨s28, vp, F2, pk, _, _, _, _, dvp5.sm s8, hE1, ?_, rfl⟩
        have dF3 : DpAll K (upd H7 F2 (.lst (ws.set b.toNat (.str "on")))) ws (((knM pan0.length (xs.take k)).zipIdx).map fun x : Str × Nat => PyData.str (if ((x.2 : Nat) : Int) ∈ pk.getD b.toNat [] then wOff else x.1)) := dpAll_kp (Kp.upd (s7 _ _ eF)) _ _ (lfAll_of fun d hd => by obtain ⟨x, _, rfl⟩ := List.mem_map.mp hd; rfl) (dF2.sm s7)
        have dF4 := dpAll_set (K := K) (v := .str "on") (d := .str wOn) (.str _) b.toNat dF3
        refine dp_to (Dp.lst (.inl (.inl upd_same)) dF4) ?_
        rw [htk, knM_snoc, isPress_press]
        show PyData.list _ = PyData.list ((joinM (knM pan0.length (xs.take k)) (pressW pk b)).map PyData.str)
        rw [← kn_step gk.1 kl b0 b1, List.map_set, List.map_map]
        rfl
      | link h hn =>
        refine gs_if (gvt_test (K := K) (gv_eqS (gv_ixT (j := 0) (gv_var rfl dd) gv_int rfl rfl) gv_str)) (fun z => absurd z (by decide +kernel)) (fun _ H5 s5 => ?_)
        have dvp5 := (dvp.sm s4).sm s5
        have dd5 := dd.sm s5
        refine gs_set (K := K) (gv_Changed (K := K) (fl := true) (gva_cons (gv_var rfl dvp5) (gva_cons (gv_ixT (j := 1) (gv_var rfl dd5) gv_int rfl rfl) (gva_cons (gv_ixT (j := 2) (gv_var rfl dd5) gv_int rfl rfl) (gva_cons ((gv_eqS (gv_ixT (j := 0) (gv_var rfl dd5) gv_int rfl rfl) gv_str).to (by rw [decide_eq_true rfl])) gva_nil)))) ⟨gk.1, h, fun _ => hn, (fun z => by cases z)⟩) fun vq H6 s6 dq => ?_
        refine ⟨((s3.trans s4).trans s5).trans s6, vq, F, _, _, _, _, _, dq, hE1, ?_, rfl⟩
        rw [htk, knM_snoc, isPress_lk]
        exact ((dF.sm s4).sm s5).sm s6
      | unlink h hn =>
        refine gs_if (gvt_test (K := K) (gv_eqS (gv_ixT (j := 0) (gv_var rfl dd) gv_int rfl rfl) gv_str)) (fun z => absurd z (by decide +kernel)) (fun _ H5 s5 => ?_)
        have dvp5 := (dvp.sm s4).sm s5
        have dd5 := dd.sm s5
        refine gs_set (K := K) (gv_Changed (K := K) (fl := false) (gva_cons (gv_var rfl dvp5) (gva_cons (gv_ixT (j := 1) (gv_var rfl dd5) gv_int rfl rfl) (gva_cons (gv_ixT (j := 2) (gv_var rfl dd5) gv_int rfl rfl) (gva_cons ((gv_eqS (gv_ixT (j := 0) (gv_var rfl dd5) gv_int rfl rfl) gv_str).to (by rw [decide_eq_false (by decide +kernel)])) gva_nil)))) ⟨gk.1, h, (fun z => by cases z), fun _ => hn⟩) fun vq H6 s6 dq => ?_
        refine ⟨((s3.trans s4).trans s5).trans s6, vq, F, _, _, _, _, _, dq, hE1, ?_, rfl⟩
        rw [htk, knM_snoc, isPress_lk]
        exact ((dF.sm s4).sm s5).sm s6
    · obtain ⟨s3, vp, F, pk, sk, x3, x4, x5, dvp, hEk, dF, rfl⟩ := hP
      rw [List.take_length] at hEk
      have xl : xs.length = ds.length := hE.len
      rw [← xl, List.take_length] at dF
      exact gs_ret (K := K) (gv_tupL (gv_var rfl dF)) fun w H3 s4 dw => q H3 w ((s1.trans s2).trans (s3.trans s4)) dw
end
end K54
namespace K54
open PySem PySem.Spec PyProof.Rows L2 Pr
/-- a state of the law at b -/
def StA (K : PySem.W.Frag) (H : Hp) (b : Addr) (y : List (List Int) × List Int) : Prop := ∃ (vp : V) (l : Addr), H b = some (.lst [vp, .ref l]) ∧ Dp K H vp (dPan y.1) ∧ H l = some (.tup (y.2.map V.int))
theorem StA.same {K : PySem.W.Frag} {H H' : Hp} {b : Addr} {y : List (List Int) × List Int} (h : StA K H b y) (s : Same H H') : StA K H' b y := by
  obtain ⟨vp, l, h1, h2, h3⟩ := h
  exact ⟨vp, l, s _ _ h1, h2.sm s, s _ _ h3⟩
theorem StA.kp {K : PySem.W.Frag} {H H' : Hp} {b : Addr} {y : List (List Int) × List Int} (h : StA K H b y) (k : Kp H H') (e : ∀ vs, H b = some (.lst vs) → H' b = some (.lst vs)) : StA K H' b y := by
  obtain ⟨vp, l, h1, h2, h3⟩ := h
  exact ⟨vp, l, e _ h1, h2.kp k (lf_pan _), k.1 _ _ h3⟩
theorem StA.upd {K : PySem.W.Frag} {H : Hp} {b L : Addr} {xs : List V} {o : HO} {y : List (List Int) × List Int} (h : StA K H b y) (e : H L = some (.lst xs)) (n : b ≠ L) : StA K (upd H L o) b y := h.kp (Kp.upd e) fun vs q => by rw [upd_ne n]; exact q
theorem paired_imp {α β : Type} {R R' : α → β → Prop} (f : ∀ x y, R x y → R' x y) : ∀ {xs : List α} {ys : List β}, Paired R xs ys → Paired R' xs ys
  | _, _, .nil => .nil
  | _, _, .cons h t => .cons (f _ _ h) (paired_imp f t)
/-- a new state of the law -/
def NewA (K : PySem.W.Frag) (H0 : Hp) (B L : Addr) (H : Hp) (b : Addr) (y : List (List Int) × List Int) : Prop := (H0 b = none ∧ b ≠ B ∧ b ≠ L) ∧ StA K H b y
theorem eds_fin {pan p : List (List Int)} {st s : List Int} {ds : List PyData} {xs : List (PyData × List (List Int) × List Int)} (h : Eds pan st ds p s xs) (g : Good pan) (as : Asc pan.length st) : Good p ∧ Asc p.length s ∧ p.length = pan.length := by
  induction h with
  | nil => exact ⟨g, as, rfl⟩
  | cons h t ih =>
    have g2 := h.good g
    obtain ⟨h1, h2, h3⟩ := ih g2.1 (h.asc g as)
    exact ⟨h1, h2, h3.trans g2.2⟩
theorem eds_lf {pan p : List (List Int)} {st s : List Int} {ds : List PyData} {xs : List (PyData × List (List Int) × List Int)} (h : Eds pan st ds p s xs) : lfAll ds = true := lfAll_of fun d hd => by
  obtain ⟨_, _, _, he⟩ := h.ed d hd
  exact he.lf
theorem drop1_snoc {α : Type} (l : List α) (x y : α) : (l ++ [x] ++ [y]).drop 1 = (l ++ [x]).drop 1 ++ [y] := by cases l <;> rfl
def nBatch : List Str := ["_law_deck_here", "_law_state_here", "_law_batch_here", "_law_later", "_law_k"]
theorem scBatch : FnScope nBatch ["_law_deck_here", "_law_state_here"] (defScope sBatch) := ⟨rfl, rfl, rfl, by decide +kernel, rfl, by decide +kernel, by decide +kernel⟩
section
variable {P : Program} {w : World} {K : PySem.W.Frag} {mg : Str → Option Value} {base : Heap}
def spBatch (K : PySem.W.Frag) : Sp := fun vs H Q _ => ∃ (a c b : Addr) (m : Nat) (pan : List (List Int)) (st : List Int), vs = [.ref a, .ref b] ∧ Deck H a c (m + 100) ∧ b ≠ a ∧ b ≠ c ∧ StA K H b (pan, st) ∧ Good pan ∧ Asc pan.length st ∧
  ∀ H' R B L evs bs ds pan' st' xs last, But a c H H' → Deck H' a c m → H' R = some (.lst [.ref B, .ref L, .int last]) → H B = none → H L = none → H R = none → H' B = some (.lst evs) → DpAll K H' evs ds → H' L = some (.lst (bs.map V.ref)) → Paired (NewA K H B L H') bs ((xs.map (·.2) ++ [(pan', st')]).drop 1) → Eds pan st ds pan' st' xs → ds.length ≤ 3 → 0 ≤ last → last < 4 → B ≠ L → Q (.ref R) H'
theorem ok_Batch {fDraw : Addr} {fdDraw : FuncData} {fPressed : Addr} {fdPressed : FuncData} {fChanged : Addr} {fdChanged : FuncData} {fAfter : Addr} {fdAfter : FuncData} {fEdit : Addr} {fdEdit : FuncData} {f : Addr} {fd : FuncData} {k : Nat} (F : Fun K "_law_batch" "_law_batch" sBatch f fd)
    (FDraw : Fun K "_law_draw" "_law_draw" sDraw fDraw fdDraw) (bDraw : Binds K fdDraw ["_law_deck_here", "_law_many"] []) (gDraw : mg "_law_draw" = some (.ref fDraw))
    (FPressed : Fun K "_law_pressed" "_law_pressed" sPressed fPressed fdPressed) (bPressed : Binds K fdPressed ["_law_panel_here", "_law_state_here", "_law_button"] []) (gPressed : mg "_law_pressed" = some (.ref fPressed))
    (FChanged : Fun K "_law_changed" "_law_changed" sChanged fChanged fdChanged) (bChanged : Binds K fdChanged ["_law_panel_here", "_law_one", "_law_other", "_law_is_link"] []) (gChanged : mg "_law_changed" = some (.ref fChanged))
    (FAfter : Fun K "_law_after" "_law_after" sAfter fAfter fdAfter) (bAfter : Binds K fdAfter ["_law_state_here", "_law_edit_here"] []) (gAfter : mg "_law_after" = some (.ref fAfter))
    (FEdit : Fun K "_law_edit" "_law_edit" sEdit fEdit fdEdit) (bEdit : Binds K fdEdit ["_law_deck_here", "_law_state_here"] []) (gEdit : mg "_law_edit" = some (.ref fEdit))
    (m_int : mg "int" = none) (m_len : mg "len" = none) (m_range : mg "range" = none) (m_sorted : mg "sorted" = none) (m_tuple : mg "tuple" = none) : FnOk P w K mg base CX0 (k + 3) f fd ["_law_deck_here", "_law_state_here"] (spBatch K) := by
  have GDraw : FnOk P w K mg base CX0 (k + 1) fDraw fdDraw ["_law_deck_here", "_law_many"] spDraw := ok_draw FDraw m_len
  have GEdit : FnOk P w K mg base CX0 (k + 2) fEdit fdEdit ["_law_deck_here", "_law_state_here"] (spEdit K) := ok_Edit FEdit FDraw bDraw gDraw m_int m_len
  have GAfter : FnOk P w K mg base CX0 (k + 2) fAfter fdAfter ["_law_state_here", "_law_edit_here"] (spAfter K) := ok_After FAfter FPressed bPressed gPressed FChanged bChanged gChanged m_int m_sorted m_tuple
  refine F.ok scBatch (fun vs H Q E h => ?_) (fun cdv A outer s H vs Q E hr h => ?_)
  · obtain ⟨a, c, b, m, pan, st, rfl, _⟩ := h
    rfl
  · refine ⟨_, pss_cons (ps_par (i := 2) (j := 3) rfl scBatch.nd rfl rfl (by decide) rfl rfl (pa_cons (pe_lst pa_nil) (pa_cons (pe_lst pa_nil) pa_nil)) (by rfl))
      (pss_cons (ps_for PassesOwn.never rfl (pi_range1 (by rfl) m_range (pa_cons (pe_call GDraw (hr.mono (by omega)) (by rfl) gDraw FDraw.kp bDraw .nil pass0 (pa_cons (pv 0) (pa_cons pe_int pa_nil))) pa_nil)) (pg_name (i := 4) scBatch.nd rfl (Or.inl rfl)) (pss_cons (ps_expr (show PE _ _ (tBM K "list" rAppend _ _) from pe_bm PySem.F.plainAttrs_list PySem.F.slot_list_append PySem.F.type_list_append mt_append (pv 2) (pa_cons (pe_call GEdit (hr.mono (by omega)) (by rfl) gEdit FEdit.kp bEdit .nil pass0 (pa_cons (pv 0) (pa_cons (pv 1) pa_nil))) pa_nil)))
      (pss_cons (ps_set (i := 1) scBatch.nd rfl (.inl rfl) (pe_call GAfter (hr.mono (by omega)) (by rfl) gAfter FAfter.kp bAfter .nil pass0 (pa_cons (pv 1) (pa_cons (pe_ix (show IxR _ (rIxL K) from ix_list) (pv 2) (pe_un un_neg pe_int) (fun _ _ => rfl)) pa_nil))))
      (pss_one (ps_expr (show PE _ _ (tBM K "list" rAppend _ _) from pe_bm PySem.F.plainAttrs_list PySem.F.slot_list_append PySem.F.type_list_append mt_append (pv 3) (pa_cons (pv 1) pa_nil)))))))
      (pss_one (ps_ret (pe_lst (pa_cons (pv 2) (pa_cons (pv 3) (pa_cons (pe_call GDraw (hr.mono (by omega)) (by rfl) gDraw FDraw.kp bDraw .nil pass0 (pa_cons (pv 0) (pa_cons pe_int pa_nil))) pa_nil))))))), hide1 fun t0 ht0 => ?_⟩
    obtain ⟨a, c, b, m, pan, st, rfl, hD, ba, bc, hS, hg, hst, q⟩ := h
    refine ht0 _ _ _ ?_
    refine ⟨Nat.zero_le _, fun B nB => ?_⟩
    have sB := same_new (o := .lst []) nB
    have eB0 : upd H B (.lst []) B = some (.lst []) := upd_same
    have fB := hD.fresh nB
    refine ⟨Nat.zero_le _, fun L nL => ⟨_, _, rfl, ?_⟩⟩
    have sL := same_new (o := .lst []) nL
    have eL : upd (upd H B (.lst [])) L (.lst []) L = some (.lst []) := upd_same
    have nL0 : H L = none := by
      by_cases z : L = B
      · rw [z]; exact nB
      · rw [upd_ne z] at nL; exact nL
    have BL : B ≠ L := fun z => by rw [← z, eB0] at nL; cases nL
    have fL := hD.fresh nL0
    have eB := sL _ _ eB0
    have D0 := (hD.same sB).same sL
    have S0 := (hS.same sB).same sL
    have bB : b ≠ B := by obtain ⟨_, _, e, _⟩ := hS; exact ne_of_none e nB
    have bL : b ≠ L := by obtain ⟨_, _, e, _⟩ := hS; exact ne_of_none e nL0
    have s0 : Same H (upd (upd H B (.lst [])) L (.lst [])) := sB.trans sL
    generalize upd (upd H B (.lst [])) L (.lst []) = H0 at eL eB D0 S0 s0 ⊢
    refine ⟨.ref a, rfl, a, c, m + 99, 4, rfl, D0.less (by omega), by decide, by decide, fun HA r bA DA r0 r1 => ⟨r, rfl, by omega, by omega, ?_⟩⟩
    obtain ⟨n, hn, hn2⟩ : ∃ n : Nat, r.toNat = n ∧ n ≤ 3 := ⟨_, rfl, by omega⟩
    rw [hn]
    have kA := Kp.but D0 bA
    have SA : StA K HA b (pan, st) := S0.kp kA fun vs e => bA _ _ ba bc e
    have bHA : But a c H HA := fun x o h1 h2 e => bA _ _ h1 h2 (s0 _ _ e)
    refine for_range (n := n) (fun k σ H' => But a c H H' ∧ Deck H' a c (m + 99 - 12 * k) ∧ ∃ (S : Addr) (evs : List V) (bs : List Addr) (ds : List PyData) (xs : List (PyData × List (List Int) × List Int)) (pk : List (List Int)) (sk : List Int) (x4 : Option V), (S ≠ a ∧ S ≠ c ∧ S ≠ B ∧ S ≠ L) ∧ StA K H' S (pk, sk) ∧ H' B = some (.lst evs) ∧ DpAll K H' evs ds ∧ H' L = some (.lst (bs.map V.ref)) ∧ Paired (NewA K H B L H') bs ((xs.map (·.2) ++ [(pk, sk)]).drop 1) ∧ Eds pan st ds pk sk xs ∧ ds.length = k ∧ σ = [some (.ref a), some (.ref S), some (.ref B), some (.ref L), x4])
      ⟨bHA, DA, b, [], [], [], [], pan, st, _, ⟨ba, bc, bB, bL⟩, SA, bA _ _ fB.1 fB.2 eB, .nil, bA _ _ fL.1 fL.2 eL, .nil, .nil, rfl, rfl⟩ (fun k σ H1 hk hP => ?_) (fun σ H1 hP => ?_)
    · obtain ⟨b1, D1, S, evs, bs, ds, xs, pk, sk, x4, nS, S1, eB1, dE, eL1, hbs, hE, dl, rfl⟩ := hP
      obtain ⟨g1, a1, pl⟩ := eds_fin hE hg hst
      have S1' := S1
      obtain ⟨vp, l, eS1, dvp, el1⟩ := S1'
      refine ⟨.ref B, rfl, .inl ⟨rfl, _, .inl (.inl eB1)⟩, .ref a, rfl, .ref S, rfl, a, c, S, m + 99 - 12 * k - 10, pk, sk, _, rfl, D1.less (by omega), nS.1, nS.2.1, eS1, .cons dvp (.cons (dp_ints (.inl (.inl el1))) .nil), g1, fun H2 v d p1 f b2 D2 dv hed => ?_⟩
      have k2 := Kp.but D1 b2
      have eB2 := b2 _ _ fB.1 fB.2 eB1
      have eL2 := b2 _ _ fL.1 fL.2 eL1
      have dE2 := dpAll_kp k2 _ _ (eds_lf hE) dE
      have S2 : StA K H2 S (pk, sk) := S1.kp k2 fun vs e => b2 _ _ nS.1 nS.2.1 e
      have fr : ∀ x, H x = none → x ≠ a ∧ x ≠ c := fun x z => hD.fresh z
      have hbs2 : Paired (NewA K H B L H2) bs ((xs.map (·.2) ++ [(pk, sk)]).drop 1) := paired_imp (fun x y h => ⟨h.1, h.2.kp k2 fun vs e => b2 _ _ (fr x h.1.1).1 (fr x h.1.1).2 e⟩) hbs
      have evl : evs.length = k := by rw [dE.length, dl]
      refine ⟨B, _, v, rfl, rfl, eB2, Nat.lt_of_le_of_lt (show evs.length ≤ 80 by omega) (by decide), ?_⟩
      have k3 : Kp H2 (upd H2 B (.lst (evs ++ [v]))) := Kp.upd eB2
      have eB3 : upd H2 B (.lst (evs ++ [v])) B = some (.lst (evs ++ [v])) := upd_same
      have eL3 : upd H2 B (.lst (evs ++ [v])) L = some (.lst (bs.map V.ref)) := by rw [upd_ne (Ne.symm BL)]; exact eL2
      have dE3 : DpAll K (upd H2 B (.lst (evs ++ [v]))) (evs ++ [v]) (ds ++ [d]) := DpAll.append (dpAll_kp k3 _ _ (eds_lf hE) dE2) (.cons (dv.kp k3 hed.lf) .nil)
      have S3 := S2.upd (o := .lst (evs ++ [v])) eB2 nS.2.2.1
      have D3 := Deck.upd' (b := B) (o := .lst (evs ++ [v])) D2 fB
      have hbs3 : Paired (NewA K H B L (upd H2 B (.lst (evs ++ [v])))) bs ((xs.map (·.2) ++ [(pk, sk)]).drop 1) := paired_imp (fun x y h => ⟨h.1, h.2.upd eB2 h.1.2.1⟩) hbs2
      have b3 : But a c H (upd H2 B (.lst (evs ++ [v]))) := fun x o h1 h2 e => by rw [upd_ne (ne_of_none e nB)]; exact b2 _ _ h1 h2 (b1 _ _ h1 h2 e)
      generalize upd H2 B (.lst (evs ++ [v])) = H3 at eB3 eL3 dE3 S3 D3 hbs3 b3 ⊢
      obtain ⟨vp3, l3, eS3, dvp3, el3⟩ := id S3
      have dv3 : Dp K H3 v d := by
        obtain ⟨v', hv', dv'⟩ := dE3.get ds.length d (by rw [List.getElem?_append_right (Nat.le_refl _), Nat.sub_self]; rfl)
        rw [← dl] at evl
        rw [List.getElem?_append_right (by omega), evl, Nat.sub_self] at hv'
        cases hv'
        exact dv'
      refine ⟨.ref S, rfl, .ref B, rfl, 1, rfl, B, _, _, v, rfl, rfl, .inl (.inl eB3), at_last, S, l3, vp3, v, pk, p1, sk, d, f, rfl, eS3, dvp3, el3, dv3, g1, a1, hed, fun H4 b' vq lq s4 nb' eb' dq elq => ?_⟩
      have eL4 := s4 _ _ eL3
      have nb'0 : H b' = none := by
        cases z : H b' with
        | none => rfl
        | some o =>
          have fa : b' ≠ a ∧ b' ≠ c := D3.fresh nb'
          have := b3 _ _ fa.1 fa.2 z
          rw [nb'] at this; cases this
      have b'B : b' ≠ B := Ne.symm (ne_of_none eB3 nb')
      have b'L : b' ≠ L := Ne.symm (ne_of_none eL3 nb')
      have fb' := D3.fresh nb'
      refine ⟨.ref L, rfl, .inl ⟨rfl, _, .inl (.inl eL4)⟩, .ref b', rfl, L, _, .ref b', rfl, rfl, eL4, ?_, ?_⟩
      · have := hbs.length
        rw [List.length_drop, List.length_append, List.length_map] at this
        have xl := hE.len
        exact Nat.lt_of_le_of_lt (show (bs.map V.ref).length ≤ 80 by rw [List.length_map, this]; simp; omega) (by decide)
      · have S4 : StA K H4 b' (p1, f sk) := ⟨vq, lq, eb', dq, elq⟩
        have k5 : Kp H4 (upd H4 L (.lst (bs.map V.ref ++ [.ref b']))) := Kp.upd eL4
        refine ⟨fun x o h1 h2 e => by rw [upd_ne (ne_of_none e nL0)]; exact s4 _ _ (b3 _ _ h1 h2 e), (Deck.upd' (D3.same s4) fL).less (by omega), b', evs ++ [v], bs ++ [b'], ds ++ [d], xs ++ [(d, pk, sk)], p1, f sk, _, ⟨fb'.1, fb'.2, b'B, b'L⟩, S4.upd eL4 b'L, by rw [upd_ne BL]; exact s4 _ _ eB3, ?_, by rw [upd_same, List.map_append]; rfl, ?_, hE.snoc hed, by rw [List.length_append, dl]; rfl, rfl⟩
        · refine dpAll_kp k5 _ _ ?_ (dE3.sm s4)
          exact eds_lf (hE.snoc hed)
        · rw [List.map_append]
          show Paired _ _ ((xs.map (·.2) ++ [(pk, sk)] ++ [(p1, f sk)]).drop 1)
          rw [drop1_snoc]
          exact prApp (paired_imp (fun x y h => ⟨h.1, (h.2.same s4).upd eL4 h.1.2.2⟩) hbs3) (.cons ⟨⟨nb'0, b'B, b'L⟩, S4.upd eL4 b'L⟩ .nil)
    · obtain ⟨b1, D1, S, evs, bs, ds, xs, pk, sk, x4, nS, S1, eB1, dE, eL1, hbs, hE, dl, rfl⟩ := hP
      refine ⟨.ref B, rfl, .ref L, rfl, .ref a, rfl, a, c, m, 4, rfl, D1.less (by omega), by decide, by decide, fun H2 last b2 D2 l0 l1 => ⟨by show 3 ≤ sizeLine; decide, fun R nR => ?_⟩⟩
      have k2 := Kp.but D1 b2
      have sR := same_new (o := .lst [.ref B, .ref L, .int last]) nR
      have fr : ∀ x, H x = none → x ≠ a ∧ x ≠ c := fun x z => hD.fresh z
      have nR0 : H R = none := by
        cases z : H R with
        | none => rfl
        | some o =>
          have fa : R ≠ a ∧ R ≠ c := D2.fresh nR
          have := b2 _ _ fa.1 fa.2 (b1 _ _ fa.1 fa.2 z)
          rw [nR] at this; cases this
      exact q _ R B L evs bs ds pk sk xs last (fun x o h1 h2 e => sR _ _ (b2 _ _ h1 h2 (b1 _ _ h1 h2 e))) (D2.same sR) upd_same nB nL0 nR0 (sR _ _ (b2 _ _ fB.1 fB.2 eB1)) ((dpAll_kp k2 _ _ (eds_lf hE) dE).sm sR) (sR _ _ (b2 _ _ fL.1 fL.2 eL1)) (paired_imp (fun x y h => ⟨h.1, (h.2.kp k2 fun vs e => b2 _ _ (fr x h.1.1).1 (fr x h.1.1).2 e).same sR⟩) hbs) hE (by omega) l0 l1 BL
end
end K54
namespace Pr
open PySem PySem.Spec PyProof.Rows L2
end Pr
namespace K54
open PySem PySem.Spec PyProof.Rows L2 Pr
open NdefX LamX
/-- what isinstance asks of an own class -/
structure OwnIs (K : PySem.W.Frag) (C : Addr) : Prop where
  ha : PySem.W.findIn K (.ref C) "__class__" = some (some (.builtin "object.__class__"))
  hn : PySem.W.specialIn K (.builtin "object.__class__") "__get__" = some (some (.builtin "getset_descriptor.__get__"))
  htk : PySem.W.takesIn K (.builtin "object.__class__") = some true
  hm : PySem.W.mroIn K C (.type "object") = some true
theorem gv_isO {K : PySem.W.Frag} {C D t dx : Addr} {fs : List (Str × V)} {σ : L2.St} {H : Hp} {i : Nat} {b : Bool} (hi : σ[i]? = some (some (.ref t))) (e : H t = some (.ins C dx fs)) (cl : Cls K C) (O : OwnIs K C) (k : PySem.W.kitOne K (.ref C) (.ref D) = some b) : Gv K (tCB (rIsi K) (tCons (tVar i) (tCons (tC (.ref D)) tNil))) σ H (.bool b) := fun H1 s Q q => ⟨.ref t, hi, .ref t, .ref D, .ref C, .ref D, b, rfl, .own D, .base (.ins (s _ _ e) cl O.ha O.hn O.htk O.hm), k, q _ H1 (Same.refl _) (.bl b)⟩
structure DM (P : Program) (w : World) (K : PySem.W.Frag) (mg : Str → Option Value) (base : Heap) (C CU CV CR : Addr) where
  fInitG : Addr
  fdInitG : FuncData
  bInitG : Binds K fdInitG ["self", "panel", "state"] []
  MkG : Mk K C fInitG
  GInitG : FnOk P w K mg base CX0 8 fInitG fdInitG ["self", "panel", "state"] (spInitG K C)
  fPressD : Addr
  fdPressD : FuncData
  bPressD : Binds K fdPressD ["self", "button"] []
  hPressD : Meth K C "press" fPressD
  GPressD : FnOk P w K mg base CX0 8 fPressD fdPressD ["self", "button"] (spPressD K C)
  fLink : Addr
  fdLink : FuncData
  bLink : Binds K fdLink ["self", "one", "other"] []
  hLink : Meth K C "link" fLink
  GLink : FnOk P w K mg base CX0 9 fLink fdLink ["self", "one", "other"] (spLink K C)
  fUnlink : Addr
  fdUnlink : FuncData
  bUnlink : Binds K fdUnlink ["self", "one", "other"] []
  hUnlink : Meth K C "unlink" fUnlink
  GUnlink : FnOk P w K mg base CX0 9 fUnlink fdUnlink ["self", "one", "other"] (spUnlink K C)
  fUndo : Addr
  fdUndo : FuncData
  bUndo : Binds K fdUndo ["self"] []
  hUndo : Meth K C "undo" fUndo
  GUndo : FnOk P w K mg base (L2.CX P w) 7 fUndo fdUndo ["self"] (spUndo K C CU)
  fState : Addr
  fdState : FuncData
  dsState : List Value
  vState : Vals [V.non] dsState
  kbState : KBn K fdState ["self", "version"] 1 ["version"] (fun us ws => us ++ ws) (fun vs zs => vs ++ zs)
  bState : Binds K fdState ["self", "version"] dsState
  hState : Meth K C "state" fState
  GState : FnOk P w K mg base (L2.CX P w) 3 fState fdState ["self", "version"] (spState K C CV)
  fEdits : Addr
  fdEdits : FuncData
  bEdits : Binds K fdEdits ["self"] []
  hEdits : Meth K C "edits" fEdits
  GEdits : FnOk P w K mg base CX0 1 fEdits fdEdits ["self"] (spEdits K C)
  fLenD : Addr
  fdLenD : FuncData
  bLenD : Binds K fdLenD ["self"] []
  xLenD : PySem.W.findIn K (.ref C) "__len__" = some (some (.ref fLenD))
  yLenD : PySem.W.isFn K (.ref fLenD) = true
  GLenD : FnOk P w K mg base CX0 1 fLenD fdLenD ["self"] (spLenD K C)
  fStrD : Addr
  fdStrD : FuncData
  bStrD : Binds K fdStrD ["self"] []
  xStrD : PySem.W.findIn K (.ref C) "__str__" = some (some (.ref fStrD))
  yStrD : PySem.W.isFn K (.ref fStrD) = true
  GStrD : FnOk P w K mg base CX0 1 fStrD fdStrD ["self"] (spStrD K C)
  fAG : Addr
  fdAG : FuncData
  hAG : Meth K C "attempt" fAG
  kbAG : KBn K fdAG ["self", "edits", "watch"] 2 ["watch"] (fun us ws => us ++ ws) (fun vs zs => vs ++ zs)
  GAG : ∀ {fl : Addr} {Fl : NF} {body : Expr} {fr : List Str} {ws : List (Option V)} {wsp : List (Option V) → Sp}, LOk P w K mg base CX0 3 Fl body ["_law_one"] fr wsp → MonoL ws wsp → FnOkS P w K mg base (L2K.CX P w) 30 fAG fdAG ["self", "edits", "watch"] (LamAt Fl body fl fr ws) (spAttGX K C CR Fl fl ws wsp)
  GLk : ∀ {f : Addr} {fd : FuncData}, Fun K "_law_is_locked" "_law_is_locked" sLocked f fd → FnOk P w K mg base CX0 13 f fd ["_law_table", "_law_value"] (spLocked K C)
  xR : XfC K CR
  noR : PySem.W.findIn K (.ref CR) "index" = some none
  gR : mg "Rejected" = some (.ref CR)
  mR : PySem.W.exmOne K (.ref CR) (.ref CR) = some true
  cDk : Addr
  cGs : Addr
  gDk : mg "Desk" = some (.ref cDk)
  gGs : mg "Guess" = some (.ref cGs)
  kDk : PySem.W.kitOne K (.ref C) (.ref cDk) = some true
  kGs : PySem.W.kitOne K (.ref C) (.ref cGs) = some true
  oI : OwnIs K C
  GLenW : FnOk P w K mg base CX0 1 fLenD fdLenD ["self"] (spLenW K C)
def nDo : List Str := ["_law_table", "_law_edit_here"]
theorem scDo : FnScope nDo ["_law_table", "_law_edit_here"] (defScope sDo) := ⟨rfl, rfl, rfl, by decide +kernel, rfl, by decide +kernel, by decide +kernel⟩
section
variable {P : Program} {w : World} {K : PySem.W.Frag} {mg : Str → Option Value} {base : Heap}
def spDo (K : PySem.W.Frag) (C : Addr) : Sp := fun vs H Q _ => ∃ (t : Addr) (pan pan' : List (List Int)) (st : List Int) (past : List (PyData × List (List Int) × List Int)) (v : V) (d : PyData) (f : List Int → List Int), vs = [.ref t, v] ∧ DeskAt K C H t pan st past ∧ past.length < 60 ∧ Dp K H v d ∧ Ed pan d pan' f ∧
  ∀ H', ButO t H H' → DeskAt K C H' t pan' (f st) (past ++ [(d, pan, st)]) → Q (.int ((past.length + 1 : Nat) : Int)) H'
theorem ok_Do  {f : Addr} {fd : FuncData} {k : Nat} (F : Fun K "_law_do" "_law_do" sDo f fd)
     {C CU CV CR : Addr} (T : TxtD K mg C) (DX : DM P w K mg base C CU CV CR) : FnOk P w K mg base CX0 (k + 14) f fd ["_law_table", "_law_edit_here"] (spDo K C) := by
  have DX0 := DX
  obtain ⟨fInitG, fdInitG, bInitG, MkG, GInitG, fPressD, fdPressD, bPressD, hPressD, GPressD, fLink, fdLink, bLink, hLink, GLink, fUnlink, fdUnlink, bUnlink, hUnlink, GUnlink, fUndo, fdUndo, bUndo, hUndo, GUndo, fState, fdState, dsState, vState, kbState, bState, hState, GState, fEdits, fdEdits, bEdits, hEdits, GEdits, fLenD, fdLenD, bLenD, xLenD, yLenD, GLenD, fStrD, fdStrD, bStrD, xStrD, yStrD, GStrD, fAG, fdAG, hAG, kbAG, GAG, GLk, xR, noR, gR, mR, cDk, cGs, gDk, gGs, kDk, kGs, oI, GLenW⟩ := DX0
  refine F.ok scDo (fun vs H Q E h => ?_) (fun cdv A outer s H vs Q E hr h => ?_)
  · obtain ⟨t, pan, pan', st, past, v, d, f, rfl, _⟩ := h
    rfl
  · refine ⟨_, pss_cons (ps_if (pt_cmpR op_eq (pe_ix (show IxR _ (rIxT K) from ix_tup) (pv 1) pe_int (fun _ _ => rfl)) pe_str (nomark _)) (pss_one (ps_ret (pe_meth (pv 0) T.cl hPressD GPressD (hr.mono (by omega)) bPressD .nil pass0 (pa_cons (pe_ix (show IxR _ (rIxT K) from ix_tup) (pv 1) pe_int (fun _ _ => rfl)) pa_nil)))) pss_nil)
      (pss_cons (ps_if (pt_cmpR op_eq (pe_ix (show IxR _ (rIxT K) from ix_tup) (pv 1) pe_int (fun _ _ => rfl)) pe_str (nomark _)) (pss_one (ps_ret (pe_meth (pv 0) T.cl hLink GLink (hr.mono (by omega)) bLink .nil pass0 (pa_cons (pe_ix (show IxR _ (rIxT K) from ix_tup) (pv 1) pe_int (fun _ _ => rfl)) (pa_cons (pe_ix (show IxR _ (rIxT K) from ix_tup) (pv 1) pe_int (fun _ _ => rfl)) pa_nil))))) pss_nil)
      (pss_one (ps_ret (pe_meth (pv 0) T.cl hUnlink GUnlink (hr.mono (by omega)) bUnlink .nil pass0 (pa_cons (pe_ix (show IxR _ (rIxT K) from ix_tup) (pv 1) pe_int (fun _ _ => rfl)) (pa_cons (pe_ix (show IxR _ (rIxT K) from ix_tup) (pv 1) pe_int (fun _ _ => rfl)) pa_nil)))))), hide1 fun t0 ht0 => ?_⟩
    obtain ⟨t, pan, pan', st, past, v, d, f, rfl, hD, few, dv, hE, q⟩ := h
    refine ht0 _ _ _ ?_
    cases hE with
    | press h0 h1 =>
      refine gs_if1 (gvt_test (K := K) (gv_eqS (gv_ixT (j := 0) (gv_var rfl dv) gv_int rfl rfl) gv_str)) (fun _ H1 s1 => ?_) (fun z => by simp at z)
      have hD1 := hD.same s1
      refine hD1.at fun dx fs e l => ⟨.ref t, rfl, t, dx, fs, rfl, e, l _ (by decide +kernel), ?_⟩
      refine (gv_ixT (K := K) (j := 1) (d := .int _) (gv_var rfl (dv.sm s1)) gv_int rfl rfl).at fun w H2 s2 dw => ?_
      cases dw
      exact ⟨t, pan, st, past, _, rfl, hD1.same s2, few, h0, h1, fun H3 k3 hN => q H3 ((ButO.of (s1.trans s2)).trans k3) hN⟩
    | link h hn =>
      refine gs_no (gvt_test (K := K) (gv_eqS (gv_ixT (j := 0) (gv_var rfl dv) gv_int rfl rfl) gv_str)) (by decide +kernel) fun H0 s0 => ?_
      refine gs_if1 (gvt_test (K := K) (gv_eqS (gv_ixT (j := 0) (gv_var rfl (dv.sm s0)) gv_int rfl rfl) gv_str)) (fun _ H1 s1 => ?_) (fun z => by simp at z)
      have s01 := s0.trans s1
      have hD1 := hD.same s01
      refine hD1.at fun dx fs e l => ⟨.ref t, rfl, t, dx, fs, rfl, e, l _ (by decide +kernel), ?_⟩
      refine gva_at (gva_cons (K := K) (gv_ixT (j := 1) (d := .int _) (gv_var rfl (dv.sm s01)) gv_int rfl rfl) (gva_cons (gv_ixT (j := 2) (d := .int _) (gv_var rfl (dv.sm s01)) gv_int rfl rfl) gva_nil)) fun ws H2 s2 dw => ?_
      obtain ⟨w1, w2, rfl, dw1, dw2⟩ := dpAll2 dw
      cases dw1
      cases dw2
      exact ⟨t, pan, st, past, _, _, rfl, hD1.same s2, few, h, hn, fun H3 k3 hN => q H3 ((ButO.of (s01.trans s2)).trans k3) hN⟩
    | unlink h hn =>
      refine gs_no (gvt_test (K := K) (gv_eqS (gv_ixT (j := 0) (gv_var rfl dv) gv_int rfl rfl) gv_str)) (by decide +kernel) fun H0 s0 => ?_
      refine gs_no (gvt_test (K := K) (gv_eqS (gv_ixT (j := 0) (gv_var rfl (dv.sm s0)) gv_int rfl rfl) gv_str)) (by decide +kernel) fun H1 s1 => ?_
      have s01 := s0.trans s1
      have hD1 := hD.same s01
      refine hD1.at fun dx fs e l => ⟨.ref t, rfl, t, dx, fs, rfl, e, l _ (by decide +kernel), ?_⟩
      refine gva_at (gva_cons (K := K) (gv_ixT (j := 1) (d := .int _) (gv_var rfl (dv.sm s01)) gv_int rfl rfl) (gva_cons (gv_ixT (j := 2) (d := .int _) (gv_var rfl (dv.sm s01)) gv_int rfl rfl) gva_nil)) fun ws H2 s2 dw => ?_
      obtain ⟨w1, w2, rfl, dw1, dw2⟩ := dpAll2 dw
      cases dw1
      cases dw2
      exact ⟨t, pan, st, past, _, _, rfl, hD1.same s2, few, h, hn, fun H3 k3 hN => q H3 ((ButO.of (s01.trans s2)).trans k3) hN⟩
end
def nRight : List Str := ["_law_table", "_law_state_here", "_law_edits", "_law_panel_here", "_law_latched", "_law_found", "_law_words"]
theorem scRight : FnScope nRight ["_law_table", "_law_state_here", "_law_edits"] (defScope sRight) := ⟨rfl, rfl, rfl, by decide +kernel, rfl, by decide +kernel, by decide +kernel⟩
section
variable {P : Program} {w : World} {K : PySem.W.Frag} {mg : Str → Option Value} {base : Heap}
def spRight (K : PySem.W.Frag) (C : Addr) : Sp := fun vs H Q _ => ∃ (t : Addr) (pan : List (List Int)) (st : List Int) (past : List (PyData × List (List Int) × List Int)) (v e : V), vs = [.ref t, v, e] ∧ DeskAt K C H t pan st past ∧ past.length ≤ 60 ∧ (∀ x ∈ past, Shw 1 39 x.1) ∧ Dp K H v (dPS pan st) ∧ Dp K H e (.list (past.map (·.1))) ∧ ∀ H', Same H H' → Q (.bl true) H'
theorem ok_Right  {f : Addr} {fd : FuncData} {k : Nat} (F : Fun K "_law_right" "_law_right" sRight f fd)
    (m_len : mg "len" = none) (m_repr : mg "repr" = none) (m_str : mg "str" = none) (m_tuple : mg "tuple" = none) {C CU CV CR : Addr} (T : TxtD K mg C) (DX : DM P w K mg base C CU CV CR) : FnG P w K mg base (k + 14) f fd ["_law_table", "_law_state_here", "_law_edits"] (spRight K C) := by
  have DX0 := DX
  obtain ⟨fInitG, fdInitG, bInitG, MkG, GInitG, fPressD, fdPressD, bPressD, hPressD, GPressD, fLink, fdLink, bLink, hLink, GLink, fUnlink, fdUnlink, bUnlink, hUnlink, GUnlink, fUndo, fdUndo, bUndo, hUndo, GUndo, fState, fdState, dsState, vState, kbState, bState, hState, GState, fEdits, fdEdits, bEdits, hEdits, GEdits, fLenD, fdLenD, bLenD, xLenD, yLenD, GLenD, fStrD, fdStrD, bStrD, xStrD, yStrD, GStrD, fAG, fdAG, hAG, kbAG, GAG, GLk, xR, noR, gR, mR, cDk, cGs, gDk, gGs, kDk, kGs, oI, GLenW⟩ := DX0
  refine okG F scRight (fun vs H Q E h => ?_) (fun cdv A outer s H vs Q E gd hr h => ?_)
  · obtain ⟨t, pan, st, past, v, e, rfl, _⟩ := h
    rfl
  · refine ⟨_, pss_cons (ps_asg (pv 1) (pg_unl rfl (pgs_cons (pg_name (i := 3) scRight.nd rfl (Or.inl rfl)) (pgs_cons (pg_name (i := 4) scRight.nd rfl (Or.inl rfl)) pgs_nil))))
      (pss_cons (ps_set (i := 5) scRight.nd rfl (.inl rfl) (pe_lst (pa_cons (pe_fld (pv 0) rfl) (pa_cons (pe_fld (pv 0) rfl) (pa_cons (pe_meth0 (pv 0) T.cl hState GState (hr.mono (by omega)) bState vState passX) (pa_cons (pe_meth0 (pv 0) T.cl hEdits GEdits (hr.mono (by omega)) bEdits .nil pass0) (pa_cons (pe_callB (show CallR _ _ (rLenO C (spLenD K C)) from cr_lenO GLenD (hr.mono (by omega)) bLenD xLenD yLenD) (by rfl) m_len PySem.boot_len (pa_cons (pv 0) pa_nil)) pa_nil)))))))
      (pss_cons (ps_if (pt_cmpR op_ne (pe_callB (show CallR _ _ (rReprA K) from cr_reprA gd hr) (by rfl) m_repr (by decide +kernel) (pa_cons (pv 5) pa_nil)) (pe_callB (show CallR _ _ (rReprA K) from cr_reprA gd hr) (by rfl) m_repr (by decide +kernel) (pa_cons (pe_lst (pa_cons (pv 3) (pa_cons (pv 4) (pa_cons (pe_tup (pa_cons (pv 3) (pa_cons (pv 4) pa_nil))) (pa_cons (pe_callTy (show CallR _ _ (rTupG K) from cr_tupG) (by rfl) m_tuple (by decide +kernel) (pa_cons (pv 2) pa_nil)) (pa_cons (pe_callB (show CallR _ _ (rLenG K) from cr_lenG) (by rfl) m_len PySem.boot_len (pa_cons (pv 2) pa_nil)) pa_nil)))))) pa_nil)) (nomark _)) (pss_one (ps_ret pe_bl)) pss_nil)
      (pss_cons (ps_set (i := 6) scRight.nd rfl (.inl rfl) (pe_lst (pa_cons (pe_callTy (show CallR _ _ rStrI from call_str_int) (by rfl) m_str (by decide +kernel) (pa_cons (pe_callB (show CallR _ _ (rLenG K) from cr_lenG) (by rfl) m_len PySem.boot_len (pa_cons (pv 3) pa_nil)) pa_nil)) (pa_cons pe_str (pa_cons (pe_callTy (show CallR _ _ rStrI from call_str_int) (by rfl) m_str (by decide +kernel) (pa_cons (pe_callB (show CallR _ _ (rLenG K) from cr_lenG) (by rfl) m_len PySem.boot_len (pa_cons (pv 4) pa_nil)) pa_nil)) (pa_cons pe_str (pa_cons (pe_callTy (show CallR _ _ rStrI from call_str_int) (by rfl) m_str (by decide +kernel) (pa_cons (pe_callB (show CallR _ _ (rLenG K) from cr_lenG) (by rfl) m_len PySem.boot_len (pa_cons (pv 2) pa_nil)) pa_nil)) (pa_cons pe_str pa_nil))))))))
      (pss_one (ps_ret (pe_cmpR op_eq (pe_callTy (show CallR _ _ (rStrO C (spStrD K C)) from cr_strO GStrD (hr.mono (by omega)) bStrD xStrD yStrD) (by rfl) m_str (by decide +kernel) (pa_cons (pv 0) pa_nil)) (pe_join pe_str (pv 6)) (nomark _))))))), hide1 fun t0 ht0 => ?_⟩
    obtain ⟨t, pan, st, past, v, e, rfl, hD, few, hsh, dv, de, q⟩ := h
    refine ht0 _ _ _ ?_
    obtain ⟨a, xs, rfl, hq, hr'⟩ := dv.lstI
    obtain ⟨vp, vl, rfl, dp, dl⟩ := dpAll2 hr'
    have hg := hD.good
    have hst := hD.asc
    have pf := hg.few
    have sl := hst.len
    have hlp : (pan.map dInts).length = pan.length := List.length_map _
    have hls : (st.map PyData.int).length = st.length := List.length_map _
    have hlq : (past.map (·.1)).length = past.length := List.length_map _
    refine ⟨.ref a, rfl, a, _, rfl, hq, rfl, vp, [vl], rfl, vl, [], rfl, rfl, ?_⟩
    refine gs_set1 (K := K) (gv_lst (gva_cons (gv_panel T rfl hD) (gva_cons (gv_latched T rfl hD) (gva_cons (gv_StateD rfl hD) (gva_cons (gv_EditsD rfl hD (by omega)) (gva_cons (gv_lenD rfl hD (by omega)) gva_nil)))))) fun vf H1 s1 df => ?_
    have rep := rep_found (es := past.map (·.1)) hg hst (fun x hx => by obtain ⟨y, hy, rfl⟩ := List.mem_map.mp hx; exact hsh y hy) (by rw [hlq]; exact few)
    rw [hlq] at rep
    refine gs_no (gvt_test (K := K) (gv_neS (gv_reprA (gv_var rfl df) rep) (gv_reprA ((gv_lst (gva_cons (gv_var rfl (dp.sm s1)) (gva_cons (gv_var rfl (dl.sm s1)) (gva_cons (gv_tup (gva_cons (gv_var rfl (dp.sm s1)) (gva_cons (gv_var rfl (dl.sm s1)) gva_nil))) (gva_cons (gv_tupL (gv_var rfl (de.sm s1))) (gva_cons (gv_lenL (gv_var rfl (de.sm s1))) gva_nil)))))).to (by rw [hlq])) rep))) (by simp) fun H2 s2 => ?_
    have s12 := s1.trans s2
    refine gs_set1 (K := K) ((gv_lst (gva_cons (gv_strI (n := pan.length) ((gv_lenT (gv_var rfl (dp.sm s12))).to (by rw [hlp])) (by omega)) (gva_cons gv_str (gva_cons (gv_strI (n := st.length) ((gv_lenT (gv_var rfl (dl.sm s12))).to (by rw [hls])) (by omega)) (gva_cons gv_str (gva_cons (gv_strI (n := past.length) ((gv_lenL (gv_var rfl (de.sm s12))).to (by rw [hlq])) (by omega)) (gva_cons gv_str gva_nil)))))))) fun vw H3 s3 dw => ?_
    have n1 := len_num pan.length (by omega)
    have n2 := len_num st.length (by omega)
    have n3 := len_num past.length (by omega)
    refine gs_ret (K := K) (d := .bool true) ((gv_eqS (gv_strD rfl (hD.same (s12.trans s3)) (by omega)) (gv_join1 (ys := [(toString (pan.length : Int) : Str), "buttons,", (toString (st.length : Int) : Str), "latched,", (toString (past.length : Int) : Str), "edits"]) gv_str (gv_var rfl dw) ?_)).to ?_) fun v H4 s4 d4 => ?_
    rotate_left
    · rw [decide_eq_true (txt_is _ _ _)]
    · cases d4
      exact q H4 ((s12.trans s3).trans s4)
    · show (toString (pan.length : Int) : Str).length + (8 + ((toString (st.length : Int) : Str).length + (8 + ((toString (past.length : Int) : Str).length + (5 + 0))))) + 6 * 1 ≤ 16777216
      omega
end
end K54
namespace Pr
open PySem PySem.Spec PyProof.Rows L2 LamX NdefX
section
variable {P : Program} {w : World} {K : PySem.W.Frag} {mg : Str → Option Value} {base : Heap}
theorem FnOkS.ofK {Φ : SPhi} {f : Addr} {fd : FuncData} {ps : List Str} {k : Nat} {sp : Sp} (F : FnOkS P w K mg base (L2K.CX P w) k f fd ps Φ sp) : FnOkS P w K mg base (L2.CX P w) k f fd ps Φ sp := by
  refine ⟨F.len, fun A outer s H args us vs Q E hr e0 hΦ hb r h => codeAny_mono (F.run A outer s H args us vs Q E hr e0 hΦ hb r h) fun rs s' hE => ?_⟩
  cases rs with
  | error er => exact L2K.CX.toL2 (show L2K.CX P w outer H s E er s' from hE)
  | ok fl => cases fl <;> exact hE
end
def tMethLE (q : Str) (C : Addr) (m : Str) (T : List (Addr × Str)) (js : List Nat) (sp : Addr → Addr → List (Option V) → Sp) (E : L2.St → XK) (ta : TE) (t : TA) : TE := fun σ H Q => ta σ H fun x H1 => ∃ a dx fs, x = .ref a ∧ H1 a = some (.ins C dx fs) ∧ fs.lookup m = none ∧
  t σ H1 fun vs H2 => Tabs T H2 ∧ vs.length = 1 ∧ ∀ (f c' : Addr) (H3 : Hp), ExtN H2 H3 → Tabs T H3 → H3 c' = some (CodeO c' q) → sp f c' (js.map (slotAt σ)) (x :: (vs ++ [.ref f])) H3 Q (E σ)
section
variable {X : Cx} {CX : CXT} {k : Nat} {fM C cc P : Addr} {fd : FuncData} {ps fr : List Str} {js : List Nat} {E : L2.St → XK} {m kw : Str} {p pos apos lpos kpos : Pos} {e o : Expr} {ta : TE} {t : TA} {T : List (Addr × Str)} {params : Arguments} {lbody : Expr} {scope : Scope} {sp : Addr → Addr → List (Option V) → Sp}
theorem pe_methLamE {pl : Sem Bool} (he : PE X o ta) (c : Cls X.K C) (hm : Meth X.K C m fM) (F : ∀ (f c' : Addr) (ws : List (Option V)), FnOkS X.prog X.w X.K X.mg X.base CX k fM fd ps (LamAt (lamF X params scope c') lbody f fr ws) (sp f c' ws)) (hr : Room k X.A)
    (hb : KBn X.K fd ps 2 [kw] (fun us ws => us ++ ws) (fun vs zs => vs ++ zs)) (hx : ∀ σ, PassesAt CX X σ (E σ)) (ha : PA X [e] t)
    (TB : TabB X.base X.mg cc P) (hcode : X.env.code = .ref cc) (hmT : (P, X.env.qual ++ "<lambda>") ∈ T) (hu : ∀ p ∈ T, p.1 = P → p.2 = X.env.qual ++ "<lambda>") (hdef : defaultsOf params X.env = ([], []))
    (hfn : ∀ y, X.fn y = true) (hfree : ∀ y ∈ scope.names, y.2 = .free → X.env.scope.names.lookup y.1 = some .cell ∨ X.env.scope.names.lookup y.1 = some .free) (hfr : ∀ y ∈ fr, (y, NameKind.free) ∈ scope.names) (hjs : js.map (fun j => X.N[j]?) = fr.map some)
    (hall : (backToKw pos (keywordEach [⟨some kw, .Lambda params lbody scope lpos, kpos⟩] X.env)).all (·.1.isSome) = true := by rfl) (hks : (backToKw pos (keywordEach [⟨some kw, .Lambda params lbody scope lpos, kpos⟩] X.env)).filterMap (·.1) = [kw] := by rfl)
    (hst : starEach [e] X.env = (false, eval e X.env) :: starEach [] X.env := by rfl)
    (hpl : ((backTo pos (starEach [e] X.env)).any (·.1) || (backToKw pos (keywordEach [⟨some kw, .Lambda params lbody scope lpos, kpos⟩] X.env)).any (·.1.isNone)) = false := by rfl)
    (ht : eval (.Call (.Attribute o m apos) [e] [⟨some kw, .Lambda params lbody scope lpos, kpos⟩] pos) X.env = (do
      let ov ← eval o X.env
      standAt apos.atName
      let (f, first) ← holding [ov] (getMethod ov m pl)
      callWith pos f first (backTo pos (starEach [e] X.env)) (backToKw pos (keywordEach [⟨some kw, .Lambda params lbody scope lpos, kpos⟩] X.env))) := by rfl) :
    PE X (.Call (.Attribute o m apos) [e] [⟨some kw, .Lambda params lbody scope lpos, kpos⟩] pos) (tMethLE (X.env.qual ++ "<lambda>") C m T js sp E ta t) := by
  refine ⟨fun pins s σ H Q I h => ?_⟩
  refine PySem.W.methodCall_KW (pl := pl) (thn (he.run pins s σ H _ I h) fun u s1 ⟨x, H1, I1, rx, a, dx, fs, ex, ea, l, q⟩ => ?_) ht
  subst ex
  obtain rfl : u = Value.ref a := rx
  refine getmeth_ok I1 ea c hm l ?_
  refine PySem.W.callWith_KW (first := [.ref a]) (h₀ := X.base) I.ok.mod.kin hm.kp hall (thn (ha.run pos pins s1 σ H1 _ I1 q) fun us s2 ⟨vs, H2, I2, r, hT, l1, q2⟩ => ?_) hpl hst
  show wpAny _ _ (evalAll [(do let v ← eval (.Lambda params lbody scope lpos) X.env; standAt pos; pure v)]) _ _ s2
  refine wpAny_evalAll_cons (wpAny_bind (lam_make2 I2 TB hcode hmT hu hT hdef (fun y hy z => (hfree y hy z).elim (fun k => I2.ok.has _ (.inl k)) fun k => I2.ok.has _ (.inr k)) fun f c' pm ctv H3 s3 I3 eN T3 hf hf0 hfr0 hco => wpAny_bind (wpAny_standAt (wpAny_pure (wpAny_evalAll_nil ⟨I3.kIn, ?_⟩)))))
  rw [hks]
  have cp := Caps.made (X := X) (scope := scope) I3.ok hfree hfr hjs
  have hL : LamAt (lamF X params scope c') lbody f fr (js.map (slotAt σ)) X.stack s3 H3 := ⟨⟨pm, ctv, hf⟩, hf0, hfr0, cells_of I3 cp, fun y c e => frs_cell I3 hfn (cp.sub y c e)⟩
  have r1 : Vals (.ref a :: vs) (.ref a :: us) := .cons rfl r
  have r2 := hb.rel r1 (.cons rfl .nil : Vals [.ref f] [.ref f])
  have q3 := q2 f c' H3 eN T3 hco
  refine wpAny_call (codeAny_mono ((F f c' _).run X.A X.stack s3 H3 ⟨.ref a :: us, [kw].zip [.ref f]⟩ _ _ Q (E σ) hr I3.env0 hL (hb.to s3 (.ref a :: us) [.ref f] I3.kIn (by rw [← r1.length, List.length_cons, l1]) rfl) r2 q3) fun r s' hq => ?_)
  cases r with
  | error e => exact hx σ pins H3 s3 e s' I3 hq
  | ok fl =>
    cases fl with
    | ret u => exact I3.after hq
    | next => exact False.elim hq
    | brk => exact False.elim hq
    | cont => exact False.elim hq
end
end Pr
namespace K54
open PySem PySem.Spec PyProof.Rows L2 Pr
open NdefX LamX
theorem tabs_but {H H' : Hp} {a c : Addr} {m : Nat} {T : List (Addr × Str)} (D : Deck H a c m) (b : But a c H H') (h : Tabs T H) : Tabs T H' := fun p hp => by
  obtain ⟨ps, h1, h2, h3⟩ := h p hp
  have q := D.apart h1 (fun _ => by intro z; cases z)
  refine ⟨ps, b _ _ q.1 q.2 h1, h2, fun pos cv hc => ?_⟩
  obtain ⟨cc, e1, e2⟩ := h3 pos cv hc
  have q2 := D.apart e2 (fun _ => by unfold CodeO; intro z; cases z)
  exact ⟨cc, e1, b _ _ q2.1 q2.2 e2⟩
theorem tabs_keep {H H' : Hp} {T : List (Addr × Str)} (h : Tabs T H) (k : ∀ b o, H b = some o → ((∃ ps, o = .tbl ps) ∨ ∃ c q, o = CodeO c q) → H' b = some o) : Tabs T H' := fun p hp => by
  obtain ⟨ps, h1, h2, h3⟩ := h p hp
  refine ⟨ps, k _ _ h1 (.inl ⟨_, rfl⟩), h2, fun pos cv hc => ?_⟩
  obtain ⟨cc, e1, e2⟩ := h3 pos cv hc
  exact ⟨cc, e1, k _ _ e2 (.inr ⟨_, _, rfl⟩)⟩
theorem tabs_upd {H : Hp} {L : Addr} {xs : List V} {o' : HO} {T : List (Addr × Str)} (e : H L = some (.lst xs)) (h : Tabs T H) : Tabs T (upd H L o') := tabs_keep h fun b o eb k => by
  rw [upd_ne]
  · exact eb
  · intro z
    subst z
    rw [e] at eb
    cases eb
    rcases k with ⟨_, z⟩ | ⟨_, _, z⟩
    · cases z
    · unfold CodeO at z; cases z
theorem tabs_butO {H H' : Hp} {C t dx : Addr} {fs : List (Str × V)} {T : List (Addr × Str)} (e : H t = some (.ins C dx fs)) (b : ButO t H H') (h : Tabs T H) : Tabs T H' := tabs_keep h fun x o ex k => by
  refine b _ _ ?_ ex
  intro z
  subst z
  rw [e] at ex
  cases ex
  rcases k with ⟨_, z⟩ | ⟨_, _, z⟩
  · cases z
  · unfold CodeO at z; cases z
theorem Kp.extN {H H' : Hp} (e : ExtN H H') : Kp H H' := ⟨fun b xs h => e _ _ h (by intro ps z; cases z), fun b o u h => e _ _ h (by intro ps z; cases z)⟩
section
variable {K : PySem.W.Frag} {C u : Addr} {H H' : Hp} {pan : List (List Int)} {st : List Int} {past : List (PyData × List (List Int) × List Int)}
theorem DeskAt.extN (h : DeskAt K C H u pan st past) (e : ExtN H H') : DeskAt K C H' u pan st past := h.at fun dx fs e1 _ => h.kpAt (Kp.extN e) (by rw [e1]; exact e _ _ e1 (by intro ps z; cases z))
theorem DeskAt.butO {t : Addr} {dx : Addr} {fs : List (Str × V)} (h : DeskAt K C H u pan st past) (e : H t = some (.ins C dx fs)) (n : u ≠ t) (b : ButO t H H') : DeskAt K C H' u pan st past := h.at fun dx fs e1 _ => h.kpAt (b.kp e) (by rw [e1]; exact b _ _ n e1)
end
abbrev TSA (p : Addr) : List (Addr × Str) := [(p, ("_law_attempted" : Str) ++ ".<locals>." ++ "<lambda>")]
def nAttd : List Str := ["_law_table", "_law_batch_here", "_law_last", "_law_many", "e"]
theorem scAttd : FnScope nAttd ["_law_table", "_law_batch_here", "_law_last"] (defScope sAttd) := ⟨rfl, rfl, rfl, by decide +kernel, rfl, by decide +kernel, by decide +kernel⟩
section
variable {P : Program} {w : World} {K : PySem.W.Frag} {mg : Str → Option Value} {base : Heap}
def spAttd (K : PySem.W.Frag) (C pS : Addr) : Sp := fun vs H Q _ => ∃ (t B : Addr) (last : Int) (pan : List (List Int)) (st : List Int) (past xs : List (PyData × List (List Int) × List Int)) (ds : List PyData), vs = [.ref t, .ref B, .int last] ∧ Tabs (TSA pS) H ∧ DeskAt K C H t pan st past ∧ past.length + ds.length ≤ 60 ∧ ds.length ≤ 20 ∧ Dp K H (.ref B) (.list ds) ∧
  ((∃ pan' st', Eds pan st ds pan' st' xs ∧ ∀ H1 H' k pk sk, ExtN H H1 → ButO t H1 H' → Tabs (TSA pS) H' → Done (fun _ _ n => decide (((n : Nat) : Int) - (past.length : Nat) = last)) pan st ds xs past.length k pk sk → DeskAt K C H' t pk sk (past ++ xs.take k) → Q (.int (k : Nat)) H') ∨
   (∃ (gs : List PyData) (a : Int), ds = gs ++ [dLk "link" a a] ∧ last = 0 ∧ ∃ pan' st', Eds pan st gs pan' st' xs ∧ 0 ≤ a ∧ a < (pan'.length : Int) ∧
     ∀ H1 H' R, ExtN H H1 → ButO t H1 H' → Tabs (TSA pS) H' → H' R = some (.lst [.str "rejected", .int (gs.length : Nat)]) → DeskAt K C H' t pan st past → Q (.ref R) H'))
theorem ok_Attd {C CU CV CR : Addr} {f cS pS : Addr} {fd : FuncData} {k : Nat} (F : Fun K "_law_attempted" "_law_attempted" sAttd f fd) (ecd : fd.code = .ref cS) (TBS : TabB base mg cS pS) (m_len : mg "len" = none) (T : TxtD K mg C) (DX : DM P w K mg base C CU CV CR) : FnOk P w K mg base CX0 (k + 31) f fd ["_law_table", "_law_batch_here", "_law_last"] (spAttd K C pS) := by
  obtain ⟨fInitG, fdInitG, bInitG, MkG, GInitG, fPressD, fdPressD, bPressD, hPressD, GPressD, fLink, fdLink, bLink, hLink, GLink, fUnlink, fdUnlink, bUnlink, hUnlink, GUnlink, fUndo, fdUndo, bUndo, hUndo, GUndo, fState, fdState, dsState, vState, kbState, bState, hState, GState, fEdits, fdEdits, bEdits, hEdits, GEdits, fLenD, fdLenD, bLenD, xLenD, yLenD, GLenD, fStrD, fdStrD, bStrD, xStrD, yStrD, GStrD, fAG, fdAG, hAG, kbAG, GAG, GLk, xR, noR, gR, mR, cDk, cGs, gDk, gGs, kDk, kGs, oI, GLenW⟩ := DX
  refine Fun.okC F scAttd ecd (fun vs H Q E h => ?_) (fun A outer s H vs Q E hr h => ?_)
  · obtain ⟨t, B, last, pan, st, past, xs, ds, rfl, _⟩ := h
    rfl
  · obtain ⟨t, B, last, pan, st, past, xs, ds, rfl, hT, hD, few, few2, dv, q⟩ := h
    refine ⟨_, pss_cons (ps_set (i := 3) scAttd.nd rfl (.inr rfl) (pe_callB (show CallR _ _ (rLenO C (spLenD K C)) from cr_lenO GLenD (hr.mono (by omega)) bLenD xLenD yLenD) (by rfl) m_len PySem.boot_len (pa_cons (pv 0) pa_nil))) (pss_one (ps_try_nm rfl rfl scAttd.nd
        (fun W pn xe tk _ => by exact (pss_one (ps_ret (show PE _ _ (tMethLE (("_law_attempted" : Str) ++ ".<locals>." ++ "<lambda>") C "attempt" (TSA pS) [2, 3] (fun f1 c1 w1 => spAttGX K C CR (lamF (cxOf CX0 P w K mg base nAttd "_law_attempted" (defScope sAttd) f (.ref cS) A outer s H E).nox _ _ c1) f1 w1 (spJ K C)) (fun σ => WE W σ) (tVar 0) (tCons (tVar 1) tNil)) from pe_methLamE (E := fun σ => WE W σ) (T := TSA pS) (js := [2, 3]) (pv 0) T.cl hAG (fun f c' ws => Pr.FnOkS.ofK (GAG (ok_J (k := 1) ⟨⟨_, _, _, _, _, _, _, rfl⟩, nscope_by (by decide +kernel), by rfl, fun _ _ _ _ _ _ => rfl⟩ GLenW bLenD xLenD yLenD m_len) (mono_J ws))) (hr.mono (by omega)) kbAG (fun σ => passAt tk σ) (pa_cons (pv 1) pa_nil) TBS rfl (List.mem_singleton.mpr rfl) (fun p hp _ => by rw [List.mem_singleton.mp hp]; rfl) (by rfl) (fun _ => rfl) (by show ∀ (y : Str × NameKind), y ∈ (_ : List (Str × NameKind)) → y.2 = NameKind.free → (defScope sAttd).names.lookup y.1 = some NameKind.cell ∨ (defScope sAttd).names.lookup y.1 = some NameKind.free; decide +kernel) (by decide +kernel) (by rfl)))))
        (by exact (HdN.one (c := .ref CR) (i := 4) rfl rfl ⟨rfl, by decide, Or.inl gR⟩ (fun a oe cls d pn hz hf => pss_one (ps_ret (pe_lst (pa_cons pe_str (pa_cons (pe_xfZ hz hf (pv 4)) pa_nil))))) HdN.none)))), ?_⟩
    refine gs_set1 (K := K) (gv_lenD (i := 0) rfl hD (by omega)) fun vn H1 s1 dn => ?_
    cases dn
    have hD1 := hD.same s1
    refine hD1.at fun dx fs e1 l1 => ?_
    refine ⟨.ref t, rfl, t, dx, fs, rfl, e1, l1 _ (by decide +kernel), .ref B, rfl, hT.ext (fun b o e => s1 b o e), rfl, fun fl c' H3 eN TG hco => ?_⟩
    have hD3 := hD1.extN eN
    have e3 := eN _ _ e1 (by intro ps z; cases z)
    have eN0 : ExtN H H3 := (extN_same s1).trans eN
    refine ⟨t, pan, st, past, xs, .ref B, ds, _, _, rfl, hD3, few, few2, dp_extN eN0 _ _ dv, say_J (many := (past.length : Nat)) (last := last), True.intro, hco, ?_⟩
    rcases q with ⟨pan', st', hE, q⟩ | ⟨gs, a, eds, el, pan', st', hE, a0, a1, q⟩
    · exact .inl ⟨pan', st', hE, fun H4 k pk sk b4 hdn hD4 => q H3 H4 k pk sk eN0 b4 (tabs_butO e3 b4 TG) hdn hD4⟩
    · refine .inr ⟨gs, a, eds, pan', st', hE, a0, a1, fun i pi si i1 i2 _ => decide_eq_false (by omega), fun H4 dd b4 hD4 ed => ?_⟩
      refine ⟨true, mR, fun _ ad na => ?_, fun z => by cases z⟩
      refine ⟨CR, xR, noR, .ref ad, rfl, rfl, rfl, dd, _, .int (gs.length : Nat), rfl, ed, rfl, by show 2 ≤ sizeLine; decide, fun R nR => ?_⟩
      have sR := same_new (o := .lst [.str "rejected", .int (gs.length : Nat)]) nR
      exact q H3 _ R eN0 (b4.trans (ButO.of sR)) (tabs_butO e3 (b4.trans (ButO.of sR)) TG) upd_same (hD4.same sR)
end
end K54
namespace K54
open PySem PySem.Spec PyProof.Rows L2 Pr
open NdefX LamX
theorem lfAll_mem : ∀ {ds : List PyData} {d : PyData}, lfAll ds = true → d ∈ ds → lf d = true
  | x :: r, d, h, hd => by
    have h' : (lf x && lfAll r) = true := by simpa only [lfAll] using h
    rw [Bool.and_eq_true] at h'
    rcases List.mem_cons.mp hd with rfl | hd
    · exact h'.1
    · exact lfAll_mem h'.2 hd
/-- a state of the law: a list of its own -/
def InAt (K : PySem.W.Frag) (H : Hp) (a c S E : Addr) (b : Addr) (y : List (List Int) × List Int) : Prop := (b ≠ a ∧ b ≠ c ∧ b ≠ S ∧ b ≠ E) ∧ ∃ (vp : V) (l : Addr), H b = some (.lst [vp, .ref l]) ∧ Dp K H vp (dPan y.1) ∧ H l = some (.tup (y.2.map V.int))
structure IV (K : PySem.W.Frag) (C : Addr) (H : Hp) (a c t S E : Addr) (m : Nat) (pan : List (List Int)) (st : List Int) (past : List (PyData × List (List Int) × List Int)) (ys : List (List (List Int) × List Int)) (es : List PyData) : Prop where
  dk : Deck H a c m
  de : DeskAt K C H t pan st past
  sl : ∃ bs : List Addr, H S = some (.lst (bs.map V.ref)) ∧ Paired (InAt K H a c S E) bs ys
  ed : ∃ evs, H E = some (.lst evs) ∧ DpAll K H evs es
  lfe : ∀ d ∈ es, lf d = true ∧ Shw 1 39 d
  ne : S ≠ a ∧ S ≠ c ∧ E ≠ a ∧ E ≠ c ∧ S ≠ E
section
variable {K : PySem.W.Frag} {C : Addr} {H H' : Hp} {a c t S E : Addr} {m m' : Nat} {pan : List (List Int)} {st : List Int} {past : List (PyData × List (List Int) × List Int)} {ys : List (List (List Int) × List Int)} {es : List PyData}
theorem InAt.same {b : Addr} {y : List (List Int) × List Int} (s : Same H H') (h : InAt K H a c S E b y) : InAt K H' a c S E b y := by
  obtain ⟨n, vp, l, h1, h2, h3⟩ := h
  exact ⟨n, vp, l, s _ _ h1, h2.sm s, s _ _ h3⟩
theorem InAt.kp {b : Addr} {y : List (List Int) × List Int} (k : Kp H H') (e : ∀ vs, H b = some (.lst vs) → H' b = some (.lst vs)) (h : InAt K H a c S E b y) : InAt K H' a c S E b y := by
  obtain ⟨n, vp, l, h1, h2, h3⟩ := h
  exact ⟨n, vp, l, e _ h1, h2.kp k (lf_pan _), k.1 _ _ h3⟩
theorem IV.same (h : IV K C H a c t S E m pan st past ys es) (s : Same H H') : IV K C H' a c t S E m pan st past ys es := by
  obtain ⟨h1, h2, ⟨bs, h3, h4⟩, ⟨evs, h5, h6⟩, h7, h8⟩ := h
  exact ⟨h1.same s, h2.same s, ⟨bs, s _ _ h3, paired_imp (fun _ _ => InAt.same s) h4⟩, ⟨evs, s _ _ h5, h6.sm s⟩, h7, h8⟩
theorem IV.less (h : IV K C H a c t S E m pan st past ys es) (z : m' ≤ m) : IV K C H a c t S E m' pan st past ys es := ⟨h.dk.less z, h.de, h.sl, h.ed, h.lfe, h.ne⟩
theorem IV.lf (h : IV K C H a c t S E m pan st past ys es) : lfAll es = true := lfAll_of fun d hd => (h.lfe d hd).1
theorem IV.but (h : IV K C H a c t S E m pan st past ys es) (b : But a c H H') (D : Deck H' a c m') : IV K C H' a c t S E m' pan st past ys es := by
  have hl := h.lf
  obtain ⟨h1, h2, ⟨bs, h3, h4⟩, ⟨evs, h5, h6⟩, h7, h8⟩ := h
  have k := Kp.but h1 b
  exact ⟨D, h2.but h1 b, ⟨bs, b _ _ h8.1 h8.2.1 h3, paired_imp (fun x _ hx => hx.kp k fun vs e => b _ _ hx.1.1 hx.1.2.1 e) h4⟩, ⟨evs, b _ _ h8.2.2.1 h8.2.2.2.1 h5, dpAll_kp k _ _ hl h6⟩, h7, h8⟩
theorem IV.do {pan' : List (List Int)} {st' : List Int} {past' : List (PyData × List (List Int) × List Int)} (h : IV K C H a c t S E m pan st past ys es) (b : ButO t H H') (D : DeskAt K C H' t pan' st' past') : IV K C H' a c t S E m pan' st' past' ys es := by
  have hl := h.lf
  obtain ⟨h1, h2, ⟨bs, h3, h4⟩, ⟨evs, h5, h6⟩, h7, h8⟩ := h
  refine h2.at fun dx fs e1 _ => ?_
  have k := b.kp e1
  exact ⟨b.deck e1 h1, D, ⟨bs, b _ _ (ne_of h3 e1 (by intro z; cases z)) h3, paired_imp (fun x _ hx => hx.kp k fun vs e => b _ _ (ne_of e e1 (by intro z; cases z)) e) h4⟩, ⟨evs, b _ _ (ne_of h5 e1 (by intro z; cases z)) h5, dpAll_kp k _ _ hl h6⟩, h7, h8⟩
theorem IV.setE (h : IV K C H a c t S E m pan st past ys es) {evs evs' : List V} {es' : List PyData} (eE : H E = some (.lst evs)) (hd : ∀ H', Kp H H' → DpAll K H' evs' es') (hl : ∀ d ∈ es', Pr.lf d = true ∧ Shw 1 39 d) : IV K C (upd H E (.lst evs')) a c t S E m pan st past ys es' := by
  obtain ⟨h1, h2, ⟨bs, h3, h4⟩, ⟨evs0, h5, h6⟩, h7, h8⟩ := h
  have kE := Kp.upd (o := .lst evs') eE
  refine h2.at fun dx fs e1 _ => ?_
  exact ⟨Deck.upd' h1 ⟨h8.2.2.1, h8.2.2.2.1⟩, h2.kpAt kE (upd_ne (ne_of e1 eE (by intro z; cases z))), ⟨bs, by rw [upd_ne h8.2.2.2.2]; exact h3, paired_imp (fun x _ hx => hx.kp kE fun vs e => by rw [upd_ne hx.1.2.2.2]; exact e) h4⟩, ⟨_, upd_same, hd _ kE⟩, hl, h8⟩
theorem IV.setS (h : IV K C H a c t S E m pan st past ys es) {bs bs' : List Addr} {ys' : List (List (List Int) × List Int)} (eS : H S = some (.lst (bs.map V.ref))) (hd : Paired (InAt K H a c S E) bs' ys') : IV K C (upd H S (.lst (bs'.map V.ref))) a c t S E m pan st past ys' es := by
  have hl := h.lf
  obtain ⟨h1, h2, ⟨bs0, h3, h4⟩, ⟨evs, h5, h6⟩, h7, h8⟩ := h
  have kS := Kp.upd (o := .lst (bs'.map V.ref)) eS
  refine h2.at fun dx fs e1 _ => ?_
  exact ⟨Deck.upd' h1 ⟨h8.1, h8.2.1⟩, h2.kpAt kS (upd_ne (ne_of e1 eS (by intro z; cases z))), ⟨bs', upd_same, paired_imp (fun x _ hx => hx.kp kS fun vs e => by rw [upd_ne hx.1.2.2.1]; exact e) hd⟩, ⟨evs, by rw [upd_ne (Ne.symm h8.2.2.2.2)]; exact h5, dpAll_kp kS _ _ hl h6⟩, h7, h8⟩
end
section
variable {K : PySem.W.Frag} {C : Addr} {H H' : Hp} {pan : List (List Int)} {st : List Int} {past : List (PyData × List (List Int) × List Int)}
theorem IV.extN {a c t S E : Addr} {m : Nat} {ys : List (List (List Int) × List Int)} {es : List PyData} (h : IV K C H a c t S E m pan st past ys es) (e : ExtN H H') : IV K C H' a c t S E m pan st past ys es := by
  have l : ∀ {b : Addr} {xs : List V}, H b = some (.lst xs) → H' b = some (.lst xs) := fun x => e _ _ x (by intro ps z; cases z)
  have hl := h.lf
  obtain ⟨h1, h2, ⟨bs, h3, h4⟩, ⟨evs, h5, h6⟩, h7, h8⟩ := h
  exact ⟨deck_extN e h1, h2.extN e, ⟨bs, l h3, paired_imp (fun x _ hx => hx.kp (Kp.extN e) fun vs q => l q) h4⟩, ⟨evs, l h5, dpAll_kp (Kp.extN e) _ _ hl h6⟩, h7, h8⟩
end
theorem dpAll_left {K : PySem.W.Frag} {H : Hp} : ∀ {xs us : List V} {ys vs : List PyData}, DpAll K H (xs ++ us) (ys ++ vs) → xs.length = ys.length → DpAll K H xs ys
  | [], _, [], _, _, _ => .nil
  | x :: xs, us, y :: ys, vs, h, e => by
    cases h with
    | cons h1 h2 => exact .cons h1 (dpAll_left h2 (by simpa using e))
theorem dpAll_takeN {K : PySem.W.Frag} {H : Hp} : ∀ {xs : List V} {ys : List PyData} (k : Nat), DpAll K H xs ys → DpAll K H (xs.take k) (ys.take k)
  | _, _, 0, _ => .nil
  | [], [], _ + 1, .nil => .nil
  | _ :: _, _ :: _, k + 1, .cons h t => .cons h (dpAll_takeN k t)
theorem paired_take {α β : Type} {R : α → β → Prop} : ∀ {xs : List α} {ys : List β} (k : Nat), Paired R xs ys → Paired R (xs.take k) (ys.take k)
  | _, _, 0, _ => .nil
  | _, _, _ + 1, .nil => .nil
  | _, _, k + 1, .cons h t => .cons h (paired_take k t)
theorem cut_to (xs : List V) (k : Nat) (h : k ≤ xs.length) : cutV xs none (some (k : Int)) = xs.take k := by
  unfold cutV
  rw [HT.sIx_none, HT.sIx_nat, Nat.min_eq_left h, List.drop_zero, Nat.sub_zero]
theorem eds_shw {pan p : List (List Int)} {st s : List Int} {ds : List PyData} {xs : List (PyData × List (List Int) × List Int)} (h : Eds pan st ds p s xs) (g : Good pan) : ∀ d ∈ ds, Pr.lf d = true ∧ Shw 1 39 d := by
  induction h with
  | nil => intro d hd; cases hd
  | cons h t ih =>
    intro d hd
    rcases List.mem_cons.mp hd with rfl | hd
    · exact ⟨h.lf, h.shw g⟩
    · exact ih (h.good g).1 d hd
theorem eds_at {pan p : List (List Int)} {st s : List Int} {ds : List PyData} {xs : List (PyData × List (List Int) × List Int)} (h : Eds pan st ds p s xs) : ∀ j, j ≤ ds.length → ∃ y, (xs.map (·.2) ++ [(p, s)])[j]? = some y ∧ Eds pan st (ds.take j) y.1 y.2 (xs.take j) := by
  induction h with
  | nil =>
    intro j hj
    obtain rfl : j = 0 := by simpa using hj
    exact ⟨_, rfl, .nil⟩
  | cons h t ih =>
    intro j hj
    cases j with
    | zero => exact ⟨_, rfl, .nil⟩
    | succ j =>
      obtain ⟨y, h1, h2⟩ := ih j (by simpa using hj)
      exact ⟨y, h1, .cons h h2⟩
theorem eds_head {pan p : List (List Int)} {st s : List Int} {ds : List PyData} {xs : List (PyData × List (List Int) × List Int)} (h : Eds pan st ds p s xs) : xs.map (·.2) ++ [(p, s)] = (pan, st) :: (xs.map (·.2) ++ [(p, s)]).drop 1 := by
  cases h <;> rfl
theorem eds_fst {pan p : List (List Int)} {st s : List Int} {ds : List PyData} {xs : List (PyData × List (List Int) × List Int)} (h : Eds pan st ds p s xs) : xs.map (·.1) = ds := by
  induction h with
  | nil => rfl
  | cons h t ih => exact congrArg (List.cons _) ih
theorem eds_app {pan p p2 : List (List Int)} {st s s2 : List Int} {ds ds2 : List PyData} {xs xs2 : List (PyData × List (List Int) × List Int)} (h : Eds pan st ds p s xs) (h2 : Eds p s ds2 p2 s2 xs2) : Eds pan st (ds ++ ds2) p2 s2 (xs ++ xs2) := by
  induction h with
  | nil => exact h2
  | cons h t ih => exact .cons h (ih h2)
theorem eds_join {pan p : List (List Int)} {st s pk : _} {sk : List Int} {ds : List PyData} {xs : List (PyData × List (List Int) × List Int)} (h : Eds pan st ds p s xs) {k : Nat} (hk : k ≤ ds.length) (hE : Eds pan st (ds.take k) pk sk (xs.take k)) :
    [(pan, st)] ++ ((xs.map (·.2) ++ [(p, s)]).drop 1).take k = (xs.take k).map (·.2) ++ [(pk, sk)] := by
  obtain ⟨y, h1, h2⟩ := eds_at h k hk
  obtain ⟨e1, e2, _⟩ := hE.det h2
  have xl := h.len
  have e : (xs.map (·.2) ++ [(p, s)]).take (k + 1) = (xs.take k).map (·.2) ++ [(pk, sk)] := by
    rw [List.take_add_one, h1, List.take_append_of_le_length (by rw [List.length_map]; omega), ← List.map_take, e1, e2]
    rfl
  rw [← e]
  conv => rhs; rw [eds_head h]
  rfl
theorem done_many {pan pk : List (List Int)} {st sk : List Int} {ds : List PyData} {xs : List (PyData × List (List Int) × List Int)} {m k : Nat} {last : Int} {p s} (hE : Eds pan st ds p s xs) (h : Done (fun _ _ n => decide (((n : Nat) : Int) - (m : Nat) = last)) pan st ds xs m k pk sk) (l0 : 0 ≤ last) :
    (k : Int) = if (decide (0 < last) && decide (last ≤ (ds.length : Nat))) = true then last else (ds.length : Nat) := by
  have hle := h.le
  rcases h.stop with z | ⟨z1, z2⟩
  · split
    · rename_i hc
      simp only [Bool.and_eq_true, decide_eq_true_eq] at hc
      by_cases e : last = (k : Int)
      · exact e.symm
      · obtain ⟨y, h1, h2⟩ := eds_at hE last.toNat (by omega)
        have := h.go last.toNat y.1 y.2 (by omega) (by omega) h2
        exact absurd (by omega) (of_decide_eq_false this)
    · rw [z]
  · have z3 : ((m + k : Nat) : Int) - (m : Nat) = last := of_decide_eq_true z2
    rw [if_pos (by simp only [Bool.and_eq_true, decide_eq_true_eq]; omega)]
    omega
theorem joinM_words {a b : List Str} (ha : ∀ x ∈ a, x = wSame ∨ x = wOn ∨ x = wOff) (hb : ∀ x ∈ b, x = wSame ∨ x = wOn ∨ x = wOff) : ∀ x ∈ joinM a b, x = wSame ∨ x = wOn ∨ x = wOff := fun x hx => by
  unfold joinM at hx
  obtain ⟨i, hi, e⟩ := List.mem_iff_getElem.mp hx
  rw [List.getElem_zipWith] at e
  split at e
  · exact ha x (e ▸ List.getElem_mem _)
  · exact hb x (e ▸ List.getElem_mem _)
theorem pressW_words (pan : List (List Int)) (b : Int) : ∀ x ∈ pressW pan b, x = wSame ∨ x = wOn ∨ x = wOff := fun x hx => by
  unfold pressW at hx
  obtain ⟨c, _, rfl⟩ := List.mem_map.mp hx
  unfold onM
  split
  · exact .inr (.inr rfl)
  · split
    · exact .inr (.inl rfl)
    · exact .inl rfl
theorem knM_words (n : Nat) : ∀ (xs : List (PyData × List (List Int) × List Int)) (k : List Str), (∀ x ∈ k, x = wSame ∨ x = wOn ∨ x = wOff) → ∀ x ∈ xs.foldl (fun k x => match isPress x.1 with | some b => joinM k (pressW x.2.1 b) | none => k) k, x = wSame ∨ x = wOn ∨ x = wOff
  | [], k, h => h
  | y :: r, k, h => by
    rw [List.foldl_cons]
    refine knM_words n r _ ?_
    cases isPress y.1 with
    | none => exact h
    | some b => exact joinM_words h (pressW_words _ _)
theorem rep_known {pan p : List (List Int)} {st s : List Int} {ds : List PyData} {xs : List (PyData × List (List Int) × List Int)} (h : Eds pan st ds p s xs) (g : Good pan) : RepOk (dStrs (knM pan.length xs)) := by
  have z : (knM pan.length xs).length = pan.length := knM_lenE h g _ List.length_replicate
  have z2 : (knM pan.length xs).length ≤ 10 := by have := g.few; omega
  exact .inr ⟨(shw_words (m := 10) z2 (knM_words pan.length xs _ fun x hx => .inl (List.eq_of_mem_replicate hx))).mono (by decide) (by decide), _, .inl rfl⟩
section
variable {K : PySem.W.Frag} {C : Addr} {H H' : Hp} {a c t M E : Addr} {m m' : Nat} {pan pan0 : List (List Int)} {st st0 : List Int} {past : List (PyData × List (List Int) × List Int)} {σ : L2.St} {i j l : Nat} {X : XK} {ta tb tc : TE}
theorem gv_chain {i j k : Int} {g g' : Int → Int → Bool} (ha : Gv K ta σ H (.int i)) (hb : Gv K tb σ H (.int j)) (hc : Gv K tc σ H (.int k)) : Gv K (tChain (rI0 fun i j => V.bl (g i j)) (rI0 fun i j => V.bl (g' i j)) ta tb tc) σ H (.bool (g i j && g' j k)) := fun H1 s Q q => ha H1 s _ fun v H2 s2 d2 => hb H2 (s.trans s2) _ fun u H3 s3 d3 => by
  cases d2; cases d3
  refine ⟨i, j, rfl, rfl, _, rfl, ?_⟩
  by_cases e : g i j = true
  · rw [if_pos e]
    refine hc H3 ((s.trans s2).trans s3) _ fun x H4 s4 d4 => ?_
    cases d4
    exact ⟨j, k, rfl, rfl, q _ H4 ((s2.trans s3).trans s4) (by rw [e]; exact .bl _)⟩
  · rw [if_neg e]
    exact q _ H3 (s2.trans s3) (by rw [(Bool.not_eq_true _).mp e]; exact .bl _)
theorem gv_Known {v e : V} {ds : List PyData} (hi : σ[i]? = some (some v)) (hj : σ[j]? = some (some e)) (dv : Dp K H v (dPan pan0)) (de : Dp K H e (.list ds)) (hg : Good pan0) (hE : Eds pan0 st0 ds pan st past) : Gv K (tCall (spKnown K) [] X (tCons (tVar i) (tCons (tVar j) tNil))) σ H (dStrs (knM pan0.length past)) := fun H1 s Q q =>
  ⟨v, hi, e, hj, v, e, pan0, pan, st0, st, ds, past, rfl, dv.sm s, de.sm s, hg, hE, fun H2 w s2 dw => q w H2 s2 dw⟩
theorem gv_Locked {v : V} (hi : σ[i]? = some (some (.ref t))) (hj : σ[j]? = some (some v)) (h : DeskAt K C H t pan st past) : Gv K (tCall (spLocked K C) [] X (tCons (tVar i) (tCons (tVar j) tNil))) σ H (.bool true) := fun H1 s Q q =>
  ⟨.ref t, hi, v, hj, t, v, pan, st, past, rfl, h.same s, fun H2 s2 => q _ H2 s2 (.bl true)⟩
theorem gv_RightL {r : V → Hp → VK → Prop} (hr : r = rU fun i => V.int (-i)) (hi : σ[i]? = some (some (.ref t))) (hj : σ[j]? = some (some (.ref M))) (hl : σ[l]? = some (some (.ref E))) (y : IV K C H a c t M E m pan st past (past.map (·.2) ++ [(pan, st)]) (past.map (·.1))) (few : past.length ≤ 60) (hsh : ∀ x ∈ past, Shw 1 39 x.1) :
    Gv K (tCall (spRight K C) [] X (tCons (tVar i) (tCons (tOp (rIxL K) (tVar j) (tUn r (tC (.int 1)))) (tCons (tVar l) tNil)))) σ H (.bool true) := fun H1 s Q q => by
  have y1 := y.same s
  obtain ⟨bs, e1, hbs⟩ := y1.sl
  obtain ⟨evs, e2, de⟩ := y1.ed
  obtain ⟨us, v0, ebs, hus, ⟨un, vp, lq, eu, dvp, elq⟩⟩ := prSplit (show Paired (InAt K H1 a c M E) bs (past.map (·.2) ++ [(pan, st)]) from hbs)
  have eM' : H1 M = some (.lst (us.map V.ref ++ [.ref v0])) := by rw [e1, ebs, List.map_append]; rfl
  subst hr
  exact ⟨.ref t, hi, .ref M, hj, 1, rfl, M, _, _, .ref v0, rfl, rfl, .inl (.inl eM'), at_last, .ref E, hl, t, pan, st, past, .ref v0, .ref E, rfl, y1.de, few, hsh, (show Dp K H1 (.ref v0) (dPS pan st) from .lst (.inl (.inl eu)) (.cons dvp (.cons (dp_ints (.inl (.inl elq))) .nil))), .lst (.inl (.inl e2)) de, fun H3 s3 => q _ H3 s3 (.bl true)⟩
end
/-- what holds at the turn's ends -/
structure J54 (K : PySem.W.Frag) (C pS : Addr) (H : Hp) (a c t p M E : Addr) (m : Nat) (pan0 : List (List Int)) (st0 : List Int) (pan : List (List Int)) (st : List Int) (past : List (PyData × List (List Int) × List Int)) : Prop where
  iv : IV K C H a c t M E m pan st past (past.map (·.2) ++ [(pan, st)]) (past.map (·.1))
  ee : Eds pan0 st0 (past.map (·.1)) pan st past
  pp : PanT K H p pan0
  tb : Tabs (TSA pS) H
section
variable {K : PySem.W.Frag} {C pS a c t p M E : Addr} {H H' : Hp} {m m' : Nat} {pan pan0 : List (List Int)} {st st0 : List Int} {past : List (PyData × List (List Int) × List Int)}
theorem J54.same (h : J54 K C pS H a c t p M E m pan0 st0 pan st past) (s : Same H H') : J54 K C pS H' a c t p M E m pan0 st0 pan st past := ⟨h.iv.same s, h.ee, h.pp.same s, h.tb.ext fun b o e => s b o e⟩
theorem J54.less (h : J54 K C pS H a c t p M E m pan0 st0 pan st past) (z : m' ≤ m) : J54 K C pS H a c t p M E m' pan0 st0 pan st past := ⟨h.iv.less z, h.ee, h.pp, h.tb⟩
theorem J54.exdo {H1 : Hp} (h : J54 K C pS H a c t p M E m pan0 st0 pan st past) (e : ExtN H H1) (b : ButO t H1 H') (T : Tabs (TSA pS) H') (D : DeskAt K C H' t pan st past) : J54 K C pS H' a c t p M E m pan0 st0 pan st past := h.iv.de.at fun dx fs e1 _ => ⟨(h.iv.extN e).do b D, h.ee, (h.pp.kp (Kp.extN e)).kp (b.kp (e _ _ e1 (by intro ps z; cases z))), T⟩
theorem J54.but (h : J54 K C pS H a c t p M E m pan0 st0 pan st past) (b : But a c H H') (D : Deck H' a c m') : J54 K C pS H' a c t p M E m' pan0 st0 pan st past := ⟨h.iv.but b D, h.ee, h.pp.kp (Kp.but h.iv.dk b), tabs_but h.iv.dk b h.tb⟩
end
def nState0 : List Str := ["_law_deck_here", "_law_n", "_law_way", "_law_one"]
theorem scState0 : FnScope nState0 ["_law_deck_here", "_law_n"] (defScope sState0) := ⟨rfl, rfl, rfl, by decide +kernel, rfl, by decide +kernel, by decide +kernel⟩
section
variable {P : Program} {w : World} {K : PySem.W.Frag} {mg : Str → Option Value} {base : Heap}
def spState0 (K : PySem.W.Frag) : Sp := fun vs H Q _ => ∃ (a c : Addr) (m n : Nat), vs = [.ref a, .int (n : Int)] ∧ Deck H a c (m + 20) ∧ n ≤ 10 ∧ ∀ H' t st, But a c H H' → Deck H' a c m → H' t = some (.tup (st.map V.int)) → Asc n st → Q (.ref t) H'
theorem ok_State0 {fDraw : Addr} {fdDraw : FuncData} {f : Addr} {fd : FuncData} {k : Nat} (F : Fun K "_law_state" "_law_state" sState0 f fd)
    (FDraw : Fun K "_law_draw" "_law_draw" sDraw fDraw fdDraw) (bDraw : Binds K fdDraw ["_law_deck_here", "_law_many"] []) (gDraw : mg "_law_draw" = some (.ref fDraw))
    (m_len : mg "len" = none) (m_range : mg "range" = none) (m_tuple : mg "tuple" = none) : FnOk P w K mg base CX0 (k + 2) f fd ["_law_deck_here", "_law_n"] (spState0 K) := by
  have GDraw : FnOk P w K mg base CX0 (k + 1) fDraw fdDraw ["_law_deck_here", "_law_many"] spDraw := ok_draw FDraw m_len
  refine F.ok scState0 (fun vs H Q E h => ?_) (fun cdv A outer s H vs Q E hr h => ?_)
  · obtain ⟨a, c, m, n, rfl, _⟩ := h
    rfl
  · refine ⟨_, pss_cons (ps_set (i := 2) scState0.nd rfl (.inl rfl) (pe_call GDraw (hr.mono (by omega)) (by rfl) gDraw FDraw.kp bDraw .nil pass0 (pa_cons (pv 0) (pa_cons pe_int pa_nil))))
      (pss_cons (ps_if (pt_cmpR op_lt (pv 2) pe_int (nomark _)) (pss_one (ps_ret (pe_ix (show IxR _ (rIxL K) from ix_list) (pe_lst (pa_cons (pe_tup pa_nil) (pa_cons (pe_tupRg rfl (by rfl) m_tuple (prg_1 (by rfl) m_range (pv 1))) pa_nil))) (pv 2) (fun _ _ => rfl)))) pss_nil)
      (pss_one (ps_ret (pe_callTy (show CallR _ _ (rTupG K) from cr_tupG) (by rfl) m_tuple (by decide +kernel) (pa_cons (pe_lc (own := [("_law_one", 3)]) (g := gName 3) rfl scState0.nd (pi_range1 (by rfl) m_range (pa_cons (pv 1) pa_nil)) (blkOk_by (own := [("_law_one", 3)]) (N := nState0) (sc := defScope sState0) (by decide +kernel)) (fun _ _ _ _ _ => pg_name (i := 3) scState0.nd rfl (Or.inl rfl)) (fun _ _ _ _ _ => pts_one (pt_cmpR op_eq (pe_call GDraw (hr.mono (by omega)) (by rfl) gDraw FDraw.kp bDraw .nil pass0 (pa_cons (pv 0) (pa_cons pe_int pa_nil))) pe_int (nomark _))) (fun _ _ _ _ _ => pv 3)) pa_nil))))), hide1 fun t0 ht0 => ?_⟩
    obtain ⟨a, c, m, n, rfl, hD, hn, q⟩ := h
    refine ht0 _ _ _ ?_
    refine ⟨.ref a, rfl, a, c, m + 19, 5, rfl, hD.less (by omega), by decide, by decide, fun H1 r b1 D1 r0 r1 => ?_⟩
    refine gs_if1 (gvt_test (K := K) (gv_I0 (f := .bool (decide (r < 2))) (gv_var rfl (.int r)) gv_int fun _ => .bl _)) (fun e H2 s2 => ?_) (fun e H2 s2 => ?_)
    · have hr2 : r < 2 := of_decide_eq_true e
      refine ⟨Nat.zero_le _, fun t0 nt0 => ?_⟩
      have s3 := same_new (o := .tup []) nt0
      refine (gu_tupRg (K := K) (n := n) (gv_var rfl (.int (n : Int))) (by omega)).at fun t1 vs1 H4 s4 nt1 e1 dv1 => ?_
      rw [dpAll_intsV dv1] at e1
      refine ⟨by show 2 ≤ sizeLine; decide, fun L nL => ?_⟩
      have s5 := same_new (o := .lst [.ref t0, .ref t1]) nL
      have sA := (s2.trans (s3.trans s4)).trans s5
      obtain rfl | rfl : r = 0 ∨ r = 1 := by omega
      · exact ⟨_, rfl, L, _, _, .ref t0, rfl, rfl, .inl (.inl upd_same), rfl, q _ t0 [] (b1.trans (But.of sA)) ((D1.same sA).less (by omega)) (s5 _ _ (s4 _ _ upd_same)) (Asc.nil _)⟩
      · exact ⟨_, rfl, L, _, _, .ref t1, rfl, rfl, .inl (.inl upd_same), rfl, q _ t1 (intL n) (b1.trans (But.of sA)) ((D1.same sA).less (by omega)) (s5 _ _ e1) (by have := Asc.filter n (fun _ => true); rwa [List.filter_eq_self.mpr (fun _ _ => rfl)] at this)⟩
    · refine ⟨.int (n : Int), rfl, (n : Int), rfl, by omega, by omega, fun O nO => ?_⟩
      have D2 := D1.same s2
      have oO := D2.fresh nO
      refine lc_range (n := n) (fun k H7 => But a c H2 H7 ∧ Deck H7 a c (m + 19 - k) ∧ ∃ acc : List Int, H7 O = some (.lst (acc.map V.int)) ∧ Asc k acc)
        ⟨But.of (same_new nO), (D2.same (same_new nO)).less (by omega), [], upd_same, Asc.nil _⟩ (fun k H8 hk' hP => ?_) (fun H8 hP => ?_)
      · obtain ⟨b8, D8, acc, eO, hacc⟩ := hP
        have al := hacc.len
        rw [Int.zero_add]
        refine ⟨rfl, .ref a, rfl, a, c, m + 19 - (k + 1), 2, rfl, D8.less (by omega), by decide, by decide, fun H9 r9 b9 D9 r9a r9b => ⟨rfl, _, rfl, ite2 (fun e => ?_) (fun e => ?_)⟩⟩
        · refine ⟨.int (k : Int), rfl, _, b9 _ _ oO.1 oO.2 eO, by rw [List.length_map]; exact small1000 (by omega), fun b o h1 h2 e => ?_, Deck.upd' D9 oO, acc ++ [(k : Int)], by rw [upd_same, List.map_append]; rfl, ?_⟩
          · rw [upd_ne (ne_of_none e nO)]
            exact b9 _ _ h1 h2 (b8 _ _ h1 h2 e)
          · refine ⟨List.pairwise_append.mpr ⟨hacc.up, List.pairwise_singleton _ _, fun x hx y hy => ?_⟩, fun x hx => ?_⟩
            · rw [List.mem_singleton.mp hy]; exact (hacc.rng x hx).2
            · rcases List.mem_append.mp hx with h | h
              · have := hacc.rng x h; omega
              · rw [List.mem_singleton.mp h]; omega
        · exact ⟨b8.trans b9, D9, acc, b9 _ _ oO.1 oO.2 eO, hacc.up, fun x hx => by have := hacc.rng x hx; omega⟩
      · obtain ⟨b8, D8, acc, eO, hacc⟩ := hP
        refine (gu_tupL (K := K) (t := fun _ H Q => Q (.ref O) H) (σ := []) (H := H8) (ds := acc.map PyData.int) (fun H9 s9 Q q => q _ H9 (Same.refl _) (.lst (.inl (.inl (s9 _ _ eO))) (dpAll_ints acc)))).at fun t vs H9 s9 nt et dt => q H9 t acc (((b1.trans (But.of s2)).trans b8).trans (But.of s9)) ((D8.same s9).less (by omega)) (by rw [et, dpAll_intsV dt]) hacc
end
end K54
namespace K54
open PySem PySem.Spec PyProof.Rows L2 Pr
open NdefX LamX
def nLaw : List Str := ["_law_script", "_law_deck_here", "_law_panel_here", "_law_n", "_law_states", "_law_edits", "_law_table", "_law_turn", "_law_way", "_law_batch_here", "_law_later", "_law_last", "_law_many", "_law_odd"]
theorem scLaw : FnScope nLaw ["_law_script"] (defScope sLaw) := ⟨rfl, rfl, rfl, by decide +kernel, rfl, by decide +kernel, by decide +kernel⟩
section
variable {P : Program} {w : World} {K : PySem.W.Frag} {mg : Str → Option Value} {base : Heap}
def spLaw (K : PySem.W.Frag) (pS : Addr) : Sp := fun vs H Q _ => ∃ (s : Addr) (ns : List Int), vs = [.ref s] ∧ SqL K H s (ns.map V.int) ∧ ns.length ≤ 63 ∧ Tabs (TSA pS) H ∧ ∀ H', Q (.bl true) H'
theorem ok_law {fWl : Addr} {fdWl : FuncData} {fLi : Addr} {fdLi : FuncData} {fUn : Addr} {fdUn : FuncData} {fNo : Addr} {fdNo : FuncData} {fPressE : Addr} {fdPressE : FuncData} {fJoin : Addr} {fdJoin : FuncData} {fWith : Addr} {fdWith : FuncData} {fBtn : Addr} {fdBtn : FuncData} {fBtnT : Addr} {fdBtnT : FuncData} {fPErr : Addr} {fdPErr : FuncData} {fPress : Addr} {fdPress : FuncData} {fAny : Addr} {fdAny : FuncData} {fHeld : Addr} {fdHeld : FuncData} {fChkP : Addr} {fdChkP : FuncData} {fChkS : Addr} {fdChkS : FuncData} {fChkB : Addr} {fdChkB : FuncData} {fIsV : Addr} {fdIsV : FuncData} {fIsE : Addr} {fdIsE : FuncData} {fCopy : Addr} {fdCopy : FuncData} {fKAft : Addr} {fdKAft : FuncData} {fDeck : Addr} {fdDeck : FuncData} {fDraw : Addr} {fdDraw : FuncData} {fPanel : Addr} {fdPanel : FuncData} {fState0 : Addr} {fdState0 : FuncData} {fPressed : Addr} {fdPressed : FuncData} {fChanged : Addr} {fdChanged : FuncData} {fAfter : Addr} {fdAfter : FuncData} {fEdit : Addr} {fdEdit : FuncData} {fDo : Addr} {fdDo : FuncData} {fRight : Addr} {fdRight : FuncData} {fKnown : Addr} {fdKnown : FuncData} {fLocked : Addr} {fdLocked : FuncData} {fAttd : Addr} {fdAttd : FuncData} {fBatch : Addr} {fdBatch : FuncData} {f : Addr} {fd : FuncData} (F : Fun K "law" "law" sLaw f fd)
    (FWl : Fun K "with_list" "with_list" sWl fWl fdWl) (bWl : Binds K fdWl ["panel", "button", "released"] []) (gWl : mg "with_list" = some (.ref fWl))
    (FLi : Fun K "linked" "linked" sLi fLi fdLi) (bLi : Binds K fdLi ["panel", "one", "other"] []) (gLi : mg "linked" = some (.ref fLi))
    (FUn : Fun K "unlinked" "unlinked" sUn fUn fdUn) (bUn : Binds K fdUn ["panel", "one", "other"] []) (gUn : mg "unlinked" = some (.ref fUn))
    (FNo : Fun K "no_effect" "no_effect" sNo fNo fdNo) (bNo : Binds K fdNo ["panel"] []) (gNo : mg "no_effect" = some (.ref fNo))
    (FPressE : Fun K "press_effect" "press_effect" sPressE fPressE fdPressE) (bPressE : Binds K fdPressE ["panel", "button"] []) (gPressE : mg "press_effect" = some (.ref fPressE))
    (FJoin : Fun K "joined_effect" "joined_effect" sJoin fJoin fdJoin) (bJoin : Binds K fdJoin ["first", "second"] []) (gJoin : mg "joined_effect" = some (.ref fJoin))
    (FWith : Fun K "effect_with_press" "effect_with_press" sWith fWith fdWith) (bWith : Binds K fdWith ["panel", "effect", "button"] []) (gWith : mg "effect_with_press" = some (.ref fWith))
    (FBtn : Fun K "is_button" "is_button" sBtn fBtn fdBtn) (bBtn : Binds K fdBtn ["value", "many"] []) (gBtn : mg "is_button" = some (.ref fBtn))
    (FBtnT : Fun K "is_button_tuple" "is_button_tuple" sBtnT fBtnT fdBtnT) (bBtnT : Binds K fdBtnT ["value", "many"] []) (gBtnT : mg "is_button_tuple" = some (.ref fBtnT))
    (FPErr : Fun K "panel_error" "panel_error" sPErr fPErr fdPErr) (bPErr : Binds K fdPErr ["value"] []) (gPErr : mg "panel_error" = some (.ref fPErr))
    (FPress : Fun K "press_button" "press_button" sPress fPress fdPress) (bPress : Binds K fdPress ["panel", "state", "button"] []) (gPress : mg "press_button" = some (.ref fPress))
    (FAny : Fun K "releases_any" "releases_any" sAny fAny fdAny) (bAny : Binds K fdAny ["panel", "button", "others"] []) (gAny : mg "releases_any" = some (.ref fAny))
    (FHeld : Fun K "held_buttons" "held_buttons" sHeld fHeld fdHeld) (bHeld : Binds K fdHeld ["panel", "state"] []) (gHeld : mg "held_buttons" = some (.ref fHeld))
    (FChkP : Fun K "check_panel" "check_panel" sChkP fChkP fdChkP) (bChkP : Binds K fdChkP ["value"] []) (gChkP : mg "check_panel" = some (.ref fChkP))
    (FChkS : Fun K "check_state" "check_state" sChkS fChkS fdChkS) (bChkS : Binds K fdChkS ["panel", "value"] []) (gChkS : mg "check_state" = some (.ref fChkS))
    (FChkB : Fun K "check_button" "check_button" sChkB fChkB fdChkB) (bChkB : Binds K fdChkB ["panel", "value"] []) (gChkB : mg "check_button" = some (.ref fChkB))
    (FIsV : Fun K "is_version" "is_version" sIsV fIsV fdIsV) (bIsV : Binds K fdIsV ["value", "latest"] []) (gIsV : mg "is_version" = some (.ref fIsV))
    (FIsE : Fun K "is_edit" "is_edit" sIsE fIsE fdIsE) (bIsE : Binds K fdIsE ["value"] []) (gIsE : mg "is_edit" = some (.ref fIsE))
    (FCopy : Fun K "copied_batch" "copied_batch" sCopy fCopy fdCopy) (bCopy : Binds K fdCopy ["value"] []) (gCopy : mg "copied_batch" = some (.ref fCopy))
    (FKAft : Fun K "known_after" "known_after" sKAft fKAft fdKAft) (bKAft : Binds K fdKAft ["panel", "past"] []) (gKAft : mg "known_after" = some (.ref fKAft))
    (FDeck : Fun K "_law_deck" "_law_deck" sDeck fDeck fdDeck) (bDeck : Binds K fdDeck ["_law_script"] []) (gDeck : mg "_law_deck" = some (.ref fDeck))
    (FDraw : Fun K "_law_draw" "_law_draw" sDraw fDraw fdDraw) (bDraw : Binds K fdDraw ["_law_deck_here", "_law_many"] []) (gDraw : mg "_law_draw" = some (.ref fDraw))
    (FPanel : Fun K "_law_panel" "_law_panel" sPanel fPanel fdPanel) (bPanel : Binds K fdPanel ["_law_deck_here", "_law_most"] []) (gPanel : mg "_law_panel" = some (.ref fPanel))
    (FState0 : Fun K "_law_state" "_law_state" sState0 fState0 fdState0) (bState0 : Binds K fdState0 ["_law_deck_here", "_law_n"] []) (gState0 : mg "_law_state" = some (.ref fState0))
    (FPressed : Fun K "_law_pressed" "_law_pressed" sPressed fPressed fdPressed) (bPressed : Binds K fdPressed ["_law_panel_here", "_law_state_here", "_law_button"] []) (gPressed : mg "_law_pressed" = some (.ref fPressed))
    (FChanged : Fun K "_law_changed" "_law_changed" sChanged fChanged fdChanged) (bChanged : Binds K fdChanged ["_law_panel_here", "_law_one", "_law_other", "_law_is_link"] []) (gChanged : mg "_law_changed" = some (.ref fChanged))
    (FAfter : Fun K "_law_after" "_law_after" sAfter fAfter fdAfter) (bAfter : Binds K fdAfter ["_law_state_here", "_law_edit_here"] []) (gAfter : mg "_law_after" = some (.ref fAfter))
    (FEdit : Fun K "_law_edit" "_law_edit" sEdit fEdit fdEdit) (bEdit : Binds K fdEdit ["_law_deck_here", "_law_state_here"] []) (gEdit : mg "_law_edit" = some (.ref fEdit))
    (FDo : Fun K "_law_do" "_law_do" sDo fDo fdDo) (bDo : Binds K fdDo ["_law_table", "_law_edit_here"] []) (gDo : mg "_law_do" = some (.ref fDo))
    (FRight : Fun K "_law_right" "_law_right" sRight fRight fdRight) (bRight : Binds K fdRight ["_law_table", "_law_state_here", "_law_edits"] []) (gRight : mg "_law_right" = some (.ref fRight))
    (FKnown : Fun K "_law_known" "_law_known" sKnown fKnown fdKnown) (bKnown : Binds K fdKnown ["_law_panel_here", "_law_edits"] []) (gKnown : mg "_law_known" = some (.ref fKnown))
    (FLocked : Fun K "_law_is_locked" "_law_is_locked" sLocked fLocked fdLocked) (bLocked : Binds K fdLocked ["_law_table", "_law_value"] []) (gLocked : mg "_law_is_locked" = some (.ref fLocked))
    (FAttd : Fun K "_law_attempted" "_law_attempted" sAttd fAttd fdAttd) (bAttd : Binds K fdAttd ["_law_table", "_law_batch_here", "_law_last"] []) (gAttd : mg "_law_attempted" = some (.ref fAttd))
    (FBatch : Fun K "_law_batch" "_law_batch" sBatch fBatch fdBatch) (bBatch : Binds K fdBatch ["_law_deck_here", "_law_state_here"] []) (gBatch : mg "_law_batch" = some (.ref fBatch))
    (m_ValueError : mg "ValueError" = none) (m_abs : mg "abs" = none) (m_any : mg "any" = none) (m_bool : mg "bool" = none) (m_enumerate : mg "enumerate" = none) (m_int : mg "int" = none) (m_isinstance : mg "isinstance" = none) (m_len : mg "len" = none) (m_list : mg "list" = none) (m_min : mg "min" = none) (m_range : mg "range" = none) (m_repr : mg "repr" = none) (m_sorted : mg "sorted" = none) (m_str : mg "str" = none) (m_tuple : mg "tuple" = none) (m_zip : mg "zip" = none) {C CU CV CR : Addr} (T : TxtD K mg C) (DX : DM P w K mg base C CU CV CR) {cS pS : Addr} (ecA : fdAttd.code = .ref cS) (TBA : TabB base mg cS pS) : FnG P w K mg base (40) f fd ["_law_script"] (spLaw K pS) := by
  have DX0 := DX
  obtain ⟨fInitG, fdInitG, bInitG, MkG, GInitG, fPressD, fdPressD, bPressD, hPressD, GPressD, fLink, fdLink, bLink, hLink, GLink, fUnlink, fdUnlink, bUnlink, hUnlink, GUnlink, fUndo, fdUndo, bUndo, hUndo, GUndo, fState, fdState, dsState, vState, kbState, bState, hState, GState, fEdits, fdEdits, bEdits, hEdits, GEdits, fLenD, fdLenD, bLenD, xLenD, yLenD, GLenD, fStrD, fdStrD, bStrD, xStrD, yStrD, GStrD, fAG, fdAG, hAG, kbAG, GAG, GLk, xR, noR, gR, mR, cDk, cGs, gDk, gGs, kDk, kGs, oI, GLenW⟩ := DX0
  have GDeck : FnOk P w K mg base CX0 (1) fDeck fdDeck ["_law_script"] (spDeck K) := ok_deck FDeck m_abs
  have GPanel : FnOk P w K mg base CX0 (2) fPanel fdPanel ["_law_deck_here", "_law_most"] (spPanel K) := ok_Panel FPanel FDraw bDraw gDraw m_len m_list m_min m_range m_tuple
  have GState0 : FnOk P w K mg base CX0 (2) fState0 fdState0 ["_law_deck_here", "_law_n"] (spState0 K) := ok_State0 FState0 FDraw bDraw gDraw m_len m_range m_tuple
  have GDraw : FnOk P w K mg base CX0 (1) fDraw fdDraw ["_law_deck_here", "_law_many"] spDraw := ok_draw FDraw m_len
  have GBatch : FnOk P w K mg base CX0 (3) fBatch fdBatch ["_law_deck_here", "_law_state_here"] (spBatch K) := ok_Batch FBatch FDraw bDraw gDraw FPressed bPressed gPressed FChanged bChanged gChanged FAfter bAfter gAfter FEdit bEdit gEdit m_int m_len m_range m_sorted m_tuple
  have GAttd : FnOk P w K mg base CX0 (31) fAttd fdAttd ["_law_table", "_law_batch_here", "_law_last"] (spAttd K C pS) := ok_Attd FAttd ecA TBA m_len T DX
  have GEdit : FnOk P w K mg base CX0 (2) fEdit fdEdit ["_law_deck_here", "_law_state_here"] (spEdit K) := ok_Edit FEdit FDraw bDraw gDraw m_int m_len
  have GAfter : FnOk P w K mg base CX0 (2) fAfter fdAfter ["_law_state_here", "_law_edit_here"] (spAfter K) := ok_After FAfter FPressed bPressed gPressed FChanged bChanged gChanged m_int m_sorted m_tuple
  have GDo : FnOk P w K mg base CX0 (14) fDo fdDo ["_law_table", "_law_edit_here"] (spDo K C) := ok_Do FDo T DX
  have GRight : FnG P w K mg base (14) fRight fdRight ["_law_table", "_law_state_here", "_law_edits"] (spRight K C) := ok_Right FRight m_len m_repr m_str m_tuple T DX
  have GKnown : FnOk P w K mg base CX0 (2) fKnown fdKnown ["_law_panel_here", "_law_edits"] (spKnown K) := ok_Known FKnown FChanged bChanged gChanged m_enumerate m_int m_len m_sorted m_tuple
  have GLocked : FnOk P w K mg base CX0 (13) fLocked fdLocked ["_law_table", "_law_value"] (spLocked K C) := GLk FLocked
  refine okG F scLaw (fun vs H Q E h => ?_) (fun cdv A outer s H vs Q E gd hr h => ?_)
  · obtain ⟨s, ns, rfl, _⟩ := h
    rfl
  · refine ⟨_, pss_cons (ps_set (i := 1) scLaw.nd rfl (.inl rfl) (pe_call GDeck (hr.mono (by omega)) (by rfl) gDeck FDeck.kp bDeck .nil pass0 (pa_cons (pv 0) pa_nil)))
      (pss_cons (ps_set (i := 2) scLaw.nd rfl (.inl rfl) (pe_call GPanel (hr.mono (by omega)) (by rfl) gPanel FPanel.kp bPanel .nil pass0 (pa_cons (pv 1) (pa_cons pe_int pa_nil))))
      (pss_cons (ps_set (i := 3) scLaw.nd rfl (.inl rfl) (pe_callB (show CallR _ _ (rLenG K) from cr_lenG) (by rfl) m_len PySem.boot_len (pa_cons (pv 2) pa_nil)))
      (pss_cons (ps_par (i := 4) (j := 5) rfl scLaw.nd rfl rfl (by decide) rfl rfl (pa_cons (pe_lst (pa_cons (pe_lst (pa_cons (pv 2) (pa_cons (pe_call GState0 (hr.mono (by omega)) (by rfl) gState0 FState0.kp bState0 .nil pass0 (pa_cons (pv 1) (pa_cons (pv 3) pa_nil))) pa_nil))) pa_nil)) (pa_cons (pe_lst pa_nil) pa_nil)) (by rfl))
      (pss_cons (ps_set (i := 6) scLaw.nd rfl (.inl rfl) (pe_make MkG GInitG (hr.mono (by omega)) (by rfl) T.g bInitG .nil pass0 (pa_cons (pv 2) (pa_cons (pe_ix (show IxR _ (rIxL K) from ix_list) (pe_ix (show IxR _ (rIxL K) from ix_list) (pv 4) pe_int (fun _ _ => rfl)) pe_int (fun _ _ => rfl)) pa_nil))))
      (pss_cons (ps_if (PW.pt (pw_or (pt_not (pt_val (pe_callB (show CallR _ _ (rIsi K) from call_isi) (by rfl) m_isinstance (by decide +kernel) (pa_cons (pv 6) (pa_cons (pe_glob (v := .ref cDk) (by rfl) gDk rfl) pa_nil))))) (pw_or1 (pt_not (pt_val (pe_callB (show CallR _ _ (rIsi K) from call_isi) (by rfl) m_isinstance (by decide +kernel) (pa_cons (pv 6) (pa_cons (pe_glob (v := .ref cGs) (by rfl) gGs rfl) pa_nil)))))))) (pss_one (ps_ret pe_bl)) pss_nil)
      (pss_cons (ps_for PassesOwn.never rfl (pi_range1 (by rfl) m_range (pa_cons (pe_op op_add pe_int (pe_call GDraw (hr.mono (by omega)) (by rfl) gDraw FDraw.kp bDraw .nil pass0 (pa_cons (pv 1) (pa_cons pe_int pa_nil)))) pa_nil)) (pg_name (i := 7) scLaw.nd rfl (Or.inl rfl)) (pss_cons (ps_set (i := 8) scLaw.nd rfl (.inl rfl) (pe_call GDraw (hr.mono (by omega)) (by rfl) gDraw FDraw.kp bDraw .nil pass0 (pa_cons (pv 1) (pa_cons pe_int pa_nil))))
      (pss_cons (ps_if (PW.pt (pw_and (pt_cmpR op_eq (pv 8) pe_int (nomark _)) (pw_and1 (pt_cmpR (show OpR _ _ rNeE1 from op_neE1 hr.units) (pv 5) (pe_lst pa_nil) (nomark _))))) (pss_cons (ps_par (i := 5) (j := 4) rfl scLaw.nd rfl rfl (by decide) rfl rfl (pa_cons (pe_slice (show SlR _ (rSlL K) from sl_list) (pv 5) po_none (po_some (pe_un un_neg pe_int))) (pa_cons (pe_slice (show SlR _ (rSlL K) from sl_list) (pv 4) po_none (po_some (pe_un un_neg pe_int))) pa_nil)) (by rfl))
      (pss_one (ps_if (pt_cmpR op_ne (pe_meth0 (pv 6) T.cl hUndo GUndo (hr.mono (by omega)) bUndo .nil passX) (pe_callB (show CallR _ _ (rLenG K) from cr_lenG) (by rfl) m_len PySem.boot_len (pa_cons (pv 5) pa_nil)) (nomark _)) (pss_one (ps_ret pe_bl)) pss_nil))) (pss_one (ps_if (pt_cmpR op_eq (pv 8) pe_int (nomark _)) (pss_cons (ps_asg (pe_call GBatch (hr.mono (by omega)) (by rfl) gBatch FBatch.kp bBatch .nil pass0 (pa_cons (pv 1) (pa_cons (pe_ix (show IxR _ (rIxL K) from ix_list) (pv 4) (pe_un un_neg pe_int) (fun _ _ => rfl)) pa_nil))) (pg_unl rfl (pgs_cons (pg_name (i := 9) scLaw.nd rfl (Or.inl rfl)) (pgs_cons (pg_name (i := 10) scLaw.nd rfl (Or.inl rfl)) (pgs_cons (pg_name (i := 11) scLaw.nd rfl (Or.inl rfl)) pgs_nil)))))
      (pss_cons (ps_set (i := 12) scLaw.nd rfl (.inl rfl) (pe_ifExp (pt_chain op_lt op_le pe_int (pv 11) (pe_callB (show CallR _ _ (rLenG K) from cr_lenG) (by rfl) m_len PySem.boot_len (pa_cons (pv 9) pa_nil))) (pv 11) (pe_callB (show CallR _ _ (rLenG K) from cr_lenG) (by rfl) m_len PySem.boot_len (pa_cons (pv 9) pa_nil))))
      (pss_cons (ps_par (i := 5) (j := 4) rfl scLaw.nd rfl rfl (by decide) rfl rfl (pa_cons (pe_op op_cat (pv 5) (pe_slice (show SlR _ (rSlL K) from sl_list) (pv 9) po_none (po_some (pv 12)))) (pa_cons (pe_op op_cat (pv 4) (pe_slice (show SlR _ (rSlL K) from sl_list) (pv 10) po_none (po_some (pv 12)))) pa_nil)) (by rfl))
      (pss_one (ps_if (pt_cmpR op_ne (pe_call GAttd (hr.mono (by omega)) (by rfl) gAttd FAttd.kp bAttd .nil pass0 (pa_cons (pv 6) (pa_cons (pv 9) (pa_cons (pv 11) pa_nil)))) (pv 12) (nomark _)) (pss_one (ps_ret pe_bl)) pss_nil))))) (pss_one (ps_if (pt_cmpR op_eq (pv 8) pe_int (nomark _)) (pss_one (ps_if (pt_cmpR (show OpR _ _ (rNeD K) from op_neD hr.units) (pe_call GAttd (hr.mono (by omega)) (by rfl) gAttd FAttd.kp bAttd .nil pass0 (pa_cons (pv 6) (pa_cons (pe_lst (pa_cons (pe_tup (pa_cons pe_str (pa_cons (pe_op op_sub (pv 3) pe_int) pa_nil))) (pa_cons (pe_tup (pa_cons pe_str (pa_cons pe_int (pa_cons pe_int pa_nil)))) pa_nil))) (pa_cons pe_int pa_nil)))) (pe_lst (pa_cons pe_str (pa_cons pe_int pa_nil))) (nomark _)) (pss_one (ps_ret pe_bl)) pss_nil)) (pss_cons (ps_expr (show PE _ _ (tBM K "list" rAppend _ _) from pe_bm PySem.F.plainAttrs_list PySem.F.slot_list_append PySem.F.type_list_append mt_append (pv 5) (pa_cons (pe_call GEdit (hr.mono (by omega)) (by rfl) gEdit FEdit.kp bEdit .nil pass0 (pa_cons (pv 1) (pa_cons (pe_ix (show IxR _ (rIxL K) from ix_list) (pv 4) (pe_un un_neg pe_int) (fun _ _ => rfl)) pa_nil))) pa_nil)))
      (pss_cons (ps_expr (show PE _ _ (tBM K "list" rAppend _ _) from pe_bm PySem.F.plainAttrs_list PySem.F.slot_list_append PySem.F.type_list_append mt_append (pv 4) (pa_cons (pe_call GAfter (hr.mono (by omega)) (by rfl) gAfter FAfter.kp bAfter .nil pass0 (pa_cons (pe_ix (show IxR _ (rIxL K) from ix_list) (pv 4) (pe_un un_neg pe_int) (fun _ _ => rfl)) (pa_cons (pe_ix (show IxR _ (rIxL K) from ix_list) (pv 5) (pe_un un_neg pe_int) (fun _ _ => rfl)) pa_nil))) pa_nil)))
      (pss_one (ps_if (pt_cmpR op_ne (pe_call GDo (hr.mono (by omega)) (by rfl) gDo FDo.kp bDo .nil pass0 (pa_cons (pv 6) (pa_cons (pe_ix (show IxR _ (rIxL K) from ix_list) (pv 5) (pe_un un_neg pe_int) (fun _ _ => rfl)) pa_nil))) (pe_callB (show CallR _ _ (rLenG K) from cr_lenG) (by rfl) m_len PySem.boot_len (pa_cons (pv 5) pa_nil)) (nomark _)) (pss_one (ps_ret pe_bl)) pss_nil)))))))))
      (pss_cons (ps_if (PW.pt (pw_or (pt_cmpR op_ne (pe_callB (show CallR _ _ (rReprA K) from cr_reprA gd hr) (by rfl) m_repr (by decide +kernel) (pa_cons (pe_fld (pv 6) rfl) pa_nil)) (pe_callB (show CallR _ _ (rReprA K) from cr_reprA gd hr) (by rfl) m_repr (by decide +kernel) (pa_cons (pe_call GKnown (hr.mono (by omega)) (by rfl) gKnown FKnown.kp bKnown .nil pass0 (pa_cons (pv 2) (pa_cons (pv 5) pa_nil))) pa_nil)) (nomark _)) (pw_or1 (pt_not (pt_val (pe_callG GRight gd (hr.mono (by omega)) (by rfl) gRight FRight.kp bRight (pa_cons (pv 6) (pa_cons (pe_ix (show IxR _ (rIxL K) from ix_list) (pv 4) (pe_un un_neg pe_int) (fun _ _ => rfl)) (pa_cons (pv 5) pa_nil))))))))) (pss_one (ps_ret pe_bl)) pss_nil)
      (pss_cons (ps_set (i := 13) scLaw.nd rfl (.inl rfl) (pe_ix (show IxR _ (rIxL K) from ix_list) (pe_lst (pa_cons pe_int (pa_cons pe_non (pa_cons pe_bl (pa_cons (pv 3) (pa_cons pe_str (pa_cons (pe_lst pa_nil) pa_nil))))))) (pe_call GDraw (hr.mono (by omega)) (by rfl) gDraw FDraw.kp bDraw .nil pass0 (pa_cons (pv 1) (pa_cons pe_int pa_nil))) (fun _ _ => rfl)))
      (pss_one (ps_if (PW.pt (pw_or (pt_not (pt_val (pe_call GLocked (hr.mono (by omega)) (by rfl) gLocked FLocked.kp bLocked .nil pass0 (pa_cons (pv 6) (pa_cons (pv 13) pa_nil))))) (pw_or1 (pt_cmpR op_ne (pe_callB (show CallR _ _ (rReprA K) from cr_reprA gd hr) (by rfl) m_repr (by decide +kernel) (pa_cons (pe_fld (pv 6) rfl) pa_nil)) (pe_callB (show CallR _ _ (rReprA K) from cr_reprA gd hr) (by rfl) m_repr (by decide +kernel) (pa_cons (pe_call GKnown (hr.mono (by omega)) (by rfl) gKnown FKnown.kp bKnown .nil pass0 (pa_cons (pv 2) (pa_cons (pv 5) pa_nil))) pa_nil)) (nomark _))))) (pss_one (ps_ret pe_bl)) pss_nil)))))))
      (pss_one (ps_ret pe_bl)))))))), hide1 fun t0 ht0 => ?_⟩
    obtain ⟨sc, ns, rfl, hS, hlen, hT, q⟩ := h
    refine ht0 _ _ _ ?_
    refine ⟨.ref sc, rfl, sc, ns, rfl, hS, hlen, fun H1 a c s1 D1 => ?_⟩
    refine ⟨.ref a, rfl, a, c, 5000, 10, rfl, D1.less (by omega), by decide, by decide, fun H3 vp pan0 b3 D3 dp hg0 hle0 => ?_⟩
    obtain ⟨p, rfl, hp⟩ := panT_dp dp
    have few0 := hg0.few
    have hlp0 : (pan0.map dInts).length = pan0.length := List.length_map _
    have T3 : Tabs (TSA pS) H3 := tabs_but D1 b3 (hT.ext fun b o e => s1 b o e)
    refine gs_set1 (K := K) (gv_lenT (gv_var rfl hp.dp)) fun vn H4 s4 dn => ?_
    cases dn
    rw [hlp0]
    refine ⟨.ref p, rfl, .ref a, rfl, .int (pan0.length : Int), rfl, a, c, 4900, pan0.length, rfl, (D3.same s4).less (by omega), few0, fun H5 l st0 b5 D5 el hst0 => ?_⟩
    have hp5 := (hp.same s4).kp (Kp.but (D3.same s4) b5)
    have T5 := tabs_but (D3.same s4) b5 (T3.ext fun b o e => s4 b o e)
    refine ⟨by show 2 ≤ sizeLine; decide, fun S0 nS => ⟨by show 1 ≤ sizeLine; decide, fun M0 nM => ⟨Nat.zero_le _, fun E0' nE => ⟨_, _, rfl, ?_⟩⟩⟩⟩
    have sS := same_new (o := .lst [.ref p, .ref l]) nS
    have fS := D5.fresh nS
    have fM := (D5.same sS).fresh nM
    have sM := same_new (o := .lst [.ref S0]) nM
    have fE := ((D5.same sS).same sM).fresh nE
    have sE := same_new (o := .lst []) nE
    have eS := sE _ _ (sM _ _ (upd_same (a := S0) (H := H5) (o := .lst [.ref p, .ref l])))
    have eM := sE _ _ (upd_same (a := M0) (H := upd H5 S0 (.lst [.ref p, .ref l])) (o := .lst [.ref S0]))
    have eE : (upd (upd (upd H5 S0 (.lst [.ref p, .ref l])) M0 (.lst [.ref S0])) E0' (.lst [])) E0' = some (.lst []) := upd_same
    have SM : S0 ≠ M0 := ne_of_none (upd_same (a := S0) (H := H5) (o := .lst [.ref p, .ref l])) nM
    have SE : S0 ≠ E0' := ne_of_none (sM _ _ (upd_same (a := S0) (H := H5) (o := .lst [.ref p, .ref l]))) nE
    have ME : M0 ≠ E0' := ne_of_none (upd_same (a := M0) (H := upd H5 S0 (.lst [.ref p, .ref l])) (o := .lst [.ref S0])) nE
    have s56 := (sS.trans sM).trans sE
    have hp6 := hp5.same s56
    have el6 := s56 _ _ el
    have D6 := D5.same s56
    have T6 := T5.ext fun b o e => s56 b o e
    generalize upd (upd (upd H5 S0 (.lst [.ref p, .ref l])) M0 (.lst [.ref S0])) E0' (.lst []) = H6 at eS eM eE hp6 el6 D6 T6 ⊢
    clear sS sM sE nS nM nE s56
    refine ⟨.ref p, rfl, .ref M0, rfl, M0, _, _, .ref S0, rfl, rfl, .inl (.inl eM), rfl, S0, _, _, .ref l, rfl, rfl, .inl (.inl eS), rfl, fun t tx nt ntx net => ?_⟩
    have st' : Same H6 (upd (upd H6 tx (.own t)) t (.ins C tx [])) := fun b ob e => by rw [upd_ne (ne_of_none e nt), upd_ne (ne_of_none e ntx)]; exact e
    refine ⟨t, p, l, tx, pan0, st0, rfl, upd_same, hp6.same st', hg0, st' _ _ el6, hst0, fun H8 b8 G8 => ⟨rfl, ?_⟩⟩
    have k8 := b8.kp (upd_same (a := t))
    have D8 := b8.deck upd_same (D6.same st')
    have T8 := tabs_butO upd_same b8 (T6.ext fun b o e => st' b o e)
    have eS8 := b8 _ _ (ne_of_none eS nt) (st' _ _ eS)
    have eM8 := b8 _ _ (ne_of_none eM nt) (st' _ _ eM)
    have eE8 := b8 _ _ (ne_of_none eE nt) (st' _ _ eE)
    have hp8 := (hp6.same st').kp k8
    have el8 := k8.1 _ _ (st' _ _ el6)
    have Y0 : J54 K C pS H8 a c t p M0 E0' 4900 pan0 st0 pan0 st0 [] := ⟨⟨D8, G8, ⟨[S0], eM8, .cons ⟨⟨fS.1, fS.2, SM, SE⟩, .ref p, l, eS8, hp8.dp, el8⟩ .nil⟩, ⟨[], eE8, .nil⟩, (fun d hd => by cases hd), fM.1, fM.2, fE.1, fE.2, ME⟩, .nil, hp8, T8⟩
    clear eS8 eM8 eE8 hp8 el8 T8 D8 k8 hp5 hp6 el el6 T3 T5 T6 D6 eS eM eE
    obtain ⟨dx8, fs8, e8⟩ : ∃ dx fs, H8 t = some (.ins C dx fs) := G8.at fun dx fs e _ => ⟨dx, fs, e⟩
    refine gs_no (gvt_or (gvt_not (gvt_b (gv_isO (K := K) (i := 6) rfl e8 T.cl oI kDk))) (fun HA sA _ => gvt_not (gvt_b (gv_isO (K := K) (i := 6) rfl (sA _ _ e8) T.cl oI kGs)))) rfl fun H9 s9 => ?_
    have Y9 := Y0.same s9
    clear Y0 e8 G8 s9
    refine ⟨.ref a, rfl, a, c, 4800, 15, rfl, Y9.iv.dk.less (by omega), by decide, by decide, fun HA r bA DA r0 r1 => ⟨1, r, rfl, rfl, 1 + r, rfl, by omega, by omega, ?_⟩⟩
    have YA := Y9.but bA DA
    obtain ⟨n, hn, hn2⟩ : ∃ n : Nat, (1 + r).toNat = n ∧ n ≤ 15 := ⟨_, rfl, by omega⟩
    rw [hn]
    clear Y9 bA DA hn
    refine for_range (n := n) (fun k σ H' => ∃ (M E : Addr) (pan : List (List Int)) (st : List Int) (past : List (PyData × List (List Int) × List Int)) (x7 x8 x9 x10 x11 x12 x13 : Option V), J54 K C pS H' a c t p M E (4800 - 200 * k) pan0 st0 pan st past ∧ past.length ≤ 3 * k ∧ σ = [some (.ref sc), some (.ref a), some (.ref p), some (.int (pan0.length : Int)), some (.ref M), some (.ref E), some (.ref t), x7, x8, x9, x10, x11, x12, x13])
      ⟨M0, E0', pan0, st0, [], none, none, none, none, none, none, none, YA.less (by omega), Nat.zero_le _, rfl⟩ (fun k σ HB hk hP => ?_) (fun σ HB hP => q HB)
    obtain ⟨M, E, pan, st, past, x7, x8, x9, x10, x11, x12, x13, YB, pl, rfl⟩ := hP
    clear YA
    refine ⟨.ref a, rfl, a, c, 4800 - 200 * k - 1, 5, rfl, YB.iv.dk.less (by omega), by decide, by decide, fun HC w bC DC w0 w1 => ?_⟩
    have YC := YB.but bC DC
    clear YB bC DC
    unfold gName
    dsimp only
    refine gs_seqJ (J := fun σ' H' => ∃ (M E : Addr) (pan : List (List Int)) (st : List Int) (past : List (PyData × List (List Int) × List Int)) (x9 x10 x11 x12 x13 : Option V), J54 K C pS H' a c t p M E (4800 - 200 * k - 150) pan0 st0 pan st past ∧ past.length ≤ 3 * (k + 1) ∧ σ' = [some (.ref sc), some (.ref a), some (.ref p), some (.int (pan0.length : Int)), some (.ref M), some (.ref E), some (.ref t), some (.int (0 + (k : Int))), some (.int w), x9, x10, x11, x12, x13]) (fun σ' HD hJ => ?_) (fun hk2 => ?_)
    · obtain ⟨M, E, pan, st, past, x9, x10, x11, x12, x13, YD, pl, rfl⟩ := hJ
      clear YC
      have hD := YD.iv.de
      have pl0 : pan.length = pan0.length := (eds_plen YD.ee hg0).2
      have few : past.length ≤ 60 := by omega
      have rk := rep_known YD.ee hg0
      obtain ⟨evs, eE, dE⟩ := YD.iv.ed
      refine gs_no (gvt_or (gvt_test (K := K) (gv_neS (gv_reprA ((gv_known T (i := 6) rfl hD).to (by rw [pl0])) rk) (gv_reprA (gv_Known (i := 2) (j := 5) rfl rfl YD.pp.dp (.lst (.inl (.inl eE)) dE) hg0 YD.ee) rk))) (fun HE sE _ => gvt_not (gvt_b (gv_RightL rfl (i := 6) (j := 4) (l := 5) rfl rfl rfl (YD.iv.same sE) few (fun x hx => (YD.iv.lfe x.1 (List.mem_map.mpr ⟨x, hx, rfl⟩)).2))))) (by rw [decide_eq_true rfl]; rfl) fun HE sE => ?_
      have YE := YD.same sE
      clear YD hD dE eE
      refine ⟨.int (pan0.length : Int), rfl, Nat.zero_le _, fun Z nZ => ⟨by show 6 ≤ sizeLine; decide, fun L6 nL6 => ?_⟩⟩
      have sZ := same_new (o := .lst []) nZ
      have s6 := same_new (o := .lst [.int 0, .non, .bl true, .int (pan0.length : Int), .str "0", .ref Z]) nL6
      have YF := (YE.same sZ).same s6
      have f6 := (YE.iv.dk.same sZ).fresh nL6
      have e6 : upd (upd HE Z (.lst [])) L6 (.lst [.int 0, .non, .bl true, .int (pan0.length : Int), .str "0", .ref Z]) L6 = some (.lst [.int 0, .non, .bl true, .int (pan0.length : Int), .str "0", .ref Z]) := upd_same
      generalize upd (upd HE Z (.lst [])) L6 (.lst [.int 0, .non, .bl true, .int (pan0.length : Int), .str "0", .ref Z]) = HF at YF e6 ⊢
      clear YE sZ s6
      refine ⟨.ref a, rfl, a, c, 4800 - 200 * k - 160, 6, rfl, YF.iv.dk.less (by omega), by decide, by decide, fun HG r bG DG r0 r1 => ?_⟩
      have YG := YF.but bG DG
      have eG := bG _ _ f6.1 f6.2 e6
      obtain ⟨v, hv⟩ : ∃ v, ([.int 0, .non, .bl true, .int (pan0.length : Int), .str "0", .ref Z] : List V)[r.toNat]? = some v := ⟨_, List.getElem?_eq_getElem (by show r.toNat < 6; omega)⟩
      refine ⟨L6, _, _, v, rfl, rfl, .inl (.inl eG), (by have z := at_nat hv; rwa [Int.toNat_of_nonneg r0] at z), ?_⟩
      obtain ⟨evs, eE, dE⟩ := YG.iv.ed
      refine gs_noN (gvt_or (gvt_not (gvt_b (gv_Locked (K := K) (i := 6) (j := 13) rfl rfl YG.iv.de))) (fun HH sH _ => gvt_test (K := K) (gv_neS (gv_reprA ((gv_known T (i := 6) rfl (YG.same sH).iv.de).to (by rw [pl0])) rk) (gv_reprA (gv_Known (i := 2) (j := 5) rfl rfl (YG.same sH).pp.dp (.lst (.inl (.inl (sH _ _ eE))) (dE.sm sH)) hg0 YG.ee) rk)))) (by rw [decide_eq_true rfl]; rfl) fun HH sH => ?_
      exact ⟨M, E, pan, st, past, _, _, _, _, _, _, _, (YG.same sH).less (by omega), pl, rfl⟩
    obtain ⟨evs, eE, dE⟩ := YC.iv.ed
    have ne := YC.iv.ne
    have hD := YC.iv.de
    have ee := YC.ee
    have gd := eds_fin ee hg0 hst0
    have hlf := YC.iv.lf
    refine gs_if (gvt_and (gvt_test (K := K) (gv_eqI (gv_var (i := 8) rfl (.int w)) gv_int)) (fun HD sD _ => gvt_neE (i := 5) rfl (sD _ _ eE))) (fun hc HD sD => ?_) (fun hc HD sD => ?_)
    · simp only [Bool.and_eq_true] at hc
      have YD := YC.same sD
      have eED := sD _ _ eE
      have dED := dE.sm sD
      clear YC sD eE dE
      obtain ⟨bs, eM, hbs⟩ := YD.iv.sl
      rcases List.eq_nil_or_concat past with rfl | ⟨past', y, ep⟩
      · have e0 := hc.2
        cases dED
        cases e0
      rw [List.concat_eq_append] at ep
      obtain ⟨us, v0, ebs, hus, _⟩ := prSplit (show Paired (InAt K HD a c M E) bs (past.map (·.2) ++ [(pan, st)]) from hbs)
      have evl : evs.length = past'.length + 1 := by rw [dED.length, List.length_map, ep, List.length_append]; rfl
      obtain ⟨ev0, ev1, hev⟩ : ∃ l x, evs = l ++ [x] := ⟨_, _, (List.dropLast_concat_getLast (by intro z; rw [z] at evl; simp at evl)).symm⟩
      have ev0l : ev0.length = past'.length := by rw [hev, List.length_append] at evl; simpa using evl
      have dE2 : DpAll K HD ev0 (past'.map (·.1)) := by
        rw [hev, ep, List.map_append] at dED
        exact dpAll_left dED (by rw [List.length_map]; exact ev0l)
      refine ⟨.ref E, rfl, 1, rfl, -1, rfl, E, evs, rfl, .inl (.inl eED), fun E2 nE2 => ⟨.ref M, rfl, 1, rfl, -1, rfl, M, bs.map V.ref, rfl, .inl (.inl ((same_new nE2) _ _ eM)), fun M2 nM2 => ⟨_, _, rfl, ?_⟩⟩⟩
      have c1 : cutV evs none (some (-1)) = ev0 := by rw [hev]; exact cut_last _ _
      have c2 : cutV (bs.map V.ref) none (some (-1)) = us.map V.ref := by rw [ebs, List.map_append]; exact cut_last _ _
      rw [c1] at nM2 ⊢
      rw [c2]
      have s1 := same_new (o := .lst ev0) nE2
      have s2 := same_new (o := .lst (us.map V.ref)) nM2
      have s12 := s1.trans s2
      have fE2 := YD.iv.dk.fresh nE2
      have fM2 := (YD.iv.dk.same s1).fresh nM2
      have eE2 : upd (upd HD E2 (.lst ev0)) M2 (.lst (us.map V.ref)) E2 = some (.lst ev0) := s2 _ _ upd_same
      have eM2 : upd (upd HD E2 (.lst ev0)) M2 (.lst (us.map V.ref)) M2 = some (.lst (us.map V.ref)) := upd_same
      have ME2 : M2 ≠ E2 := Ne.symm (ne_of_none (upd_same (a := E2) (H := HD) (o := .lst ev0)) nM2)
      have nM20 : HD M2 = none := by
        cases z : HD M2 with
        | none => rfl
        | some o => rw [s1 _ _ z] at nM2; cases nM2
      have hus2 : Paired (InAt K (upd (upd HD E2 (.lst ev0)) M2 (.lst (us.map V.ref))) a c M2 E2) us (past.map (·.2)) := paired_imp (fun x y' hx => by
        obtain ⟨n, vp, l, h1, h2, h3⟩ := hx
        exact ⟨⟨n.1, n.2.1, ne_of_none h1 nM20, ne_of_none h1 nE2⟩, vp, l, s12 _ _ h1, h2.sm s12, s12 _ _ h3⟩) hus
      have YE := YD.same s12
      have dE3 := dE2.sm s12
      generalize upd (upd HD E2 (.lst ev0)) M2 (.lst (us.map V.ref)) = HE at YE eE2 eM2 hus2 dE3 ⊢
      clear YD eED dED dE2 s1 s2 s12 nM2 nE2 eM hbs hus
      have hDE := YE.iv.de
      refine hDE.at fun dx fs e1 l1 => ?_
      refine ⟨.ref t, rfl, t, dx, fs, rfl, e1, l1 _ (by decide +kernel), t, pan, st, past, rfl, hDE, fun past'' y' ep' HF bF GF => ?_, fun z => absurd (ep.symm.trans z) (by simp)⟩
      obtain ⟨rfl, rfl⟩ : past'' = past' ∧ y' = y := by
        have := List.append_inj' (ep'.symm.trans ep) rfl
        exact ⟨this.1, by injection this.2⟩
      have kF := bF.kp e1
      have eEF := bF _ _ (ne_of eE2 e1 (by intro z; cases z)) eE2
      have eMF := bF _ _ (ne_of eM2 e1 (by intro z; cases z)) eM2
      have hlf' : lfAll (past''.map (·.1)) = true := lfAll_of fun d hd => lfAll_mem hlf (by rw [ep, List.map_append]; exact List.mem_append_left _ hd)
      have dEF := dpAll_kp kF _ _ hlf' dE3
      have husF : Paired (InAt K HF a c M2 E2) us (past.map (·.2)) := paired_imp (fun x _ hx => hx.kp kF fun vs q => bF _ _ (ne_of q e1 (by intro z; cases z)) q) hus2
      have eds' : Eds pan0 st0 (past''.map (·.1)) y'.2.1 y'.2.2 past'' := by
        have hk : past''.length < (past.map (·.1)).length := by rw [List.length_map, ep, List.length_append]; simp
        obtain ⟨z, h1, h2⟩ := eds_at ee past''.length (by omega)
        have e2 : (past.map (·.1)).take past''.length = past''.map (·.1) := by rw [ep, List.map_append, List.take_left' (by rw [List.length_map])]
        have e3 : past.take past''.length = past'' := by rw [ep, List.take_left' rfl]
        rw [e2, e3] at h2
        have e4 : z = y'.2 := by
          rw [ep, List.map_append, List.append_assoc, List.getElem?_append_right (by rw [List.length_map]; omega), List.length_map, Nat.sub_self] at h1
          exact (Option.some.inj h1).symm
        rw [e4] at h2
        exact h2
      refine (gv_lenL (K := K) (gv_var (i := 5) rfl (.lst (.inl (.inl eEF)) dEF))).at fun vn HG sG dn => ?_
      cases dn
      rw [List.length_map]
      refine ⟨rfl, false, by rw [decide_eq_true rfl]; rfl, iteF (next_of ?_)⟩
      have pl2 : past''.length ≤ 3 * k := by rw [ep, List.length_append] at pl; simp at pl; omega
      refine hk2 _ _ ⟨M2, E2, y'.2.1, y'.2.2, past'', _, _, _, _, _, ⟨⟨(bF.deck e1 YE.iv.dk).same sG |>.less (by omega), GF.same sG, ⟨us, sG _ _ eMF, ?_⟩, ⟨ev0, sG _ _ eEF, dEF.sm sG⟩, fun d hd => YE.iv.lfe d (by rw [ep, List.map_append]; exact List.mem_append_left _ hd), fM2.1, fM2.2, fE2.1, fE2.2, ME2⟩, eds', (YE.pp.kp kF).same sG, (tabs_butO e1 bF YE.tb).ext fun b o e => sG b o e⟩, by omega, rfl⟩
      have : Paired (InAt K HF a c M2 E2) us (past''.map (·.2) ++ [y'.2]) := by rw [ep, List.map_append] at husF; exact husF
      exact paired_imp (fun _ _ => InAt.same sG) this
    · have YD := YC.same sD
      clear YC sD eE dE
      refine gs_if (gvt_test (K := K) (gv_eqI (gv_var (i := 8) rfl (.int w)) gv_int)) (fun hc1 HE sE => ?_) (fun hc1 HE sE => ?_)
      · have YE := YD.same sE
        clear YD sE
        obtain ⟨bs, eM, hbs⟩ := YE.iv.sl
        obtain ⟨us, v0, ebs, hus, ⟨un, vp, lq, eu, dvp, elq⟩⟩ := prSplit (show Paired (InAt K HE a c M E) bs (past.map (·.2) ++ [(pan, st)]) from hbs)
        have eM' : HE M = some (.lst (us.map V.ref ++ [.ref v0])) := by rw [eM, ebs, List.map_append]; rfl
        refine ⟨.ref a, rfl, .ref M, rfl, 1, rfl, M, _, _, .ref v0, rfl, rfl, .inl (.inl eM'), at_last, a, c, v0, 4800 - 200 * k - 101, pan, st, rfl, YE.iv.dk.less (by omega), un.1, un.2.1, ⟨vp, lq, eu, dvp, elq⟩, gd.1, gd.2.1, fun HF R B L evs2 bs2 ds pan' st' xs last bF DF eR nB nL nR eB dB eL hbs2 hE dl l0 l1 BL => ?_⟩
        refine ⟨R, _, rfl, .inl (.inl eR), rfl, .ref B, [.ref L, .int last], rfl, .ref L, [.int last], rfl, .int last, [], rfl, rfl, ?_⟩
        have YF := YE.but bF DF
        have bsl : bs2.length = ds.length := by
          have := hbs2.length
          rw [List.length_drop, List.length_append, List.length_map] at this
          have xl := hE.len
          simp at this
          omega
        have el : evs2.length = ds.length := dB.length
        obtain ⟨mk, hmk, mle⟩ : ∃ mk : Nat, (if (decide (0 < last) && decide (last ≤ (ds.length : Nat))) = true then last else (ds.length : Nat)) = (mk : Int) ∧ mk ≤ ds.length := by
          split
          · rename_i hc
            simp only [Bool.and_eq_true, decide_eq_true_eq] at hc
            exact ⟨last.toNat, by omega, by omega⟩
          · exact ⟨ds.length, rfl, Nat.le_refl _⟩
        refine gs_set1 (K := K) ((gv_if (gvt_test (gv_chain (g := fun i j => decide (i < j)) (g' := fun i j => decide (i ≤ j)) (gv_int (i := 0)) (gv_var (i := 11) rfl (.int last)) (gv_lenL (gv_var (i := 9) rfl (.lst (.inl (.inl eB)) dB))))) (fun _ => gv_var (i := 11) rfl (.int last)) (fun _ => gv_lenL (gv_var (i := 9) rfl (.lst (.inl (.inl eB)) dB)))).to (e := .int (mk : Int)) (by rw [← hmk]; split <;> rfl)) fun vm HG sG dm => ?_
        cases dm
        have YG := YF.same sG
        obtain ⟨evs, eE, dE⟩ := YG.iv.ed
        obtain ⟨bsG, eMG, hbsG⟩ := YG.iv.sl
        have eBG := sG _ _ eB
        have eLG := sG _ _ eL
        have dBG := dB.sm sG
        have evl : evs.length = past.length := by rw [dE.length, List.length_map]
        have bsGl : bsG.length = past.length + 1 := by rw [hbsG.length, List.length_append, List.length_map]; rfl
        refine ⟨.ref E, rfl, .ref B, rfl, .int (mk : Int), rfl, (mk : Int), rfl, B, evs2, rfl, .inl (.inl eBG), fun P1 nP1 => ?_⟩
        rw [cut_to _ _ (by omega)]
        have s1 := same_new (o := .lst (evs2.take mk)) nP1
        refine ⟨E, P1, _, _, rfl, rfl, s1 _ _ eE, upd_same, ?_, fun E2 nE2 => ?_⟩
        · rw [List.length_take, evl, el]; exact Nat.le_of_lt (small5 (by omega))
        have s2 := same_new (o := .lst (evs ++ evs2.take mk)) nE2
        refine ⟨.ref M, rfl, .ref L, rfl, .int (mk : Int), rfl, (mk : Int), rfl, L, _, rfl, .inl (.inl (s2 _ _ (s1 _ _ eLG))), fun P2 nP2 => ?_⟩
        rw [cut_to _ _ (by rw [List.length_map]; omega)]
        have s3 := same_new (o := .lst ((bs2.map V.ref).take mk)) nP2
        refine ⟨M, P2, _, _, rfl, rfl, s3 _ _ (s2 _ _ (s1 _ _ eMG)), upd_same, ?_, fun M2 nM2 => ⟨_, _, rfl, ?_⟩⟩
        · rw [List.length_take, List.length_map, List.length_map, bsGl, bsl]; exact Nat.le_of_lt (small5 (by omega))
        have s4 := same_new (o := .lst (bsG.map V.ref ++ (bs2.map V.ref).take mk)) nM2
        have s14 := ((s1.trans s2).trans s3).trans s4
        have YH := YG.same s14
        have fE2 := (YG.iv.dk.same s1).fresh nE2
        have fM2 := (YG.iv.dk.same ((s1.trans s2).trans s3)).fresh nM2
        have eE2 := s4 _ _ (s3 _ _ (upd_same (a := E2) (H := upd HG P1 (.lst (evs2.take mk))) (o := .lst (evs ++ evs2.take mk))))
        have eM2 : (upd (upd (upd (upd HG P1 (.lst (evs2.take mk))) E2 (.lst (evs ++ evs2.take mk))) P2 (.lst ((bs2.map V.ref).take mk))) M2 (.lst (bsG.map V.ref ++ (bs2.map V.ref).take mk))) M2 = some (.lst (bsG.map V.ref ++ (bs2.map V.ref).take mk)) := upd_same
        have ME2 : M2 ≠ E2 := Ne.symm (ne_of_none (s3 _ _ (upd_same (a := E2) (H := upd HG P1 (.lst (evs2.take mk))) (o := .lst (evs ++ evs2.take mk)))) nM2)
        have nE20 : HG E2 = none := s1.free nE2
        have nM20 : HG M2 = none := ((s1.trans s2).trans s3).free nM2
        have hbsH : Paired (InAt K (upd (upd (upd (upd HG P1 (.lst (evs2.take mk))) E2 (.lst (evs ++ evs2.take mk))) P2 (.lst ((bs2.map V.ref).take mk))) M2 (.lst (bsG.map V.ref ++ (bs2.map V.ref).take mk))) a c M2 E2) bsG (past.map (·.2) ++ [(pan, st)]) := paired_imp (fun x y' hx => by
          obtain ⟨n, vp, l, h1, h2, h3⟩ := hx
          exact ⟨⟨n.1, n.2.1, ne_of_none h1 nM20, ne_of_none h1 nE20⟩, vp, l, s14 _ _ h1, h2.sm s14, s14 _ _ h3⟩) hbsG
        have hbs2H : Paired (InAt K (upd (upd (upd (upd HG P1 (.lst (evs2.take mk))) E2 (.lst (evs ++ evs2.take mk))) P2 (.lst ((bs2.map V.ref).take mk))) M2 (.lst (bsG.map V.ref ++ (bs2.map V.ref).take mk))) a c M2 E2) bs2 ((xs.map (·.2) ++ [(pan', st')]).drop 1) := paired_imp (fun x y' hx => by
          obtain ⟨n, vp, l, h1, h2, h3⟩ := hx
          have fx := YE.iv.dk.fresh n.1
          exact ⟨⟨fx.1, fx.2, ne_of_none (sG _ _ h1) nM20, ne_of_none (sG _ _ h1) nE20⟩, vp, l, s14 _ _ (sG _ _ h1), (h2.sm sG).sm s14, s14 _ _ (sG _ _ h3)⟩) hbs2
        have eBH := s14 _ _ eBG
        have dBH := dBG.sm s14
        have dEH := dE.sm s14
        generalize (upd (upd (upd (upd HG P1 (.lst (evs2.take mk))) E2 (.lst (evs ++ evs2.take mk))) P2 (.lst ((bs2.map V.ref).take mk))) M2 (.lst (bsG.map V.ref ++ (bs2.map V.ref).take mk))) = HH at YH eE2 eM2 hbsH hbs2H eBH dBH dEH s14 ⊢
        clear s1 s2 s3 s4 nP1 nE2 nP2 nM2 YG eE eMG hbsG eBG eLG dBG dE YF hbs2 eB dB eL eR
        have hDH := YH.iv.de
        refine ⟨.ref t, rfl, .ref B, rfl, .int last, rfl, t, B, last, pan, st, past, xs, ds, rfl, YH.tb, hDH, by omega, by omega, .lst (.inl (.inl eBH)) dBH, .inl ⟨pan', st', hE, fun H1 HI kk pk sk eN bI TI hdn DI => ?_⟩⟩
        obtain rfl : kk = mk := by have := (done_many hE hdn l0).trans hmk; omega
        refine ⟨.int (kk : Int), rfl, rfl, false, by rw [decide_eq_true rfl]; rfl, iteF (next_of ?_)⟩
        refine hDH.at fun dx fs e1 _ => ?_
        have e1' := eN _ _ e1 (by intro ps z; cases z)
        have kp1 := Kp.extN eN
        have kp2 := bI.kp e1'
        have kp : Kp HH HI := kp1.trans kp2
        have lst : ∀ {b : Addr} {xs : List V}, HH b = some (.lst xs) → HI b = some (.lst xs) := fun {b xs} e => bI _ _ (ne_of e e1 (by intro z; cases z)) (eN _ _ e (by intro ps z; cases z))
        have fst2 : (xs.take kk).map (·.1) = ds.take kk := eds_fst hdn.at_
        have kle := hdn.le
        have hl2 : lfAll ds = true := eds_lf hE
        have hl3 : lfAll (ds.take kk) = true := lfAll_of fun d hd => lfAll_mem hl2 (List.mem_of_mem_take hd)
        have up : ∀ (x : Addr) (y : List (List Int) × List Int), InAt K HH a c M2 E2 x y → InAt K HI a c M2 E2 x y := fun x y hx => hx.kp kp fun vs q => lst q
        refine hk2 _ _ ⟨M2, E2, pk, sk, past ++ xs.take kk, _, _, _, _, _, ⟨⟨(bI.deck e1' (deck_extN eN YH.iv.dk)).less (by omega), DI, ⟨bsG ++ bs2.take kk, ?_, ?_⟩, ⟨evs ++ evs2.take kk, lst eE2, ?_⟩, fun d hd => ?_, fM2.1, fM2.2, fE2.1, fE2.2, ME2⟩, ?_, YH.pp.kp kp, TI⟩, ?_, rfl⟩
        · rw [List.map_append, List.map_take]; exact lst eM2
        · have h := prApp (paired_imp up hbsH) (paired_take kk (paired_imp up hbs2H))
          rw [List.append_assoc, eds_join hE kle hdn.at_] at h
          rw [List.map_append, List.append_assoc]
          exact h
        · rw [List.map_append, fst2]
          exact DpAll.append (dpAll_kp kp _ _ hlf dEH) (dpAll_kp kp _ _ hl3 (dpAll_takeN kk dBH))
        · rw [List.map_append, fst2] at hd
          rcases List.mem_append.mp hd with h | h
          · exact YH.iv.lfe d h
          · exact eds_shw hE gd.1 d (List.mem_of_mem_take h)
        · rw [List.map_append, fst2]
          exact eds_app ee hdn.at_
        · rw [List.length_append, List.length_take, hE.len]; omega
      · have YE := YD.same sE
        clear YD sE
        refine gs_if (gvt_test (K := K) (gv_eqI (gv_var (i := 8) rfl (.int w)) gv_int)) (fun hc2 HF sF => ?_) (fun hc2 HF sF => ?_)
        · have YF := YE.same sF
          clear YE sF
          have pos := hg0.pos
          refine ⟨.ref t, rfl, (gl_lst (K := K) (gva_cons (gv_tup (gva_cons gv_str (gva_cons (gv_sub (gv_var (i := 3) rfl (.int (pan0.length : Int))) gv_int) gva_nil))) (gva_cons (gv_tup (gva_cons gv_str (gva_cons gv_int (gva_cons gv_int gva_nil)))) gva_nil))).at fun B ws HG sG eB dB => ?_⟩
          have YG := YF.same sG
          refine ⟨t, B, 0, pan, st, past, [(.tuple [.str "press", .int ((pan0.length : Int) - 1)], pan, st)], _, rfl, YG.tb, YG.iv.de, (by show past.length + 2 ≤ 60; omega), (by show 2 ≤ 20; decide), .lst (.inl (.inl eB)) dB, .inr ⟨[.tuple [.str "press", .int ((pan0.length : Int) - 1)]], 0, rfl, rfl, pan, pressM pan st ((pan0.length : Int) - 1), .cons (.press (by omega) (by rw [gd.2.2]; omega)) .nil, by omega, by rw [gd.2.2]; omega, fun H1 HI R eN bI TI eR DI => ?_⟩⟩
          refine (gv_lst (K := K) (gva_cons gv_str (gva_cons gv_int gva_nil))).at fun vy HJ sJ dy => ?_
          refine ⟨.list [.str "rejected", .int 1], .list [.str "rejected", .int 1], .lst (.inl (.inl (sJ _ _ eR))) (.cons (.str _) (.cons (.int _) .nil)), dy, by decide +kernel, by decide +kernel, false, by decide +kernel, iteF (next_of ?_)⟩
          exact hk2 _ _ ⟨M, E, pan, st, past, _, _, _, _, _, ((YG.exdo eN bI TI DI).same sJ).less (by omega), by omega, rfl⟩
        · have YF := YE.same sF
          clear YE sF
          obtain ⟨evs, eE, dE⟩ := YF.iv.ed
          obtain ⟨bs, eM, hbs⟩ := YF.iv.sl
          obtain ⟨us, v0, ebs, hus, ⟨un, vp, lq, eu, dvp, elq⟩⟩ := prSplit (show Paired (InAt K HF a c M E) bs (past.map (·.2) ++ [(pan, st)]) from hbs)
          have eM' : HF M = some (.lst (us.map V.ref ++ [.ref v0])) := by rw [eM, ebs, List.map_append]; rfl
          refine ⟨.ref E, rfl, .inl ⟨rfl, _, .inl (.inl eE)⟩, .ref a, rfl, .ref M, rfl, 1, rfl, M, _, _, .ref v0, rfl, rfl, .inl (.inl eM'), at_last, a, c, v0, 4800 - 200 * k - 11, pan, st, _, rfl, YF.iv.dk.less (by omega), un.1, un.2.1, eu, .cons dvp (.cons (dp_ints (.inl (.inl elq))) .nil), gd.1, fun HG v d p1 f bG DG dv hE => ?_⟩
          have YG := YF.but bG DG
          have eEG := bG _ _ ne.2.2.1 ne.2.2.2.1 eE
          have dEG := dpAll_kp (Kp.but YF.iv.dk bG) _ _ hlf dE
          have evl : evs.length ≤ 80 := by rw [dE.length, List.length_map]; omega
          refine ⟨E, _, v, rfl, rfl, eEG, Nat.lt_of_le_of_lt evl (by decide), ?_⟩
          have kE : Kp HG (upd HG E (.lst (evs ++ [v]))) := Kp.upd eEG
          have IH := YG.iv.setE (evs' := evs ++ [v]) (es' := past.map (·.1) ++ [d]) eEG (fun H' k => DpAll.append (dpAll_kp k _ _ hlf dEG) (.cons (dv.kp k hE.lf) .nil)) (fun x hx => by
            rcases List.mem_append.mp hx with h | h
            · exact YG.iv.lfe x h
            · rw [List.mem_singleton.mp h]; exact ⟨hE.lf, hE.shw gd.1⟩)
          have ppH := YG.pp.kp kE
          have TH := tabs_upd (o' := .lst (evs ++ [v])) eEG YG.tb
          have dvH := dv.kp kE hE.lf
          have eEH : upd HG E (.lst (evs ++ [v])) E = some (.lst (evs ++ [v])) := upd_same
          generalize upd HG E (.lst (evs ++ [v])) = HH at IH ppH TH dvH eEH ⊢
          clear YG YF eEG dEG kE eM hbs hus eu dvp elq
          obtain ⟨bs2, eM2, hbs2⟩ := IH.sl
          obtain ⟨us2, u2, ebs2, hus2, ⟨un2, vp2, lq2, eu2, dvp2, elq2⟩⟩ := prSplit (show Paired (InAt K HH a c M E) bs2 (past.map (·.2) ++ [(pan, st)]) from hbs2)
          have eM2' : HH M = some (.lst (us2.map V.ref ++ [.ref u2])) := by rw [eM2, ebs2, List.map_append]; rfl
          refine ⟨.ref M, rfl, .inl ⟨rfl, _, .inl (.inl eM2)⟩, .ref M, rfl, 1, rfl, M, _, _, .ref u2, rfl, rfl, .inl (.inl eM2'), at_last, .ref E, rfl, 1, rfl, E, _, _, v, rfl, rfl, .inl (.inl eEH), at_last, u2, lq2, vp2, v, pan, p1, st, d, f, rfl, eu2, dvp2, elq2, dvH, gd.1, gd.2.1, hE, fun HI B' vq lq' sI nB' eB' dq elq' => ?_⟩
          have II := IH.same sI
          have eMI := sI _ _ eM2
          have bl2 : bs2.length ≤ 80 := by rw [hbs2.length, List.length_append, List.length_map]; show past.length + 1 ≤ 80; omega
          refine ⟨M, _, .ref B', rfl, rfl, eMI, Nat.lt_of_le_of_lt (show (bs2.map V.ref).length ≤ 80 by rw [List.length_map]; exact bl2) (by decide), ?_⟩
          have fB' := IH.dk.fresh nB'
          have B'M : B' ≠ M := Ne.symm (ne_of_none eM2 nB')
          have B'E : B' ≠ E := Ne.symm (ne_of_none eEH nB')
          have IJ := II.setS (bs' := bs2 ++ [B']) (ys' := (past.map (·.2) ++ [(pan, st)]) ++ [(p1, f st)]) eMI (prApp (paired_imp (fun _ _ => InAt.same sI) hbs2) (.cons ⟨⟨fB'.1, fB'.2, B'M, B'E⟩, vq, lq', eB', dq, elq'⟩ .nil))
          rw [List.map_append] at IJ
          have kM : Kp HI (upd HI M (.lst (bs2.map V.ref ++ [V.ref B']))) := Kp.upd eMI
          have ppJ := (ppH.same sI).kp kM
          have TJ := tabs_upd (o' := .lst (bs2.map V.ref ++ [V.ref B'])) eMI (TH.ext fun b o e => sI b o e)
          have dvJ := (dvH.sm sI).kp kM hE.lf
          have IJ' : IV K C (upd HI M (.lst (bs2.map V.ref ++ [V.ref B']))) a c t M E (4800 - 200 * k - 11) pan st past ((past.map (·.2) ++ [(pan, st)]) ++ [(p1, f st)]) (past.map (·.1) ++ [d]) := IJ
          generalize upd HI M (.lst (bs2.map V.ref ++ [V.ref B'])) = HJ at IJ' ppJ TJ dvJ ⊢
          clear IJ II IH eMI eM2 eM2' hbs2 hus2 eu2 dvp2 elq2 dq elq' eB' ppH TH dvH eEH kM
          obtain ⟨evs3, eE3, dE3⟩ := IJ'.ed
          have e3l : evs3.length = past.length + 1 := by rw [dE3.length, List.length_append, List.length_map]; rfl
          obtain ⟨ev0, v3, hev⟩ : ∃ l x, evs3 = l ++ [x] := ⟨_, _, (List.dropLast_concat_getLast (by intro z; rw [z] at e3l; simp at e3l)).symm⟩
          have dv3 : Dp K HJ v3 d := by
            obtain ⟨v', hv', dv'⟩ := dE3.get past.length d (by rw [List.getElem?_append_right (by rw [List.length_map]; omega), List.length_map, Nat.sub_self]; rfl)
            have l0 : ev0.length = past.length := by rw [hev, List.length_append] at e3l; simpa using e3l
            rw [hev, List.getElem?_append_right (by omega), l0, Nat.sub_self] at hv'
            cases hv'
            exact dv'
          have eE3' : HJ E = some (.lst (ev0 ++ [v3])) := by rw [eE3, hev]
          refine ⟨.ref t, rfl, .ref E, rfl, 1, rfl, E, _, _, v3, rfl, rfl, .inl (.inl eE3'), at_last, t, pan, p1, st, past, v3, d, f, rfl, IJ'.de, by omega, dv3, hE, fun HK bK GK => ?_⟩
          have IK := IJ'.do bK GK
          obtain ⟨dx, fs, e1⟩ : ∃ dx fs, HJ t = some (.ins C dx fs) := IJ'.de.at fun dx fs e _ => ⟨dx, fs, e⟩
          obtain ⟨evs4, eE4, dE4⟩ := IK.ed
          refine (gv_lenL (K := K) (gv_var (i := 5) rfl (.lst (.inl (.inl eE4)) dE4))).at fun vn HL sL dn => ?_
          cases dn
          rw [List.length_append, List.length_map]
          refine ⟨rfl, false, by show (V.bl !decide (V.int ((past.length + 1 : Nat) : Int) = V.int ((past.length + 1 : Nat) : Int))) = V.bl false; rw [decide_eq_true rfl]; rfl, iteF (next_of ?_)⟩
          refine hk2 _ _ ⟨M, E, p1, f st, past ++ [(d, pan, st)], _, _, _, _, _, ⟨?_, ?_, (ppJ.kp (bK.kp e1)).same sL, (tabs_butO e1 bK TJ).ext fun b o e => sL b o e⟩, by rw [List.length_append]; show past.length + 1 ≤ _; omega, rfl⟩
          · rw [List.map_append, List.map_append]
            exact (IK.same sL).less (by omega)
          · rw [List.map_append]; exact ee.snoc hE
end
end K54
namespace Pr
open PySem PySem.Spec PyProof.Rows L2
end Pr
namespace Pr
open PySem PySem.Spec PyProof.Rows L2 LamX
/-- nothing is tracked but the script and empty tables -/
def OnlyT (ts : List Addr) (H : Hp) : Prop := ∀ b, H b = none ∨ (b ∈ ts ∧ H b = some (.tbl #[])) ∨ ∃ o xs, H b = some (.frz o (.lst xs))
abbrev tab0 : Obj := { cls := .none, data := .fields #[] }
theorem lawGT {P : Program} {w : World} {K : PySem.W.Frag} {mg mb : Str → Option Value} {k : Nat} {fa a : Addr} {fd : FuncData} {x : Str} {sp : Sp} {s1 : Shared} {vs : List Value} {ns : List Int} {cs : List (Addr × Addr)}
    (kin : K.In s1.heap) (nsg : s1.heap.Ns mainGlobals mg) (nsb : s1.heap.Ns builtinsNs mb) (bb : ∀ y : Str, y ≠ "__name__" → mb y = bootBuiltins y) (lim : s1.heap.NoLimit) (g0 : s1.gens = #[])
    (hT : ∀ p ∈ cs, s1.heap.get? p.2 = some tab0) (nT : ∀ p ∈ cs, K.lookup p.2 = none) (C : ∀ p ∈ cs, PySem.W.CodeHd s1.heap p.1 p.2)
    (hbm : ∃ (bm : Addr) (ob : Obj), mg "__builtins__" = some (.ref bm) ∧ bm ≠ builtinsNs ∧ s1.heap.get? bm = some ob ∧ ob.cls = .type "module" ∧ ob.dict = some builtinsNs ∧ ob.data = .plain)
    (la : s1.heap.get? a = some { cls := .type "list", data := .seq vs.toArray }) (hints : IntsAre vs ns) (few : ns.length ≤ sizeLine) (rm : Room k callerA)
    (F : ∀ base : Heap, K.In base → base.Ns mainGlobals mg → (∀ p ∈ cs, TabB base mg p.1 p.2) → FnG P w K mg base k fa fd [x] sp) (bd : ∀ (s : Shared) (u : Value), BindsTo s fd ⟨[u], []⟩ [(x, u)])
    (wish : ∀ H : Hp, (∀ p ∈ cs, H p.2 = some (.tbl #[])) → SqL K H a (ns.map V.int) → sp [.ref a] H (fun v _ => v = .bl true) E0) :
    codeAny (model P w) callerA (.call (.ref fa) ⟨[.ref a], []⟩) (fun r s' => r = .ok (.ret (.bool true)) ∧ OldK s1.heap s'.heap ∧ s'.os = s1.os ∧ AllBare s'.gens) s1 := by
  have rv := vals_ints hints
  have lv := hints.length
  have tabOf : ∀ b, b ∈ cs.map (·.2) → s1.heap.get? b = some tab0 := fun b hb => by
    obtain ⟨p, hp, rfl⟩ := List.mem_map.mp hb
    exact hT p hp
  have inTs : ∀ p ∈ cs, p.2 ∈ cs.map (·.2) := fun p hp => List.mem_map.mpr ⟨p, hp, rfl⟩
  have aNot : a ∉ cs.map (·.2) := fun z => by
    have e := tabOf a z
    rw [la] at e
    exact nomatch (show Data.seq vs.toArray 0 = Data.fields #[] from congrArg Obj.data (Option.some.inj e))
  have main : ∀ H : Hp, (∀ p ∈ cs, H p.2 = some (.tbl #[])) → OnlyT (cs.map (·.2)) H → SqL K H a (ns.map V.int) → HOk P w H s1.heap → (∀ b, H b ≠ none → b = a ∨ b ∈ cs.map (·.2)) → (H a ≠ none → K.lookup a = none) →
      codeAny (model P w) callerA (.call (.ref fa) ⟨[.ref a], []⟩) (fun r s' => r = .ok (.ret (.bool true)) ∧ OldK s1.heap s'.heap ∧ s'.os = s1.os ∧ AllBare s'.gens) s1 := by
    intro H hTab hO hS hok hA hK
    -- what is neither a list nor an empty table is not tracked
    have free : ∀ {b : Addr} {o : Obj}, s1.heap.get? b = some o → (∀ us n, o.data ≠ .seq us n) → o.data ≠ .fields #[] → H b = none := fun {b o} e n1 n2 => by
      cases q : H b with
      | none => rfl
      | some u =>
        rcases hA b (by rw [q]; simp) with rfl | z
        · rw [la] at e; cases e
          exact absurd rfl (n1 _ _)
        · rw [tabOf b z] at e; cases e
          exact absurd rfl n2
    have dictFree : ∀ {b : Addr} {o : Obj} {es : Array DictEntry} {ep : Nat}, s1.heap.get? b = some o → o.data = .dict es ep → H b = none := fun {b o es ep} e d =>
      free e (fun us n z => nomatch d.symm.trans z) fun z => nomatch d.symm.trans z
    have nsH : ∀ {b : Addr} {m : Str → Option Value}, s1.heap.Ns b m → (hidT s1.heap H).Ns b m := fun {b m} ⟨o, es, ep, e, d, r⟩ => ⟨o, es, ep, hidT_get e (dictFree e d), d, r⟩
    have kinH : K.In (hidT s1.heap H) := fun b o e => hidT_get (kin b o e) (by
      cases q : H b with
      | none => rfl
      | some u =>
        rcases hA b (by rw [q]; simp) with rfl | z
        · rw [hK (by rw [q]; simp)] at e; cases e
        · obtain ⟨p, hp, rfl⟩ := List.mem_map.mp z
          rw [nT p hp] at e; cases e)
    have md : Mod K mg (hidT s1.heap H) := ⟨kinH, nsH nsg, ⟨mb, nsH nsb, bb⟩, let ⟨mc, h1, h2⟩ := lim; ⟨mc, nsH h1, h2⟩⟩
    have tb : ∀ p ∈ cs, TabB (hidT s1.heap H) mg p.1 p.2 := fun p hp => by
      have e2 := hT p hp
      constructor
      · obtain ⟨o, us, fl, t1, fg, t2, b1, tx, t3, g1, r1, r2, r3, r⟩ := C p hp
        have go : H p.1 = none := free g1 (fun us n z => nomatch r2.symm.trans z) fun z => by
          have := Data.fields.inj (r2.symm.trans z)
          rw [this] at r3
          simp at r3
        exact ⟨o, us, fl, t1, fg, t2, b1, tx, t3, hidT_get g1 go, r1, r2, r3, r⟩
      · obtain ⟨bm, ob, b1, b2, b3, b4, b5, b6⟩ := hbm
        refine ⟨bm, ob, b1, b2, fun z => ?_, fun z => ?_, hidT_get b3 (free b3 (fun us n y => nomatch b6.symm.trans y) fun y => nomatch b6.symm.trans y), b4, b5, b6⟩
        · obtain ⟨o, es, ep, e, d, _⟩ := nsg
          rw [← z, b3] at e; cases e
          exact nomatch b6.symm.trans d
        · rw [← z, b3] at e2; cases e2
          exact nomatch b6
      · intro z
        obtain ⟨o, es, ep, e, d, _⟩ := nsg
        rw [z, e2] at e; cases e
        exact nomatch d
    have e0 : Env0 P w K mg (hidT s1.heap H) callerA [] s1 H :=
      ⟨rfl, md, fun b o e => of_hidT e, Nat.le_of_eq (hidT_size _ _), trivial, fun b hb => absurd (show b ∈ ([] : List Addr) from hb) (by simp), hok, .of_eq g0⟩
    refine codeAny_mono ((F _ kinH (nsH nsg) tb).go callerA [] s1 H ⟨[.ref a], []⟩ [.ref a] [.ref a] _ _ rfl rm e0 (bd s1 (.ref a)) (.cons rfl .nil) (wish H hTab hS)) fun r s' h => ?_
    cases r with
    | error e => exact h.elim
    | ok fl =>
      cases fl with
      | next => exact h.elim
      | brk => exact h.elim
      | cont => exact h.elim
      | ret u =>
        obtain ⟨v, H', os, bare, un, hok', r', q⟩ := h
        obtain rfl : v = .bl true := q
        obtain rfl : u = Value.bool true := r'
        have stay : ∀ b o, b ∉ cs.map (·.2) → s1.heap.get? b = some o → s'.heap.get? b = some o := fun b o nb e => by
          rcases hO b with z | ⟨z, _⟩ | ⟨ob, xs, z⟩
          · exact un.keep b o e z (fun y => absurd (show b ∈ ([] : List Addr) from y) (by simp)) (by simp)
          · exact absurd z nb
          · have e1 := (hok b _ z).1
            rw [e] at e1; cases e1
            exact (hok' b _ (un.frzs b o _ z)).1
        have grow : ∀ p ∈ cs, ∃ more : Array Value, s'.heap.get? p.2 = some { cls := .none, data := .fields more } := fun p hp => by
          obtain ⟨more, z⟩ := un.tbls p.2 #[] (hTab p hp)
          exact ⟨_, hok' p.2 _ z⟩
        refine ⟨rfl, ⟨fun b o e => ?_, fun b o e => ?_⟩, os, bare⟩
        · by_cases hb : b ∈ cs.map (·.2)
          · obtain ⟨p, hp, rfl⟩ := List.mem_map.mp hb
            obtain ⟨more, hm⟩ := grow p hp
            have e2 := hT p hp
            rw [e2] at e; cases e
            exact .inr (.inl ⟨((C p hp).tab e2).isCodeTable, rfl, #[], more, rfl, by rw [Array.empty_append]; exact hm⟩)
          · exact .inl (stay b o hb e)
        · by_cases hb : b ∈ cs.map (·.2)
          · obtain ⟨p, hp, rfl⟩ := List.mem_map.mp hb
            obtain ⟨more, hm⟩ := grow p hp
            exact ⟨_, hm⟩
          · exact ⟨o, stay b o hb e⟩
  cases hk : K.lookup a with
  | some o =>
    have e := kin a o hk
    rw [la] at e
    cases e
    refine main (fun b => if b ∈ cs.map (·.2) then some (.tbl #[]) else none) (fun p hp => if_pos (inTs p hp)) (fun b => ?_) (.inr ⟨_, vs.toArray, _, hk, rfl, rfl, rfl, by rw [List.size_toArray, lv]; exact few, by simpa using rv⟩) (fun b u z => ?_) (fun b z => ?_) fun z => absurd (if_neg aNot) z
    · by_cases hb : b ∈ cs.map (·.2)
      · exact .inr (.inl ⟨hb, if_pos hb⟩)
      · exact .inl (if_neg hb)
    · by_cases hb : b ∈ cs.map (·.2)
      · cases (if_pos hb).symm.trans z
        exact tabOf b hb
      · cases (if_neg hb).symm.trans z
    · by_cases hb : b ∈ cs.map (·.2)
      · exact .inr hb
      · exact absurd (if_neg hb) z
  | none =>
    refine main (upd (fun b => if b ∈ cs.map (·.2) then some (.tbl #[]) else none) a (.frz { cls := .type "list", data := .seq vs.toArray } (.lst (ns.map V.int)))) (fun p hp => ?_) (fun b => ?_) (.inl (.inr ⟨_, upd_same⟩)) (fun b u z => ?_) (fun b z => ?_) fun _ => hk
    · rw [upd_ne (fun z : p.2 = a => aNot (by rw [← z]; exact inTs p hp))]; exact if_pos (inTs p hp)
    · by_cases hb : b = a
      · subst hb; exact .inr (.inr ⟨_, _, upd_same⟩)
      · rw [upd_ne hb]
        by_cases hb2 : b ∈ cs.map (·.2)
        · exact .inr (.inl ⟨hb2, if_pos hb2⟩)
        · exact .inl (if_neg hb2)
    · by_cases hb : b = a
      · subst hb
        rw [upd_same] at z
        cases z
        exact ⟨la, by rw [List.length_map]; exact few, vs, _, rv, la⟩
      · rw [upd_ne hb] at z
        by_cases hb2 : b ∈ cs.map (·.2)
        · cases (if_pos hb2).symm.trans z
          exact tabOf b hb2
        · cases (if_neg hb2).symm.trans z
    · by_cases hb : b = a
      · exact .inl hb
      · rw [upd_ne hb] at z
        by_cases hb2 : b ∈ cs.map (·.2)
        · exact .inr hb2
        · exact absurd (if_neg hb2) z
theorem walkGT {l : PySem.W.OpenLaw} {n k : Nat} {q : Program} {loose : List Str} {XP : (Str → Option Value) → Heap → Prop} {YP : World → Heap → Prop} {d : DefRec} {sp : PySem.W.Frag → Sp} {x : Str}
    (hn : l.most = some n) (hn2 : n ≤ sizeLine) (hdf : d.params.defaults = []) (hr : Room k callerA)
    (F : ∀ (w : World) (mg : Str → Option Value) (fa : Addr) (h : Heap), YP w h → h.Ns mainGlobals mg → mg d.name = some (.ref fa) →
      ∃ (K : PySem.W.Frag) (cs : List (Addr × Addr)), K.In h ∧ (∀ p ∈ cs, h.get? p.2 = some tab0) ∧ (∀ p ∈ cs, K.lookup p.2 = none) ∧ (∀ p ∈ cs, PySem.W.CodeHd h p.1 p.2) ∧
        (∀ (H : Hp) (a : Addr) (ns : List Int), ns.length ≤ n → (∀ p ∈ cs, H p.2 = some (.tbl #[])) → SqL K H a (ns.map V.int) → sp K [.ref a] H (fun v _ => v = .bl true) E0) ∧
        ∃ fd : FuncData, (∀ (s : Shared) (u : Value), BindsTo s fd ⟨[u], []⟩ [(x, u)]) ∧ ∀ base : Heap, K.In base → base.Ns mainGlobals mg → (∀ p ∈ cs, TabB base mg p.1 p.2) → FnG l.prog w K mg base k fa fd [x] (sp K)) :
    PySem.W.WalkO q loose XP YP l.row.toRowW d [] (fun f vs => PySem.call f vs) := by
  refine Att.attach_callB hn hdf fun w s0 s1 mg mb fa o pm cd doc a vs ns G Y ho hd hcd hmg hobj hints hlen hbits hg => ?_
  obtain ⟨K, cs, KX, hT, nT, C, hsp, fd, hb, hF⟩ := F w mg fa _ Y G.T.g hmg
  exact lawGT KX G.T.g G.T.b G.T.builtins G.T.nolimit hg hT nT C G.T.bmain hobj hints (Nat.le_trans hlen hn2) hr hF hb fun H hH hS => hsp H a ns hlen hH hS
end Pr
namespace Pr
open PySem PySem.Spec PyProof.Rows L2
theorem skb_one {K : PySem.W.Frag} {x qual : Str} {st : Stmt} {cc c f : Addr} {kws : List (Str × V)} {fd : FuncData} {ps : List Str} (F : SFunD K x qual st cc c kws f fd) (n : Nat) (kw : Str) (hk : kws ≠ [])
    (h : ∀ (D : Addr) (doc pm : Value) (an : Option Addr) (ct : Value) (us : List Value) (v : Value), us.length = n → bindArgs (PySem.W.fnX x qual (defArgs st) (defBody st) (defScope st) [("__class__", cc)] .none (.ref D) doc pm an (.ref c) ct) ⟨us, [(kw, v)]⟩ = pure (ps.zip (us ++ [v]))) :
    KBn K fd ps n [kw] (fun us ws => us ++ ws) (fun vs zs => vs ++ zs) := by
  obtain ⟨oc, od, kV, doc, pm, an, ct, osl, rfl, lk, hcd, hK⟩ := F.ex
  rcases hK with e | ⟨D, rfl, hq⟩
  · exact absurd e hk
  · refine ⟨fun s us ws X l1 l2 => ?_, fun r1 r2 => r1.append r2⟩
    match ws, l2 with
    | [v], _ => exact .of_eq (h D doc pm an ct us v l1)
end Pr
namespace K54
open PySem PySem.Spec PyProof.Rows L2 Pr LamX
theorem all_mk {l : PySem.W.OpenLaw} {w : World} {K : PySem.W.Frag} {h : Heap} {mg : Str → Option Value} {fa f1 f2 f3 f4 f5 f6 f7 f8 f9 f10 f11 f12 f13 f14 f15 f16 f17 f18 f19 f20 f21 f22 f23 f24 f25 f26 f27 f28 f29 f30 f31 f32 f33 f34 f35 : Addr} (X : K.In h) (G : h.Ns mainGlobals mg) (hfa : mg "law" = some (.ref fa))
    {C CU CV CR CD CGu CP CN CS CC CL CB CT dV : Addr} {tkD tv1 tv2 tv3 : Tok} {fShow ccShow cdShow : Addr} {ocShow kVShow dcShow pmShow ctShow : Value} {odShow anShow : Option Addr} {slShow : Array (Option Value)} {occShow ocdShow : Value} {odcShow oddShow : Option Addr} {slcShow sldShow : Array (Option Value)} {vsShow : Array Value} {fileShow : Str} {tfShow : Tok} {fFree : Addr} {ocFree kVFree dcFree pmFree cdFree ctFree : Value} {odFree anFree : Option Addr} {slFree : Array (Option Value)} {fRoom : Addr} {ocRoom kVRoom dcRoom pmRoom cdRoom ctRoom : Value} {odRoom anRoom : Option Addr} {slRoom : Array (Option Value)} {fLink0 : Addr} {ocLink0 kVLink0 dcLink0 pmLink0 cdLink0 ctLink0 : Value} {odLink0 anLink0 : Option Addr} {slLink0 : Array (Option Value)} {fAdd : Addr} {ocAdd kVAdd dcAdd pmAdd cdAdd ctAdd : Value} {odAdd anAdd : Option Addr} {slAdd : Array (Option Value)} {fChg : Addr} {ocChg kVChg dcChg pmChg cdChg ctChg : Value} {odChg anChg : Option Addr} {slChg : Array (Option Value)} {fPressD : Addr} {ocPressD kVPressD dcPressD pmPressD cdPressD ctPressD : Value} {odPressD anPressD : Option Addr} {slPressD : Array (Option Value)} {fLink : Addr} {ocLink kVLink dcLink pmLink cdLink ctLink : Value} {odLink anLink : Option Addr} {slLink : Array (Option Value)} {fUnlink : Addr} {ocUnlink kVUnlink dcUnlink pmUnlink cdUnlink ctUnlink : Value} {odUnlink anUnlink : Option Addr} {slUnlink : Array (Option Value)} {fUndo : Addr} {ocUndo kVUndo dcUndo pmUndo cdUndo ctUndo : Value} {odUndo anUndo : Option Addr} {slUndo : Array (Option Value)} {fState : Addr} {ocState dcState pmState cdState ctState : Value} {odState anState : Option Addr} {slState : Array (Option Value)} {aKState : Addr} {fEdits : Addr} {ocEdits kVEdits dcEdits pmEdits cdEdits ctEdits : Value} {odEdits anEdits : Option Addr} {slEdits : Array (Option Value)} {fDoEdit : Addr} {ocDoEdit kVDoEdit dcDoEdit pmDoEdit cdDoEdit ctDoEdit : Value} {odDoEdit anDoEdit : Option Addr} {slDoEdit : Array (Option Value)} {fAccBy : Addr} {ocAccBy kVAccBy dcAccBy pmAccBy cdAccBy ctAccBy : Value} {odAccBy anAccBy : Option Addr} {slAccBy : Array (Option Value)} {fDoBatch : Addr} {ocDoBatch kVDoBatch dcDoBatch pmDoBatch cdDoBatch ctDoBatch : Value} {odDoBatch anDoBatch : Option Addr} {slDoBatch : Array (Option Value)} {fLenD : Addr} {ocLenD kVLenD dcLenD pmLenD cdLenD ctLenD : Value} {odLenD anLenD : Option Addr} {slLenD : Array (Option Value)} {fStrD : Addr} {ocStrD kVStrD dcStrD pmStrD cdStrD ctStrD : Value} {odStrD anStrD : Option Addr} {slStrD : Array (Option Value)} {fNoteG : Addr} {ocNoteG kVNoteG dcNoteG pmNoteG cdNoteG ctNoteG : Value} {odNoteG anNoteG : Option Addr} {slNoteG : Array (Option Value)} {fShowB : Addr} {ocShowB kVShowB dcShowB pmShowB cdShowB ctShowB : Value} {odShowB anShowB : Option Addr} {slShowB : Array (Option Value)} {fAttempt : Addr} {ocAttempt dcAttempt pmAttempt cdAttempt ctAttempt : Value} {odAttempt anAttempt : Option Addr} {slAttempt : Array (Option Value)} {aKAttempt : Addr} {fAtt ccAtt cdAtt aKAtt : Addr} {ocAtt dcAtt pmAtt ctAtt occAtt ocdAtt : Value} {odAtt anAtt odcAtt oddAtt : Option Addr} {slAtt slcAtt sldAtt : Array (Option Value)} {vsAtt : Array Value} {fileAtt : Str} {tfAtt : Tok} {fInitG : Addr} {ocInitG kVInitG dcInitG pmInitG cdInitG ctInitG : Value} {odInitG anInitG : Option Addr} {slInitG : Array (Option Value)} {fInitD : Addr} {ocInitD kVInitD dcInitD pmInitD cdInitD ctInitD : Value} {odInitD anInitD : Option Addr} {slInitD : Array (Option Value)} {fInitU : Addr} {ocInitU kVInitU dcInitU pmInitU cdInitU ctInitU : Value} {odInitU anInitU : Option Addr} {slInitU : Array (Option Value)} {nmV qqV : Str} {NnV : Addr} {bsV : List Value} {snV : List Str} {subV : List Value} {abV : Bool} {colV : Option Bool} {ddV : Option Addr} {q0V q1V q2V q3V q5V : Option Value} {fIV : Addr} {ocIV kVIV dcIV pmIV cdIV ctIV : Value} {odIV anIV : Option Addr} {slIV : Array (Option Value)} {nmN qqN : Str} {NnN : Addr} {bsN : List Value} {snN : List Str} {subN : List Value} {abN : Bool} {colN : Option Bool} {ddN : Option Addr} {q0N q1N q2N q3N q5N : Option Value} {fIN : Addr} {ocIN kVIN dcIN pmIN cdIN ctIN : Value} {odIN anIN : Option Addr} {slIN : Array (Option Value)} {nmS qqS : Str} {NnS : Addr} {bsS : List Value} {snS : List Str} {subS : List Value} {abS : Bool} {colS : Option Bool} {ddS : Option Addr} {q0S q1S q2S q3S q5S : Option Value} {fIS : Addr} {ocIS kVIS dcIS pmIS cdIS ctIS : Value} {odIS anIS : Option Addr} {slIS : Array (Option Value)} {nmR qqR : Str} {NnR : Addr} {bsR : List Value} {snR : List Str} {subR : List Value} {abR : Bool} {colR : Option Bool} {ddR : Option Addr} {q0R q1R q2R q3R q5R : Option Value} {fIR : Addr} {ocIR kVIR dcIR pmIR cdIR ctIR : Value} {odIR anIR : Option Addr} {slIR : Array (Option Value)}  {cA pA : Addr} {odcA : Option Addr} {vsA : Array Value} {slcA : Array (Option Value)} {flA : Str} {tfA tgA ttA : Tok} {fgA txA : Int} {inA : Bool}
    {od1 an1 od2 an2 od3 an3 od4 an4 od5 an5 od6 an6 od7 an7 od8 an8 od9 an9 od10 an10 od11 an11 od12 an12 od13 an13 od14 an14 od15 an15 od16 an16 od17 an17 od18 an18 od19 an19 od20 an20 od21 an21 od22 an22 od23 an23 od24 an24 od25 an25 od26 an26 od27 an27 od28 an28 od29 an29 od30 an30 od31 an31 od32 an32 od33 an33 od34 an34 od35 an35 : Option Addr} {sl1 sl2 sl3 sl4 sl5 sl6 sl7 sl8 sl9 sl10 sl11 sl12 sl13 sl14 sl15 sl16 sl17 sl18 sl19 sl20 sl21 sl22 sl23 sl24 sl25 sl26 sl27 sl28 sl29 sl30 sl31 sl32 sl33 sl34 sl35 : Array (Option Value)} {oc1 kV1 dc1 pm1 cd1 ct1 oc2 kV2 dc2 pm2 cd2 ct2 oc3 kV3 dc3 pm3 cd3 ct3 oc4 kV4 dc4 pm4 cd4 ct4 oc5 kV5 dc5 pm5 cd5 ct5 oc6 kV6 dc6 pm6 cd6 ct6 oc7 kV7 dc7 pm7 cd7 ct7 oc8 kV8 dc8 pm8 cd8 ct8 oc9 kV9 dc9 pm9 cd9 ct9 oc10 kV10 dc10 pm10 cd10 ct10 oc11 kV11 dc11 pm11 cd11 ct11 oc12 kV12 dc12 pm12 cd12 ct12 oc13 kV13 dc13 pm13 cd13 ct13 oc14 kV14 dc14 pm14 cd14 ct14 oc15 kV15 dc15 pm15 cd15 ct15 oc16 kV16 dc16 pm16 cd16 ct16 oc17 kV17 dc17 pm17 cd17 ct17 oc18 kV18 dc18 pm18 cd18 ct18 oc19 kV19 dc19 pm19 cd19 ct19 oc20 kV20 dc20 pm20 cd20 ct20 oc21 kV21 dc21 pm21 cd21 ct21 oc22 kV22 dc22 pm22 cd22 ct22 oc23 kV23 dc23 pm23 cd23 ct23 oc24 kV24 dc24 pm24 cd24 ct24 oc25 kV25 dc25 pm25 cd25 ct25 oc26 kV26 dc26 pm26 cd26 ct26 oc27 kV27 dc27 pm27 cd27 ct27 oc28 kV28 dc28 pm28 cd28 ct28 oc29 kV29 dc29 pm29 cd29 ct29 oc30 kV30 dc30 pm30 cd30 ct30 oc31 kV31 dc31 pm31 cd31 ct31 oc32 kV32 dc32 pm32 cd32 ct32 oc33 kV33 dc33 pm33 ct33 oc34 kV34 dc34 pm34 cd34 ct34 oc35 kV35 dc35 pm35 cd35 ct35 : Value}
    (a1 : PySem.W.nsIn K mainGlobals "with_list" = some (some (.ref f1))) (l1 : K.lookup f1 = some ⟨oc1, od1, .func (PySem.W.fnOf "with_list" "with_list" (defArgs sWl) (defBody sWl) (defScope sWl) .none kV1 dc1 pm1 an1 cd1 ct1), sl1⟩) (c1 : PySem.W.codeIn K cd1 "with_list" = true) (k1 : PySem.W.keepIn K (.ref f1) = true)
    (a2 : PySem.W.nsIn K mainGlobals "linked" = some (some (.ref f2))) (l2 : K.lookup f2 = some ⟨oc2, od2, .func (PySem.W.fnOf "linked" "linked" (defArgs sLi) (defBody sLi) (defScope sLi) .none kV2 dc2 pm2 an2 cd2 ct2), sl2⟩) (c2 : PySem.W.codeIn K cd2 "linked" = true) (k2 : PySem.W.keepIn K (.ref f2) = true)
    (a3 : PySem.W.nsIn K mainGlobals "unlinked" = some (some (.ref f3))) (l3 : K.lookup f3 = some ⟨oc3, od3, .func (PySem.W.fnOf "unlinked" "unlinked" (defArgs sUn) (defBody sUn) (defScope sUn) .none kV3 dc3 pm3 an3 cd3 ct3), sl3⟩) (c3 : PySem.W.codeIn K cd3 "unlinked" = true) (k3 : PySem.W.keepIn K (.ref f3) = true)
    (a4 : PySem.W.nsIn K mainGlobals "no_effect" = some (some (.ref f4))) (l4 : K.lookup f4 = some ⟨oc4, od4, .func (PySem.W.fnOf "no_effect" "no_effect" (defArgs sNo) (defBody sNo) (defScope sNo) .none kV4 dc4 pm4 an4 cd4 ct4), sl4⟩) (c4 : PySem.W.codeIn K cd4 "no_effect" = true) (k4 : PySem.W.keepIn K (.ref f4) = true)
    (a5 : PySem.W.nsIn K mainGlobals "press_effect" = some (some (.ref f5))) (l5 : K.lookup f5 = some ⟨oc5, od5, .func (PySem.W.fnOf "press_effect" "press_effect" (defArgs sPressE) (defBody sPressE) (defScope sPressE) .none kV5 dc5 pm5 an5 cd5 ct5), sl5⟩) (c5 : PySem.W.codeIn K cd5 "press_effect" = true) (k5 : PySem.W.keepIn K (.ref f5) = true)
    (a6 : PySem.W.nsIn K mainGlobals "joined_effect" = some (some (.ref f6))) (l6 : K.lookup f6 = some ⟨oc6, od6, .func (PySem.W.fnOf "joined_effect" "joined_effect" (defArgs sJoin) (defBody sJoin) (defScope sJoin) .none kV6 dc6 pm6 an6 cd6 ct6), sl6⟩) (c6 : PySem.W.codeIn K cd6 "joined_effect" = true) (k6 : PySem.W.keepIn K (.ref f6) = true)
    (a7 : PySem.W.nsIn K mainGlobals "effect_with_press" = some (some (.ref f7))) (l7 : K.lookup f7 = some ⟨oc7, od7, .func (PySem.W.fnOf "effect_with_press" "effect_with_press" (defArgs sWith) (defBody sWith) (defScope sWith) .none kV7 dc7 pm7 an7 cd7 ct7), sl7⟩) (c7 : PySem.W.codeIn K cd7 "effect_with_press" = true) (k7 : PySem.W.keepIn K (.ref f7) = true)
    (a8 : PySem.W.nsIn K mainGlobals "is_button" = some (some (.ref f8))) (l8 : K.lookup f8 = some ⟨oc8, od8, .func (PySem.W.fnOf "is_button" "is_button" (defArgs sBtn) (defBody sBtn) (defScope sBtn) .none kV8 dc8 pm8 an8 cd8 ct8), sl8⟩) (c8 : PySem.W.codeIn K cd8 "is_button" = true) (k8 : PySem.W.keepIn K (.ref f8) = true)
    (a9 : PySem.W.nsIn K mainGlobals "is_button_tuple" = some (some (.ref f9))) (l9 : K.lookup f9 = some ⟨oc9, od9, .func (PySem.W.fnOf "is_button_tuple" "is_button_tuple" (defArgs sBtnT) (defBody sBtnT) (defScope sBtnT) .none kV9 dc9 pm9 an9 cd9 ct9), sl9⟩) (c9 : PySem.W.codeIn K cd9 "is_button_tuple" = true) (k9 : PySem.W.keepIn K (.ref f9) = true)
    (a10 : PySem.W.nsIn K mainGlobals "panel_error" = some (some (.ref f10))) (l10 : K.lookup f10 = some ⟨oc10, od10, .func (PySem.W.fnOf "panel_error" "panel_error" (defArgs sPErr) (defBody sPErr) (defScope sPErr) .none kV10 dc10 pm10 an10 cd10 ct10), sl10⟩) (c10 : PySem.W.codeIn K cd10 "panel_error" = true) (k10 : PySem.W.keepIn K (.ref f10) = true)
    (a11 : PySem.W.nsIn K mainGlobals "press_button" = some (some (.ref f11))) (l11 : K.lookup f11 = some ⟨oc11, od11, .func (PySem.W.fnOf "press_button" "press_button" (defArgs sPress) (defBody sPress) (defScope sPress) .none kV11 dc11 pm11 an11 cd11 ct11), sl11⟩) (c11 : PySem.W.codeIn K cd11 "press_button" = true) (k11 : PySem.W.keepIn K (.ref f11) = true)
    (a12 : PySem.W.nsIn K mainGlobals "releases_any" = some (some (.ref f12))) (l12 : K.lookup f12 = some ⟨oc12, od12, .func (PySem.W.fnOf "releases_any" "releases_any" (defArgs sAny) (defBody sAny) (defScope sAny) .none kV12 dc12 pm12 an12 cd12 ct12), sl12⟩) (c12 : PySem.W.codeIn K cd12 "releases_any" = true) (k12 : PySem.W.keepIn K (.ref f12) = true)
    (a13 : PySem.W.nsIn K mainGlobals "held_buttons" = some (some (.ref f13))) (l13 : K.lookup f13 = some ⟨oc13, od13, .func (PySem.W.fnOf "held_buttons" "held_buttons" (defArgs sHeld) (defBody sHeld) (defScope sHeld) .none kV13 dc13 pm13 an13 cd13 ct13), sl13⟩) (c13 : PySem.W.codeIn K cd13 "held_buttons" = true) (k13 : PySem.W.keepIn K (.ref f13) = true)
    (a14 : PySem.W.nsIn K mainGlobals "check_panel" = some (some (.ref f14))) (l14 : K.lookup f14 = some ⟨oc14, od14, .func (PySem.W.fnOf "check_panel" "check_panel" (defArgs sChkP) (defBody sChkP) (defScope sChkP) .none kV14 dc14 pm14 an14 cd14 ct14), sl14⟩) (c14 : PySem.W.codeIn K cd14 "check_panel" = true) (k14 : PySem.W.keepIn K (.ref f14) = true)
    (a15 : PySem.W.nsIn K mainGlobals "check_state" = some (some (.ref f15))) (l15 : K.lookup f15 = some ⟨oc15, od15, .func (PySem.W.fnOf "check_state" "check_state" (defArgs sChkS) (defBody sChkS) (defScope sChkS) .none kV15 dc15 pm15 an15 cd15 ct15), sl15⟩) (c15 : PySem.W.codeIn K cd15 "check_state" = true) (k15 : PySem.W.keepIn K (.ref f15) = true)
    (a16 : PySem.W.nsIn K mainGlobals "check_button" = some (some (.ref f16))) (l16 : K.lookup f16 = some ⟨oc16, od16, .func (PySem.W.fnOf "check_button" "check_button" (defArgs sChkB) (defBody sChkB) (defScope sChkB) .none kV16 dc16 pm16 an16 cd16 ct16), sl16⟩) (c16 : PySem.W.codeIn K cd16 "check_button" = true) (k16 : PySem.W.keepIn K (.ref f16) = true)
    (a17 : PySem.W.nsIn K mainGlobals "is_version" = some (some (.ref f17))) (l17 : K.lookup f17 = some ⟨oc17, od17, .func (PySem.W.fnOf "is_version" "is_version" (defArgs sIsV) (defBody sIsV) (defScope sIsV) .none kV17 dc17 pm17 an17 cd17 ct17), sl17⟩) (c17 : PySem.W.codeIn K cd17 "is_version" = true) (k17 : PySem.W.keepIn K (.ref f17) = true)
    (a18 : PySem.W.nsIn K mainGlobals "is_edit" = some (some (.ref f18))) (l18 : K.lookup f18 = some ⟨oc18, od18, .func (PySem.W.fnOf "is_edit" "is_edit" (defArgs sIsE) (defBody sIsE) (defScope sIsE) .none kV18 dc18 pm18 an18 cd18 ct18), sl18⟩) (c18 : PySem.W.codeIn K cd18 "is_edit" = true) (k18 : PySem.W.keepIn K (.ref f18) = true)
    (a19 : PySem.W.nsIn K mainGlobals "copied_batch" = some (some (.ref f19))) (l19 : K.lookup f19 = some ⟨oc19, od19, .func (PySem.W.fnOf "copied_batch" "copied_batch" (defArgs sCopy) (defBody sCopy) (defScope sCopy) .none kV19 dc19 pm19 an19 cd19 ct19), sl19⟩) (c19 : PySem.W.codeIn K cd19 "copied_batch" = true) (k19 : PySem.W.keepIn K (.ref f19) = true)
    (a20 : PySem.W.nsIn K mainGlobals "known_after" = some (some (.ref f20))) (l20 : K.lookup f20 = some ⟨oc20, od20, .func (PySem.W.fnOf "known_after" "known_after" (defArgs sKAft) (defBody sKAft) (defScope sKAft) .none kV20 dc20 pm20 an20 cd20 ct20), sl20⟩) (c20 : PySem.W.codeIn K cd20 "known_after" = true) (k20 : PySem.W.keepIn K (.ref f20) = true)
    (a21 : PySem.W.nsIn K mainGlobals "_law_deck" = some (some (.ref f21))) (l21 : K.lookup f21 = some ⟨oc21, od21, .func (PySem.W.fnOf "_law_deck" "_law_deck" (defArgs sDeck) (defBody sDeck) (defScope sDeck) .none kV21 dc21 pm21 an21 cd21 ct21), sl21⟩) (c21 : PySem.W.codeIn K cd21 "_law_deck" = true) (k21 : PySem.W.keepIn K (.ref f21) = true)
    (a22 : PySem.W.nsIn K mainGlobals "_law_draw" = some (some (.ref f22))) (l22 : K.lookup f22 = some ⟨oc22, od22, .func (PySem.W.fnOf "_law_draw" "_law_draw" (defArgs sDraw) (defBody sDraw) (defScope sDraw) .none kV22 dc22 pm22 an22 cd22 ct22), sl22⟩) (c22 : PySem.W.codeIn K cd22 "_law_draw" = true) (k22 : PySem.W.keepIn K (.ref f22) = true)
    (a23 : PySem.W.nsIn K mainGlobals "_law_panel" = some (some (.ref f23))) (l23 : K.lookup f23 = some ⟨oc23, od23, .func (PySem.W.fnOf "_law_panel" "_law_panel" (defArgs sPanel) (defBody sPanel) (defScope sPanel) .none kV23 dc23 pm23 an23 cd23 ct23), sl23⟩) (c23 : PySem.W.codeIn K cd23 "_law_panel" = true) (k23 : PySem.W.keepIn K (.ref f23) = true)
    (a24 : PySem.W.nsIn K mainGlobals "_law_state" = some (some (.ref f24))) (l24 : K.lookup f24 = some ⟨oc24, od24, .func (PySem.W.fnOf "_law_state" "_law_state" (defArgs sState0) (defBody sState0) (defScope sState0) .none kV24 dc24 pm24 an24 cd24 ct24), sl24⟩) (c24 : PySem.W.codeIn K cd24 "_law_state" = true) (k24 : PySem.W.keepIn K (.ref f24) = true)
    (a25 : PySem.W.nsIn K mainGlobals "_law_pressed" = some (some (.ref f25))) (l25 : K.lookup f25 = some ⟨oc25, od25, .func (PySem.W.fnOf "_law_pressed" "_law_pressed" (defArgs sPressed) (defBody sPressed) (defScope sPressed) .none kV25 dc25 pm25 an25 cd25 ct25), sl25⟩) (c25 : PySem.W.codeIn K cd25 "_law_pressed" = true) (k25 : PySem.W.keepIn K (.ref f25) = true)
    (a26 : PySem.W.nsIn K mainGlobals "_law_changed" = some (some (.ref f26))) (l26 : K.lookup f26 = some ⟨oc26, od26, .func (PySem.W.fnOf "_law_changed" "_law_changed" (defArgs sChanged) (defBody sChanged) (defScope sChanged) .none kV26 dc26 pm26 an26 cd26 ct26), sl26⟩) (c26 : PySem.W.codeIn K cd26 "_law_changed" = true) (k26 : PySem.W.keepIn K (.ref f26) = true)
    (a27 : PySem.W.nsIn K mainGlobals "_law_after" = some (some (.ref f27))) (l27 : K.lookup f27 = some ⟨oc27, od27, .func (PySem.W.fnOf "_law_after" "_law_after" (defArgs sAfter) (defBody sAfter) (defScope sAfter) .none kV27 dc27 pm27 an27 cd27 ct27), sl27⟩) (c27 : PySem.W.codeIn K cd27 "_law_after" = true) (k27 : PySem.W.keepIn K (.ref f27) = true)
    (a28 : PySem.W.nsIn K mainGlobals "_law_edit" = some (some (.ref f28))) (l28 : K.lookup f28 = some ⟨oc28, od28, .func (PySem.W.fnOf "_law_edit" "_law_edit" (defArgs sEdit) (defBody sEdit) (defScope sEdit) .none kV28 dc28 pm28 an28 cd28 ct28), sl28⟩) (c28 : PySem.W.codeIn K cd28 "_law_edit" = true) (k28 : PySem.W.keepIn K (.ref f28) = true)
    (a29 : PySem.W.nsIn K mainGlobals "_law_do" = some (some (.ref f29))) (l29 : K.lookup f29 = some ⟨oc29, od29, .func (PySem.W.fnOf "_law_do" "_law_do" (defArgs sDo) (defBody sDo) (defScope sDo) .none kV29 dc29 pm29 an29 cd29 ct29), sl29⟩) (c29 : PySem.W.codeIn K cd29 "_law_do" = true) (k29 : PySem.W.keepIn K (.ref f29) = true)
    (a30 : PySem.W.nsIn K mainGlobals "_law_right" = some (some (.ref f30))) (l30 : K.lookup f30 = some ⟨oc30, od30, .func (PySem.W.fnOf "_law_right" "_law_right" (defArgs sRight) (defBody sRight) (defScope sRight) .none kV30 dc30 pm30 an30 cd30 ct30), sl30⟩) (c30 : PySem.W.codeIn K cd30 "_law_right" = true) (k30 : PySem.W.keepIn K (.ref f30) = true)
    (a31 : PySem.W.nsIn K mainGlobals "_law_known" = some (some (.ref f31))) (l31 : K.lookup f31 = some ⟨oc31, od31, .func (PySem.W.fnOf "_law_known" "_law_known" (defArgs sKnown) (defBody sKnown) (defScope sKnown) .none kV31 dc31 pm31 an31 cd31 ct31), sl31⟩) (c31 : PySem.W.codeIn K cd31 "_law_known" = true) (k31 : PySem.W.keepIn K (.ref f31) = true)
    (a32 : PySem.W.nsIn K mainGlobals "_law_is_locked" = some (some (.ref f32))) (l32 : K.lookup f32 = some ⟨oc32, od32, .func (PySem.W.fnOf "_law_is_locked" "_law_is_locked" (defArgs sLocked) (defBody sLocked) (defScope sLocked) .none kV32 dc32 pm32 an32 cd32 ct32), sl32⟩) (c32 : PySem.W.codeIn K cd32 "_law_is_locked" = true) (k32 : PySem.W.keepIn K (.ref f32) = true)
    (a33 : PySem.W.nsIn K mainGlobals "_law_attempted" = some (some (.ref f33))) (l33 : K.lookup f33 = some ⟨oc33, od33, .func (PySem.W.fnOf "_law_attempted" "_law_attempted" (defArgs sAttd) (defBody sAttd) (defScope sAttd) .none kV33 dc33 pm33 an33 (.ref cA) ct33), sl33⟩) (c33 : PySem.W.codeIn K (.ref cA) "_law_attempted" = true) (k33 : PySem.W.keepIn K (.ref f33) = true)
    (a34 : PySem.W.nsIn K mainGlobals "_law_batch" = some (some (.ref f34))) (l34 : K.lookup f34 = some ⟨oc34, od34, .func (PySem.W.fnOf "_law_batch" "_law_batch" (defArgs sBatch) (defBody sBatch) (defScope sBatch) .none kV34 dc34 pm34 an34 cd34 ct34), sl34⟩) (c34 : PySem.W.codeIn K cd34 "_law_batch" = true) (k34 : PySem.W.keepIn K (.ref f34) = true)
    (a35 : PySem.W.nsIn K mainGlobals "law" = some (some (.ref f35))) (l35 : K.lookup f35 = some ⟨oc35, od35, .func (PySem.W.fnOf "law" "law" (defArgs sLaw) (defBody sLaw) (defScope sLaw) .none kV35 dc35 pm35 an35 cd35 ct35), sl35⟩) (c35 : PySem.W.codeIn K cd35 "law" = true) (k35 : PySem.W.keepIn K (.ref f35) = true)
    {tk_MAX_BUTTONS tk_BATCH : Tok} (y_MAX_BUTTONS : PySem.W.nsIn K mainGlobals "MAX_BUTTONS" = some (some (.int 10 tk_MAX_BUTTONS))) (y_BATCH : PySem.W.nsIn K mainGlobals "BATCH" = some (some (.int 20 tk_BATCH)))
    (uG : PySem.W.nsIn K mainGlobals "GuessDesk" = some (some (.ref C)))
    (pgD : PySem.W.plainGet K C Str.empty = true)
    (hdD : PySem.W.hasDictIn K C = true)
    (poD : PySem.W.plainOver K C = true)
    (saD : PySem.W.findIn K (.ref C) "__setattr__" = some (some (.builtin "object.__setattr__")))
    (mkD : PySem.W.makesIn K C = true)
    (kcD : PySem.W.keepIn K (.ref C) = true)
    (nAD : PySem.W.findIn K (.ref C) "past" = some none)
    (nWD : PySem.W.findIn K (.ref C) "watched" = some none)
    (nPD : PySem.W.findIn K (.ref C) "panel" = some none)
    (nLD : PySem.W.findIn K (.ref C) "latched" = some none)
    (nHD : PySem.W.findIn K (.ref C) "held" = some none)
    (nKD : PySem.W.findIn K (.ref C) "known" = some none)
    (cM : PySem.W.findIn K (.ref C) "MOST_EDITS" = some (some (.int 60 tkD)))
    (cG : PySem.W.specialIn K (.int 60 tkD) "__get__" = some none)
    (cC : PySem.W.copiedNames.contains ("MOST_EDITS" : Str) = false)
    (uCD : PySem.W.nsIn K mainGlobals "Desk" = some (some (.ref CD)))
    (uCGu : PySem.W.nsIn K mainGlobals "Guess" = some (some (.ref CGu)))
    (wShow : PySem.W.findIn K (.ref C) "show" = some (some (.ref fShow)))
    (vfShow : PySem.W.isFn K (.ref fShow) = true)
    (lShow : K.lookup fShow = some ⟨ocShow, odShow, .func (PySem.W.fnX "show" "GuessDesk.show" (defArgs sShowG) (defBody sShowG) (defScope sShowG) [("__class__", ccShow)] .none kVShow dcShow pmShow anShow (.ref cdShow) ctShow), slShow⟩)
    (cShow : PySem.W.codeIn K (.ref cdShow) "GuessDesk.show" = true)
    (kShow : PySem.W.keepIn K (.ref fShow) = true)
    (lcShow : K.lookup ccShow = some ⟨occShow, odcShow, .cell (some (.ref C)), slcShow⟩)
    (ldShow : K.lookup cdShow = some ⟨ocdShow, oddShow, .fields vsShow, sldShow⟩)
    (vsShow : vsShow[2]? = some (.str fileShow tfShow))
    (fiShow : ((l.prog.main.file : Str) == fileShow) = true)
    (tpShow : (l.prog.main.scope.names.lookup ("super" : Str)).isSome = false)
    (zsShow : PySem.W.nsIn K mainGlobals "super" = some none)
    (icShow : PySem.W.isClsIn K C = true)
    (wFree : PySem.W.findIn K (.ref C) "check_free" = some (some (.ref fFree)))
    (vfFree : PySem.W.isFn K (.ref fFree) = true)
    (lFree : K.lookup fFree = some ⟨ocFree, odFree, .func (PySem.W.fnOf "check_free" "Desk.check_free" (defArgs sFree) (defBody sFree) (defScope sFree) .none kVFree dcFree pmFree anFree cdFree ctFree), slFree⟩)
    (cFree : PySem.W.codeIn K cdFree "Desk.check_free" = true)
    (kFree : PySem.W.keepIn K (.ref fFree) = true)
    (wRoom : PySem.W.findIn K (.ref C) "check_room" = some (some (.ref fRoom)))
    (vfRoom : PySem.W.isFn K (.ref fRoom) = true)
    (lRoom : K.lookup fRoom = some ⟨ocRoom, odRoom, .func (PySem.W.fnOf "check_room" "Desk.check_room" (defArgs sRoom) (defBody sRoom) (defScope sRoom) .none kVRoom dcRoom pmRoom anRoom cdRoom ctRoom), slRoom⟩)
    (cRoom : PySem.W.codeIn K cdRoom "Desk.check_room" = true)
    (kRoom : PySem.W.keepIn K (.ref fRoom) = true)
    (wLink0 : PySem.W.findIn K (.ref C) "check_link" = some (some (.ref fLink0)))
    (vfLink0 : PySem.W.isFn K (.ref fLink0) = true)
    (lLink0 : K.lookup fLink0 = some ⟨ocLink0, odLink0, .func (PySem.W.fnOf "check_link" "Desk.check_link" (defArgs sLink0) (defBody sLink0) (defScope sLink0) .none kVLink0 dcLink0 pmLink0 anLink0 cdLink0 ctLink0), slLink0⟩)
    (cLink0 : PySem.W.codeIn K cdLink0 "Desk.check_link" = true)
    (kLink0 : PySem.W.keepIn K (.ref fLink0) = true)
    (wAdd : PySem.W.findIn K (.ref C) "add_edit" = some (some (.ref fAdd)))
    (vfAdd : PySem.W.isFn K (.ref fAdd) = true)
    (lAdd : K.lookup fAdd = some ⟨ocAdd, odAdd, .func (PySem.W.fnOf "add_edit" "Desk.add_edit" (defArgs sAdd) (defBody sAdd) (defScope sAdd) .none kVAdd dcAdd pmAdd anAdd cdAdd ctAdd), slAdd⟩)
    (cAdd : PySem.W.codeIn K cdAdd "Desk.add_edit" = true)
    (kAdd : PySem.W.keepIn K (.ref fAdd) = true)
    (wChg : PySem.W.findIn K (.ref C) "change_panel" = some (some (.ref fChg)))
    (vfChg : PySem.W.isFn K (.ref fChg) = true)
    (lChg : K.lookup fChg = some ⟨ocChg, odChg, .func (PySem.W.fnOf "change_panel" "Desk.change_panel" (defArgs sChg) (defBody sChg) (defScope sChg) .none kVChg dcChg pmChg anChg cdChg ctChg), slChg⟩)
    (cChg : PySem.W.codeIn K cdChg "Desk.change_panel" = true)
    (kChg : PySem.W.keepIn K (.ref fChg) = true)
    (wPressD : PySem.W.findIn K (.ref C) "press" = some (some (.ref fPressD)))
    (vfPressD : PySem.W.isFn K (.ref fPressD) = true)
    (lPressD : K.lookup fPressD = some ⟨ocPressD, odPressD, .func (PySem.W.fnOf "press" "Desk.press" (defArgs sPressD) (defBody sPressD) (defScope sPressD) .none kVPressD dcPressD pmPressD anPressD cdPressD ctPressD), slPressD⟩)
    (cPressD : PySem.W.codeIn K cdPressD "Desk.press" = true)
    (kPressD : PySem.W.keepIn K (.ref fPressD) = true)
    (wLink : PySem.W.findIn K (.ref C) "link" = some (some (.ref fLink)))
    (vfLink : PySem.W.isFn K (.ref fLink) = true)
    (lLink : K.lookup fLink = some ⟨ocLink, odLink, .func (PySem.W.fnOf "link" "Desk.link" (defArgs sLink) (defBody sLink) (defScope sLink) .none kVLink dcLink pmLink anLink cdLink ctLink), slLink⟩)
    (cLink : PySem.W.codeIn K cdLink "Desk.link" = true)
    (kLink : PySem.W.keepIn K (.ref fLink) = true)
    (wUnlink : PySem.W.findIn K (.ref C) "unlink" = some (some (.ref fUnlink)))
    (vfUnlink : PySem.W.isFn K (.ref fUnlink) = true)
    (lUnlink : K.lookup fUnlink = some ⟨ocUnlink, odUnlink, .func (PySem.W.fnOf "unlink" "Desk.unlink" (defArgs sUnlink) (defBody sUnlink) (defScope sUnlink) .none kVUnlink dcUnlink pmUnlink anUnlink cdUnlink ctUnlink), slUnlink⟩)
    (cUnlink : PySem.W.codeIn K cdUnlink "Desk.unlink" = true)
    (kUnlink : PySem.W.keepIn K (.ref fUnlink) = true)
    (wUndo : PySem.W.findIn K (.ref C) "undo" = some (some (.ref fUndo)))
    (vfUndo : PySem.W.isFn K (.ref fUndo) = true)
    (lUndo : K.lookup fUndo = some ⟨ocUndo, odUndo, .func (PySem.W.fnOf "undo" "Desk.undo" (defArgs sUndo) (defBody sUndo) (defScope sUndo) .none kVUndo dcUndo pmUndo anUndo cdUndo ctUndo), slUndo⟩)
    (cUndo : PySem.W.codeIn K cdUndo "Desk.undo" = true)
    (kUndo : PySem.W.keepIn K (.ref fUndo) = true)
    (wState : PySem.W.findIn K (.ref C) "state" = some (some (.ref fState)))
    (vfState : PySem.W.isFn K (.ref fState) = true)
    (lState : K.lookup fState = some ⟨ocState, odState, .func (PySem.W.fnOf "state" "Desk.state" (defArgs sState) (defBody sState) (defScope sState) .none (.ref aKState) dcState pmState anState cdState ctState), slState⟩)
    (cState : PySem.W.codeIn K cdState "Desk.state" = true)
    (kState : PySem.W.keepIn K (.ref fState) = true)
    (eKState : PySem.W.nsIn K aKState "version" = some (some .none))
    (wEdits : PySem.W.findIn K (.ref C) "edits" = some (some (.ref fEdits)))
    (vfEdits : PySem.W.isFn K (.ref fEdits) = true)
    (lEdits : K.lookup fEdits = some ⟨ocEdits, odEdits, .func (PySem.W.fnOf "edits" "Desk.edits" (defArgs sEdits) (defBody sEdits) (defScope sEdits) .none kVEdits dcEdits pmEdits anEdits cdEdits ctEdits), slEdits⟩)
    (cEdits : PySem.W.codeIn K cdEdits "Desk.edits" = true)
    (kEdits : PySem.W.keepIn K (.ref fEdits) = true)
    (wDoEdit : PySem.W.findIn K (.ref C) "do_edit" = some (some (.ref fDoEdit)))
    (vfDoEdit : PySem.W.isFn K (.ref fDoEdit) = true)
    (lDoEdit : K.lookup fDoEdit = some ⟨ocDoEdit, odDoEdit, .func (PySem.W.fnOf "do_edit" "Desk.do_edit" (defArgs sDoEdit) (defBody sDoEdit) (defScope sDoEdit) .none kVDoEdit dcDoEdit pmDoEdit anDoEdit cdDoEdit ctDoEdit), slDoEdit⟩)
    (cDoEdit : PySem.W.codeIn K cdDoEdit "Desk.do_edit" = true)
    (kDoEdit : PySem.W.keepIn K (.ref fDoEdit) = true)
    (wAccBy : PySem.W.findIn K (.ref C) "accepted_by" = some (some (.ref fAccBy)))
    (vfAccBy : PySem.W.isFn K (.ref fAccBy) = true)
    (lAccBy : K.lookup fAccBy = some ⟨ocAccBy, odAccBy, .func (PySem.W.fnOf "accepted_by" "Desk.accepted_by" (defArgs sAccBy) (defBody sAccBy) (defScope sAccBy) .none kVAccBy dcAccBy pmAccBy anAccBy cdAccBy ctAccBy), slAccBy⟩)
    (cAccBy : PySem.W.codeIn K cdAccBy "Desk.accepted_by" = true)
    (kAccBy : PySem.W.keepIn K (.ref fAccBy) = true)
    (wDoBatch : PySem.W.findIn K (.ref C) "do_batch" = some (some (.ref fDoBatch)))
    (vfDoBatch : PySem.W.isFn K (.ref fDoBatch) = true)
    (lDoBatch : K.lookup fDoBatch = some ⟨ocDoBatch, odDoBatch, .func (PySem.W.fnOf "do_batch" "Desk.do_batch" (defArgs sDoBatch) (defBody sDoBatch) (defScope sDoBatch) .none kVDoBatch dcDoBatch pmDoBatch anDoBatch cdDoBatch ctDoBatch), slDoBatch⟩)
    (cDoBatch : PySem.W.codeIn K cdDoBatch "Desk.do_batch" = true)
    (kDoBatch : PySem.W.keepIn K (.ref fDoBatch) = true)
    (wLenD : PySem.W.findIn K (.ref C) "__len__" = some (some (.ref fLenD)))
    (vfLenD : PySem.W.isFn K (.ref fLenD) = true)
    (lLenD : K.lookup fLenD = some ⟨ocLenD, odLenD, .func (PySem.W.fnOf "__len__" "Desk.__len__" (defArgs sLenD) (defBody sLenD) (defScope sLenD) .none kVLenD dcLenD pmLenD anLenD cdLenD ctLenD), slLenD⟩)
    (cLenD : PySem.W.codeIn K cdLenD "Desk.__len__" = true)
    (kLenD : PySem.W.keepIn K (.ref fLenD) = true)
    (wStrD : PySem.W.findIn K (.ref C) "__str__" = some (some (.ref fStrD)))
    (vfStrD : PySem.W.isFn K (.ref fStrD) = true)
    (lStrD : K.lookup fStrD = some ⟨ocStrD, odStrD, .func (PySem.W.fnOf "__str__" "Desk.__str__" (defArgs sStrD) (defBody sStrD) (defScope sStrD) .none kVStrD dcStrD pmStrD anStrD cdStrD ctStrD), slStrD⟩)
    (cStrD : PySem.W.codeIn K cdStrD "Desk.__str__" = true)
    (kStrD : PySem.W.keepIn K (.ref fStrD) = true)
    (wNoteG : PySem.W.findIn K (.ref C) "note" = some (some (.ref fNoteG)))
    (vfNoteG : PySem.W.isFn K (.ref fNoteG) = true)
    (lNoteG : K.lookup fNoteG = some ⟨ocNoteG, odNoteG, .func (PySem.W.fnOf "note" "GuessDesk.note" (defArgs sNoteG) (defBody sNoteG) (defScope sNoteG) .none kVNoteG dcNoteG pmNoteG anNoteG cdNoteG ctNoteG), slNoteG⟩)
    (cNoteG : PySem.W.codeIn K cdNoteG "GuessDesk.note" = true)
    (kNoteG : PySem.W.keepIn K (.ref fNoteG) = true)
    (wShowB : PySem.W.findIn K (.ref CD) "show" = some (some (.ref fShowB)))
    (vfShowB : PySem.W.isFn K (.ref fShowB) = true)
    (lShowB : K.lookup fShowB = some ⟨ocShowB, odShowB, .func (PySem.W.fnOf "show" "Desk.show" (defArgs sShow) (defBody sShow) (defScope sShow) .none kVShowB dcShowB pmShowB anShowB cdShowB ctShowB), slShowB⟩)
    (cShowB : PySem.W.codeIn K cdShowB "Desk.show" = true)
    (kShowB : PySem.W.keepIn K (.ref fShowB) = true)
    (smB : PySem.W.mroIn K C (.ref C) = some true)
    (saB : PySem.W.ks_superIn K C C "show" = some (some (.ref fShowB)))
    (stB : PySem.W.typeIn K (.ref fShowB) = some (.type "function"))
    (sfB : PySem.W.fnIn K fShowB = true)
    (soB : PySem.W.nsIn K PySem.cStatics "thirdparty.any" = some none)
    (wAttempt : PySem.W.findIn K (.ref CD) "attempt" = some (some (.ref fAttempt)))
    (vfAttempt : PySem.W.isFn K (.ref fAttempt) = true)
    (lAttempt : K.lookup fAttempt = some ⟨ocAttempt, odAttempt, .func (PySem.W.fnOf "attempt" "Desk.attempt" (defArgs sAttempt) (defBody sAttempt) (defScope sAttempt) .none (.ref aKAttempt) dcAttempt pmAttempt anAttempt cdAttempt ctAttempt), slAttempt⟩)
    (cAttempt : PySem.W.codeIn K cdAttempt "Desk.attempt" = true)
    (kAttempt : PySem.W.keepIn K (.ref fAttempt) = true)
    (eKAttempt : PySem.W.nsIn K aKAttempt "watch" = some (some .none))
    (smA : PySem.W.mroIn K C (.ref C) = some true)
    (saA : PySem.W.ks_superIn K C C "attempt" = some (some (.ref fAttempt)))
    (stA : PySem.W.typeIn K (.ref fAttempt) = some (.type "function"))
    (sfA : PySem.W.fnIn K fAttempt = true)
    (soA : PySem.W.nsIn K PySem.cStatics "thirdparty.any" = some none)
    (wAtt : PySem.W.findIn K (.ref C) "attempt" = some (some (.ref fAtt)))
    (vfAtt : PySem.W.isFn K (.ref fAtt) = true)
    (lAtt : K.lookup fAtt = some ⟨ocAtt, odAtt, .func (PySem.W.fnX "attempt" "GuessDesk.attempt" (defArgs sAttG) (defBody sAttG) (defScope sAttG) [("__class__", ccAtt)] .none (.ref aKAtt) dcAtt pmAtt anAtt (.ref cdAtt) ctAtt), slAtt⟩)
    (cAtt : PySem.W.codeIn K (.ref cdAtt) "GuessDesk.attempt" = true)
    (kAtt : PySem.W.keepIn K (.ref fAtt) = true)
    (lcAtt : K.lookup ccAtt = some ⟨occAtt, odcAtt, .cell (some (.ref C)), slcAtt⟩)
    (ldAtt : K.lookup cdAtt = some ⟨ocdAtt, oddAtt, .fields vsAtt, sldAtt⟩)
    (vsAtt_ : vsAtt[2]? = some (.str fileAtt tfAtt))
    (fiAtt : ((l.prog.main.file : Str) == fileAtt) = true)
    (eKAtt : PySem.W.nsIn K aKAtt "watch" = some (some .none))
    (wInitG : PySem.W.findIn K (.ref C) "__init__" = some (some (.ref fInitG)))
    (vfInitG : PySem.W.isFn K (.ref fInitG) = true)
    (lInitG : K.lookup fInitG = some ⟨ocInitG, odInitG, .func (PySem.W.fnOf "__init__" "GuessDesk.__init__" (defArgs sInitG) (defBody sInitG) (defScope sInitG) .none kVInitG dcInitG pmInitG anInitG cdInitG ctInitG), slInitG⟩)
    (cInitG : PySem.W.codeIn K cdInitG "GuessDesk.__init__" = true)
    (kInitG : PySem.W.keepIn K (.ref fInitG) = true)
    (rdInitD : PySem.W.readsIn K CD (.type "type") = true)
    (gaInitD : PySem.W.specialIn K (.ref CD) "__getattribute__" = some (some (.builtin "type.__getattribute__")))
    (fcInitD : PySem.W.findCls K (.ref CD) (.type "type") "__init__" = some (.val (.ref fInitD)))
    (lInitD : K.lookup fInitD = some ⟨ocInitD, odInitD, .func (PySem.W.fnOf "__init__" "Desk.__init__" (defArgs sInitD) (defBody sInitD) (defScope sInitD) .none kVInitD dcInitD pmInitD anInitD cdInitD ctInitD), slInitD⟩)
    (cInitD : PySem.W.codeIn K cdInitD "Desk.__init__" = true)
    (kInitD : PySem.W.keepIn K (.ref fInitD) = true)
    (rdInitU : PySem.W.readsIn K CGu (.type "type") = true)
    (gaInitU : PySem.W.specialIn K (.ref CGu) "__getattribute__" = some (some (.builtin "type.__getattribute__")))
    (fcInitU : PySem.W.findCls K (.ref CGu) (.type "type") "__init__" = some (.val (.ref fInitU)))
    (lInitU : K.lookup fInitU = some ⟨ocInitU, odInitU, .func (PySem.W.fnOf "__init__" "Guess.__init__" (defArgs sInitU) (defBody sInitU) (defScope sInitU) .none kVInitU dcInitU pmInitU anInitU cdInitU ctInitU), slInitU⟩)
    (cInitU : PySem.W.codeIn K cdInitU "Guess.__init__" = true)
    (kInitU : PySem.W.keepIn K (.ref fInitU) = true)
    (oa : PySem.W.findIn K (.ref C) "__class__" = some (some (.builtin "object.__class__")))
    (on : PySem.W.specialIn K (.builtin "object.__class__") "__get__" = some (some (.builtin "getset_descriptor.__get__")))
    (ot : PySem.W.takesIn K (.builtin "object.__class__") = some true)
    (om : PySem.W.mroIn K C (.type "object") = some true)
    (kiG : PySem.W.kitOne K (.ref C) (.ref CD) = some true)
    (kiU : PySem.W.kitOne K (.ref C) (.ref CGu) = some true)
    (u_PanelError : PySem.W.nsIn K mainGlobals "PanelError" = some (some (.ref CP)))
    (u_NothingToUndo : PySem.W.nsIn K mainGlobals "NothingToUndo" = some (some (.ref CU)))
    (q_NothingToUndo : PySem.W.excIn K CU [.type "ValueError", .type "Exception", .type "BaseException", .type "object"] "ValueError.__new__" = true)
    (kp_NothingToUndo : PySem.W.keepIn K (.ref CU) = true)
    (s_NothingToUndo : PySem.W.subIn K (.ref CU) (.type "BaseException") = some true)
    (t_NothingToUndo : PySem.W.typeIn K (.ref CU) = some (.type "type"))
    (uCV : PySem.W.nsIn K mainGlobals "NoVersion" = some (some (.ref CV)))
    (xLV : K.lookup CV = some (excClassObj nmV qqV CV NnV bsV [.type "LookupError", .type "Exception", .type "BaseException", .type "object"] true snV subV abV colV ddV q0V q1V q2V q3V q5V "LookupError.__new__"))
    (saV : PySem.W.findIn K (.ref CV) "__setattr__" = some (some (.builtin "object.__setattr__")))
    (exCV : PySem.W.subIn K (.ref CV) (.type "BaseException") = some true)
    (tyCV : PySem.W.typeIn K (.ref CV) = some (.type "type"))
    (kCV : PySem.W.keepIn K (.ref CV) = true)
    (iCV : PySem.W.findIn K (.ref CV) "__init__" = some (some (.ref fIV)))
    (tIV : PySem.W.typeIn K (.ref fIV) = some (.type "function"))
    (noNV : PySem.W.findIn K (.ref CV) "value" = some none)
    (lIV : K.lookup fIV = some ⟨ocIV, odIV, .func (PySem.W.fnOf "__init__" "NoVersion.__init__" (defArgs sInitV) (defBody sInitV) (defScope sInitV) .none kVIV dcIV pmIV anIV cdIV ctIV), slIV⟩)
    (cIV : PySem.W.codeIn K cdIV "NoVersion.__init__" = true)
    (kIV : PySem.W.keepIn K (.ref fIV) = true)
    (hgV : PySem.W.findIn K (.ref CV) "__getattribute__" = some (some (.builtin "BaseException.__getattribute__")))
    (hkV : PySem.W.findIn K (.ref CV) "__getattr__" = some none)
    (hdV : PySem.W.hasDictIn K CV = true)
    (sPV : PySem.W.subIn K (.ref CV) (.ref CV) = some true)
    (uCN : PySem.W.nsIn K mainGlobals "NoButton" = some (some (.ref CN)))
    (xLN : K.lookup CN = some (excClassObj nmN qqN CN NnN bsN [.type "LookupError", .type "Exception", .type "BaseException", .type "object"] true snN subN abN colN ddN q0N q1N q2N q3N q5N "LookupError.__new__"))
    (saN : PySem.W.findIn K (.ref CN) "__setattr__" = some (some (.builtin "object.__setattr__")))
    (exCN : PySem.W.subIn K (.ref CN) (.type "BaseException") = some true)
    (tyCN : PySem.W.typeIn K (.ref CN) = some (.type "type"))
    (kCN : PySem.W.keepIn K (.ref CN) = true)
    (iCN : PySem.W.findIn K (.ref CN) "__init__" = some (some (.ref fIN)))
    (tIN : PySem.W.typeIn K (.ref fIN) = some (.type "function"))
    (noNN : PySem.W.findIn K (.ref CN) "value" = some none)
    (lIN : K.lookup fIN = some ⟨ocIN, odIN, .func (PySem.W.fnOf "__init__" "NoButton.__init__" (defArgs sInitN) (defBody sInitN) (defScope sInitN) .none kVIN dcIN pmIN anIN cdIN ctIN), slIN⟩)
    (cIN : PySem.W.codeIn K cdIN "NoButton.__init__" = true)
    (kIN : PySem.W.keepIn K (.ref fIN) = true)
    (hgN : PySem.W.findIn K (.ref CN) "__getattribute__" = some (some (.builtin "BaseException.__getattribute__")))
    (hkN : PySem.W.findIn K (.ref CN) "__getattr__" = some none)
    (hdN : PySem.W.hasDictIn K CN = true)
    (sPN : PySem.W.subIn K (.ref CN) (.ref CN) = some true)
    (uCS : PySem.W.nsIn K mainGlobals "SameButton" = some (some (.ref CS)))
    (xLS : K.lookup CS = some (excClassObj nmS qqS CS NnS bsS [.ref CP, .type "ValueError", .type "Exception", .type "BaseException", .type "object"] true snS subS abS colS ddS q0S q1S q2S q3S q5S "ValueError.__new__"))
    (saS : PySem.W.findIn K (.ref CS) "__setattr__" = some (some (.builtin "object.__setattr__")))
    (exCS : PySem.W.subIn K (.ref CS) (.type "BaseException") = some true)
    (tyCS : PySem.W.typeIn K (.ref CS) = some (.type "type"))
    (kCS : PySem.W.keepIn K (.ref CS) = true)
    (iCS : PySem.W.findIn K (.ref CS) "__init__" = some (some (.ref fIS)))
    (tIS : PySem.W.typeIn K (.ref fIS) = some (.type "function"))
    (noNS : PySem.W.findIn K (.ref CS) "value" = some none)
    (lIS : K.lookup fIS = some ⟨ocIS, odIS, .func (PySem.W.fnOf "__init__" "SameButton.__init__" (defArgs sInitS) (defBody sInitS) (defScope sInitS) .none kVIS dcIS pmIS anIS cdIS ctIS), slIS⟩)
    (cIS : PySem.W.codeIn K cdIS "SameButton.__init__" = true)
    (kIS : PySem.W.keepIn K (.ref fIS) = true)
    (hgS : PySem.W.findIn K (.ref CS) "__getattribute__" = some (some (.builtin "BaseException.__getattribute__")))
    (hkS : PySem.W.findIn K (.ref CS) "__getattr__" = some none)
    (hdS : PySem.W.hasDictIn K CS = true)
    (sPS : PySem.W.subIn K (.ref CS) (.ref CS) = some true)
    (uCR : PySem.W.nsIn K mainGlobals "Rejected" = some (some (.ref CR)))
    (xLR : K.lookup CR = some (excClassObj nmR qqR CR NnR bsR [.ref CP, .type "ValueError", .type "Exception", .type "BaseException", .type "object"] true snR subR abR colR ddR q0R q1R q2R q3R q5R "ValueError.__new__"))
    (saR : PySem.W.findIn K (.ref CR) "__setattr__" = some (some (.builtin "object.__setattr__")))
    (exCR : PySem.W.subIn K (.ref CR) (.type "BaseException") = some true)
    (tyCR : PySem.W.typeIn K (.ref CR) = some (.type "type"))
    (kCR : PySem.W.keepIn K (.ref CR) = true)
    (iCR : PySem.W.findIn K (.ref CR) "__init__" = some (some (.ref fIR)))
    (tIR : PySem.W.typeIn K (.ref fIR) = some (.type "function"))
    (noNR : PySem.W.findIn K (.ref CR) "index" = some none)
    (lIR : K.lookup fIR = some ⟨ocIR, odIR, .func (PySem.W.fnOf "__init__" "Rejected.__init__" (defArgs sInitR) (defBody sInitR) (defScope sInitR) .none kVIR dcIR pmIR anIR cdIR ctIR), slIR⟩)
    (cIR : PySem.W.codeIn K cdIR "Rejected.__init__" = true)
    (kIR : PySem.W.keepIn K (.ref fIR) = true)
    (hgR : PySem.W.findIn K (.ref CR) "__getattribute__" = some (some (.builtin "BaseException.__getattribute__")))
    (hkR : PySem.W.findIn K (.ref CR) "__getattr__" = some none)
    (hdR : PySem.W.hasDictIn K CR = true)
    (sPR : PySem.W.subIn K (.ref CR) (.ref CR) = some true)
    (u_NoChange : PySem.W.nsIn K mainGlobals "NoChange" = some (some (.ref CC)))
    (q_NoChange : PySem.W.excIn K CC [.type "ValueError", .type "Exception", .type "BaseException", .type "object"] "ValueError.__new__" = true)
    (kp_NoChange : PySem.W.keepIn K (.ref CC) = true)
    (s_NoChange : PySem.W.subIn K (.ref CC) (.type "BaseException") = some true)
    (t_NoChange : PySem.W.typeIn K (.ref CC) = some (.type "type"))
    (u_Locked : PySem.W.nsIn K mainGlobals "Locked" = some (some (.ref CL)))
    (q_Locked : PySem.W.excIn K CL [.type "ValueError", .type "Exception", .type "BaseException", .type "object"] "ValueError.__new__" = true)
    (kp_Locked : PySem.W.keepIn K (.ref CL) = true)
    (s_Locked : PySem.W.subIn K (.ref CL) (.type "BaseException") = some true)
    (t_Locked : PySem.W.typeIn K (.ref CL) = some (.type "type"))
    (hg_Locked : PySem.W.findIn K (.ref CL) "__getattribute__" = some (some (.builtin "BaseException.__getattribute__")))
    (hk_Locked : PySem.W.findIn K (.ref CL) "__getattr__" = some none)
    (hd_Locked : PySem.W.hasDictIn K CL = true)
    (ha_Locked : PySem.W.findIn K (.ref CL) "__class__" = some (some (.builtin "object.__class__")))
    (hn_Locked : PySem.W.specialIn K (.builtin "object.__class__") "__get__" = some (some (.builtin "getset_descriptor.__get__")))
    (ht_Locked : PySem.W.takesIn K (.builtin "object.__class__") = some true)
    (hm_Locked : PySem.W.mroIn K CL (.type "object") = some true)
    (xP : PySem.W.subIn K (.ref CP) (.type "BaseException") = some true)
    (dP : PySem.W.hasDictIn K CP = true)
    (tP : PySem.W.typeIn K (.ref CP) = some (.type "type"))
    (sP_Locked : PySem.W.subIn K (.ref CL) (.ref CP) = some true)
    (u_Busy : PySem.W.nsIn K mainGlobals "Busy" = some (some (.ref CB)))
    (u_TooManyEdits : PySem.W.nsIn K mainGlobals "TooManyEdits" = some (some (.ref CT)))
    (kL2 : PySem.W.kitOne K (.ref CL) (.type "ValueError") = some true)
    (kL3 : PySem.W.kitAny K (.ref CL) [.ref CB, .ref CC] = some false)
    (xS : PySem.W.exmAny K (.ref CS) [.ref CT, .ref CN, .ref CS, .ref CC] = some true)
    (uVA : PySem.W.nsIn K mainGlobals "VALUES" = some (some (.ref dV)))
    (kVA : He.dicW K dV = some (He.keysIn w.params ["press", "link", "unlink"]))
    (v1A : PySem.W.nsIn K dV "press" = some (some (.int 1 tv1)))
    (v2A : PySem.W.nsIn K dV "link" = some (some (.int 2 tv2)))
    (v3A : PySem.W.nsIn K dV "unlink" = some (some (.int 2 tv3)))
    (lCA : K.lookup cA = some ⟨.type "code", odcA, .fields vsA, slcA⟩)
    (g11A : vsA[11]? = some (.ref pA))
    (d11A : vsA.getD 11 .none = .ref pA)
    (d18A : vsA.getD 18 .none = .str flA tfA)
    (d7A : vsA.getD 7 .none = .int fgA tgA)
    (d9A : vsA.getD 9 .none = .bool inA)
    (d10A : vsA.getD 10 .none = .int txA ttA)
    (ncPA : cA ≠ pA)
    (z1 : PySem.W.nsIn K mainGlobals "ValueError" = some none) (z2 : PySem.W.nsIn K mainGlobals "abs" = some none) (z3 : PySem.W.nsIn K mainGlobals "any" = some none) (z4 : PySem.W.nsIn K mainGlobals "bool" = some none) (z5 : PySem.W.nsIn K mainGlobals "enumerate" = some none) (z6 : PySem.W.nsIn K mainGlobals "int" = some none) (z7 : PySem.W.nsIn K mainGlobals "isinstance" = some none) (z8 : PySem.W.nsIn K mainGlobals "len" = some none) (z9 : PySem.W.nsIn K mainGlobals "list" = some none) (z10 : PySem.W.nsIn K mainGlobals "min" = some none) (z11 : PySem.W.nsIn K mainGlobals "range" = some none) (z12 : PySem.W.nsIn K mainGlobals "repr" = some none) (z13 : PySem.W.nsIn K mainGlobals "sorted" = some none) (z14 : PySem.W.nsIn K mainGlobals "str" = some none) (z15 : PySem.W.nsIn K mainGlobals "tuple" = some none) (z16 : PySem.W.nsIn K mainGlobals "zip" = some none) :
    PySem.W.CodeHd h cA pA ∧ ∃ fd : FuncData, (∀ (s : Shared) (v : Value), BindsTo s fd ⟨[v], []⟩ [("_law_script", v)]) ∧ ∀ base : Heap, K.In base → base.Ns mainGlobals mg → TabB base mg cA pA → FnG l.prog w K mg base 40 fa fd ["_law_script"] (spLaw K pA) := by
  have e := hfa.symm.trans (PySem.W.mg_of X G a35)
  cases e
  have F1 := fun_mk (st := sWl) l1 c1 k1
  have F2 := fun_mk (st := sLi) l2 c2 k2
  have F3 := fun_mk (st := sUn) l3 c3 k3
  have F4 := fun_mk (st := sNo) l4 c4 k4
  have F5 := fun_mk (st := sPressE) l5 c5 k5
  have F6 := fun_mk (st := sJoin) l6 c6 k6
  have F7 := fun_mk (st := sWith) l7 c7 k7
  have F8 := fun_mk (st := sBtn) l8 c8 k8
  have F9 := fun_mk (st := sBtnT) l9 c9 k9
  have F10 := fun_mk (st := sPErr) l10 c10 k10
  have F11 := fun_mk (st := sPress) l11 c11 k11
  have F12 := fun_mk (st := sAny) l12 c12 k12
  have F13 := fun_mk (st := sHeld) l13 c13 k13
  have F14 := fun_mk (st := sChkP) l14 c14 k14
  have F15 := fun_mk (st := sChkS) l15 c15 k15
  have F16 := fun_mk (st := sChkB) l16 c16 k16
  have F17 := fun_mk (st := sIsV) l17 c17 k17
  have F18 := fun_mk (st := sIsE) l18 c18 k18
  have F19 := fun_mk (st := sCopy) l19 c19 k19
  have F20 := fun_mk (st := sKAft) l20 c20 k20
  have F21 := fun_mk (st := sDeck) l21 c21 k21
  have F22 := fun_mk (st := sDraw) l22 c22 k22
  have F23 := fun_mk (st := sPanel) l23 c23 k23
  have F24 := fun_mk (st := sState0) l24 c24 k24
  have F25 := fun_mk (st := sPressed) l25 c25 k25
  have F26 := fun_mk (st := sChanged) l26 c26 k26
  have F27 := fun_mk (st := sAfter) l27 c27 k27
  have F28 := fun_mk (st := sEdit) l28 c28 k28
  have F29 := fun_mk (st := sDo) l29 c29 k29
  have F30 := fun_mk (st := sRight) l30 c30 k30
  have F31 := fun_mk (st := sKnown) l31 c31 k31
  have F32 := fun_mk (st := sLocked) l32 c32 k32
  have F33 := fun_mk (st := sAttd) l33 c33 k33
  have F34 := fun_mk (st := sBatch) l34 c34 k34
  have F35 := fun_mk (st := sLaw) l35 c35 k35
  have b1 := F1.binds (ps := ["panel", "button", "released"]) fun _ _ _ _ _ _ us hl => match us, hl with | [_, _, _], _ => rfl
  have b2 := F2.binds (ps := ["panel", "one", "other"]) fun _ _ _ _ _ _ us hl => match us, hl with | [_, _, _], _ => rfl
  have b3 := F3.binds (ps := ["panel", "one", "other"]) fun _ _ _ _ _ _ us hl => match us, hl with | [_, _, _], _ => rfl
  have b4 := F4.binds (ps := ["panel"]) fun _ _ _ _ _ _ us hl => match us, hl with | [_], _ => rfl
  have b5 := F5.binds (ps := ["panel", "button"]) fun _ _ _ _ _ _ us hl => match us, hl with | [_, _], _ => rfl
  have b6 := F6.binds (ps := ["first", "second"]) fun _ _ _ _ _ _ us hl => match us, hl with | [_, _], _ => rfl
  have b7 := F7.binds (ps := ["panel", "effect", "button"]) fun _ _ _ _ _ _ us hl => match us, hl with | [_, _, _], _ => rfl
  have b8 := F8.binds (ps := ["value", "many"]) fun _ _ _ _ _ _ us hl => match us, hl with | [_, _], _ => rfl
  have b9 := F9.binds (ps := ["value", "many"]) fun _ _ _ _ _ _ us hl => match us, hl with | [_, _], _ => rfl
  have b10 := F10.binds (ps := ["value"]) fun _ _ _ _ _ _ us hl => match us, hl with | [_], _ => rfl
  have b11 := F11.binds (ps := ["panel", "state", "button"]) fun _ _ _ _ _ _ us hl => match us, hl with | [_, _, _], _ => rfl
  have b12 := F12.binds (ps := ["panel", "button", "others"]) fun _ _ _ _ _ _ us hl => match us, hl with | [_, _, _], _ => rfl
  have b13 := F13.binds (ps := ["panel", "state"]) fun _ _ _ _ _ _ us hl => match us, hl with | [_, _], _ => rfl
  have b14 := F14.binds (ps := ["value"]) fun _ _ _ _ _ _ us hl => match us, hl with | [_], _ => rfl
  have b15 := F15.binds (ps := ["panel", "value"]) fun _ _ _ _ _ _ us hl => match us, hl with | [_, _], _ => rfl
  have b16 := F16.binds (ps := ["panel", "value"]) fun _ _ _ _ _ _ us hl => match us, hl with | [_, _], _ => rfl
  have b17 := F17.binds (ps := ["value", "latest"]) fun _ _ _ _ _ _ us hl => match us, hl with | [_, _], _ => rfl
  have b18 := F18.binds (ps := ["value"]) fun _ _ _ _ _ _ us hl => match us, hl with | [_], _ => rfl
  have b19 := F19.binds (ps := ["value"]) fun _ _ _ _ _ _ us hl => match us, hl with | [_], _ => rfl
  have b20 := F20.binds (ps := ["panel", "past"]) fun _ _ _ _ _ _ us hl => match us, hl with | [_, _], _ => rfl
  have b21 := F21.binds (ps := ["_law_script"]) fun _ _ _ _ _ _ us hl => match us, hl with | [_], _ => rfl
  have b22 := F22.binds (ps := ["_law_deck_here", "_law_many"]) fun _ _ _ _ _ _ us hl => match us, hl with | [_, _], _ => rfl
  have b23 := F23.binds (ps := ["_law_deck_here", "_law_most"]) fun _ _ _ _ _ _ us hl => match us, hl with | [_, _], _ => rfl
  have b24 := F24.binds (ps := ["_law_deck_here", "_law_n"]) fun _ _ _ _ _ _ us hl => match us, hl with | [_, _], _ => rfl
  have b25 := F25.binds (ps := ["_law_panel_here", "_law_state_here", "_law_button"]) fun _ _ _ _ _ _ us hl => match us, hl with | [_, _, _], _ => rfl
  have b26 := F26.binds (ps := ["_law_panel_here", "_law_one", "_law_other", "_law_is_link"]) fun _ _ _ _ _ _ us hl => match us, hl with | [_, _, _, _], _ => rfl
  have b27 := F27.binds (ps := ["_law_state_here", "_law_edit_here"]) fun _ _ _ _ _ _ us hl => match us, hl with | [_, _], _ => rfl
  have b28 := F28.binds (ps := ["_law_deck_here", "_law_state_here"]) fun _ _ _ _ _ _ us hl => match us, hl with | [_, _], _ => rfl
  have b29 := F29.binds (ps := ["_law_table", "_law_edit_here"]) fun _ _ _ _ _ _ us hl => match us, hl with | [_, _], _ => rfl
  have b30 := F30.binds (ps := ["_law_table", "_law_state_here", "_law_edits"]) fun _ _ _ _ _ _ us hl => match us, hl with | [_, _, _], _ => rfl
  have b31 := F31.binds (ps := ["_law_panel_here", "_law_edits"]) fun _ _ _ _ _ _ us hl => match us, hl with | [_, _], _ => rfl
  have b32 := F32.binds (ps := ["_law_table", "_law_value"]) fun _ _ _ _ _ _ us hl => match us, hl with | [_, _], _ => rfl
  have b33 := F33.binds (ps := ["_law_table", "_law_batch_here", "_law_last"]) fun _ _ _ _ _ _ us hl => match us, hl with | [_, _, _], _ => rfl
  have b34 := F34.binds (ps := ["_law_deck_here", "_law_state_here"]) fun _ _ _ _ _ _ us hl => match us, hl with | [_, _], _ => rfl
  have FShow : SFun K "show" "GuessDesk.show" sShowG ccShow cdShow fShow _ := sfun_mk (st := sShowG) lShow cShow kShow
  have SShow : SCls l.prog K mg ccShow cdShow C := ⟨⟨_, _, _, lcShow⟩, ⟨_, _, _, _, _, _, ldShow, vsShow, fiShow⟩, Option.isSome_iff_exists.mp icShow, tpShow, PySem.W.mg_none_of X G zsShow⟩
  have T : TxtD K mg C := ⟨⟨pgD, hdD, poD, saD⟩, nAD, nWD, nPD, nLD, nHD, nKD, ⟨_, cM, ⟨tkD, rfl⟩, cG, cC⟩, PySem.W.mg_of X G uG⟩
  have FFree := fun_mk (st := sFree) lFree cFree kFree
  have bFree := FFree.binds (ps := ["self"]) fun _ _ _ _ _ _ us hl => match us, hl with | [_], _ => rfl
  have hFree : Meth K C "check_free" fFree := ⟨wFree, vfFree, kFree⟩
  have FRoom := fun_mk (st := sRoom) lRoom cRoom kRoom
  have bRoom := FRoom.binds (ps := ["self"]) fun _ _ _ _ _ _ us hl => match us, hl with | [_], _ => rfl
  have hRoom : Meth K C "check_room" fRoom := ⟨wRoom, vfRoom, kRoom⟩
  have FLink0 := fun_mk (st := sLink0) lLink0 cLink0 kLink0
  have bLink0 := FLink0.binds (ps := ["self", "one", "other"]) fun _ _ _ _ _ _ us hl => match us, hl with | [_, _, _], _ => rfl
  have hLink0 : Meth K C "check_link" fLink0 := ⟨wLink0, vfLink0, kLink0⟩
  have FLink0X := FLink0
  have bLink0X := bLink0
  have hLink0X := hLink0
  have FAdd := fun_mk (st := sAdd) lAdd cAdd kAdd
  have bAdd := FAdd.binds (ps := ["self", "edit", "panel", "latched"]) fun _ _ _ _ _ _ us hl => match us, hl with | [_, _, _, _], _ => rfl
  have hAdd : Meth K C "add_edit" fAdd := ⟨wAdd, vfAdd, kAdd⟩
  have FChg := fun_mk (st := sChg) lChg cChg kChg
  have bChg := FChg.binds (ps := ["self", "edit", "panel"]) fun _ _ _ _ _ _ us hl => match us, hl with | [_, _, _], _ => rfl
  have hChg : Meth K C "change_panel" fChg := ⟨wChg, vfChg, kChg⟩
  have FChgX := FChg
  have bChgX := bChg
  have hChgX := hChg
  have FPressD := fun_mk (st := sPressD) lPressD cPressD kPressD
  have bPressD := FPressD.binds (ps := ["self", "button"]) fun _ _ _ _ _ _ us hl => match us, hl with | [_, _], _ => rfl
  have hPressD : Meth K C "press" fPressD := ⟨wPressD, vfPressD, kPressD⟩
  have FPressX := FPressD
  have bPressX := bPressD
  have hPressX := hPressD
  have FLink := fun_mk (st := sLink) lLink cLink kLink
  have bLink := FLink.binds (ps := ["self", "one", "other"]) fun _ _ _ _ _ _ us hl => match us, hl with | [_, _, _], _ => rfl
  have hLink : Meth K C "link" fLink := ⟨wLink, vfLink, kLink⟩
  have FLinkX := FLink
  have bLinkX := bLink
  have hLinkX := hLink
  have FUnlink := fun_mk (st := sUnlink) lUnlink cUnlink kUnlink
  have bUnlink := FUnlink.binds (ps := ["self", "one", "other"]) fun _ _ _ _ _ _ us hl => match us, hl with | [_, _, _], _ => rfl
  have hUnlink : Meth K C "unlink" fUnlink := ⟨wUnlink, vfUnlink, kUnlink⟩
  have FUnlinkX := FUnlink
  have bUnlinkX := bUnlink
  have hUnlinkX := hUnlink
  have FUndo := fun_mk (st := sUndo) lUndo cUndo kUndo
  have bUndo := FUndo.binds (ps := ["self"]) fun _ _ _ _ _ _ us hl => match us, hl with | [_], _ => rfl
  have hUndo : Meth K C "undo" fUndo := ⟨wUndo, vfUndo, kUndo⟩
  have FState : FunD K "state" "Desk.state" (defArgs sState) (defBody sState) (defScope sState) [] [("version", .non)] fState _ := ⟨⟨ocState, odState, .none, .ref aKState, dcState, pmState, anState, cdState, ctState, slState, rfl, lState, cState, .inl ⟨rfl, rfl⟩, .inr ⟨aKState, rfl, fun q hq => by cases List.mem_singleton.mp hq; exact ⟨.none, eKState, rfl⟩⟩⟩, kState⟩
  obtain ⟨dsState, vState, bState⟩ := FState.binds0 (ps := ["self", "version"]) 1 (by simp) rfl fun D doc pm an cdv ct us ks hu hk => match us, hu, ks, hk with | [_], _, [_], _ => ⟨_, _, _, _, _, _, rfl, rfl, rfl⟩
  have kbState : KBn K _ ["self", "version"] 1 ["version"] (fun us ws => us ++ ws) (fun vs zs => vs ++ zs) := kb_one FState 1 "version" (by simp) fun D doc pm an cdv ct us v hu => match us, hu with | [_], _ => rfl
  have hState : Meth K C "state" fState := ⟨wState, vfState, kState⟩
  have FEdits := fun_mk (st := sEdits) lEdits cEdits kEdits
  have bEdits := FEdits.binds (ps := ["self"]) fun _ _ _ _ _ _ us hl => match us, hl with | [_], _ => rfl
  have hEdits : Meth K C "edits" fEdits := ⟨wEdits, vfEdits, kEdits⟩
  have FDoEdit := fun_mk (st := sDoEdit) lDoEdit cDoEdit kDoEdit
  have bDoEdit := FDoEdit.binds (ps := ["self", "index", "edit"]) fun _ _ _ _ _ _ us hl => match us, hl with | [_, _, _], _ => rfl
  have hDoEdit : Meth K C "do_edit" fDoEdit := ⟨wDoEdit, vfDoEdit, kDoEdit⟩
  have FDoEditX := FDoEdit
  have bDoEditX := bDoEdit
  have hDoEditX := hDoEdit
  have FAccBy := fun_mk (st := sAccBy) lAccBy cAccBy kAccBy
  have bAccBy := FAccBy.binds (ps := ["self", "watch"]) fun _ _ _ _ _ _ us hl => match us, hl with | [_, _], _ => rfl
  have hAccBy : Meth K C "accepted_by" fAccBy := ⟨wAccBy, vfAccBy, kAccBy⟩
  have FDoBatch := fun_mk (st := sDoBatch) lDoBatch cDoBatch kDoBatch
  have bDoBatch := FDoBatch.binds (ps := ["self", "batch", "watch"]) fun _ _ _ _ _ _ us hl => match us, hl with | [_, _, _], _ => rfl
  have hDoBatch : Meth K C "do_batch" fDoBatch := ⟨wDoBatch, vfDoBatch, kDoBatch⟩
  have FDoBatchX := FDoBatch
  have bDoBatchX := bDoBatch
  have hDoBatchX := hDoBatch
  have FLenD := fun_mk (st := sLenD) lLenD cLenD kLenD
  have bLenD := FLenD.binds (ps := ["self"]) fun _ _ _ _ _ _ us hl => match us, hl with | [_], _ => rfl
  have FStrD := fun_mk (st := sStrD) lStrD cStrD kStrD
  have bStrD := FStrD.binds (ps := ["self"]) fun _ _ _ _ _ _ us hl => match us, hl with | [_], _ => rfl
  have FNoteG := fun_mk (st := sNoteG) lNoteG cNoteG kNoteG
  have bNoteG := FNoteG.binds (ps := ["self", "button"]) fun _ _ _ _ _ _ us hl => match us, hl with | [_, _], _ => rfl
  have hNoteG : Meth K C "note" fNoteG := ⟨wNoteG, vfNoteG, kNoteG⟩
  have FShowB := fun_mk (st := sShow) lShowB cShowB kShowB
  have bShowB := FShowB.binds (ps := ["self", "panel", "latched"]) fun _ _ _ _ _ _ us hl => match us, hl with | [_, _, _], _ => rfl
  have SM : SMeth K C C "show" fShowB := ⟨smB, saB, stB, sfB, soB⟩
  have FAttempt : FunD K "attempt" "Desk.attempt" (defArgs sAttempt) (defBody sAttempt) (defScope sAttempt) [] [("watch", .non)] fAttempt _ := ⟨⟨ocAttempt, odAttempt, .none, .ref aKAttempt, dcAttempt, pmAttempt, anAttempt, cdAttempt, ctAttempt, slAttempt, rfl, lAttempt, cAttempt, .inl ⟨rfl, rfl⟩, .inr ⟨aKAttempt, rfl, fun q hq => by cases List.mem_singleton.mp hq; exact ⟨.none, eKAttempt, rfl⟩⟩⟩, kAttempt⟩
  obtain ⟨dsAttempt, vAttempt, bAttempt⟩ := FAttempt.binds0 (ps := ["self", "edits", "watch"]) 2 (by simp) rfl fun D doc pm an cdv ct us ks hu hk => match us, hu, ks, hk with | [_, _], _, [_], _ => ⟨_, _, _, _, _, _, rfl, rfl, rfl⟩
  have kbAttempt : KBn K _ ["self", "edits", "watch"] 2 ["watch"] (fun us ws => us ++ ws) (fun vs zs => vs ++ zs) := kb_one FAttempt 2 "watch" (by simp) fun D doc pm an cdv ct us v hu => match us, hu with | [_, _], _ => rfl
  have SMa : SMeth K C C "attempt" fAttempt := ⟨smA, saA, stA, sfA, soA⟩
  have FAtt : SFunD K "attempt" "GuessDesk.attempt" sAttG ccAtt cdAtt [("watch", .non)] fAtt _ := sfund_mk (st := sAttG) lAtt cAtt kAtt (fun q hq => by cases List.mem_singleton.mp hq; exact ⟨.none, eKAtt, rfl⟩)
  have SAtt : SCls l.prog K mg ccAtt cdAtt C := ⟨⟨_, _, _, lcAtt⟩, ⟨_, _, _, _, _, _, ldAtt, vsAtt_, fiAtt⟩, Option.isSome_iff_exists.mp icShow, tpShow, PySem.W.mg_none_of X G zsShow⟩
  have kbAtt := skb_one FAtt 2 "watch" (by simp) (ps := ["self", "edits", "watch"]) fun D doc pm an ct us v hu => match us, hu with | [_, _], _ => rfl
  have hAtt : Meth K C "attempt" fAtt := ⟨wAtt, vfAtt, kAtt⟩
  have FInitG := fun_mk (st := sInitG) lInitG cInitG kInitG
  have bInitG := FInitG.binds (ps := ["self", "panel", "state"]) fun _ _ _ _ _ _ us hl => match us, hl with | [_, _, _], _ => rfl
  have FInitD := fun_mk (st := sInitD) lInitD cInitD kInitD
  have bInitD := FInitD.binds (ps := ["self", "panel", "state"]) fun _ _ _ _ _ _ us hl => match us, hl with | [_, _, _], _ => rfl
  have FInitU := fun_mk (st := sInitU) lInitU cInitU kInitU
  have bInitU := FInitU.binds (ps := ["self", "panel"]) fun _ _ _ _ _ _ us hl => match us, hl with | [_, _], _ => rfl
  have T_NothingToUndo : Ex0 K mg "NothingToUndo" CU := ⟨q_NothingToUndo, PySem.W.mg_of X G u_NothingToUndo, kp_NothingToUndo, s_NothingToUndo, t_NothingToUndo⟩
  have FIV := fun_mk (st := sInitV) lIV cIV kIV
  have bIV := FIV.binds (ps := ["self", "value"]) fun _ _ _ _ _ _ us hl => match us, hl with | [_, _], _ => rfl
  have TV : ExL K mg "NoVersion" "value" "NoVersion.__init__" sInitV CV fIV _ := { oex := ⟨⟨nmV, qqV, NnV, bsV, snV, subV, abV, colV, ddV, q0V, q1V, q2V, q3V, q5V, xLV⟩, saV, exCV, tyCV, kCV⟩, iC := iCV, tI := tIV, noN := noNV, g := PySem.W.mg_of X G uCV, FI := FIV, bI := bIV }
  have FIN := fun_mk (st := sInitN) lIN cIN kIN
  have bIN := FIN.binds (ps := ["self", "value"]) fun _ _ _ _ _ _ us hl => match us, hl with | [_, _], _ => rfl
  have TN : ExL K mg "NoButton" "value" "NoButton.__init__" sInitN CN fIN _ := { oex := ⟨⟨nmN, qqN, NnN, bsN, snN, subN, abN, colN, ddN, q0N, q1N, q2N, q3N, q5N, xLN⟩, saN, exCN, tyCN, kCN⟩, iC := iCN, tI := tIN, noN := noNN, g := PySem.W.mg_of X G uCN, FI := FIN, bI := bIN }
  have FIS := fun_mk (st := sInitS) lIS cIS kIS
  have bIS := FIS.binds (ps := ["self", "value"]) fun _ _ _ _ _ _ us hl => match us, hl with | [_, _], _ => rfl
  have TS : ExF K mg "SameButton" "value" "SameButton.__init__" sInitS CS fIS _ := { oex := ⟨⟨nmS, qqS, NnS, bsS, _, snS, subS, abS, colS, ddS, q0S, q1S, q2S, q3S, q5S, xLS, by first | rfl | decide +kernel⟩, saS, exCS, tyCS, kCS⟩, iC := iCS, tI := tIS, noN := noNS, g := PySem.W.mg_of X G uCS, FI := FIS, bI := bIS }
  have FIR := fun_mk (st := sInitR) lIR cIR kIR
  have bIR := FIR.binds (ps := ["self", "index"]) fun _ _ _ _ _ _ us hl => match us, hl with | [_, _], _ => rfl
  have TR : ExF K mg "Rejected" "index" "Rejected.__init__" sInitR CR fIR _ := { oex := ⟨⟨nmR, qqR, NnR, bsR, _, snR, subR, abR, colR, ddR, q0R, q1R, q2R, q3R, q5R, xLR, by first | rfl | decide +kernel⟩, saR, exCR, tyCR, kCR⟩, iC := iCR, tI := tIR, noN := noNR, g := PySem.W.mg_of X G uCR, FI := FIR, bI := bIR }
  have T_NoChange : Ex0 K mg "NoChange" CC := ⟨q_NoChange, PySem.W.mg_of X G u_NoChange, kp_NoChange, s_NoChange, t_NoChange⟩
  have T_Locked : Ex0 K mg "Locked" CL := ⟨q_Locked, PySem.W.mg_of X G u_Locked, kp_Locked, s_Locked, t_Locked⟩
  have YL : LockF K mg CP CN CL CB CC := { gP := PySem.W.mg_of X G u_PanelError, gN := PySem.W.mg_of X G uCN, gL := PySem.W.mg_of X G u_Locked, gB := PySem.W.mg_of X G u_Busy, gC := PySem.W.mg_of X G u_NoChange, excL := ⟨hg_Locked, hk_Locked, s_Locked, hd_Locked, ha_Locked, hn_Locked, ht_Locked, hm_Locked⟩, mL := PySem.W.exm_ref xP dP tP sP_Locked, kL2 := kL2, kL3 := kL3 }
  have VA : KVal K w mg dV := ⟨PySem.W.mg_of X G uVA, He.dicW_ok kVA, ⟨_, v1A⟩, ⟨_, v2A⟩, ⟨_, v3A⟩⟩
  have FWl := F1
  have bWl := b1
  have gWl := PySem.W.mg_of X G a1
  have FLi := F2
  have bLi := b2
  have gLi := PySem.W.mg_of X G a2
  have FUn := F3
  have bUn := b3
  have gUn := PySem.W.mg_of X G a3
  have FNo := F4
  have bNo := b4
  have gNo := PySem.W.mg_of X G a4
  have FPressE := F5
  have bPressE := b5
  have gPressE := PySem.W.mg_of X G a5
  have FJoin := F6
  have bJoin := b6
  have gJoin := PySem.W.mg_of X G a6
  have FWith := F7
  have bWith := b7
  have gWith := PySem.W.mg_of X G a7
  have FBtn := F8
  have bBtn := b8
  have gBtn := PySem.W.mg_of X G a8
  have FBtnT := F9
  have bBtnT := b9
  have gBtnT := PySem.W.mg_of X G a9
  have FPErr := F10
  have bPErr := b10
  have gPErr := PySem.W.mg_of X G a10
  have FPress := F11
  have bPress := b11
  have gPress := PySem.W.mg_of X G a11
  have FAny := F12
  have bAny := b12
  have gAny := PySem.W.mg_of X G a12
  have FHeld := F13
  have bHeld := b13
  have gHeld := PySem.W.mg_of X G a13
  have FChkP := F14
  have bChkP := b14
  have gChkP := PySem.W.mg_of X G a14
  have FChkS := F15
  have bChkS := b15
  have gChkS := PySem.W.mg_of X G a15
  have FChkB := F16
  have bChkB := b16
  have gChkB := PySem.W.mg_of X G a16
  have FIsV := F17
  have bIsV := b17
  have gIsV := PySem.W.mg_of X G a17
  have FIsE := F18
  have bIsE := b18
  have gIsE := PySem.W.mg_of X G a18
  have FCopy := F19
  have bCopy := b19
  have gCopy := PySem.W.mg_of X G a19
  have FKAft := F20
  have bKAft := b20
  have gKAft := PySem.W.mg_of X G a20
  have FDeck := F21
  have bDeck := b21
  have gDeck := PySem.W.mg_of X G a21
  have FDraw := F22
  have bDraw := b22
  have gDraw := PySem.W.mg_of X G a22
  have FPanel := F23
  have bPanel := b23
  have gPanel := PySem.W.mg_of X G a23
  have FState0 := F24
  have bState0 := b24
  have gState0 := PySem.W.mg_of X G a24
  have FPressed := F25
  have bPressed := b25
  have gPressed := PySem.W.mg_of X G a25
  have FChanged := F26
  have bChanged := b26
  have gChanged := PySem.W.mg_of X G a26
  have FAfter := F27
  have bAfter := b27
  have gAfter := PySem.W.mg_of X G a27
  have FEdit := F28
  have bEdit := b28
  have gEdit := PySem.W.mg_of X G a28
  have FDo := F29
  have bDo := b29
  have gDo := PySem.W.mg_of X G a29
  have FRight := F30
  have bRight := b30
  have gRight := PySem.W.mg_of X G a30
  have FKnown := F31
  have bKnown := b31
  have gKnown := PySem.W.mg_of X G a31
  have FLocked := F32
  have bLocked := b32
  have gLocked := PySem.W.mg_of X G a32
  have FAttd := F33
  have bAttd := b33
  have gAttd := PySem.W.mg_of X G a33
  have FBatch := F34
  have bBatch := b34
  have gBatch := PySem.W.mg_of X G a34
  have m_ValueError := PySem.W.mg_none_of X G z1
  have m_abs := PySem.W.mg_none_of X G z2
  have m_any := PySem.W.mg_none_of X G z3
  have m_bool := PySem.W.mg_none_of X G z4
  have m_enumerate := PySem.W.mg_none_of X G z5
  have m_int := PySem.W.mg_none_of X G z6
  have m_isinstance := PySem.W.mg_none_of X G z7
  have m_len := PySem.W.mg_none_of X G z8
  have m_list := PySem.W.mg_none_of X G z9
  have m_min := PySem.W.mg_none_of X G z10
  have m_range := PySem.W.mg_none_of X G z11
  have m_repr := PySem.W.mg_none_of X G z12
  have m_sorted := PySem.W.mg_none_of X G z13
  have m_str := PySem.W.mg_none_of X G z14
  have m_tuple := PySem.W.mg_none_of X G z15
  have m_zip := PySem.W.mg_none_of X G z16
  have y_MAX := PySem.W.mg_of X G y_MAX_BUTTONS
  have yB := PySem.W.mg_of X G y_BATCH
  have bShow := FShow.binds (ps := ["self", "panel", "latched"]) fun _ _ _ _ _ us hl => match us, hl with | [_, _, _], _ => rfl
  have hShow : Meth K C "show" fShow := ⟨wShow, vfShow, kShow⟩
  refine ⟨⟨_, vsA, flA, tfA, fgA, tgA, inA, txA, ttA, X _ _ lCA, rfl, rfl, g11A, d11A, d18A, d7A, d9A, d10A, ncPA⟩, PySem.W.fnOf "law" "law" (defArgs sLaw) (defBody sLaw) (defScope sLaw) .none kV35 dc35 pm35 an35 cd35 ct35, fun s v => .of_eq rfl, fun base _ _ tbA => ?_⟩
  have GShow0 : ∀ k0 : Nat, FnOk l.prog w K mg base CX0 (k0 + 6) fShow _ ["self", "panel", "latched"] (spShow K C) := fun k0 => ok_ShowG FShow SShow SM FShowB bShowB T FNo bNo gNo FPressE bPressE gPressE FJoin bJoin gJoin FWith bWith gWith FAny bAny gAny FHeld bHeld gHeld FKAft bKAft gKAft m_any m_len m_list m_tuple m_zip
  exact ok_law F35 F1 b1 (PySem.W.mg_of X G a1) F2 b2 (PySem.W.mg_of X G a2) F3 b3 (PySem.W.mg_of X G a3) F4 b4 (PySem.W.mg_of X G a4) F5 b5 (PySem.W.mg_of X G a5) F6 b6 (PySem.W.mg_of X G a6) F7 b7 (PySem.W.mg_of X G a7) F8 b8 (PySem.W.mg_of X G a8) F9 b9 (PySem.W.mg_of X G a9) F10 b10 (PySem.W.mg_of X G a10) F11 b11 (PySem.W.mg_of X G a11) F12 b12 (PySem.W.mg_of X G a12) F13 b13 (PySem.W.mg_of X G a13) F14 b14 (PySem.W.mg_of X G a14) F15 b15 (PySem.W.mg_of X G a15) F16 b16 (PySem.W.mg_of X G a16) F17 b17 (PySem.W.mg_of X G a17) F18 b18 (PySem.W.mg_of X G a18) F19 b19 (PySem.W.mg_of X G a19) F20 b20 (PySem.W.mg_of X G a20) F21 b21 (PySem.W.mg_of X G a21) F22 b22 (PySem.W.mg_of X G a22) F23 b23 (PySem.W.mg_of X G a23) F24 b24 (PySem.W.mg_of X G a24) F25 b25 (PySem.W.mg_of X G a25) F26 b26 (PySem.W.mg_of X G a26) F27 b27 (PySem.W.mg_of X G a27) F28 b28 (PySem.W.mg_of X G a28) F29 b29 (PySem.W.mg_of X G a29) F30 b30 (PySem.W.mg_of X G a30) F31 b31 (PySem.W.mg_of X G a31) F32 b32 (PySem.W.mg_of X G a32) F33 b33 (PySem.W.mg_of X G a33) F34 b34 (PySem.W.mg_of X G a34) (PySem.W.mg_none_of X G z1) (PySem.W.mg_none_of X G z2) (PySem.W.mg_none_of X G z3) (PySem.W.mg_none_of X G z4) (PySem.W.mg_none_of X G z5) (PySem.W.mg_none_of X G z6) (PySem.W.mg_none_of X G z7) (PySem.W.mg_none_of X G z8) (PySem.W.mg_none_of X G z9) (PySem.W.mg_none_of X G z10) (PySem.W.mg_none_of X G z11) (PySem.W.mg_none_of X G z12) (PySem.W.mg_none_of X G z13) (PySem.W.mg_none_of X G z14) (PySem.W.mg_none_of X G z15) (PySem.W.mg_none_of X G z16) T ⟨fInitG, _, bInitG, ⟨mkD, wInitG, vfInitG, kcD⟩, ok_InitG FInitG T (PySem.W.mg_of X G uCD) (PySem.W.mg_of X G uCGu) ⟨⟨rdInitD, gaInitD⟩, ⟨fcInitD, rfl⟩⟩ ⟨⟨rdInitU, gaInitU⟩, ⟨fcInitU, rfl⟩⟩ FInitD bInitD FInitU bInitU GShow0 bShow hShow FNo bNo gNo FBtn bBtn gBtn FBtnT bBtnT gBtnT FPErr bPErr gPErr FChkP bChkP gChkP FChkS bChkS gChkS m_bool m_enumerate m_int m_isinstance m_len m_tuple y_MAX, fPressD, _, bPressD, hPressD, ok_PressD FPressD T FBtn bBtn gBtn FPress bPress gPress FChkB bChkB gChkB FFree bFree hFree FRoom bRoom hRoom GShow0 bShow hShow FAdd bAdd hAdd m_bool m_int m_isinstance m_len m_sorted m_tuple, fLink, _, bLink, hLink, ok_Link FLink T FWl bWl gWl FLi bLi gLi FBtn bBtn gBtn FChkB bChkB gChkB FFree bFree hFree FRoom bRoom hRoom FLink0 bLink0 hLink0 GShow0 bShow hShow FAdd bAdd hAdd FChg bChg hChg m_bool m_enumerate m_int m_isinstance m_len m_sorted m_tuple, fUnlink, _, bUnlink, hUnlink, ok_Unlink FUnlink T FWl bWl gWl FUn bUn gUn FBtn bBtn gBtn FChkB bChkB gChkB FFree bFree hFree FRoom bRoom hRoom FLink0 bLink0 hLink0 GShow0 bShow hShow FAdd bAdd hAdd FChg bChg hChg m_bool m_enumerate m_int m_isinstance m_len m_tuple, fUndo, _, bUndo, hUndo, ok_Undo FUndo T T_NothingToUndo  FFree bFree hFree GShow0 bShow hShow m_len, fState, _, dsState, vState, kbState, bState, hState, ok_State FState T TV FBtn bBtn gBtn FIsV bIsV gIsV m_bool m_int m_isinstance m_len, fEdits, _, bEdits, hEdits, ok_Edits FEdits T   m_tuple, fLenD, _, bLenD, wLenD, vfLenD, ok_LenD FLenD T   m_len, fStrD, _, bStrD, wStrD, vfStrD, ok_StrD FStrD T   m_len, fAtt, _, hAtt, kbAtt, (fun LK MW => ok_AttGX (k := 17) FAtt SAtt SMa FAttempt kbAttempt T TN TS T_NoChange TR (PySem.W.mg_of X G u_TooManyEdits) xS FWl bWl gWl FLi bLi gLi FUn bUn gUn FBtn bBtn gBtn FPress bPress gPress FChkB bChkB gChkB FIsE bIsE gIsE FCopy bCopy gCopy FFree bFree hFree FRoom bRoom hRoom GShow0 bShow hShow FAdd bAdd hAdd FPressX bPressX hPressX FLink0X bLink0X hLink0X FChgX bChgX hChgX FLinkX bLinkX hLinkX FUnlinkX bUnlinkX hUnlinkX FDoEditX bDoEditX hDoEditX FAccBy bAccBy hAccBy FDoBatchX bDoBatchX hDoBatchX m_bool m_enumerate m_int m_isinstance m_len m_list m_sorted m_str m_tuple VA yB (LK.mono (by omega)) MW), (fun F => ok_Locked (k := 11) F T YL FNoteG bNoteG hNoteG T_Locked m_isinstance m_ValueError), ⟨hgR, hkR, exCR, hdR⟩, noNR, PySem.W.mg_of X G uCR, PySem.W.exm_ref exCR hdR tyCR sPR, CD, CGu, PySem.W.mg_of X G uCD, PySem.W.mg_of X G uCGu, kiG, kiU, ⟨oa, on, ot, om⟩, ok_LenW (k := 0) FLenD T m_len⟩ rfl tbA
theorem endT {l : PySem.W.OpenLaw} {w : World} {K : PySem.W.Frag} {h : Heap} {mg : Str → Option Value} {fa : Addr} {cA pA : Addr} (KX : K.In h) (TA : h.get? pA = some tab0) (NA : K.lookup pA = none) (A : PySem.W.CodeHd h cA pA ∧ ∃ fd : FuncData, (∀ (s : Shared) (v : Value), BindsTo s fd ⟨[v], []⟩ [("_law_script", v)]) ∧ ∀ base : Heap, K.In base → base.Ns mainGlobals mg → TabB base mg cA pA → FnG l.prog w K mg base 40 fa fd ["_law_script"] (spLaw K pA)) :
    ∃ (K : PySem.W.Frag) (cs : List (Addr × Addr)), K.In h ∧ (∀ p ∈ cs, h.get? p.2 = some tab0) ∧ (∀ p ∈ cs, K.lookup p.2 = none) ∧ (∀ p ∈ cs, PySem.W.CodeHd h p.1 p.2) ∧
      (∀ (H : Hp) (a : Addr) (ns : List Int), ns.length ≤ 63 → (∀ p ∈ cs, H p.2 = some (.tbl #[])) → SqL K H a (ns.map V.int) → spLaw K pA [.ref a] H (fun v _ => v = .bl true) E0) ∧
      ∃ fd : FuncData, (∀ (s : Shared) (u : Value), BindsTo s fd ⟨[u], []⟩ [("_law_script", u)]) ∧ ∀ base : Heap, K.In base → base.Ns mainGlobals mg → (∀ p ∈ cs, TabB base mg p.1 p.2) → FnG l.prog w K mg base 40 fa fd ["_law_script"] (spLaw K pA) := by
  obtain ⟨CA, fd, bd, F⟩ := A
  refine ⟨K, [(cA, pA)], KX, ?_, ?_, ?_, fun H a ns hl hT hS => ?_, fd, bd, fun base k1 k2 hB => F base k1 k2 (hB (cA, pA) (List.mem_cons_self))⟩
  · exact fun p hp => by
      simp only [List.mem_cons, List.not_mem_nil, or_false] at hp
      subst hp
      · exact TA
  · exact fun p hp => by
      simp only [List.mem_cons, List.not_mem_nil, or_false] at hp
      subst hp
      · exact NA
  · exact fun p hp => by
      simp only [List.mem_cons, List.not_mem_nil, or_false] at hp
      subst hp
      · exact CA
  · exact ⟨a, ns, rfl, hS, hl, fun p hp => by
      simp only [List.mem_cons, List.not_mem_nil, or_false] at hp
      subst hp
      exact TabS.nil (hT (cA, pA) List.mem_cons_self), fun _ => rfl⟩
end K54
open PySem PySem.W PyProof.Rows
theorem PySem.Challenge.cw_pressrelease_k54_whole_guess_desks_holds : PySem.Challenge.rw_pressrelease_k54_whole_guess_desks.Holds := by
  w_on; o_law; k_head; (case hw => w_witness2)
  k_fill
  refine Pr.walkGT (l := PySem.Challenge.rw_pressrelease_k54_whole_guess_desks) (n := 63) (k := 40) (x := "_law_script") (sp := fun K => K54.spLaw K 738) rfl (by decide) rfl ⟨rfl, by decide, by decide⟩ ?F
  case F =>
    intro w mg fa h Y G hmg
    have KX := PySem.W.km_in_of Y
    have KT := PySem.W.km_tabs_of Y
    refine' K54.endT KX (KT 738 (by decide)) ?NA (K54.all_mk KX G hmg ?a1 ?l1 ?c1 ?k1 ?a2 ?l2 ?c2 ?k2 ?a3 ?l3 ?c3 ?k3 ?a4 ?l4 ?c4 ?k4 ?a5 ?l5 ?c5 ?k5 ?a6 ?l6 ?c6 ?k6 ?a7 ?l7 ?c7 ?k7 ?a8 ?l8 ?c8 ?k8 ?a9 ?l9 ?c9 ?k9 ?a10 ?l10 ?c10 ?k10 ?a11 ?l11 ?c11 ?k11 ?a12 ?l12 ?c12 ?k12 ?a13 ?l13 ?c13 ?k13 ?a14 ?l14 ?c14 ?k14 ?a15 ?l15 ?c15 ?k15 ?a16 ?l16 ?c16 ?k16 ?a17 ?l17 ?c17 ?k17 ?a18 ?l18 ?c18 ?k18 ?a19 ?l19 ?c19 ?k19 ?a20 ?l20 ?c20 ?k20 ?a21 ?l21 ?c21 ?k21 ?a22 ?l22 ?c22 ?k22 ?a23 ?l23 ?c23 ?k23 ?a24 ?l24 ?c24 ?k24 ?a25 ?l25 ?c25 ?k25 ?a26 ?l26 ?c26 ?k26 ?a27 ?l27 ?c27 ?k27 ?a28 ?l28 ?c28 ?k28 ?a29 ?l29 ?c29 ?k29 ?a30 ?l30 ?c30 ?k30 ?a31 ?l31 ?c31 ?k31 ?a32 ?l32 ?c32 ?k32 ?a33 ?l33 ?c33 ?k33 ?a34 ?l34 ?c34 ?k34 ?a35 ?l35 ?c35 ?k35 ?y_MAX_BUTTONS ?y_BATCH ?uG ?pgD ?hdD ?poD ?saD ?mkD ?kcD ?nAD ?nWD ?nPD ?nLD ?nHD ?nKD ?cM ?cG ?cC ?uCD ?uCGu ?wShow ?vfShow ?lShow ?cShow ?kShow ?lcShow ?ldShow ?vsShow ?fiShow ?tpShow ?zsShow ?icShow ?wFree ?vfFree ?lFree ?cFree ?kFree ?wRoom ?vfRoom ?lRoom ?cRoom ?kRoom ?wLink0 ?vfLink0 ?lLink0 ?cLink0 ?kLink0 ?wAdd ?vfAdd ?lAdd ?cAdd ?kAdd ?wChg ?vfChg ?lChg ?cChg ?kChg ?wPressD ?vfPressD ?lPressD ?cPressD ?kPressD ?wLink ?vfLink ?lLink ?cLink ?kLink ?wUnlink ?vfUnlink ?lUnlink ?cUnlink ?kUnlink ?wUndo ?vfUndo ?lUndo ?cUndo ?kUndo ?wState ?vfState ?lState ?cState ?kState ?eKState ?wEdits ?vfEdits ?lEdits ?cEdits ?kEdits ?wDoEdit ?vfDoEdit ?lDoEdit ?cDoEdit ?kDoEdit ?wAccBy ?vfAccBy ?lAccBy ?cAccBy ?kAccBy ?wDoBatch ?vfDoBatch ?lDoBatch ?cDoBatch ?kDoBatch ?wLenD ?vfLenD ?lLenD ?cLenD ?kLenD ?wStrD ?vfStrD ?lStrD ?cStrD ?kStrD ?wNoteG ?vfNoteG ?lNoteG ?cNoteG ?kNoteG ?wShowB ?vfShowB ?lShowB ?cShowB ?kShowB ?smB ?saB ?stB ?sfB ?soB ?wAttempt ?vfAttempt ?lAttempt ?cAttempt ?kAttempt ?eKAttempt ?smA ?saA ?stA ?sfA ?soA ?wAtt ?vfAtt ?lAtt ?cAtt ?kAtt ?lcAtt ?ldAtt ?vsAtt_ ?fiAtt ?eKAtt ?wInitG ?vfInitG ?lInitG ?cInitG ?kInitG ?rdInitD ?gaInitD ?fcInitD ?lInitD ?cInitD ?kInitD ?rdInitU ?gaInitU ?fcInitU ?lInitU ?cInitU ?kInitU ?oa ?on ?ot ?om ?kiG ?kiU ?u_PanelError ?u_NothingToUndo ?q_NothingToUndo ?kp_NothingToUndo ?s_NothingToUndo ?t_NothingToUndo ?uCV ?xLV ?saV ?exCV ?tyCV ?kCV ?iCV ?tIV ?noNV ?lIV ?cIV ?kIV ?hgV ?hkV ?hdV ?sPV ?uCN ?xLN ?saN ?exCN ?tyCN ?kCN ?iCN ?tIN ?noNN ?lIN ?cIN ?kIN ?hgN ?hkN ?hdN ?sPN ?uCS ?xLS ?saS ?exCS ?tyCS ?kCS ?iCS ?tIS ?noNS ?lIS ?cIS ?kIS ?hgS ?hkS ?hdS ?sPS ?uCR ?xLR ?saR ?exCR ?tyCR ?kCR ?iCR ?tIR ?noNR ?lIR ?cIR ?kIR ?hgR ?hkR ?hdR ?sPR ?u_NoChange ?q_NoChange ?kp_NoChange ?s_NoChange ?t_NoChange ?u_Locked ?q_Locked ?kp_Locked ?s_Locked ?t_Locked ?hg_Locked ?hk_Locked ?hd_Locked ?ha_Locked ?hn_Locked ?ht_Locked ?hm_Locked ?xP ?dP ?tP ?sP_Locked ?u_Busy ?u_TooManyEdits ?kL2 ?kL3 ?xS ?uVA ?kVA ?v1A ?v2A ?v3A ?lCA ?g11A ?d11A ?d18A ?d7A ?d9A ?d10A ?ncPA ?z1 ?z2 ?z3 ?z4 ?z5 ?z6 ?z7 ?z8 ?z9 ?z10 ?z11 ?z12 ?z13 ?z14 ?z15 ?z16)
    (case NA => first | rfl | decide +kernel | kernel_rfl)
    (case a1 => k_is); (case l1 => k_is); (case c1 => k_is); (case k1 => k_is); (case a2 => k_is); (case l2 => k_is); (case c2 => k_is); (case k2 => k_is); (case a3 => k_is); (case l3 => k_is); (case c3 => k_is); (case k3 => k_is)
    (case a4 => k_is); (case l4 => k_is); (case c4 => k_is); (case k4 => k_is); (case a5 => k_is); (case l5 => k_is); (case c5 => k_is); (case k5 => k_is); (case a6 => k_is); (case l6 => k_is); (case c6 => k_is); (case k6 => k_is)
    (case a7 => k_is); (case l7 => k_is); (case c7 => k_is); (case k7 => k_is); (case a8 => k_is); (case l8 => k_is); (case c8 => k_is); (case k8 => k_is); (case a9 => k_is); (case l9 => k_is); (case c9 => k_is); (case k9 => k_is)
    (case a10 => k_is); (case l10 => k_is); (case c10 => k_is); (case k10 => k_is); (case a11 => k_is); (case l11 => k_is); (case c11 => k_is); (case k11 => k_is); (case a12 => k_is); (case l12 => k_is); (case c12 => k_is); (case k12 => k_is)
    (case a13 => k_is); (case l13 => k_is); (case c13 => k_is); (case k13 => k_is); (case a14 => k_is); (case l14 => k_is); (case c14 => k_is); (case k14 => k_is); (case a15 => k_is); (case l15 => k_is); (case c15 => k_is); (case k15 => k_is)
    (case a16 => k_is); (case l16 => k_is); (case c16 => k_is); (case k16 => k_is); (case a17 => k_is); (case l17 => k_is); (case c17 => k_is); (case k17 => k_is); (case a18 => k_is); (case l18 => k_is); (case c18 => k_is); (case k18 => k_is)
    (case a19 => k_is); (case l19 => k_is); (case c19 => k_is); (case k19 => k_is); (case a20 => k_is); (case l20 => k_is); (case c20 => k_is); (case k20 => k_is); (case a21 => k_is); (case l21 => k_is); (case c21 => k_is); (case k21 => k_is)
    (case a22 => k_is); (case l22 => k_is); (case c22 => k_is); (case k22 => k_is); (case a23 => k_is); (case l23 => k_is); (case c23 => k_is); (case k23 => k_is); (case a24 => k_is); (case l24 => k_is); (case c24 => k_is); (case k24 => k_is)
    (case a25 => k_is); (case l25 => k_is); (case c25 => k_is); (case k25 => k_is); (case a26 => k_is); (case l26 => k_is); (case c26 => k_is); (case k26 => k_is); (case a27 => k_is); (case l27 => k_is); (case c27 => k_is); (case k27 => k_is)
    (case a28 => k_is); (case l28 => k_is); (case c28 => k_is); (case k28 => k_is); (case a29 => k_is); (case l29 => k_is); (case c29 => k_is); (case k29 => k_is); (case a30 => k_is); (case l30 => k_is); (case c30 => k_is); (case k30 => k_is)
    (case a31 => k_is); (case l31 => k_is); (case c31 => k_is); (case k31 => k_is); (case a32 => k_is); (case l32 => k_is); (case c32 => k_is); (case k32 => k_is); (case a33 => k_is); (case l33 => k_is); (case c33 => k_is); (case k33 => k_is)
    (case a34 => k_is); (case l34 => k_is); (case c34 => k_is); (case k34 => k_is); (case a35 => k_is); (case l35 => k_is); (case c35 => k_is); (case k35 => k_is); (case y_MAX_BUTTONS => k_is); (case y_BATCH => k_is); (case uG => first | k_is | k_exc | rfl | decide +kernel | kernel_rfl); (case pgD => first | k_is | k_exc | rfl | decide +kernel | kernel_rfl)
    (case hdD => first | k_is | k_exc | rfl | decide +kernel | kernel_rfl); (case poD => first | k_is | k_exc | rfl | decide +kernel | kernel_rfl); (case saD => first | k_is | k_exc | rfl | decide +kernel | kernel_rfl); (case mkD => first | k_is | k_exc | rfl | decide +kernel | kernel_rfl); (case kcD => first | k_is | k_exc | rfl | decide +kernel | kernel_rfl); (case nAD => first | k_is | k_exc | rfl | decide +kernel | kernel_rfl); (case nWD => first | k_is | k_exc | rfl | decide +kernel | kernel_rfl); (case nPD => first | k_is | k_exc | rfl | decide +kernel | kernel_rfl); (case nLD => first | k_is | k_exc | rfl | decide +kernel | kernel_rfl); (case nHD => first | k_is | k_exc | rfl | decide +kernel | kernel_rfl); (case nKD => first | k_is | k_exc | rfl | decide +kernel | kernel_rfl); (case cM => first | k_is | k_exc | rfl | decide +kernel | kernel_rfl)
    (case cG => first | k_is | k_exc | rfl | decide +kernel | kernel_rfl); (case cC => first | k_is | k_exc | rfl | decide +kernel | kernel_rfl); (case uCD => first | k_is | k_exc | rfl | decide +kernel | kernel_rfl); (case uCGu => first | k_is | k_exc | rfl | decide +kernel | kernel_rfl); (case wShow => first | k_is | k_exc | rfl | decide +kernel | kernel_rfl); (case vfShow => first | k_is | k_exc | rfl | decide +kernel | kernel_rfl); (case lShow => first | k_is | k_exc | rfl | decide +kernel | kernel_rfl); (case cShow => first | k_is | k_exc | rfl | decide +kernel | kernel_rfl); (case kShow => first | k_is | k_exc | rfl | decide +kernel | kernel_rfl); (case lcShow => first | k_is | k_exc | rfl | decide +kernel | kernel_rfl); (case ldShow => first | k_is | k_exc | rfl | decide +kernel | kernel_rfl); (case vsShow => first | k_is | k_exc | rfl | decide +kernel | kernel_rfl)
    (case fiShow => first | k_is | k_exc | rfl | decide +kernel | kernel_rfl); (case tpShow => first | k_is | k_exc | rfl | decide +kernel | kernel_rfl); (case zsShow => first | k_is | k_exc | rfl | decide +kernel | kernel_rfl); (case icShow => first | k_is | k_exc | rfl | decide +kernel | kernel_rfl); (case wFree => first | k_is | k_exc | rfl | decide +kernel | kernel_rfl); (case vfFree => first | k_is | k_exc | rfl | decide +kernel | kernel_rfl); (case lFree => first | k_is | k_exc | rfl | decide +kernel | kernel_rfl); (case cFree => first | k_is | k_exc | rfl | decide +kernel | kernel_rfl); (case kFree => first | k_is | k_exc | rfl | decide +kernel | kernel_rfl); (case wRoom => first | k_is | k_exc | rfl | decide +kernel | kernel_rfl); (case vfRoom => first | k_is | k_exc | rfl | decide +kernel | kernel_rfl); (case lRoom => first | k_is | k_exc | rfl | decide +kernel | kernel_rfl)
    (case cRoom => first | k_is | k_exc | rfl | decide +kernel | kernel_rfl); (case kRoom => first | k_is | k_exc | rfl | decide +kernel | kernel_rfl); (case wLink0 => first | k_is | k_exc | rfl | decide +kernel | kernel_rfl); (case vfLink0 => first | k_is | k_exc | rfl | decide +kernel | kernel_rfl); (case lLink0 => first | k_is | k_exc | rfl | decide +kernel | kernel_rfl); (case cLink0 => first | k_is | k_exc | rfl | decide +kernel | kernel_rfl); (case kLink0 => first | k_is | k_exc | rfl | decide +kernel | kernel_rfl); (case wAdd => first | k_is | k_exc | rfl | decide +kernel | kernel_rfl); (case vfAdd => first | k_is | k_exc | rfl | decide +kernel | kernel_rfl); (case lAdd => first | k_is | k_exc | rfl | decide +kernel | kernel_rfl); (case cAdd => first | k_is | k_exc | rfl | decide +kernel | kernel_rfl); (case kAdd => first | k_is | k_exc | rfl | decide +kernel | kernel_rfl)
    (case wChg => first | k_is | k_exc | rfl | decide +kernel | kernel_rfl); (case vfChg => first | k_is | k_exc | rfl | decide +kernel | kernel_rfl); (case lChg => first | k_is | k_exc | rfl | decide +kernel | kernel_rfl); (case cChg => first | k_is | k_exc | rfl | decide +kernel | kernel_rfl); (case kChg => first | k_is | k_exc | rfl | decide +kernel | kernel_rfl); (case wPressD => first | k_is | k_exc | rfl | decide +kernel | kernel_rfl); (case vfPressD => first | k_is | k_exc | rfl | decide +kernel | kernel_rfl); (case lPressD => first | k_is | k_exc | rfl | decide +kernel | kernel_rfl); (case cPressD => first | k_is | k_exc | rfl | decide +kernel | kernel_rfl); (case kPressD => first | k_is | k_exc | rfl | decide +kernel | kernel_rfl); (case wLink => first | k_is | k_exc | rfl | decide +kernel | kernel_rfl); (case vfLink => first | k_is | k_exc | rfl | decide +kernel | kernel_rfl)
    (case lLink => first | k_is | k_exc | rfl | decide +kernel | kernel_rfl); (case cLink => first | k_is | k_exc | rfl | decide +kernel | kernel_rfl); (case kLink => first | k_is | k_exc | rfl | decide +kernel | kernel_rfl); (case wUnlink => first | k_is | k_exc | rfl | decide +kernel | kernel_rfl); (case vfUnlink => first | k_is | k_exc | rfl | decide +kernel | kernel_rfl); (case lUnlink => first | k_is | k_exc | rfl | decide +kernel | kernel_rfl); (case cUnlink => first | k_is | k_exc | rfl | decide +kernel | kernel_rfl); (case kUnlink => first | k_is | k_exc | rfl | decide +kernel | kernel_rfl); (case wUndo => first | k_is | k_exc | rfl | decide +kernel | kernel_rfl); (case vfUndo => first | k_is | k_exc | rfl | decide +kernel | kernel_rfl); (case lUndo => first | k_is | k_exc | rfl | decide +kernel | kernel_rfl); (case cUndo => first | k_is | k_exc | rfl | decide +kernel | kernel_rfl)
    (case kUndo => first | k_is | k_exc | rfl | decide +kernel | kernel_rfl); (case wState => first | k_is | k_exc | rfl | decide +kernel | kernel_rfl); (case vfState => first | k_is | k_exc | rfl | decide +kernel | kernel_rfl); (case lState => first | k_is | k_exc | rfl | decide +kernel | kernel_rfl); (case cState => first | k_is | k_exc | rfl | decide +kernel | kernel_rfl); (case kState => first | k_is | k_exc | rfl | decide +kernel | kernel_rfl); (case eKState => first | k_is | k_exc | rfl | decide +kernel | kernel_rfl); (case wEdits => first | k_is | k_exc | rfl | decide +kernel | kernel_rfl); (case vfEdits => first | k_is | k_exc | rfl | decide +kernel | kernel_rfl); (case lEdits => first | k_is | k_exc | rfl | decide +kernel | kernel_rfl); (case cEdits => first | k_is | k_exc | rfl | decide +kernel | kernel_rfl); (case kEdits => first | k_is | k_exc | rfl | decide +kernel | kernel_rfl)
    (case wDoEdit => first | k_is | k_exc | rfl | decide +kernel | kernel_rfl); (case vfDoEdit => first | k_is | k_exc | rfl | decide +kernel | kernel_rfl); (case lDoEdit => first | k_is | k_exc | rfl | decide +kernel | kernel_rfl); (case cDoEdit => first | k_is | k_exc | rfl | decide +kernel | kernel_rfl); (case kDoEdit => first | k_is | k_exc | rfl | decide +kernel | kernel_rfl); (case wAccBy => first | k_is | k_exc | rfl | decide +kernel | kernel_rfl); (case vfAccBy => first | k_is | k_exc | rfl | decide +kernel | kernel_rfl); (case lAccBy => first | k_is | k_exc | rfl | decide +kernel | kernel_rfl); (case cAccBy => first | k_is | k_exc | rfl | decide +kernel | kernel_rfl); (case kAccBy => first | k_is | k_exc | rfl | decide +kernel | kernel_rfl); (case wDoBatch => first | k_is | k_exc | rfl | decide +kernel | kernel_rfl); (case vfDoBatch => first | k_is | k_exc | rfl | decide +kernel | kernel_rfl)
    (case lDoBatch => first | k_is | k_exc | rfl | decide +kernel | kernel_rfl); (case cDoBatch => first | k_is | k_exc | rfl | decide +kernel | kernel_rfl); (case kDoBatch => first | k_is | k_exc | rfl | decide +kernel | kernel_rfl); (case wLenD => first | k_is | k_exc | rfl | decide +kernel | kernel_rfl); (case vfLenD => first | k_is | k_exc | rfl | decide +kernel | kernel_rfl); (case lLenD => first | k_is | k_exc | rfl | decide +kernel | kernel_rfl); (case cLenD => first | k_is | k_exc | rfl | decide +kernel | kernel_rfl); (case kLenD => first | k_is | k_exc | rfl | decide +kernel | kernel_rfl); (case wStrD => first | k_is | k_exc | rfl | decide +kernel | kernel_rfl); (case vfStrD => first | k_is | k_exc | rfl | decide +kernel | kernel_rfl); (case lStrD => first | k_is | k_exc | rfl | decide +kernel | kernel_rfl); (case cStrD => first | k_is | k_exc | rfl | decide +kernel | kernel_rfl)
    (case kStrD => first | k_is | k_exc | rfl | decide +kernel | kernel_rfl); (case wNoteG => first | k_is | k_exc | rfl | decide +kernel | kernel_rfl); (case vfNoteG => first | k_is | k_exc | rfl | decide +kernel | kernel_rfl); (case lNoteG => first | k_is | k_exc | rfl | decide +kernel | kernel_rfl); (case cNoteG => first | k_is | k_exc | rfl | decide +kernel | kernel_rfl); (case kNoteG => first | k_is | k_exc | rfl | decide +kernel | kernel_rfl); (case wShowB => first | k_is | k_exc | rfl | decide +kernel | kernel_rfl); (case vfShowB => first | k_is | k_exc | rfl | decide +kernel | kernel_rfl); (case lShowB => first | k_is | k_exc | rfl | decide +kernel | kernel_rfl); (case cShowB => first | k_is | k_exc | rfl | decide +kernel | kernel_rfl); (case kShowB => first | k_is | k_exc | rfl | decide +kernel | kernel_rfl); (case smB => first | k_is | k_exc | rfl | decide +kernel | kernel_rfl)
    (case saB => first | k_is | k_exc | rfl | decide +kernel | kernel_rfl); (case stB => first | k_is | k_exc | rfl | decide +kernel | kernel_rfl); (case sfB => first | k_is | k_exc | rfl | decide +kernel | kernel_rfl); (case soB => first | k_is | k_exc | rfl | decide +kernel | kernel_rfl); (case wAttempt => first | k_is | k_exc | rfl | decide +kernel | kernel_rfl); (case vfAttempt => first | k_is | k_exc | rfl | decide +kernel | kernel_rfl); (case lAttempt => first | k_is | k_exc | rfl | decide +kernel | kernel_rfl); (case cAttempt => first | k_is | k_exc | rfl | decide +kernel | kernel_rfl); (case kAttempt => first | k_is | k_exc | rfl | decide +kernel | kernel_rfl); (case eKAttempt => first | k_is | k_exc | rfl | decide +kernel | kernel_rfl); (case smA => first | k_is | k_exc | rfl | decide +kernel | kernel_rfl); (case saA => first | k_is | k_exc | rfl | decide +kernel | kernel_rfl)
    (case stA => first | k_is | k_exc | rfl | decide +kernel | kernel_rfl); (case sfA => first | k_is | k_exc | rfl | decide +kernel | kernel_rfl); (case soA => first | k_is | k_exc | rfl | decide +kernel | kernel_rfl); (case wAtt => first | k_is | k_exc | rfl | decide +kernel | kernel_rfl); (case vfAtt => first | k_is | k_exc | rfl | decide +kernel | kernel_rfl); (case lAtt => first | k_is | k_exc | rfl | decide +kernel | kernel_rfl); (case cAtt => first | k_is | k_exc | rfl | decide +kernel | kernel_rfl); (case kAtt => first | k_is | k_exc | rfl | decide +kernel | kernel_rfl); (case lcAtt => first | k_is | k_exc | rfl | decide +kernel | kernel_rfl); (case ldAtt => first | k_is | k_exc | rfl | decide +kernel | kernel_rfl); (case vsAtt_ => first | k_is | k_exc | rfl | decide +kernel | kernel_rfl); (case fiAtt => first | k_is | k_exc | rfl | decide +kernel | kernel_rfl)
    (case eKAtt => first | k_is | k_exc | rfl | decide +kernel | kernel_rfl); (case wInitG => first | k_is | k_exc | rfl | decide +kernel | kernel_rfl); (case vfInitG => first | k_is | k_exc | rfl | decide +kernel | kernel_rfl); (case lInitG => first | k_is | k_exc | rfl | decide +kernel | kernel_rfl); (case cInitG => first | k_is | k_exc | rfl | decide +kernel | kernel_rfl); (case kInitG => first | k_is | k_exc | rfl | decide +kernel | kernel_rfl); (case rdInitD => first | k_is | k_exc | rfl | decide +kernel | kernel_rfl); (case gaInitD => first | k_is | k_exc | rfl | decide +kernel | kernel_rfl); (case fcInitD => first | k_is | k_exc | rfl | decide +kernel | kernel_rfl); (case lInitD => first | k_is | k_exc | rfl | decide +kernel | kernel_rfl); (case cInitD => first | k_is | k_exc | rfl | decide +kernel | kernel_rfl); (case kInitD => first | k_is | k_exc | rfl | decide +kernel | kernel_rfl)
    (case rdInitU => first | k_is | k_exc | rfl | decide +kernel | kernel_rfl); (case gaInitU => first | k_is | k_exc | rfl | decide +kernel | kernel_rfl); (case fcInitU => first | k_is | k_exc | rfl | decide +kernel | kernel_rfl); (case lInitU => first | k_is | k_exc | rfl | decide +kernel | kernel_rfl); (case cInitU => first | k_is | k_exc | rfl | decide +kernel | kernel_rfl); (case kInitU => first | k_is | k_exc | rfl | decide +kernel | kernel_rfl); (case oa => first | k_is | k_exc | rfl | decide +kernel | kernel_rfl); (case on => first | k_is | k_exc | rfl | decide +kernel | kernel_rfl); (case ot => first | k_is | k_exc | rfl | decide +kernel | kernel_rfl); (case om => first | k_is | k_exc | rfl | decide +kernel | kernel_rfl); (case kiG => first | k_is | k_exc | rfl | decide +kernel | kernel_rfl); (case kiU => first | k_is | k_exc | rfl | decide +kernel | kernel_rfl)
    (case u_PanelError => first | k_is | k_exc | rfl | decide +kernel | kernel_rfl); (case u_NothingToUndo => first | k_is | k_exc | rfl | decide +kernel | kernel_rfl); (case q_NothingToUndo => first | k_is | k_exc | rfl | decide +kernel | kernel_rfl); (case kp_NothingToUndo => first | k_is | k_exc | rfl | decide +kernel | kernel_rfl); (case s_NothingToUndo => first | k_is | k_exc | rfl | decide +kernel | kernel_rfl); (case t_NothingToUndo => first | k_is | k_exc | rfl | decide +kernel | kernel_rfl); (case uCV => first | k_is | k_exc | rfl | decide +kernel | kernel_rfl); (case xLV => first | k_is | k_exc | rfl | decide +kernel | kernel_rfl); (case saV => first | k_is | k_exc | rfl | decide +kernel | kernel_rfl); (case exCV => first | k_is | k_exc | rfl | decide +kernel | kernel_rfl); (case tyCV => first | k_is | k_exc | rfl | decide +kernel | kernel_rfl); (case kCV => first | k_is | k_exc | rfl | decide +kernel | kernel_rfl)
    (case iCV => first | k_is | k_exc | rfl | decide +kernel | kernel_rfl); (case tIV => first | k_is | k_exc | rfl | decide +kernel | kernel_rfl); (case noNV => first | k_is | k_exc | rfl | decide +kernel | kernel_rfl); (case lIV => first | k_is | k_exc | rfl | decide +kernel | kernel_rfl); (case cIV => first | k_is | k_exc | rfl | decide +kernel | kernel_rfl); (case kIV => first | k_is | k_exc | rfl | decide +kernel | kernel_rfl); (case hgV => first | k_is | k_exc | rfl | decide +kernel | kernel_rfl); (case hkV => first | k_is | k_exc | rfl | decide +kernel | kernel_rfl); (case hdV => first | k_is | k_exc | rfl | decide +kernel | kernel_rfl); (case sPV => first | k_is | k_exc | rfl | decide +kernel | kernel_rfl); (case uCN => first | k_is | k_exc | rfl | decide +kernel | kernel_rfl); (case xLN => first | k_is | k_exc | rfl | decide +kernel | kernel_rfl)
    (case saN => first | k_is | k_exc | rfl | decide +kernel | kernel_rfl); (case exCN => first | k_is | k_exc | rfl | decide +kernel | kernel_rfl); (case tyCN => first | k_is | k_exc | rfl | decide +kernel | kernel_rfl); (case kCN => first | k_is | k_exc | rfl | decide +kernel | kernel_rfl); (case iCN => first | k_is | k_exc | rfl | decide +kernel | kernel_rfl); (case tIN => first | k_is | k_exc | rfl | decide +kernel | kernel_rfl); (case noNN => first | k_is | k_exc | rfl | decide +kernel | kernel_rfl); (case lIN => first | k_is | k_exc | rfl | decide +kernel | kernel_rfl); (case cIN => first | k_is | k_exc | rfl | decide +kernel | kernel_rfl); (case kIN => first | k_is | k_exc | rfl | decide +kernel | kernel_rfl); (case hgN => first | k_is | k_exc | rfl | decide +kernel | kernel_rfl); (case hkN => first | k_is | k_exc | rfl | decide +kernel | kernel_rfl)
    (case hdN => first | k_is | k_exc | rfl | decide +kernel | kernel_rfl); (case sPN => first | k_is | k_exc | rfl | decide +kernel | kernel_rfl); (case uCS => first | k_is | k_exc | rfl | decide +kernel | kernel_rfl); (case xLS => first | k_is | k_exc | rfl | decide +kernel | kernel_rfl); (case saS => first | k_is | k_exc | rfl | decide +kernel | kernel_rfl); (case exCS => first | k_is | k_exc | rfl | decide +kernel | kernel_rfl); (case tyCS => first | k_is | k_exc | rfl | decide +kernel | kernel_rfl); (case kCS => first | k_is | k_exc | rfl | decide +kernel | kernel_rfl); (case iCS => first | k_is | k_exc | rfl | decide +kernel | kernel_rfl); (case tIS => first | k_is | k_exc | rfl | decide +kernel | kernel_rfl); (case noNS => first | k_is | k_exc | rfl | decide +kernel | kernel_rfl); (case lIS => first | k_is | k_exc | rfl | decide +kernel | kernel_rfl)
    (case cIS => first | k_is | k_exc | rfl | decide +kernel | kernel_rfl); (case kIS => first | k_is | k_exc | rfl | decide +kernel | kernel_rfl); (case hgS => first | k_is | k_exc | rfl | decide +kernel | kernel_rfl); (case hkS => first | k_is | k_exc | rfl | decide +kernel | kernel_rfl); (case hdS => first | k_is | k_exc | rfl | decide +kernel | kernel_rfl); (case sPS => first | k_is | k_exc | rfl | decide +kernel | kernel_rfl); (case uCR => first | k_is | k_exc | rfl | decide +kernel | kernel_rfl); (case xLR => first | k_is | k_exc | rfl | decide +kernel | kernel_rfl); (case saR => first | k_is | k_exc | rfl | decide +kernel | kernel_rfl); (case exCR => first | k_is | k_exc | rfl | decide +kernel | kernel_rfl); (case tyCR => first | k_is | k_exc | rfl | decide +kernel | kernel_rfl); (case kCR => first | k_is | k_exc | rfl | decide +kernel | kernel_rfl)
    (case iCR => first | k_is | k_exc | rfl | decide +kernel | kernel_rfl); (case tIR => first | k_is | k_exc | rfl | decide +kernel | kernel_rfl); (case noNR => first | k_is | k_exc | rfl | decide +kernel | kernel_rfl); (case lIR => first | k_is | k_exc | rfl | decide +kernel | kernel_rfl); (case cIR => first | k_is | k_exc | rfl | decide +kernel | kernel_rfl); (case kIR => first | k_is | k_exc | rfl | decide +kernel | kernel_rfl); (case hgR => first | k_is | k_exc | rfl | decide +kernel | kernel_rfl); (case hkR => first | k_is | k_exc | rfl | decide +kernel | kernel_rfl); (case hdR => first | k_is | k_exc | rfl | decide +kernel | kernel_rfl); (case sPR => first | k_is | k_exc | rfl | decide +kernel | kernel_rfl); (case u_NoChange => first | k_is | k_exc | rfl | decide +kernel | kernel_rfl); (case q_NoChange => first | k_is | k_exc | rfl | decide +kernel | kernel_rfl)
    (case kp_NoChange => first | k_is | k_exc | rfl | decide +kernel | kernel_rfl); (case s_NoChange => first | k_is | k_exc | rfl | decide +kernel | kernel_rfl); (case t_NoChange => first | k_is | k_exc | rfl | decide +kernel | kernel_rfl); (case u_Locked => first | k_is | k_exc | rfl | decide +kernel | kernel_rfl); (case q_Locked => first | k_is | k_exc | rfl | decide +kernel | kernel_rfl); (case kp_Locked => first | k_is | k_exc | rfl | decide +kernel | kernel_rfl); (case s_Locked => first | k_is | k_exc | rfl | decide +kernel | kernel_rfl); (case t_Locked => first | k_is | k_exc | rfl | decide +kernel | kernel_rfl); (case hg_Locked => first | k_is | k_exc | rfl | decide +kernel | kernel_rfl); (case hk_Locked => first | k_is | k_exc | rfl | decide +kernel | kernel_rfl); (case hd_Locked => first | k_is | k_exc | rfl | decide +kernel | kernel_rfl); (case ha_Locked => first | k_is | k_exc | rfl | decide +kernel | kernel_rfl)
    (case hn_Locked => first | k_is | k_exc | rfl | decide +kernel | kernel_rfl); (case ht_Locked => first | k_is | k_exc | rfl | decide +kernel | kernel_rfl); (case hm_Locked => first | k_is | k_exc | rfl | decide +kernel | kernel_rfl); (case xP => first | k_is | k_exc | rfl | decide +kernel | kernel_rfl); (case dP => first | k_is | k_exc | rfl | decide +kernel | kernel_rfl); (case tP => first | k_is | k_exc | rfl | decide +kernel | kernel_rfl); (case sP_Locked => first | k_is | k_exc | rfl | decide +kernel | kernel_rfl); (case u_Busy => first | k_is | k_exc | rfl | decide +kernel | kernel_rfl); (case u_TooManyEdits => first | k_is | k_exc | rfl | decide +kernel | kernel_rfl); (case kL2 => first | k_is | k_exc | rfl | decide +kernel | kernel_rfl); (case kL3 => first | k_is | k_exc | rfl | decide +kernel | kernel_rfl); (case xS => first | k_is | k_exc | rfl | decide +kernel | kernel_rfl)
    (case uVA => first | k_is | k_exc | rfl | decide +kernel | kernel_rfl); (case kVA => first | k_is | k_exc | rfl | decide +kernel | kernel_rfl); (case v1A => first | k_is | k_exc | rfl | decide +kernel | kernel_rfl); (case v2A => first | k_is | k_exc | rfl | decide +kernel | kernel_rfl); (case v3A => first | k_is | k_exc | rfl | decide +kernel | kernel_rfl); (case lCA => first | k_is | k_exc | rfl | decide +kernel | kernel_rfl); (case g11A => first | k_is | k_exc | rfl | decide +kernel | kernel_rfl); (case d11A => first | k_is | k_exc | rfl | decide +kernel | kernel_rfl); (case d18A => first | k_is | k_exc | rfl | decide +kernel | kernel_rfl); (case d7A => first | k_is | k_exc | rfl | decide +kernel | kernel_rfl); (case d9A => first | k_is | k_exc | rfl | decide +kernel | kernel_rfl); (case d10A => first | k_is | k_exc | rfl | decide +kernel | kernel_rfl)
    (case ncPA => first | k_is | k_exc | rfl | decide +kernel | kernel_rfl); (case z1 => k_is); (case z2 => k_is); (case z3 => k_is); (case z4 => k_is); (case z5 => k_is); (case z6 => k_is); (case z7 => k_is); (case z8 => k_is); (case z9 => k_is); (case z10 => k_is); (case z11 => k_is)
    (case z12 => k_is); (case z13 => k_is); (case z14 => k_is); (case z15 => k_is); (case z16 => k_is)
