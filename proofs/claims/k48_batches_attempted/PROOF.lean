import PyProof.Rows.All
import Wide.All
import OpenK.AllK
import Wide.FinOn
import HandS.ForMost
import HandS.TupMul
import HandS.TupAny
import HandS.SetFor
import HandS.Walk
import HandS.EndBits
import KE.GoesEnum
import PyProof.ReprRoads
import HandS.Zip
import HandS.NoneIn
import HandS.Strs
import PyProof.ListNew
import HandS.IsInst
import HandS.Conv
import PyProof.Rows.CountFlat
import HandS.More
import KE.DataMinMax
import HandS.Star
import HandS.SortRule
import HandS.NamedTupSort
import HandS.TupLe
import KE.KSortTup
import KE.SortData
import HandS.CallLocal
import KE.KDictDisplayH
import HandS.Style
import HandS.Dict
import KE.KExcIs
import HandS.Exc
import HandS.ExcIs
import HandS.ExcInit
import HandS.ExcField
import HandS.ExcOwn
import HandS.WordsExc
import HandS.RaiseMore
import HandS.FStr
import PyProof.StrLaws
import KE.KCallOwn
import HandS.Call
import HandS.List
import HandS.Defaults
import HandS.MakeKwOnly
import HandS.CallSlots
import PyProof.InstStoreFacts
import PyProof.ExcBaseAll.LookupError
import HandS.Finally
import HandS.HeadHook3
import HandS.SuiteRaise
import HandS.RaiseFrom
import HandS.ExcInitHot
import KE.KTryMore
import HandS.DictComp
import KE.DataMinKey
import KE.DataCmp
import KE.LtData
import HandS.Lambda
import HandS.SortKw
import HandS.Nested
import HandS.Words
import HandS.SetBool
import HandS.TupSets
import PyProof.StrLawsRepr
import HandS.Text
import PyProof.StrOps2
import KE.IntTextLaws
import PySem.Challenge.RW_pressrelease_k48_batches_attempted
set_option Elab.async false
set_option linter.all false
set_option maxRecDepth 100000
set_option maxHeartbeats 4000000
set_option genInjectivity false
set_option genSizeOfSpec false
namespace Pr
open PySem PySem.Spec PyProof.Rows L2
structure FnG (P : Program) (w : World) (K : PySem.W.Frag) (mg : Str → Option Value) (base : Heap) (k : Nat) (f : Addr) (fd : FuncData) (ps : List Str) (sp : Sp) : Prop where
  len : ∀ vs H Q E, sp vs H Q E → vs.length = ps.length
  go : ∀ (A : Around) (outer : List Env) (s : Shared) (H : Hp) (args : Args) (us : List Value) (vs : List V) (Q : VK) (E : XK), A.guards = some [] → Room k A →
    Env0 P w K mg base A outer s H → BindsTo s fd args (ps.zip us) → Vals vs us → sp vs H Q E →
    codeAny (model P w) A (.call (.ref f) args) (CR CX0 outer P w H s Q E) s
section
variable {P : Program} {w : World} {K : PySem.W.Frag} {mg : Str → Option Value} {base : Heap}
/-- a def by its body, where no repr is under way -/
theorem okG {x qual : Str} {st : Stmt} {f : Addr} {fd : FuncData} {N ps : List Str} {k : Nat} {sp : Sp} (F : Fun K x qual st f fd) (S : FnScope N ps (defScope st))
    (len : ∀ vs H Q E, sp vs H Q E → vs.length = ps.length)
    (body : ∀ (cdv : Value) (A : Around) (outer : List Env) (s : Shared) (H : Hp) (vs : List V) (Q : VK) (E : XK), A.guards = some [] →
      Room k (A.deeper (envOfC qual (defScope st) s.heap.objs.size f cdv)) → sp vs H Q E →
      ∃ t, PSs (cxOf CX0 P w K mg base N qual (defScope st) f cdv A outer s H E).nox (defBody st) t ∧ t { nx := fun _ H' => Q .non H', rt := Q } (start N vs) H) :
    FnG P w K mg base (k + 1) f fd ps sp := by
  obtain ⟨oc, od, kV, doc, pm, an, cdv, ct, osl, rfl, lk, hcd⟩ := F.ex
  refine ⟨len, fun A outer s H args us vs Q E hg hr e0 hb r hsp => ?_⟩
  have hin : K.In s.heap := e0.mod.kin.keeps fun b o e => (e0.bs b o e).1
  have hlm : s.heap.NoLimit := e0.mod.nolimit.keeps fun b o e => (e0.bs b o e).1
  refine codeAny_call_function hr.depth (hin _ _ lk) rfl S.co S.gen rfl (PySem.W.codeRec_of hin hcd) (hb _ _ _ _ ?_)
  refine wpAny_newFunctionEnv_cells S.kind (fun ⟨n, v⟩ hy => ?_) fun env he s1 x => ?_
  · rcases S.par n (List.of_mem_zip hy).1 with q | q
    · exact .inl q
    · exact .inr ⟨q, PySem.W.cellsFrom_some _ _ _ (.inl q)⟩
  · subst he
    refine ⟨hlm.keeps x.toInCall.keep, codeAny_func ?_⟩
    obtain ⟨t, ht, hq⟩ := body cdv A outer s H vs Q E hg (hr.deeper _) hsp
    have I := inv_start (CX := CX0) (E := E) S hr.hd e0 (len _ _ _ _ hsp) r x
    refine wpAny_mono (ht.nox.run [] s1 (start N vs) H _ I hq) (fun fl s' hs => ?_) fun e s' hs => hs
    cases fl with
    | ret u => obtain ⟨v, σ', H', J, rv, q⟩ := hs; exact ⟨v, H', J.os, J.bare, J.base, J.hok, rv, q⟩
    | next => obtain ⟨σ', H', J, q⟩ := hs; exact ⟨V.non, H', J.os, J.bare, J.base, J.hok, rfl, q⟩
    | brk => obtain ⟨_, _, _, q⟩ := hs; exact q.elim
    | cont => obtain ⟨_, _, _, q⟩ := hs; exact q.elim
end
section
variable {X : Cx} {k : Nat} {f : Addr} {fd : FuncData} {ps : List Str} {sp : Sp} {x : Str} {p pos : Pos} {e : Expr} {es : List Expr} {t : TA}
/-- f(e, ..) of such a def -/
theorem pe_callG (F : FnG X.prog X.w X.K X.mg X.base k f fd ps sp) (gd : X.A.guards = some []) (hr : Room k X.A) (hg : Gl X x) (hm : X.mg x = some (.ref f)) (hk : PySem.W.keepIn X.K (.ref f) = true) (hb : Binds X.K fd ps [])
    (ha : PA X (e :: es) t) (hdb : (x == ("__debug__" : Str)) = false := by decide) (he : starEach (e :: es) X.env = (false, eval e X.env) :: starEach es X.env := by rfl)
    (hpl : (backTo pos (starEach es X.env)).any (·.1) = false := by rfl) : PE X (.Call (.Name x p) (e :: es) [] pos) (tCall sp [] E0 t) := by
  refine ⟨fun pins s σ H Q I h => wpAny_Call_Name_kw (ld_glob I hg hm ?_ hdb)⟩
  refine PySem.W.callWith_K (h₀ := X.base) I.ok.mod.kin hk (thn (ha.run pos pins s σ H _ I h) fun us s1 ⟨vs, H1, I1, r, q⟩ => ⟨I1.kIn, ?_⟩) he hpl
  have q1 : sp vs H1 Q E0 := by
    have q0 : sp (vs ++ []) H1 Q E0 := q
    rwa [List.append_nil] at q0
  have hl : us.length = ps.length := by rw [← r.length]; exact F.len _ _ _ _ q1
  have hb1 : BindsTo s1 fd ⟨us, []⟩ (ps.zip us) := by
    have := hb s1 us I1.kIn (by rw [List.append_nil]; exact hl)
    rwa [List.append_nil] at this
  refine wpAny_call (codeAny_mono (F.go X.A X.stack s1 H1 ⟨us, []⟩ us vs Q E0 gd hr I1.env0 hb1 r q1) fun r' s' hq => ?_)
  cases r' with
  | error e' => exact hq.elim
  | ok fl =>
    cases fl with
    | ret u => exact I1.after hq
    | next => exact hq.elim
    | brk => exact hq.elim
    | cont => exact hq.elim
end
def rRepr (K : PySem.W.Frag) : List V → Hp → VK → Prop := fun xs H Q => ∃ (a : Addr) (d : PyData), xs = [.ref a] ∧ Dp K H (.ref a) d ∧ d.showable = true ∧ d.hasDict = false ∧ d.depth ≤ 60 ∧ d.shown.length ≤ sizeLine ∧ Q (.str d.shown) H
theorem call_repr {X : Cx} {k : Nat} (gd : X.A.guards = some []) (hr : Room k X.A) : CallR X (.builtin "repr") (rRepr X.K) := by
  intro pins s σ H xs us Q I rv h
  obtain ⟨a, d, rfl, hd, hs, hn, hdep, hz, q⟩ := h
  obtain ⟨u, rfl, rx⟩ := vals1 rv
  cases rx
  obtain ⟨as, r⟩ := Dp.reads I d _ _ hd rfl
  exact repr_of_reads' r hs (PyData.noDict_hsm hn) gd (by have := hr.un; omega) (fun _ _ e => e) (fun h' t tk hk => ⟨.str d.shown, H, I.kept hk, ⟨t, rfl⟩, q⟩) hz
theorem lawG {P : Program} {w : World} {K : PySem.W.Frag} {mg mb : Str → Option Value} {k : Nat} {fa a : Addr} {fd : FuncData} {x : Str} {sp : Sp} {s1 : Shared} {vs : List Value} {ns : List Int}
    (kin : K.In s1.heap) (nsg : s1.heap.Ns mainGlobals mg) (nsb : s1.heap.Ns builtinsNs mb) (bb : ∀ y : Str, y ≠ "__name__" → mb y = bootBuiltins y) (lim : s1.heap.NoLimit) (g0 : s1.gens = #[])
    (la : s1.heap.get? a = some { cls := .type "list", data := .seq vs.toArray }) (hints : IntsAre vs ns) (few : ns.length ≤ sizeLine) (rm : Room k callerA)
    (F : ∀ base : Heap, K.In base → base.Ns mainGlobals mg → FnG P w K mg base k fa fd [x] sp) (bd : ∀ (s : Shared) (u : Value), BindsTo s fd ⟨[u], []⟩ [(x, u)])
    (wish : ∀ H : Hp, Only H → SqL K H a (ns.map V.int) → sp [.ref a] H (fun v _ => v = .bl true) E0) :
    codeAny (model P w) callerA (.call (.ref fa) ⟨[.ref a], []⟩) (fun r s' => r = .ok (.ret (.bool true)) ∧ OldK s1.heap s'.heap ∧ s'.os = s1.os ∧ AllBare s'.gens) s1 := by
  have rv := vals_ints hints
  have lv := hints.length
  have main : ∀ H : Hp, Only H → SqL K H a (ns.map V.int) → HOk P w H s1.heap → (∀ b, H b ≠ none → b = a) → (H a ≠ none → K.lookup a = none) →
      codeAny (model P w) callerA (.call (.ref fa) ⟨[.ref a], []⟩) (fun r s' => r = .ok (.ret (.bool true)) ∧ OldK s1.heap s'.heap ∧ s'.os = s1.os ∧ AllBare s'.gens) s1 := by
    intro H hO hS hok hA hK
    have out : ∀ {b : Addr} {o : Obj} {es : Array DictEntry} {ep : Nat}, s1.heap.get? b = some o → o.data = .dict es ep → H b = none := fun {b o es ep} e d => by
      cases q : H b with
      | none => rfl
      | some u =>
        obtain rfl : b = a := hA b (by rw [q]; simp)
        rw [la] at e; cases e
        exact nomatch (show Data.seq vs.toArray _ = Data.dict es ep from d)
    have nsH : ∀ {b : Addr} {m : Str → Option Value}, s1.heap.Ns b m → (hidT s1.heap H).Ns b m := fun {b m} ⟨o, es, ep, e, d, r⟩ => ⟨o, es, ep, hidT_get e (out e d), d, r⟩
    have kinH : K.In (hidT s1.heap H) := fun b o e => hidT_get (kin b o e) (by
      cases q : H b with
      | none => rfl
      | some u =>
        obtain rfl : b = a := hA b (by rw [q]; simp)
        rw [hK (by rw [q]; simp)] at e; cases e)
    have md : Mod K mg (hidT s1.heap H) := ⟨kinH, nsH nsg, ⟨mb, nsH nsb, bb⟩, let ⟨mc, h1, h2⟩ := lim; ⟨mc, nsH h1, h2⟩⟩
    have e0 : Env0 P w K mg (hidT s1.heap H) callerA [] s1 H :=
      ⟨rfl, md, fun b o e => of_hidT e, Nat.le_of_eq (hidT_size _ _), trivial, fun b hb => absurd (show b ∈ ([] : List Addr) from hb) (by simp), hok, .of_eq g0⟩
    refine codeAny_mono ((F _ kinH (nsH nsg)).go callerA [] s1 H ⟨[.ref a], []⟩ [.ref a] [.ref a] _ _ rfl rm e0 (bd s1 (.ref a)) (.cons rfl .nil) (wish H hO hS)) fun r s' h => ?_
    cases r with
    | error e => exact h.elim
    | ok fl =>
      cases fl with
      | next => exact h.elim
      | brk => exact h.elim
      | cont => exact h.elim
      | ret u =>
        obtain ⟨v, H', os, bare, un, hok', r', q⟩ := h
        obtain rfl : v = .bl true := q
        obtain rfl : u = Value.bool true := r'
        refine ⟨rfl, OldK.of_keep fun b o e => ?_, os, bare⟩
        rcases hO b with z | ⟨ob, xs, z⟩
        · exact un.keep b o e z (fun y => absurd (show b ∈ ([] : List Addr) from y) (by simp)) (by simp)
        · have e1 := (hok b _ z).1
          rw [e] at e1; cases e1
          exact (hok' b _ (un.frzs b o _ z)).1
  cases hk : K.lookup a with
  | some o =>
    have e := kin a o hk
    rw [la] at e
    cases e
    exact main (fun _ => none) (fun _ => .inl rfl) (.inr ⟨_, vs.toArray, _, hk, rfl, rfl, rfl, by rw [List.size_toArray, lv]; exact few, by simpa using rv⟩)
      (fun b u z => nomatch (show (none : Option HO) = some u from z)) (fun b z => absurd rfl z) fun z => absurd rfl z
  | none =>
    refine main (upd (fun _ => none) a (.frz { cls := .type "list", data := .seq vs.toArray } (.lst (ns.map V.int)))) (fun b => ?_) (.inl (.inr ⟨_, upd_same⟩)) (fun b u z => ?_) (fun b z => ?_) fun _ => hk
    · by_cases hb : b = a
      · subst hb; exact .inr ⟨_, _, upd_same⟩
      · exact .inl (upd_ne hb)
    · by_cases hb : b = a
      · subst hb
        rw [upd_same] at z
        cases z
        exact ⟨la, by rw [List.length_map]; exact few, vs, _, rv, la⟩
      · rw [upd_ne hb] at z; cases z
    · by_cases hb : b = a
      · exact hb
      · exact absurd (upd_ne hb) z
/-- the goal that k_head leaves, from the law's promise -/
theorem walkG {l : PySem.W.OpenLaw} {n k : Nat} {q : Program} {loose : List Str} {XP : (Str → Option Value) → Heap → Prop} {YP : World → Heap → Prop} {d : DefRec} {K : Params → PySem.W.Frag} {sp : PySem.W.Frag → Sp} {x : Str}
    (hn : l.most = some n) (hn2 : n ≤ sizeLine) (hdf : d.params.defaults = []) (hr : Room k callerA) (hY : ∀ (w : World) (h : Heap), YP w h → (K w.params).In h)
    (F : ∀ (w : World) (mg : Str → Option Value) (fa : Addr) (h : Heap), (K w.params).In h → h.Ns mainGlobals mg → mg d.name = some (.ref fa) →
      ∃ fd : FuncData, (∀ (s : Shared) (u : Value), BindsTo s fd ⟨[u], []⟩ [(x, u)]) ∧ ∀ base : Heap, (K w.params).In base → base.Ns mainGlobals mg → FnG l.prog w (K w.params) mg base k fa fd [x] (sp (K w.params)))
    (hsp : ∀ (K : PySem.W.Frag) (H : Hp) (a : Addr) (ns : List Int), ns.length ≤ n → (∀ z ∈ ns, Builtin.Int.intBits z ≤ 1048576) → Only H → SqL K H a (ns.map V.int) → sp K [.ref a] H (fun v _ => v = .bl true) E0) :
    PySem.W.WalkO q loose XP YP l.row.toRowW d [] (fun f vs => PySem.call f vs) := by
  refine Att.attach_callB hn hdf fun w s0 s1 mg mb fa o pm cd doc a vs ns G Y ho hd hcd hmg hobj hints hlen hbits hg => ?_
  obtain ⟨fd, hb, hF⟩ := F w mg fa _ (hY w _ Y) G.T.g hmg
  exact lawG (hY w _ Y) G.T.g G.T.b G.T.builtins G.T.nolimit hg hobj hints (Nat.le_trans hlen hn2) hr hF hb fun H hO hS => hsp (K w.params) H a ns hlen hbits hO hS
end Pr
namespace Pr
open PySem PySem.Spec PyProof.Rows L2
/-- a tuple of which it is known that it has no attributes of its own -/
def FT (H : Hp) (a : Addr) (xs : List V) : Prop := ∃ o : Obj, H a = some (.frz o (.tup xs)) ∧ o.dict = none
theorem FT.sq {K : PySem.W.Frag} {H : Hp} {a : Addr} {xs : List V} (h : FT H a xs) : SqT K H a xs := let ⟨o, e, _⟩ := h; .inl (.inr ⟨o, e⟩)
theorem FT.same {H H' : Hp} {a : Addr} {xs : List V} (e : Same H H') (h : FT H a xs) : FT H' a xs := let ⟨o, q, z⟩ := h; ⟨o, e _ _ q, z⟩
theorem same_sqT {K : PySem.W.Frag} {H H' : Hp} {a : Addr} {xs : List V} (e : Same H H') (h : SqT K H a xs) : SqT K H' a xs := by
  rcases h with (h | ⟨o, h⟩) | h
  · exact .inl (.inl (e _ _ h))
  · exact .inl (.inr ⟨o, e _ _ h⟩)
  · exact .inr h
section
variable {X : Cx}
def rTupF (K : PySem.W.Frag) : List V → Hp → VK → Prop := fun xs H Q => ∃ p ys, xs = [.ref p] ∧ SqL K H p ys ∧ ∀ l o, H l = none → o.dict = none → Q (.ref l) (upd H l (.frz o (.tup ys)))
theorem call_tupF : CallR X (.type "tuple") (rTupF X.K) := by
  intro pins s σ H xs us Q I r h
  obtain ⟨p, ys, rfl, hq, q⟩ := h
  obtain ⟨u, rfl, rx⟩ := vals1 r
  cases rx
  obtain ⟨its, r', pl, hz⟩ := I.list hq
  have hlen := r'.length
  refine call_tuple_list pl.isList (fun h' kp => ?_) (by simp only [List.size_toArray] <;> omega)
  have I1 : Inv X pins σ H { s with heap := h' } := I.kept (t' := s.toks) kp
  have I2 := I1.laid (t' := s.toks) (h' := h'.push { cls := .type "tuple", data := .seq its.toArray }) (a := h'.objs.size)
    (o := .frz { cls := .type "tuple", data := .seq its.toArray } (.tup ys)) (fun b o e => Heap.get?_push_of_some _ e) (Nat.le_refl _) ⟨Heap.get?_push_size _ rfl, hz, its, r', IsTup.new _ _⟩
  exact ⟨.ref h'.objs.size, _, I2, rfl, q _ _ (I1.hok.fresh (Nat.le_refl _)) rfl⟩
end
theorem tup_mul0 (l : Addr) (y : Value) (n : Nat) (dd : Option Addr) (sl : Array (Option Value)) (u : Tok) :
    Meets (Builtin.«tuple.__mul__» ⟨[.ref l, .int 0 u], []⟩) (fun _ R s => s.heap.get? l = some { cls := .type "tuple", dict := dd, data := .seq #[y] n, slots := sl } ∧
      R (.ok (.ret (Value.ref s.heap.objs.size))) { s with heap := s.heap.push { cls := Value.type "tuple", data := Data.seq #[] }, toks := s.toks }) :=
  .of_wp fun prog w A R s h => by
    obtain ⟨hp, g, d, tk, os⟩ := s
    obtain ⟨hl, h⟩ := h
    have f1 := AutoSeq1.idx_int
    wp_walk using AutoSeq1.wpAny_loadPart' hl
    exact ⟨_, rfl, h⟩
theorem tup_mul1 (l : Addr) (y : Value) (n : Nat) (dd : Option Addr) (sl : Array (Option Value)) (u : Tok) :
    Meets (Builtin.«tuple.__mul__» ⟨[.ref l, .int 1 u], []⟩) (fun _ R s => s.heap.get? l = some { cls := .type "tuple", dict := dd, data := .seq #[y] n, slots := sl } ∧ R (.ok (.ret (.ref l))) s) :=
  .of_wp fun prog w A R s h => by
    obtain ⟨hp, g, d, tk, os⟩ := s
    obtain ⟨hl, h⟩ := h
    have f1 := AutoSeq1.idx_int
    wp_walk using AutoSeq1.wpAny_loadPart' hl
    exact ⟨_, rfl, h⟩
section
variable {X : Cx}
def rRep1 (K : PySem.W.Frag) : R2 := fun x y H Q => ∃ l v, x = .ref l ∧ SqT K H l [v] ∧ ((y = .int 1 ∧ Q (.ref l) H) ∨ (y = .int 0 ∧ ∀ p, H p = none → Q (.ref p) (upd H p (.tup []))))
theorem op_rep1 : OpR X (binaryOp .Mult) (rRep1 X.K) := by
  intro pins s σ H x y v u Q I rx ry h
  obtain ⟨l, z, rfl, hT, h⟩ := h
  cases rx
  obtain ⟨its, r, ⟨⟨cls, dd, data, sl⟩, ho, hc, n, hd⟩, hs⟩ := I.tuple hT
  simp only at hc hd
  subst hc hd
  obtain ⟨a, rfl, ra⟩ := vals1 r
  rcases h with ⟨rfl, q⟩ | ⟨rfl, q⟩
  · obtain ⟨t, rfl⟩ := ry
    refine wpAny_binaryOp_repeat_ref (T := "tuple") (U := "int") (by decide) ⟨_, ho, rfl⟩ (fun s' => typeIs_int s' 1 t) noFill_tuple_mul F.fills_int_mul F.slot_int_rmul repeat_tuple F.slot_int_index.lookup
      (call_meets F.slot_int_rmul (typeIs_int s 1 t) F.entry_int_rmul (F.args_int_rmul_2 _ _) (int_rmul_tuple 1 t l #[a] n dd sl)
        ⟨ho, rfl, ⟨_, ho, rfl⟩, call_meets F.slot_tuple_mul ⟨_, ho, rfl⟩ F.entry_tuple_mul (F.args_tuple_mul_2 _ _) (tup_mul1 l a n dd sl t) ⟨ho, ?_⟩⟩)
    exact ⟨.ref l, H, I, rfl, q⟩
  · obtain ⟨t, rfl⟩ := ry
    refine wpAny_binaryOp_repeat_ref (T := "tuple") (U := "int") (by decide) ⟨_, ho, rfl⟩ (fun s' => typeIs_int s' 0 t) noFill_tuple_mul F.fills_int_mul F.slot_int_rmul repeat_tuple F.slot_int_index.lookup
      (call_meets F.slot_int_rmul (typeIs_int s 0 t) F.entry_int_rmul (F.args_int_rmul_2 _ _) (int_rmul_tuple 0 t l #[a] n dd sl)
        ⟨ho, rfl, ⟨_, ho, rfl⟩, call_meets F.slot_tuple_mul ⟨_, ho, rfl⟩ F.entry_tuple_mul (F.args_tuple_mul_2 _ _) (tup_mul0 l a n dd sl t) ⟨ho, ?_⟩⟩)
    refine ⟨.ref s.heap.objs.size, _, I.laid (t' := s.toks) (o := .tup []) (fun b ob q => Heap.get?_push_of_some _ q) (Nat.le_refl _) ?_, rfl, q _ (I.hok.fresh (Nat.le_refl _))⟩
    exact ⟨Nat.zero_le _, [], .nil, IsTup.new _ _⟩
end
theorem enum_newT (l : Addr) (items : Array Value) (n : Nat) (dct : Option Addr) (sl : Array (Option Value)) :
    Meets (Builtin.«enumerate.__new__» ⟨[.type "enumerate", .ref l], []⟩) (fun _ R s => s.heap.get? l = some { cls := .type "tuple", dict := dct, data := .seq items n, slots := sl } ∧
      R (.ok (.ret (.ref (s.heap.push { cls := .type "tuple_iterator", data := .fields #[.ref l, .int 0 0] }).objs.size)))
        { s with heap := (s.heap.push { cls := .type "tuple_iterator", data := .fields #[.ref l, .int 0 0] }).push { cls := .type "enumerate", data := .fields #[.none, .bool false, .ref s.heap.objs.size, rawInt 0, .none, .none] } }) :=
  .of_wp fun prog w A R s h => by
    obtain ⟨hp, g, d, tk, os⟩ := s; obtain ⟨hl, h⟩ := h
    have hsub := sub_enumerate
    have hL : Heap.IsTuple (Shared.heap ⟨hp, g, d, tk, os⟩) l items := ⟨_, hl, rfl, n, rfl⟩
    wp_walk using AutoSeq1.wpAny_loadPart' hl
    refine wpAny_stack_any fun st => wpAny_pure ?_
    split
    · rename_i c _ _ _ _ _
      cases (c == Value.type "enumerate") <;> (wp_walk using AutoSeq1.wpAny_loadPart' hl, wpAny_pyIter_tuple hL; exact ⟨_, rfl, h⟩)
    · wp_walk using AutoSeq1.wpAny_loadPart' hl, wpAny_pyIter_tuple hL
      exact ⟨_, rfl, h⟩
theorem call_enumT {prog : Program} {w : World} {A : Around} {E : Value → Shared → Prop} {s : Shared} {l : Addr} {items : Array Value} {Q : Value → Shared → Prop} (hL : s.heap.IsTuple l items)
    (h : ∀ h', IsEnum h' (s.heap.objs.size + 1) s.heap.objs.size 0 .none → h'.IsTupleIter s.heap.objs.size l 0 → h'.objs.size = s.heap.objs.size + 2 →
      (∀ b o, s.heap.get? b = some o → h'.get? b = some o) → Q (.ref (s.heap.objs.size + 1)) { s with heap := h' }) :
    wpAny (model prog w) A (call (.type "enumerate") [.ref l]) Q E s := by
  obtain ⟨⟨c, dct, dt, sl⟩, hl, hc, n, hd⟩ := hL
  simp only at hc hd
  subst hc hd
  refine callType_new F.called_enumerate (by decide) (F.typeCall_enumerate_1 _) (F.newCall_enumerate_1 _) (fun obj => F.args_object_init_2 obj _) F.entry_enumerate_new (enum_newT l items n dct sl) ⟨hl, ?_⟩
  generalize ho : ({ cls := .type "tuple_iterator", data := .fields #[.ref l, .int 0 0] } : Obj) = o1
  have f1 : o1.isFreed = false := by rw [← ho]; rfl
  generalize hp : ({ cls := .type "enumerate", data := .fields #[.none, .bool false, .ref s.heap.objs.size, rawInt 0, .none, .none] } : Obj) = o2
  have f2 : o2.isFreed = false := by rw [← hp]; rfl
  have hz : (s.heap.push o1).objs.size = s.heap.objs.size + 1 := Heap.size_push ..
  have hg := Heap.get?_push_size (s.heap.push o1) (o := o2) f2
  show _ ∧ _
  rw [hz] at hg ⊢
  have he : IsEnum ((s.heap.push o1).push o2) (s.heap.objs.size + 1) s.heap.objs.size 0 .none := by rw [hp.symm] at hg ⊢; exact hg
  refine ⟨⟨_, he, rfl⟩, h _ he ⟨_, Heap.get?_push_of_some _ (Heap.get?_push_size _ f1), by rw [← ho], by rw [← ho]; rfl⟩ (by rw [Heap.size_push, hz]) fun b o x => Heap.get?_push_of_some _ (Heap.get?_push_of_some _ x)⟩
/-- the tuple at a, each item in a new pair -/
def Itet (K : PySem.W.Frag) (a : Addr) : It :=
  ⟨fun i H => ∃ (xs : List V) (x : V), SqT K H a xs ∧ xs[i]? = some x, fun i H v H' => ∃ T x, v = .ref T ∧ H T = none ∧ H' = upd H T (.tup [.int (i : Nat), x]) ∧ ∀ xs, SqT K H a xs → xs[i]? = some x,
    fun i H => ∃ xs : List V, SqT K H a xs ∧ xs.length ≤ i⟩
theorem turn_enumT {P : Program} {w : World} {K : PySem.W.Frag} {elts : List Expr} {kk : Nat} {tpos : Pos} (a e it : Addr) :
    Turn P w K (.Tuple elts kk tpos) (Itet K a) [e, it] e (fun i h => (∃ old, IsEnum h e it ((i : Nat) : Int) old) ∧ h.IsTupleIter it a i ∧ e ≠ it) where
  mem := by simp
  obj := fun i h st b hb => by
    obtain ⟨⟨old, he⟩, ⟨o, ho, hc, hd⟩, _⟩ := st
    rcases (show b = e ∨ b = it by simpa using hb) with rfl | rfl
    · exact ⟨_, he, fun v q => nomatch q⟩
    · exact ⟨o, ho, fun v q => by rw [hd] at q; cases q⟩
  keep := fun i h h' st k => let ⟨⟨old, he⟩, hi, hne⟩ := st; ⟨⟨old, k e (by simp) _ he⟩, hi.at fun o q => k it (by simp) o q, hne⟩
  item := by
    intro X hP hw hK hc i pins s σ H E I hf st hg
    subst hP hw hK
    obtain ⟨⟨old, he⟩, hit, hne⟩ := st
    obtain ⟨xs, x, hq, hx⟩ := hg
    obtain ⟨its, rv, pt, hz⟩ := I.tuple hq
    have hT : s.heap.IsTuple a its.toArray := pt
    obtain ⟨u, hu, ru⟩ := rv.get hx
    have hel : e < s.heap.objs.size := Heap.lt_size he
    have hil : it < s.heap.objs.size := by obtain ⟨_, q, _⟩ := hit; exact Heap.lt_size q
    have nai : a ≠ it := fun z => by
      subst z
      obtain ⟨o1, q1, c1, _⟩ := hit
      obtain ⟨o2, q2, c2, _⟩ := hT
      rw [q1] at q2; cases q2
      rw [c1] at c2; exact absurd c2 (by decide)
    have nea : e ≠ a := fun z => by
      subst z
      obtain ⟨o2, q2, c2, _⟩ := hT
      have he' : s.heap.get? e = _ := he
      rw [he'] at q2; cases q2
      exact absurd (show Value.type "enumerate" = Value.type "tuple" from c2) (by decide)
    have hi : i < its.toArray.size := by
      have := (List.getElem?_eq_some_iff.mp hu).1
      simpa using this
    refine wpAny_pyNext_enum_itemD (Draws.tuple (A := X.A.in1) (I.ok.hd hc) it a nai its.toArray) he ⟨hit, hT⟩ hi hne (by simp [hne, nea]) fun y h' tk hy ho hit' hT' hsz hk => ?_
    obtain rfl : y = u := by
      have hy' : its.toArray[i]? = some y := hy
      rw [List.getElem?_toArray, hu] at hy'
      exact (Option.some.inj hy').symm
    refine ⟨_, rfl, wpAny_letOwnedTupleGo_enum (s := { s with heap := h', toks := tk + 1 }) ho fun h'' he' sb => ?_⟩
    have hT2 : h''.get? s.heap.objs.size = some { cls := .type "tuple", data := .seq #[.int i tk, y] } := (sb.2 _ (Nat.ne_of_gt hel)).trans hT'
    have new : ObjOk X.prog X.w (upd H s.heap.objs.size (.tup [.int (i : Nat), x])) h'' s.heap.objs.size (.tup [.int (i : Nat), x]) :=
      ⟨by show 2 ≤ sizeLine; decide, [.int i tk, y], .cons ⟨_, rfl⟩ (.cons ru .nil), ⟨_, hT2, rfl, _, rfl⟩⟩
    have I1 := I.turnedNew (t' := tk + 1) (ch := [e, it]) (fun b ob hb q => (sb.2 b (fun z => hb (by simp [z]))).trans (hk b ob (fun z => hb (by simp [z])) (fun z => hb (by simp [z])) q)) hf (Nat.le_refl _) new
    refine ⟨.ref s.heap.objs.size, _, I1, rfl, ⟨_, x, rfl, I.hok.fresh (Nat.le_refl _), rfl, fun ys hys => by rw [I.tuple_inj hys hq]; exact hx⟩, ⟨⟨y, ?_⟩, hit'.1.at fun o q => (sb.2 it (Ne.symm hne)).trans q, hne⟩, fun b hb => ?_⟩
    · rw [show ((i + 1 : Nat) : Int) = (i : Int) + 1 by omega]; exact he'
    · have hb' : b < s.heap.objs.size := by
        rcases (show b = e ∨ b = it by simpa using hb) with rfl | rfl
        · exact hel
        · exact hil
      rw [upd_ne (Nat.ne_of_lt hb')]
      exact (hf b hb).1
  done := by
    intro X hP hw hK hc i pins s σ H E I hf st hg
    subst hP hw hK
    obtain ⟨⟨old, he⟩, hit, hne⟩ := st
    obtain ⟨xs, hq, hx⟩ := hg
    obtain ⟨its, rv, pt, hz⟩ := I.tuple hq
    have hT : s.heap.IsTuple a its.toArray := pt
    obtain ⟨f0, f1, f2, f3, f4, f5⟩ := hf it (by simp)
    have hl := rv.length
    have hT : s.TypeIs (.ref e) "enumerate" := ⟨_, he, rfl⟩
    unfold pyNext
    refine wpAny_bind (wpAny_attempt (wpAny_callSpecial?_slot (name := Str.ofString "__next__") hT F.slot_enumerate_next (wpAny_call_entry F.slot_enumerate_next hT F.entry_enumerate_next ?_ (F.args_enumerate_next_1 _))))
    show wpAny _ _ (field (.ref e) 2 >>= _) _ _ _
    refine wpAny_bind (wpAny_field he rfl (x := .ref it) rfl ?_)
    refine wpAny_bind (wpAny_nextOf_tuple_end (I.ok.hd hc) hit pt (by simp; omega) fun h' x eb hx' => ?_)
    obtain ⟨o, ho, hcx⟩ := hx'
    refine wpAny_bind (wpAny_isInstance (T := "StopIteration") (b := true) ⟨o, ho, hcx⟩ isSubtype_stop ?_)
    exact wpAny_pure ⟨rfl, I.turned (t' := s.toks) (fun b o hb q => eb b o hb q) f0 f1 f3 f4 f5⟩
  self := fun A i s Q E st h => let ⟨⟨_, he⟩, _⟩ := st; wpAny_pyIter_enum he h
def iEnumT (K : PySem.W.Frag) (ta : TA) : TI := fun σ H R => ta σ H fun vs H1 => ∃ a xs, vs = [.ref a] ∧ SqT K H1 a xs ∧ R (Itet K a) H1
theorem pi_enumT {X : Cx} {e : Expr} {ta : TA} {p pos tpos : Pos} {elts : List Expr} {kk : Nat} (hg : Gl X "enumerate") (hm : X.mg "enumerate" = none) (ha : PA X [e] ta)
    (hs : starEach [e] X.env = [(false, eval e X.env)] := by rfl) : PI X (.Tuple elts kk tpos) (.Call (.Name "enumerate" p) [e] [] pos) (iEnumT X.K ta) := by
  refine ⟨fun pins s σ H R I h => Call_ (ld_blt I hg hm boot_enumerate (PyProof.Rows.callWith_type1 (thn (ha.run pos pins s σ H _ I h) fun us s1 ⟨vs, H1, I1, r1, a, xs, ex, hq, q⟩ => ?_) hs rfl))⟩
  subst ex
  obtain ⟨u, rfl, rx⟩ := vals1 r1
  cases rx
  obtain ⟨its, rv, pt, hz⟩ := I1.tuple hq
  refine call_enumT pt fun h' he hit hsz hk => wpAny_pyIter_enum he ?_
  refine ⟨s1.heap.objs.size + 1, [s1.heap.objs.size + 1, s1.heap.objs.size], _, _, H1, rfl, I1.kept (t' := s1.toks) hk, turn_enumT a (s1.heap.objs.size + 1) s1.heap.objs.size, ⟨⟨.none, he⟩, hit, Nat.succ_ne_self _⟩, fun b hb => ?_, q⟩
  have hle : s1.heap.objs.size ≤ b := by
    rcases (show b = s1.heap.objs.size + 1 ∨ b = s1.heap.objs.size by simpa using hb) with rfl | rfl
    · exact Nat.le_add_right _ _
    · exact Nat.le_refl _
  exact I1.fpOk hle (I1.hok.fresh hle)
theorem walk_enumT {K : PySem.W.Frag} {a : Addr} {xs : List V} : Walk (Itet K a) xs.length (fun H => SqT K H a xs) (YPair (fun i => some (.int (i : Nat))) (fun i => xs[i]?)) := by
  refine ⟨fun i _ hi q => ⟨xs, xs[i], q, by simp [hi]⟩, fun _ q => ⟨xs, q, Nat.le_refl _⟩, fun i H v H' _ q y => ?_⟩
  obtain ⟨T, x, h1, h2, h3, h4⟩ := y
  exact ⟨T, .int (i : Nat), x, h1, h2, h3, rfl, h4 xs q⟩
end Pr
namespace Pr
open PySem PySem.Spec PyProof.Rows L2
structure Shw (dep n : Nat) (d : PyData) : Prop where
  sh : d.showable = true
  nd : d.hasDict = false
  dp : d.depth ≤ dep
  ln : d.shown.length ≤ n
theorem Shw.mono {dep dep' n n' : Nat} {d : PyData} (h : Shw dep n d) (h1 : dep ≤ dep') (h2 : n ≤ n') : Shw dep' n' d := ⟨h.sh, h.nd, Nat.le_trans h.dp h1, Nat.le_trans h.ln h2⟩
theorem Shw.int {i : Int} {k : Nat} (h0 : 0 ≤ i) (hk : 0 < k) (hk2 : k ≤ 100) (h : i < 10 ^ k) : Shw 0 k (.int i) := by
  refine ⟨?_, by simp only [PyData.hasDict], by simp [PyData.depth], ?_⟩
  · simp only [PyData.showable, decide_eq_true_eq]
    by_cases hz : i.natAbs = 0
    · rw [hz]; decide
    · refine (Nat.log2_lt hz).mpr ?_
      have h1 : (i.natAbs : Int) < ((10 ^ k : Nat) : Int) := by
        rw [Int.natCast_pow]
        have : ((i.natAbs : Nat) : Int) = i := Int.natAbs_of_nonneg h0
        rw [this]; exact h
      have h2 : i.natAbs < 10 ^ k := by exact_mod_cast h1
      have h3 : (10 : Nat) ^ k ≤ 10 ^ 100 := Nat.pow_le_pow_right (by decide) hk2
      have h4 : (10 : Nat) ^ 100 < 2 ^ 1920 := by decide +kernel
      omega
  · simp only [PyData.shown]
    exact toString_length_le h0 hk h
theorem shownAll_map : ∀ ds : List PyData, PyData.shownAll ds = ds.map PyData.shown
  | [] => rfl
  | d :: r => by simp only [PyData.shownAll, List.map_cons, shownAll_map r]
theorem piled_le {n : Nat} : ∀ {ds : List PyData}, (∀ d ∈ ds, d.shown.length ≤ n) → piled (ds.map PyData.shown) ≤ ds.length * (n + 2)
  | [], _ => by simp [piled_nil]
  | d :: r, h => by
    have h1 := piled_le (ds := r) fun x hx => h x (List.mem_cons_of_mem _ hx)
    have h2 := h d List.mem_cons_self
    rw [List.map_cons, piled_cons, List.length_cons, Nat.succ_mul]
    omega
theorem showAll_of {dep n : Nat} : ∀ {ds : List PyData}, (∀ d ∈ ds, Shw dep n d) → PyData.showableAll ds = true ∧ PyData.hasDictAll ds = false ∧ PyData.depthAll ds ≤ dep
  | [], _ => ⟨by simp only [PyData.showableAll], by simp only [PyData.hasDictAll], by simp [PyData.depthAll]⟩
  | d :: r, h => by
    obtain ⟨h1, h2, h3⟩ := showAll_of (ds := r) fun x hx => h x (List.mem_cons_of_mem _ hx)
    have g := h d List.mem_cons_self
    refine ⟨by simp only [PyData.showableAll, g.sh, h1, Bool.and_self], by simp only [PyData.hasDictAll, g.nd, h2, Bool.or_self], ?_⟩
    simp only [PyData.depthAll]
    exact Nat.max_le.mpr ⟨g.dp, h3⟩
theorem tupleText_len (ts : List Str) : (tupleText ts).length ≤ piled ts + 3 := by
  unfold tupleText
  rw [strLen_append, strLen_append]
  have e1 : (("(" : Str)).length = 1 := by decide +kernel
  have e2 : ((if ts.length == 1 then ",)" else ")" : String) : Str).length ≤ 2 := by
    cases ts.length == 1 <;> decide +kernel
  by_cases h : ts = []
  · subst h
    have : (Str.join ", " ([] : List Str)).length = 0 := by decide +kernel
    omega
  · have := join_length_add ts h
    omega
theorem textFrom_le : ∀ (ts : List Str) (k : Nat) (acc : Str), (textFrom k acc ts).length ≤ acc.length + piled ts
  | [], k, acc => by simp [textFrom, piled_nil]
  | t :: r, k, acc => by
    have h := textFrom_le r (k + 1) (acc ++ (if k > 0 then ", " else "" : String) ++ t)
    rw [piled_cons]
    show (textFrom (k + 1) _ r).length ≤ _
    have e : ((if k > 0 then ", " else "" : String) : Str).length ≤ 2 := by split <;> decide +kernel
    rw [strLen_append, strLen_append] at h
    omega
theorem listText_len (ts : List Str) : (listText ts).length ≤ piled ts + 2 := by
  unfold listText
  rw [strLen_append]
  have h := textFrom_le ts 0 "["
  have e1 : (("[" : Str)).length = 1 := by decide +kernel
  have e2 : (("]" : Str)).length = 1 := by decide +kernel
  omega
theorem Shw.tuple {dep n m : Nat} {ds : List PyData} (h : ∀ d ∈ ds, Shw dep n d) (hm : ds.length ≤ m) : Shw (dep + 1) (m * (n + 2) + 3) (.tuple ds) := by
  obtain ⟨h1, h2, h3⟩ := showAll_of h
  refine ⟨by simp only [PyData.showable, h1], by simp only [PyData.hasDict, h2], by simp only [PyData.depth]; omega, ?_⟩
  simp only [PyData.shown]
  rw [shownAll_map]
  have a1 := tupleText_len (ds.map PyData.shown)
  have a2 := piled_le fun d hd => (h d hd).ln
  have a3 : ds.length * (n + 2) ≤ m * (n + 2) := Nat.mul_le_mul_right _ hm
  omega
theorem Shw.list {dep n m : Nat} {ds : List PyData} (h : ∀ d ∈ ds, Shw dep n d) (hm : ds.length ≤ m) : Shw (dep + 1) (m * (n + 2) + 3) (.list ds) := by
  obtain ⟨h1, h2, h3⟩ := showAll_of h
  refine ⟨by simp only [PyData.showable, h1], by simp only [PyData.hasDict, h2], by simp only [PyData.depth]; omega, ?_⟩
  simp only [PyData.shown]
  rw [shownAll_map]
  have a1 := listText_len (ds.map PyData.shown)
  have a2 := piled_le fun d hd => (h d hd).ln
  have a3 : ds.length * (n + 2) ≤ m * (n + 2) := Nat.mul_le_mul_right _ hm
  omega
/-- only what stands at a and c may have changed -/
def But (a c : Addr) (H H' : Hp) : Prop := ∀ b o, b ≠ a → b ≠ c → H b = some o → H' b = some o
theorem But.refl (a c : Addr) (H : Hp) : But a c H H := fun _ _ _ _ h => h
theorem But.trans {a c : Addr} {H H1 H2 : Hp} (x : But a c H H1) (y : But a c H1 H2) : But a c H H2 := fun b o h1 h2 h => y b o h1 h2 (x b o h1 h2 h)
theorem But.of {a c : Addr} {H H' : Hp} (x : Same H H') : But a c H H' := fun b o _ _ h => x b o h
theorem same_new {H : Hp} {p : Addr} {o : HO} (h : H p = none) : Same H (upd H p o) := fun b x e => by
  rw [upd_ne (ne_of_none e h)]; exact e
/-- the deck at a, its cells at c, m draws may still be made -/
def Deck (H : Hp) (a c : Addr) (m : Nat) : Prop :=
  ∃ (cells : List Int) (n : Nat), H a = some (.lst [.ref c, .int (n : Int)]) ∧ H c = some (.lst (cells.map V.int)) ∧ a ≠ c ∧ cells.length ≤ 63 ∧ n + m ≤ 1000000
theorem Deck.same {H H' : Hp} {a c : Addr} {m : Nat} (e : Same H H') (h : Deck H a c m) : Deck H' a c m :=
  let ⟨cs, n, h1, h2, h3⟩ := h; ⟨cs, n, e _ _ h1, e _ _ h2, h3⟩
theorem Deck.less {H : Hp} {a c : Addr} {m m' : Nat} (h : Deck H a c m) (z : m' ≤ m) : Deck H a c m' :=
  let ⟨cs, n, h1, h2, h3, h4, h5⟩ := h; ⟨cs, n, h1, h2, h3, h4, by omega⟩
theorem Deck.apart {H : Hp} {a c : Addr} {m : Nat} (h : Deck H a c m) {b : Addr} {o : HO} (e : H b = some o) (ho : ∀ xs, o ≠ .lst xs) : b ≠ a ∧ b ≠ c := by
  obtain ⟨cs, n, h1, h2, _⟩ := h
  exact ⟨ne_of e h1 (ho _), ne_of e h2 (ho _)⟩
theorem Deck.fresh {H : Hp} {a c : Addr} {m : Nat} (h : Deck H a c m) {b : Addr} (e : H b = none) : b ≠ a ∧ b ≠ c := by
  obtain ⟨cs, n, h1, h2, _⟩ := h
  exact ⟨Ne.symm (ne_of_none h1 e), Ne.symm (ne_of_none h2 e)⟩
theorem FT.but {H H' : Hp} {a c p : Addr} {m : Nat} {xs : List V} (d : Deck H a c m) (b : But a c H H') (h : FT H p xs) : FT H' p xs := by
  obtain ⟨o, e, z⟩ := h
  have q := d.apart e (fun _ => by intro z; cases z)
  exact ⟨o, b _ _ q.1 q.2 e, z⟩
/-- a panel at p -/
def PanAt (H : Hp) (p : Addr) (pan : List (List Int)) : Prop := ∃ qs : List Addr, FT H p (qs.map V.ref) ∧ Paired (fun q l => FT H q (l.map V.int)) qs pan
theorem PanAt.same {H H' : Hp} {p : Addr} {pan : List (List Int)} (e : Same H H') (h : PanAt H p pan) : PanAt H' p pan :=
  let ⟨qs, h1, h2⟩ := h; ⟨qs, h1.same e, h2.mono fun _ _ x => x.same e⟩
theorem PanAt.but {H H' : Hp} {a c p : Addr} {m : Nat} {pan : List (List Int)} (d : Deck H a c m) (b : But a c H H') (h : PanAt H p pan) : PanAt H' p pan :=
  let ⟨qs, h1, h2⟩ := h; ⟨qs, h1.but d b, h2.mono fun _ _ x => x.but d b⟩
theorem paired_get {α β : Type} {F : α → β → Prop} : ∀ {l1 : List α} {l2 : List β}, Paired F l1 l2 → ∀ (i : Nat) (y : β), l2[i]? = some y → ∃ x, l1[i]? = some x ∧ F x y
  | _, _, .nil, i, y, h => by simp at h
  | _, _, .cons r t, 0, y, h => by simp at h; subst h; exact ⟨_, rfl, r⟩
  | _, _, .cons r t, i + 1, y, h => by
    obtain ⟨x, h1, h2⟩ := paired_get t i y (by simpa using h)
    exact ⟨x, by simpa using h1, h2⟩
/-- what the document calls a panel of at most ten buttons -/
structure Good (pan : List (List Int)) : Prop where
  pos : 1 ≤ pan.length
  few : pan.length ≤ 10
  up : ∀ l ∈ pan, l.Pairwise (· < ·)
  rng : ∀ l ∈ pan, ∀ x ∈ l, 0 ≤ x ∧ x < (pan.length : Int)
  own : ∀ (i : Nat) (l : List Int), pan[i]? = some l → (i : Int) ∉ l
def dInts (l : List Int) : PyData := .tuple (l.map PyData.int)
def dPan (pan : List (List Int)) : PyData := .tuple (pan.map dInts)
section
variable {K : PySem.W.Frag} {H : Hp}
theorem dpAll_ints : ∀ l : List Int, DpAll K H (l.map V.int) (l.map PyData.int)
  | [] => .nil
  | x :: r => .cons (.int x) (dpAll_ints r)
theorem dp_ints {q : Addr} {l : List Int} (h : SqT K H q (l.map V.int)) : Dp K H (.ref q) (dInts l) := .tup h (dpAll_ints l)
theorem dpAll_pan : ∀ {qs : List Addr} {pan : List (List Int)}, Paired (fun q l => FT H q (l.map V.int)) qs pan → DpAll K H (qs.map V.ref) (pan.map dInts)
  | _, _, .nil => .nil
  | _, _, .cons r t => .cons (dp_ints r.sq) (dpAll_pan t)
theorem PanAt.dp {p : Addr} {pan : List (List Int)} (h : PanAt H p pan) : Dp K H (.ref p) (dPan pan) := by
  obtain ⟨qs, h1, h2⟩ := h
  exact .tup h1.sq (dpAll_pan h2)
end
theorem pw_length {n : Nat} : ∀ {l : List Int} {lo : Int}, l.Pairwise (· < ·) → (∀ x ∈ l, lo ≤ x ∧ x < lo + n) → l.length ≤ n := by
  induction n with
  | zero =>
    intro l lo _ h
    cases l with
    | nil => exact Nat.le_refl _
    | cons x r => have := h x List.mem_cons_self; omega
  | succ n ih =>
    intro l lo hp h
    cases l with
    | nil => exact Nat.zero_le _
    | cons x r =>
      have hx := h x List.mem_cons_self
      rw [List.pairwise_cons] at hp
      have := ih (l := r) (lo := lo + 1) hp.2 fun y hy => by
        have h1 := hp.1 y hy
        have h2 := h y (List.mem_cons_of_mem _ hy)
        omega
      rw [List.length_cons]; omega
theorem shw_ints {l : List Int} {m : Nat} (hl : l.length ≤ m) (h : ∀ x ∈ l, 0 ≤ x ∧ x < 10) : Shw 1 (m * 3 + 3) (dInts l) := by
  refine Shw.tuple (fun d hd => ?_) (by rw [List.length_map]; exact hl)
  obtain ⟨x, hx, rfl⟩ := List.mem_map.mp hd
  exact Shw.int (h x hx).1 (by decide) (by decide) (h x hx).2
theorem Good.shw {pan : List (List Int)} (g : Good pan) : Shw 2 353 (dPan pan) := by
  have := Shw.tuple (dep := 1) (n := 33) (m := 10) (ds := pan.map dInts) (fun d hd => ?_) (by rw [List.length_map]; exact g.few)
  · exact this
  · obtain ⟨l, hl, rfl⟩ := List.mem_map.mp hd
    have hf := g.few
    refine shw_ints (m := 10) (pw_length (n := 10) (lo := 0) (g.up l hl) fun x hx => ?_) fun x hx => ?_
    · have := g.rng l hl x hx; omega
    · have := g.rng l hl x hx; omega
end Pr
namespace Pr
open PySem PySem.Spec PyProof.Rows L2
def intL (n : Nat) : List Int := (List.range n).map fun i : Nat => (i : Int)
theorem mem_intL {n : Nat} {x : Int} : x ∈ intL n ↔ 0 ≤ x ∧ x < (n : Int) := by
  unfold intL
  rw [List.mem_map]
  constructor
  · rintro ⟨i, hi, rfl⟩
    have := List.mem_range.mp hi
    omega
  · rintro ⟨h0, h1⟩
    exact ⟨x.toNat, List.mem_range.mpr (by omega), Int.toNat_of_nonneg h0⟩
theorem intL_up (n : Nat) : (intL n).Pairwise (· < ·) := by
  unfold intL
  rw [List.pairwise_map]
  exact List.pairwise_lt_range.imp fun {a b} (h : a < b) => by omega
/-- a state of n buttons -/
structure Asc (n : Nat) (st : List Int) : Prop where
  up : st.Pairwise (· < ·)
  rng : ∀ x ∈ st, 0 ≤ x ∧ x < (n : Int)
theorem Asc.nil (n : Nat) : Asc n [] := ⟨List.Pairwise.nil, fun _ h => by cases h⟩
theorem Asc.full (n : Nat) : Asc n (intL n) := ⟨intL_up n, fun _ h => mem_intL.mp h⟩
theorem Asc.filter (n : Nat) (f : Int → Bool) : Asc n ((intL n).filter f) := ⟨(intL_up n).filter f, fun _ h => mem_intL.mp (List.mem_filter.mp h).1⟩
theorem Asc.len {n : Nat} {st : List Int} (h : Asc n st) : st.length ≤ n := pw_length (lo := 0) h.up fun x hx => by have := h.rng x hx; omega
theorem asc_ext : ∀ {l1 l2 : List Int}, l1.Pairwise (· < ·) → l2.Pairwise (· < ·) → (∀ x, x ∈ l1 ↔ x ∈ l2) → l1 = l2
  | [], [], _, _, _ => rfl
  | [], y :: r, _, _, h => absurd ((h y).mpr List.mem_cons_self) (by simp)
  | x :: r, [], _, _, h => absurd ((h x).mp List.mem_cons_self) (by simp)
  | x :: r, y :: t, h1, h2, h => by
    rw [List.pairwise_cons] at h1 h2
    have exy : x = y := by
      rcases List.mem_cons.mp ((h x).mp List.mem_cons_self) with e | e
      · exact e
      · rcases List.mem_cons.mp ((h y).mpr List.mem_cons_self) with e' | e'
        · exact e'.symm
        · have a1 := h2.1 x e
          have a2 := h1.1 y e'
          omega
    subst exy
    have : r = t := asc_ext h1.2 h2.2 fun z => by
      constructor
      · intro hz
        rcases List.mem_cons.mp ((h z).mp (List.mem_cons_of_mem _ hz)) with e | e
        · have := h1.1 z hz; omega
        · exact e
      · intro hz
        rcases List.mem_cons.mp ((h z).mpr (List.mem_cons_of_mem _ hz)) with e | e
        · have := h2.1 z hz; omega
        · exact e
    rw [this]
theorem Asc.eq {n : Nat} {st : List Int} (h : Asc n st) : (intL n).filter (fun x => decide (x ∈ st)) = st :=
  asc_ext ((intL_up n).filter _) h.up fun x => by
    rw [List.mem_filter, decide_eq_true_eq, mem_intL]
    exact ⟨fun q => q.2, fun q => ⟨h.rng x q, q⟩⟩
def pressM (pan : List (List Int)) (st : List Int) (b : Int) : List Int := (intL pan.length).filter fun x => decide (x = b ∨ (x ∈ st ∧ x ∉ pan.getD b.toNat []))
theorem pressM_asc (pan : List (List Int)) (st : List Int) (b : Int) : Asc pan.length (pressM pan st b) := Asc.filter _ _
theorem mem_pressM {pan : List (List Int)} {st : List Int} {b x : Int} : x ∈ pressM pan st b ↔ (0 ≤ x ∧ x < (pan.length : Int)) ∧ (x = b ∨ (x ∈ st ∧ x ∉ pan.getD b.toNat [])) := by
  unfold pressM
  rw [List.mem_filter, decide_eq_true_eq, mem_intL]
/-- what press_button makes: the kept ones and the button, sorted -/
theorem press_sorted {pan : List (List Int)} {st : List Int} {b : Int} {ns : List Int} (hs : Asc pan.length st) (h0 : 0 ≤ b) (h1 : b < (pan.length : Int))
    (hp : ns.Perm (st.filter (fun x => decide (x ≠ b ∧ x ∉ pan.getD b.toNat [])) ++ [b])) (hle : ns.Pairwise (· ≤ ·)) : ns = pressM pan st b := by
  have nd0 : (st.filter (fun x => decide (x ≠ b ∧ x ∉ pan.getD b.toNat [])) ++ [b]).Nodup := by
    refine List.nodup_append.mpr ⟨(hs.up.imp fun {x y} (q : x < y) => by omega : st.Nodup).filter _, by simp, fun x hx y hy e => ?_⟩
    rw [List.mem_singleton] at hy
    have := (List.mem_filter.mp hx).2
    rw [decide_eq_true_eq] at this
    exact this.1 (e.trans hy)
  have nd : ns.Nodup := hp.nodup_iff.mpr nd0
  have up : ns.Pairwise (· < ·) := (hle.and nd).imp fun {x y} (q : x ≤ y ∧ x ≠ y) => by omega
  refine asc_ext up (pressM_asc pan st b).up fun x => ?_
  rw [hp.mem_iff, mem_pressM, List.mem_append, List.mem_filter, decide_eq_true_eq, List.mem_singleton]
  constructor
  · rintro (⟨a1, a2⟩ | a)
    · exact ⟨hs.rng x a1, .inr ⟨a1, a2.2⟩⟩
    · subst a; exact ⟨⟨h0, h1⟩, .inl rfl⟩
  · rintro ⟨_, a | a⟩
    · exact .inr a
    · by_cases e : x = b
      · exact .inr e
      · exact .inl ⟨a.1, e, a.2⟩
end Pr
namespace Pr
open PySem PySem.Spec PyProof.Rows L2
theorem Good.own' {pan : List (List Int)} (g : Good pan) {b : Int} (h0 : 0 ≤ b) (h1 : b < (pan.length : Int)) : b ∉ pan.getD b.toNat [] := by
  have hb : b.toNat < pan.length := by omega
  have := g.own b.toNat pan[b.toNat] (List.getElem?_eq_getElem hb)
  rw [List.getD_eq_getElem?_getD, List.getElem?_eq_getElem hb]
  rw [Int.toNat_of_nonneg h0] at this
  exact this
def dStrs (l : List Str) : PyData := .tuple (l.map PyData.str)
theorem int_get {os : List Int} {k : Nat} {x : V} (h : (os.map V.int)[k]? = some x) : ∃ z, os[k]? = some z ∧ x = .int z := by
  rw [List.getElem?_map] at h
  cases e : os[k]? with
  | none => rw [e] at h; cases h
  | some z => rw [e] at h; exact ⟨z, rfl, (Option.some.inj h).symm⟩
theorem gen_heap {X : Hp} {R : Hp → Prop} (C : Hp → Prop) (hX : C X) (h : ∀ H', C H' → R H') : R X := h X hX
theorem gen_name {i : Nat} {v : V} {σ : L2.St} {X : Hp} {D : L2.St → Hp → Prop} (C : Hp → Prop) (hX : C X) (h : ∀ H', C H' → gName i v σ H' D) : gName i v σ X D := h X hX
theorem tyes {σ : L2.St} {H : Hp} {Q : Bool → Hp → Prop} (h : Q true H) : tYes σ H Q := h
theorem inV_ints {b : Int} (l : List Int) : inV (.int b) (l.map V.int) = decide (b ∈ l) := by
  unfold inV
  rw [List.any_map, Bool.eq_iff_iff, List.any_eq_true, decide_eq_true_eq]
  constructor
  · rintro ⟨x, hx, e⟩
    have e' : x = b := by simpa [eqV] using e
    rw [← e']; exact hx
  · intro h
    exact ⟨b, h, by simp [eqV]⟩
theorem flat_ints : ∀ l : List Int, (l.map V.int).all flatV = true
  | [] => rfl
  | x :: r => by rw [List.map_cons, List.all_cons, flat_ints r]; rfl
end Pr
namespace Pr
open PySem PySem.Spec PyProof.Rows L2
theorem nodup_few : ∀ (m : Nat) (l : List Int), l.Nodup → (∀ x ∈ l, 0 ≤ x ∧ x < (m : Int)) → l.length ≤ m
  | 0, l, _, h => by
    cases l with
    | nil => exact Nat.le_refl _
    | cons x r => have := h x List.mem_cons_self; omega
  | m + 1, l, hn, h => by
    have ih := nodup_few m (l.erase (m : Int)) (hn.erase _) fun x hx => by
      have h1 := (hn.mem_erase_iff.mp hx)
      have h2 := h x h1.2
      have h3 := h1.1
      omega
    have hl := List.length_erase (a := (m : Int)) (l := l)
    split at hl <;> omega
end Pr
namespace Pr
open PySem PySem.Spec PyProof.Rows L2
def PanT (K : PySem.W.Frag) (H : Hp) (p : Addr) (pan : List (List Int)) : Prop := ∃ qs : List Addr, SqT K H p (qs.map V.ref) ∧ Paired (fun q l => SqT K H q (l.map V.int)) qs pan
section
variable {K : PySem.W.Frag} {H H' : Hp} {p : Addr} {pan : List (List Int)}
theorem PanT.same (e : Same H H') (h : PanT K H p pan) : PanT K H' p pan :=
  let ⟨qs, h1, h2⟩ := h; ⟨qs, same_sqT e h1, h2.mono fun _ _ x => same_sqT e x⟩
theorem PanAt.t (h : PanAt H p pan) : PanT K H p pan :=
  let ⟨qs, h1, h2⟩ := h; ⟨qs, h1.sq, h2.mono fun _ _ x => x.sq⟩
theorem panT_at (h : PanT K H p pan) {b : Int} (h0 : 0 ≤ b) (h1 : b < (pan.length : Int)) :
    ∃ (qs : List Addr) (q : Addr), SqT K H p (qs.map V.ref) ∧ atI (qs.map V.ref) b = some (.ref q) ∧ SqT K H q ((pan.getD b.toNat []).map V.int) ∧ qs.length = pan.length := by
  obtain ⟨qs, hq, hqs⟩ := h
  obtain ⟨n, rfl⟩ : ∃ n : Nat, b = (n : Int) := ⟨b.toNat, (Int.toNat_of_nonneg h0).symm⟩
  have hn : n < pan.length := by omega
  obtain ⟨q', g1, g2⟩ := paired_get hqs n pan[n] (List.getElem?_eq_getElem hn)
  refine ⟨qs, q', hq, atI_nat (by rw [List.getElem?_map, g1]; rfl), ?_, hqs.length⟩
  rw [Int.toNat_natCast, List.getD_eq_getElem?_getD, List.getElem?_eq_getElem hn]
  exact g2
theorem PanT.len (h : PanT K H p pan) : ∃ xs : List V, SqT K H p xs ∧ xs.length = pan.length :=
  let ⟨qs, h1, h2⟩ := h; ⟨_, h1, by rw [List.length_map, h2.length]⟩
theorem dpAll_panT : ∀ {qs : List Addr} {pan : List (List Int)}, Paired (fun q l => SqT K H q (l.map V.int)) qs pan → DpAll K H (qs.map V.ref) (pan.map dInts)
  | _, _, .nil => .nil
  | _, _, .cons r t => .cons (dp_ints r) (dpAll_panT t)
theorem PanT.dp (h : PanT K H p pan) : Dp K H (.ref p) (dPan pan) := let ⟨_, h1, h2⟩ := h; .tup h1 (dpAll_panT h2)
end
end Pr
namespace Pr
open PySem PySem.Spec PyProof.Rows L2
def Rel (pan : List (List Int)) (st : List Int) (x y : Int) : Prop := x ∈ st ∧ y ∈ st ∧ y ∈ pan.getD x.toNat []
def Pth (pan : List (List Int)) (st : List Int) : Nat → Int → Int → Prop
  | 0, x, y => x = y
  | m + 1, x, y => ∃ z, Rel pan st x z ∧ Pth pan st m z y
section
variable {pan : List (List Int)} {st : List Int}
theorem Pth.join : ∀ {a b : Nat} {x y z : Int}, Pth pan st a x y → Pth pan st b y z → Pth pan st (a + b) x z
  | 0, b, x, y, z, h1, h2 => by rw [Nat.zero_add]; rw [show x = y from h1]; exact h2
  | a + 1, b, x, y, z, ⟨u, r, h1⟩, h2 => by
    rw [show a + 1 + b = (a + b) + 1 by omega]
    exact ⟨u, r, Pth.join h1 h2⟩
theorem Pth.split : ∀ {a b : Nat} {x z : Int}, Pth pan st (a + b) x z → ∃ y, Pth pan st a x y ∧ Pth pan st b y z
  | 0, b, x, z, h => ⟨x, rfl, by rw [Nat.zero_add] at h; exact h⟩
  | a + 1, b, x, z, h => by
    rw [show a + 1 + b = (a + b) + 1 by omega] at h
    obtain ⟨u, r, h⟩ := h
    obtain ⟨y, h1, h2⟩ := Pth.split h
    exact ⟨y, ⟨u, r, h1⟩, h2⟩
theorem Pth.one {x y : Int} (r : Rel pan st x y) : Pth pan st 1 x y := ⟨y, r, rfl⟩
theorem Pth.ends : ∀ {m : Nat} {x y : Int}, Pth pan st (m + 1) x y → x ∈ st ∧ y ∈ st
  | 0, x, y, ⟨z, r, h⟩ => ⟨r.1, by rw [← show z = y from h]; exact r.2.1⟩
  | m + 1, x, y, ⟨z, r, h⟩ => ⟨r.1, (Pth.ends h).2⟩
end
def Closed (pan : List (List Int)) (C : List Int) : Prop := ∀ b ∈ C, ∃ c ∈ pan.getD b.toNat [], c ∈ C
structure IsHeld (pan : List (List Int)) (st hs : List Int) : Prop where
  up : hs.Pairwise (· < ·)
  sub : ∀ x ∈ hs, x ∈ st
  closed : Closed pan hs
  most : ∀ C : List Int, Closed pan C → (∀ x ∈ C, x ∈ st) → ∀ x ∈ C, x ∈ hs
def relB (pan : List (List Int)) (os : List Int) (b : Int) : Bool := (pan.getD b.toNat []).any fun c => decide (c ∈ os)
theorem relB_iff {pan : List (List Int)} {os : List Int} {b : Int} : relB pan os b = true ↔ ∃ c ∈ pan.getD b.toNat [], c ∈ os := by
  unfold relB
  rw [List.any_eq_true]
  exact ⟨fun ⟨c, h1, h2⟩ => ⟨c, h1, of_decide_eq_true h2⟩, fun ⟨c, h1, h2⟩ => ⟨c, h1, decide_eq_true h2⟩⟩
/-- on the way to the held buttons -/
structure Hold (pan : List (List Int)) (st hs : List Int) : Prop where
  up : hs.Pairwise (· < ·)
  sub : ∀ x ∈ hs, x ∈ st
  most : ∀ C : List Int, Closed pan C → (∀ x ∈ C, x ∈ st) → ∀ x ∈ C, x ∈ hs
theorem Hold.step {pan : List (List Int)} {st hs : List Int} (h : Hold pan st hs) : Hold pan st (hs.filter (relB pan hs)) := by
  refine ⟨h.up.filter _, fun x hx => h.sub x (List.mem_filter.mp hx).1, fun C hC hs' x hx => List.mem_filter.mpr ⟨h.most C hC hs' x hx, relB_iff.mpr ?_⟩⟩
  obtain ⟨c, h1, h2⟩ := hC x hx
  exact ⟨c, h1, h.most C hC hs' c h2⟩
theorem Hold.done {pan : List (List Int)} {st hs : List Int} (h : Hold pan st hs) (hl : ¬ (hs.filter (relB pan hs)).length < hs.length) : IsHeld pan st hs := by
  have e : (hs.filter (relB pan hs)).length = hs.length := Nat.le_antisymm (List.length_filter_le _ _) (by omega)
  exact ⟨h.up, h.sub, fun b hb => relB_iff.mp (List.length_filter_eq_length_iff.mp e b hb), h.most⟩
/-- rows[x] holds the ends of ways of at most 2 ^ k links, and ends of ways only -/
structure Rch (pan : List (List Int)) (st : List Int) (k : Nat) (rows : List (List Int)) : Prop where
  len : rows.length = pan.length
  sound : ∀ (x : Nat) (l : List Int) (y : Int), rows[x]? = some l → y ∈ l → ∃ m, 1 ≤ m ∧ Pth pan st m (x : Int) y
  full : ∀ (x : Nat) (l : List Int) (y : Int) (m : Nat), rows[x]? = some l → 1 ≤ m → m ≤ 2 ^ k → Pth pan st m (x : Int) y → y ∈ l
theorem Rch.rng {pan : List (List Int)} {st : List Int} {k : Nat} {rows : List (List Int)} (h : Rch pan st k rows) (hs : ∀ x ∈ st, 0 ≤ x ∧ x < (pan.length : Int)) {x : Nat} {l : List Int} (hl : rows[x]? = some l) {y : Int} (hy : y ∈ l) : 0 ≤ y ∧ y < (pan.length : Int) := by
  obtain ⟨m, hm, p⟩ := h.sound x l y hl hy
  obtain ⟨m, rfl⟩ : ∃ k, m = k + 1 := ⟨m - 1, by omega⟩
  exact hs y (Pth.ends p).2
theorem Rch.next {pan : List (List Int)} {st : List Int} {k : Nat} {rows rows' : List (List Int)} (h : Rch pan st k rows) (hs : ∀ x ∈ st, 0 ≤ x ∧ x < (pan.length : Int)) (hl : rows'.length = rows.length)
    (hm : ∀ (x : Nat) (l l' : List Int), rows[x]? = some l → rows'[x]? = some l' → ∀ y, y ∈ l' ↔ (y ∈ l ∨ ∃ z ∈ l, y ∈ rows.getD z.toNat [])) : Rch pan st (k + 1) rows' := by
  have get : ∀ (x : Nat) (l' : List Int), rows'[x]? = some l' → ∃ l, rows[x]? = some l := fun x l' hx => by
    have := (List.getElem?_eq_some_iff.mp hx).1
    exact ⟨rows[x], List.getElem?_eq_getElem (by omega)⟩
  have nth : ∀ (z : Int), 0 ≤ z → z < (pan.length : Int) → rows[z.toNat]? = some (rows.getD z.toNat []) := fun z h0 h1 => by
    have : z.toNat < rows.length := by have := h.len; omega
    rw [List.getD_eq_getElem?_getD, List.getElem?_eq_getElem this]; rfl
  refine ⟨hl.trans h.len, fun x l' y hx hy => ?_, fun x l' y m hx h1 h2 hp => ?_⟩
  · obtain ⟨l, hl'⟩ := get x l' hx
    rcases (hm x l l' hl' hx y).mp hy with q | ⟨z, hz, q⟩
    · exact h.sound x l y hl' q
    · obtain ⟨a, ha, pa⟩ := h.sound x l z hl' hz
      have zr := h.rng hs hl' hz
      obtain ⟨b, hb, pb⟩ := h.sound z.toNat _ y (nth z zr.1 zr.2) q
      rw [Int.toNat_of_nonneg zr.1] at pb
      exact ⟨a + b, by omega, pa.join pb⟩
  · obtain ⟨l, hl'⟩ := get x l' hx
    refine (hm x l l' hl' hx y).mpr ?_
    by_cases hk : m ≤ 2 ^ k
    · exact .inl (h.full x l y m hl' h1 hk hp)
    · have e2 : 2 ^ (k + 1) = 2 ^ k + 2 ^ k := by rw [Nat.pow_succ]; omega
      have p2 : 1 ≤ 2 ^ k := Nat.one_le_two_pow
      rw [show m = 2 ^ k + (m - 2 ^ k) by omega] at hp
      obtain ⟨z, pa, pb⟩ := Pth.split hp
      have hz := h.full x l z (2 ^ k) hl' p2 (Nat.le_refl _) pa
      have zr := h.rng hs hl' hz
      refine .inr ⟨z, hz, h.full z.toNat _ y (m - 2 ^ k) (nth z zr.1 zr.2) (by omega) (by omega) ?_⟩
      rw [Int.toNat_of_nonneg zr.1]; exact pb
end Pr
namespace K48
open PySem PySem.Spec PyProof.Rows L2 Pr
def topS (i : Nat) : Stmt := PySem.Challenge.pw_pressrelease_k48_batches_attempted.main.body.getD i (.Pass ⟨0, 0, 0, 0⟩)
abbrev sWl : Stmt := topS 19
abbrev sLi : Stmt := topS 20
abbrev sUn : Stmt := topS 21
abbrev sBtn : Stmt := topS 25
abbrev sBtnT : Stmt := topS 26
abbrev sPErr : Stmt := topS 27
abbrev sPress : Stmt := topS 28
abbrev sAny : Stmt := topS 30
abbrev sHeld : Stmt := topS 31
abbrev sChkP : Stmt := topS 40
abbrev sChkS : Stmt := topS 41
abbrev sChkB : Stmt := topS 42
abbrev sIsV : Stmt := topS 43
abbrev sRows : Stmt := topS 23
abbrev sWay : Stmt := topS 32
abbrev sIsE : Stmt := topS 44
abbrev sCopy : Stmt := topS 45
abbrev sDeck : Stmt := topS 48
abbrev sDraw : Stmt := topS 49
abbrev sPanel : Stmt := topS 50
abbrev sState0 : Stmt := topS 51
abbrev sPressed : Stmt := topS 52
abbrev sChanged : Stmt := topS 53
abbrev sAfter : Stmt := topS 54
abbrev sEdit : Stmt := topS 55
abbrev sRight : Stmt := topS 56
abbrev sLWay : Stmt := topS 57
abbrev sNoV : Stmt := topS 58
abbrev sShown : Stmt := topS 59
abbrev sDue : Stmt := topS 60
abbrev sAttd : Stmt := topS 61
abbrev sFail : Stmt := topS 62
abbrev sBad : Stmt := topS 63
abbrev sBatch : Stmt := topS 64
abbrev sLaw : Stmt := topS 65
theorem scDeck : FnScope ["_law_script", "_law_cell"] ["_law_script"] (defScope sDeck) := ⟨rfl, rfl, rfl, by decide +kernel, rfl, by decide +kernel, by decide +kernel⟩
theorem scDraw : FnScope ["_law_deck_here", "_law_many", "_law_cell", "_law_place"] ["_law_deck_here", "_law_many"] (defScope sDraw) := ⟨rfl, rfl, rfl, by decide +kernel, rfl, by decide +kernel, by decide +kernel⟩
theorem cut_ints (ns : List Int) (lo hi : Option Int) : ∃ ms : List Int, cutV (ns.map V.int) lo hi = ms.map V.int ∧ ms.length ≤ ns.length := by
  refine ⟨(ns.drop (HT.sIx ns.length 0 lo)).take (HT.sIx ns.length ns.length hi - HT.sIx ns.length 0 lo), ?_, ?_⟩
  · unfold cutV
    rw [List.length_map, List.map_take, List.map_drop]
  · rw [List.length_take, List.length_drop]; omega
section
variable {P : Program} {w : World} {K : PySem.W.Frag} {mg : Str → Option Value} {base : Heap}
def spDeck (K : PySem.W.Frag) : Sp := fun vs H Q _ => ∃ (s : Addr) (ns : List Int), vs = [.ref s] ∧ SqL K H s (ns.map V.int) ∧ ns.length ≤ 63 ∧
  ∀ H' a c, Same H H' → Deck H' a c 1000000 → Q (.ref a) H'
theorem ok_deck {f : Addr} {fd : FuncData} {k : Nat} (F : Fun K "_law_deck" "_law_deck" sDeck f fd) (ma : mg "abs" = none) : FnOk P w K mg base CX0 (k + 1) f fd ["_law_script"] (spDeck K) := by
  refine F.ok scDeck (fun vs H Q E h => ?_) (fun cdv A outer s H vs Q E hr h => ?_)
  · obtain ⟨s, ns, rfl, _⟩ := h
    rfl
  · obtain ⟨sa, ns, rfl, hS, hlen, q⟩ := h
    refine ⟨_, pss_one (ps_ret (pe_lst (pa_cons
      (pe_lc (own := [("_law_cell", 1)]) (g := gName 1) (tt := tYes) rfl scDeck.nd (pi_list (pe_slice sl_list (pv 0) po_none (po_some pe_int)))
        (blkOk_by (own := [("_law_cell", 1)]) (N := ["_law_script", "_law_cell"]) (sc := defScope sDeck) (by decide +kernel))
        (fun _ _ _ _ _ => pg_name (i := 1) scDeck.nd rfl (Or.inl rfl)) (fun _ _ _ _ _ => pts_nil)
        (fun _ _ _ _ _ => pe_callB call_abs (by rfl) ma (by decide +kernel) (pa_cons (pv 1) pa_nil)))
      (pa_cons pe_int pa_nil)))), ?_⟩
    refine ⟨.ref sa, rfl, 63, rfl, sa, ns.map V.int, rfl, hS, fun l nl => ?_⟩
    obtain ⟨ms, em, lm⟩ := cut_ints ns none (some 63)
    rw [em]
    have s1 : Same H (upd H l (.lst (ms.map V.int))) := same_new nl
    refine ⟨l, rfl, ⟨_, .inl (.inl upd_same)⟩, fun D nD => ?_⟩
    refine lc_list (xs := ms.map V.int) (fun i H3 => Same (upd H l (.lst (ms.map V.int))) H3 ∧ ∃ cells : List Int, cells.length = i ∧ H3 D = some (.lst (cells.map V.int)))
      ⟨same_new nD, [], rfl, upd_same⟩ (fun i H3 _ hP => hP.1.seq (.inl (.inl upd_same))) (fun i x H3 hx hP => ?_) (fun H3 hP => ?_)
    · obtain ⟨sm, cells, hc, eD⟩ := hP
      rw [List.getElem?_map] at hx
      obtain ⟨z, hz, rfl⟩ : ∃ z, ms[i]? = some z ∧ x = V.int z := by
        cases e : ms[i]? with
        | none => rw [e] at hx; cases hx
        | some z => rw [e] at hx; exact ⟨z, rfl, (Option.some.inj hx).symm⟩
      have hi : i < ms.length := (List.getElem?_eq_some_iff.mp hz).1
      refine ⟨rfl, tyes (iteT ⟨_, rfl, _, rfl, cells.map V.int, eD, ?_, ?_, cells ++ [if z < 0 then -z else z], ?_, ?_⟩)⟩
      · rw [List.length_map]; exact small1000 (by omega)
      · intro b o e
        rw [upd_ne (ne_of_none e nD)]
        exact sm _ _ e
      · rw [List.length_append, hc]; rfl
      · rw [upd_same, List.map_append]; rfl
    · obtain ⟨sm, cells, hc, eD⟩ := hP
      rw [List.length_map] at hc
      refine ⟨by show 2 ≤ sizeLine; decide, fun p np => ?_⟩
      have nDp : D ≠ p := ne_of_none eD np
      refine q _ p D ((s1.trans sm).trans (same_new np)) ⟨cells, 0, upd_same, ?_, Ne.symm nDp, by omega, by omega⟩
      rw [upd_ne nDp]; exact eD
def spDraw : Sp := fun vs H Q _ => ∃ (a c : Addr) (m : Nat) (lim : Int), vs = [.ref a, .int lim] ∧ Deck H a c (m + 1) ∧ 0 < lim ∧ lim < 1000000 ∧
  ∀ H' r, But a c H H' → Deck H' a c m → 0 ≤ r → r < lim → Q (.int r) H'
theorem ok_draw {f : Addr} {fd : FuncData} {k : Nat} (F : Fun K "_law_draw" "_law_draw" sDraw f fd) (ml : mg "len" = none) : FnOk P w K mg base CX0 (k + 1) f fd ["_law_deck_here", "_law_many"] spDraw := by
  refine F.ok scDraw (fun vs H Q E h => ?_) (fun cdv A outer s H vs Q E hr h => ?_)
  · obtain ⟨a, c, m, lim, rfl, _⟩ := h
    rfl
  · obtain ⟨a, c, m, lim, rfl, hD, l0, l1, q⟩ := h
    refine ⟨_, pss_cons (ps_asg (pe_op op_add (pe_ix ix_list (pv 0) pe_int (fun _ _ => rfl)) pe_int) (pg_sub (pv 0) pe_int set_list))
      (pss_cons (ps_set (i := 2) scDraw.nd rfl (.inl rfl) pe_int)
      (pss_cons (ps_set (i := 3) scDraw.nd rfl (.inl rfl) (pe_un un_neg pe_int))
      (pss_cons (ps_if (pt_cmpR op_gt (pe_callB call_len_seq (by rfl) ml PySem.boot_len (pa_cons (pe_ix ix_list (pv 0) pe_int (fun _ _ => rfl)) pa_nil)) pe_int (nomark _))
        (pss_cons (ps_set (i := 3) scDraw.nd rfl (.inl rfl) (pe_op op_mod (pe_ix ix_list (pv 0) pe_int (fun _ _ => rfl)) (pe_callB call_len_seq (by rfl) ml PySem.boot_len (pa_cons (pe_ix ix_list (pv 0) pe_int (fun _ _ => rfl)) pa_nil))))
          (pss_one (ps_set (i := 2) scDraw.nd rfl (.inl rfl) (pe_ix ix_list (pe_ix ix_list (pv 0) pe_int (fun _ _ => rfl)) (pv 3) (fun _ _ => rfl)))))
        pss_nil)
      (pss_cons (ps_if (pt_cmpR op_ge (pv 2) (pe_op op_pow pe_int pe_int) (nomark _))
        (pss_cons (ps_asg (pe_op op_fdiv (pv 2) (pv 1)) (pg_sub (pe_ix ix_list (pv 0) pe_int (fun _ _ => rfl)) (pv 3) set_list))
          (pss_one (ps_ret (pe_op op_mod (pv 2) (pv 1)))))
        pss_nil)
      (pss_one (ps_ret (pe_op op_mod (pe_op op_mod (pe_op op_pow (pe_op op_add (pe_op op_add (pe_op op_mod (pv 2) pe_int) (pe_op op_mul pe_int (pe_ix ix_list (pv 0) pe_int (fun _ _ => rfl)))) pe_int) pe_int) pe_int) (pv 1)))))))), ?_⟩
    obtain ⟨cells, n, ha, hc, nac, hlen, hn⟩ := hD
    refine ⟨.ref a, rfl, a, _, 1, .int n, rfl, rfl, .inl (.inl ha), atI_nat (j := 1) rfl, n, 1, rfl, rfl, .ref a, rfl, a, _, 1, 1, rfl, rfl, ha, rfl, ?_⟩
    refine gen_heap (fun H1 => H1 a = some (.lst [.ref c, .int ((n : Int) + 1)]) ∧ H1 c = some (.lst (cells.map V.int)) ∧ But a c H H1) ⟨upd_same, by rw [upd_ne (Ne.symm nac)]; exact hc, fun b o h1 _ e => by rw [upd_ne h1]; exact e⟩ fun H1 ⟨ha1, hc1, b1⟩ => ?_
    refine ⟨1, rfl, ?_⟩
    have ha2 := ha1
    have hc2 := hc1
    have b2 := b1
    have hcs : SqL K H1 c (cells.map V.int) := .inl (.inl hc2)
    have has : SqL K H1 a [.ref c, .int ((n : Int) + 1)] := .inl (.inl ha2)
    -- the end of the walk, from any cell
    have fin : ∀ (z ix : Int) (j : Nat), (10 ^ 18 ≤ z → ixN cells.length ix = some j) →
        tSeq (tIfS (tTest (tOp (rI0 fun i j => V.bl (decide (j ≤ i))) (tVar 2) (tOp (rI CPow fun i j => V.int (i ^ j.toNat)) (tC (V.int 10)) (tC (V.int 18)))))
          (tSeq (tAsg (tOp (rI CDiv fun i j => V.int (i / j)) (tVar 2) (tVar 1)) (gSub (tOp (rIxL K) (tVar 0) (tC (V.int 0))) (tVar 3) rSetL))
            (tRet (tOp (rI (fun x j => 0 < j) fun i j => V.int (i % j)) (tVar 2) (tVar 1)))) tNext)
        (tRet (tOp (rI (fun x j => 0 < j) fun i j => V.int (i % j)) (tOp (rI (fun x j => 0 < j) fun i j => V.int (i % j)) (tOp (rI CPow fun i j => V.int (i ^ j.toNat))
          (tOp (rI0 fun i j => V.int (i + j)) (tOp (rI0 fun i j => V.int (i + j)) (tOp (rI (fun x j => 0 < j) fun i j => V.int (i % j)) (tVar 2) (tC (V.int 2147483587)))
            (tOp (rI CMul fun i j => V.int (i * j)) (tC (V.int 7919)) (tOp (rIxL K) (tVar 0) (tC (V.int 1))))) (tC (V.int 1))) (tC (V.int 5))) (tC (V.int 2147483647))) (tVar 1)))
        { nx := fun _ H' => Q .non H', rt := Q } [some (.ref a), some (.int lim), some (.int z), some (.int ix)] H1 := by
      intro z ix j hj
      refine ⟨.int z, rfl, 10, 18, rfl, rfl, ⟨by decide, by decide, by decide⟩, z, _, rfl, rfl, _, rfl, ite2 (fun e => ?_) (fun e => ?_)⟩
      · have ez : (10 : Int) ^ 18 ≤ z := of_decide_eq_true e
        refine ⟨.int z, rfl, .int lim, rfl, z, lim, rfl, rfl, ⟨l0, by omega⟩, .ref a, rfl, a, _, 0, .ref c, rfl, rfl, has, rfl, .int ix, rfl, c, _, ix, j, rfl, rfl, hc2, by rw [List.length_map]; exact hj ez,
          .int z, rfl, .int lim, rfl, z, lim, rfl, rfl, l0, ?_⟩
        refine q _ _ (b2.trans fun b o _ h2 e => by rw [upd_ne h2]; exact e) ⟨cells.set j (z / lim), n + 1, ?_, ?_, nac, by rw [List.length_set]; exact hlen, by omega⟩ (Int.emod_nonneg _ (by omega)) (Int.emod_lt_of_pos _ l0)
        · rw [upd_ne nac, ha2]; rfl
        · rw [upd_same, List.map_set]
      · have m1 : 0 ≤ z % 2147483587 := Int.emod_nonneg _ (by decide)
        have m2 : z % 2147483587 < 2147483587 := Int.emod_lt_of_pos _ (by decide)
        refine ⟨.int z, rfl, z, 2147483587, rfl, rfl, (by show (0 : Int) < 2147483587; decide), .ref a, rfl, a, _, 1, .int ((n : Int) + 1), rfl, rfl, has, rfl, 7919, (n : Int) + 1, rfl, rfl, .inl ⟨by decide, by decide⟩, _, _, rfl, rfl, _, 1, rfl, rfl, _, 5, rfl, rfl, ⟨by decide, by decide, ?_⟩,
          _, 2147483647, rfl, rfl, (by show (0 : Int) < 2147483647; decide), .int lim, rfl, _, lim, rfl, rfl, l0, ?_⟩
        · omega
        · exact q _ _ b2 ⟨cells, n + 1, by rw [ha2]; rfl, hc2, nac, hlen, by omega⟩ (Int.emod_nonneg _ (by omega)) (Int.emod_lt_of_pos _ l0)
    refine ⟨.ref a, rfl, a, _, 0, .ref c, rfl, rfl, has, rfl, c, _, rfl, .inl hcs, _, 0, rfl, rfl, _, rfl, ite2 (fun e => ?_) (fun e => ?_)⟩
    · have ez : (0 : Int) < ((cells.map V.int).length : Int) := of_decide_eq_true e
      rw [List.length_map] at ez
      have l2 := Int.emod_nonneg ((n : Int) + 1) (show ((cells.length : Int)) ≠ 0 by omega)
      have l3 := Int.emod_lt_of_pos ((n : Int) + 1) ez
      obtain ⟨j, hj⟩ : ∃ j : Nat, ((n : Int) + 1) % (cells.length : Int) = (j : Int) := ⟨_, (Int.toNat_of_nonneg l2).symm⟩
      have hjl : j < cells.length := by omega
      have gj : (cells.map V.int)[j]? = some (.int cells[j]) := by rw [List.getElem?_map, List.getElem?_eq_getElem hjl]; rfl
      refine ⟨.ref a, rfl, a, _, 1, .int ((n : Int) + 1), rfl, rfl, has, rfl, .ref a, rfl, a, _, 0, .ref c, rfl, rfl, has, rfl, c, _, rfl, .inl hcs, _, _, rfl, rfl, by rw [List.length_map]; exact ez, ?_⟩
      refine ⟨.ref a, rfl, a, _, 0, .ref c, rfl, rfl, has, rfl, _, rfl, c, _, _, _, rfl, rfl, hcs, by rw [List.length_map, hj]; exact atI_nat gj, ?_⟩
      rw [List.length_map]
      refine fin _ (((n : Int) + 1) % (cells.length : Int)) j fun _ => ?_
      rw [hj]
      unfold ixN
      rw [if_pos (by omega), if_pos (by omega)]; rfl
    · refine fin 0 (-1) 0 fun h => ?_
      exact absurd h (by decide)
end
end K48
namespace Pr
open PySem PySem.Spec PyProof.Rows L2
mutual
inductive Dq (K : PySem.W.Frag) (N : Addr → Prop) (H : Hp) : V → PyData → Prop
  | non : Dq K N H .non .none
  | bl (b : Bool) : Dq K N H (.bl b) (.bool b)
  | int (i : Int) : Dq K N H (.int i) (.int i)
  | str (x : Str) : Dq K N H (.str x) (.str x)
  | lst {l : Addr} {xs : List V} {ds : List PyData} : l ≠ sysModules → ¬ N l → H l = some (.lst xs) → DqAll K N H xs ds → Dq K N H (.ref l) (.list ds)
  | tup {l : Addr} {xs : List V} {ds : List PyData} : SqT K H l xs → DqAll K N H xs ds → Dq K N H (.ref l) (.tuple ds)
  | dct0 {l : Addr} : H l = some (.dK []) → Dq K N H (.ref l) (.dict [])
  | dct1 {l : Addr} {x : Str} {i : Int} : H l = some (.dK [(Sum.inr x, .int i)]) → Dq K N H (.ref l) (.dict [(.str x, .int i)])
  | dctN {l : Addr} {x : Str} : H l = some (.dK [(Sum.inr x, .non)]) → Dq K N H (.ref l) (.dict [(.str x, .none)])
  | dct2 {l : Addr} {x y : Str} {i j : Int} : H l = some (.dK [(Sum.inr x, .int i), (Sum.inr y, .int j)]) → Dq K N H (.ref l) (.dict [(.str x, .int i), (.str y, .int j)])
inductive DqAll (K : PySem.W.Frag) (N : Addr → Prop) (H : Hp) : List V → List PyData → Prop
  | nil : DqAll K N H [] []
  | cons {v : V} {vs : List V} {d : PyData} {ds : List PyData} : Dq K N H v d → DqAll K N H vs ds → DqAll K N H (v :: vs) (d :: ds)
end
section
variable {K : PySem.W.Frag} {N : Addr → Prop} {a c : Addr} {H H' : Hp}
theorem DqAll.length : ∀ {vs : List V} {ds : List PyData}, DqAll K N H vs ds → vs.length = ds.length
  | _, _, .nil => rfl
  | _, _, .cons _ t => by rw [List.length_cons, List.length_cons, t.length]
theorem DqAll.append : ∀ {vs us : List V} {ds es : List PyData}, DqAll K N H vs ds → DqAll K N H us es → DqAll K N H (vs ++ us) (ds ++ es)
  | _, _, _, _, .nil, h => h
  | _, _, _, _, .cons r t, h => .cons r (t.append h)
theorem DqAll.get : ∀ {vs : List V} {ds : List PyData}, DqAll K N H vs ds → ∀ (i : Nat) (v : V), vs[i]? = some v → ∃ d, ds[i]? = some d ∧ Dq K N H v d
  | _, _, .nil, i, v, h => by simp at h
  | _, _, .cons r t, 0, v, h => by simp at h; subst h; exact ⟨_, rfl, r⟩
  | _, _, .cons r t, i + 1, v, h => by
    obtain ⟨d, h1, h2⟩ := t.get i v (by simpa using h)
    exact ⟨d, by simpa using h1, h2⟩
theorem DqAll.take : ∀ (n : Nat) {vs : List V} {ds : List PyData}, DqAll K N H vs ds → DqAll K N H (vs.take n) (ds.take n)
  | 0, _, _, _ => by simpa using DqAll.nil
  | n + 1, _, _, .nil => .nil
  | n + 1, _, _, .cons r t => .cons r (t.take n)
theorem DqAll.drop : ∀ (n : Nat) {vs : List V} {ds : List PyData}, DqAll K N H vs ds → DqAll K N H (vs.drop n) (ds.drop n)
  | 0, _, _, h => h
  | n + 1, _, _, .nil => .nil
  | n + 1, _, _, .cons r t => t.drop n
theorem dqAll_ints : ∀ l : List Int, DqAll K N H (l.map V.int) (l.map PyData.int)
  | [] => .nil
  | x :: r => .cons (.int x) (dqAll_ints r)
theorem dq_ints {q : Addr} {l : List Int} (h : SqT K H q (l.map V.int)) : Dq K N H (.ref q) (dInts l) := .tup h (dqAll_ints l)
mutual
theorem Dq.keep (hs : ∀ l o, ¬ N l → H l = some o → H' l = some o) (ht : ∀ l xs, SqT K H l xs → SqT K H' l xs) (hk : ∀ l kvs, H l = some (.dK kvs) → H' l = some (.dK kvs)) : ∀ (d : PyData) (v : V), Dq K N H v d → Dq K N H' v d
  | .none, _, h => by cases h; exact .non
  | .bool b, _, h => by cases h; exact .bl b
  | .int i, _, h => by cases h; exact .int i
  | .str x, _, h => by cases h; exact .str x
  | .list ds, _, h => by
    cases h with
    | lst h1 h2 e q => exact .lst h1 h2 (hs _ _ h2 e) (Dq.keepAll hs ht hk ds _ q)
  | .tuple ds, _, h => by
    cases h with
    | tup e q => exact .tup (ht _ _ e) (Dq.keepAll hs ht hk ds _ q)
  | .dict kvs, _, h => by
    cases h with
    | dct0 e => exact .dct0 (hk _ _ e)
    | dct1 e => exact .dct1 (hk _ _ e)
    | dctN e => exact .dctN (hk _ _ e)
    | dct2 e => exact .dct2 (hk _ _ e)
theorem Dq.keepAll (hs : ∀ l o, ¬ N l → H l = some o → H' l = some o) (ht : ∀ l xs, SqT K H l xs → SqT K H' l xs) (hk : ∀ l kvs, H l = some (.dK kvs) → H' l = some (.dK kvs)) : ∀ (ds : List PyData) (vs : List V), DqAll K N H vs ds → DqAll K N H' vs ds
  | [], _, h => by cases h; exact .nil
  | d :: ds, _, h => by
    cases h with
    | cons r t => exact .cons (Dq.keep hs ht hk d _ r) (Dq.keepAll hs ht hk ds _ t)
end
theorem Deck.sqT {m : Nat} (D : Deck H a c m) (b : But a c H H') {l : Addr} {xs : List V} (h : SqT K H l xs) : SqT K H' l xs := by
  rcases h with (h | ⟨o, h⟩) | h
  · exact .inl (.inl (b _ _ (D.apart h (fun _ => by intro z; cases z)).1 (D.apart h (fun _ => by intro z; cases z)).2 h))
  · exact .inl (.inr ⟨o, b _ _ (D.apart h (fun _ => by intro z; cases z)).1 (D.apart h (fun _ => by intro z; cases z)).2 h⟩)
  · exact .inr h
theorem Deck.dk {m : Nat} (D : Deck H a c m) (l : Addr) (kvs : List (Key × V)) (h : H l = some (.dK kvs)) : l ≠ a ∧ l ≠ c := D.apart h (fun _ => by intro z; cases z)
theorem apart_N (na : N a) (nc : N c) {l : Addr} (h : ¬ N l) : l ≠ a ∧ l ≠ c := ⟨fun e => h (by rw [e]; exact na), fun e => h (by rw [e]; exact nc)⟩
theorem Dq.but {m : Nat} (na : N a) (nc : N c) (D : Deck H a c m) (b : But a c H H') {v : V} {d : PyData} (h : Dq K N H v d) : Dq K N H' v d :=
  Dq.keep (fun l o h1 e => b l o (apart_N na nc h1).1 (apart_N na nc h1).2 e) (fun _ _ e => D.sqT b e) (fun l kvs e => b _ _ (D.dk l kvs e).1 (D.dk l kvs e).2 e) d v h
theorem DqAll.but {m : Nat} (na : N a) (nc : N c) (D : Deck H a c m) (b : But a c H H') {v : List V} {d : List PyData} (h : DqAll K N H v d) : DqAll K N H' v d :=
  Dq.keepAll (fun l o h1 e => b l o (apart_N na nc h1).1 (apart_N na nc h1).2 e) (fun _ _ e => D.sqT b e) (fun l kvs e => b _ _ (D.dk l kvs e).1 (D.dk l kvs e).2 e) d v h
mutual
theorem Dq.same (e : Same H H') : ∀ (d : PyData) (v : V), Dq K N H v d → Dq K N H' v d
  | .none, _, h => by cases h; exact .non
  | .bool b, _, h => by cases h; exact .bl b
  | .int i, _, h => by cases h; exact .int i
  | .str x, _, h => by cases h; exact .str x
  | .list ds, _, h => by
    cases h with
    | lst h1 h2 q r => exact .lst h1 h2 (e _ _ q) (Dq.sameAll e ds _ r)
  | .tuple ds, _, h => by
    cases h with
    | tup q r => exact .tup (same_sqT e q) (Dq.sameAll e ds _ r)
  | .dict kvs, _, h => by
    cases h with
    | dct0 q => exact .dct0 (e _ _ q)
    | dct1 q => exact .dct1 (e _ _ q)
    | dctN q => exact .dctN (e _ _ q)
    | dct2 q => exact .dct2 (e _ _ q)
theorem Dq.sameAll (e : Same H H') : ∀ (ds : List PyData) (vs : List V), DqAll K N H vs ds → DqAll K N H' vs ds
  | [], _, h => by cases h; exact .nil
  | d :: ds, _, h => by
    cases h with
    | cons r t => exact .cons (Dq.same e d _ r) (Dq.sameAll e ds _ t)
end
/-- its built-in type -/
def tyD : PyData → String
  | .none => "NoneType"
  | .bool _ => "bool"
  | .int _ => "int"
  | .str _ => "str"
  | .list _ => "list"
  | .tuple _ => "tuple"
  | .dict _ => "dict"
theorem tyT {l : Addr} {xs : List V} (h : SqT K H l xs) : TyX K H (.ref l) (.type "tuple") := by
  rcases h with (h | ⟨o, h⟩) | ⟨o, its, n, h, hc, _⟩
  · exact .base (.tup h)
  · exact .fTuple h
  · exact .kTuple h hc
theorem Dq.ty {v : V} {d : PyData} (h : Dq K N H v d) : TyX K H v (.type (tyD d)) := by
  cases h with
  | non => exact .base .non
  | bl b => exact .base (.bl b)
  | int i => exact .base (.int i)
  | str x => exact .base (.str x)
  | lst _ _ e _ => exact .base (.lst e)
  | tup e _ => exact tyT e
  | dct0 e => exact .base (.dK e)
  | dct1 e => exact .base (.dK e)
  | dctN e => exact .base (.dK e)
  | dct2 e => exact .base (.dK e)
end
section
variable {X : Cx} {pins : List (Addr × Obj)} {σ : L2.St} {H : Hp} {s : Shared} {N : Addr → Prop}
mutual
theorem Dq.reads (I : Inv X pins σ H s) : ∀ (d : PyData) (v : V) (u : Value), Dq X.K N H v d → RelV v u → ∃ as, Reads s.heap u d as ∧ sysModules ∉ as
  | .none, _, _, h, r => by
    cases h; cases r; exact ⟨_, Reads.none, by simp⟩
  | .bool b, _, _, h, r => by
    cases h; cases r; exact ⟨_, Reads.bool b, by simp⟩
  | .int i, _, _, h, r => by
    cases h; obtain ⟨t, rfl⟩ := r; exact ⟨_, Reads.int i t, by simp⟩
  | .str x, _, _, h, r => by
    cases h; obtain ⟨t, rfl⟩ := r; exact ⟨_, Reads.str x t, by simp⟩
  | .list ds, _, _, h, r => by
    cases h with
    | lst h1 _ hs ha =>
      cases r
      obtain ⟨_, its, n, rv, ho⟩ := I.hok _ _ hs
      obtain ⟨as, hr, hn⟩ := Dq.readsAll I ds _ its ha rv
      exact ⟨_, Reads.list ho rfl rfl hr, by simp [hn, Ne.symm h1]⟩
  | .tuple ds, _, _, h, r => by
    cases h with
    | tup hs ha =>
      cases r
      obtain ⟨its, rv, ⟨o, ho, hc, n, hd⟩, _⟩ := I.tuple hs
      obtain ⟨as, hr, hn⟩ := Dq.readsAll I ds _ its ha rv
      exact ⟨_, Reads.tuple ho hc hd hr, hn⟩
  | .dict _, _, _, h, r => by
    cases h with
    | dct0 e =>
      cases r
      obtain ⟨_, ns, vs, kv, o, es, ep, ho, hc, hd, _, hp, _⟩ := I.hok _ _ e
      cases kv
      have he : es.toList = [] := by cases hes : es.toList with
        | nil => rfl
        | cons x y => rw [hes] at hp; cases hp
      have ns' := of_decide_eq_false (show decide (_ = sysModules) = false by simpa using ns)
      refine ⟨_, Reads.dict (kvs := []) ho hc.1 hd (by rw [he]; exact .nil) (by rw [he]; exact .nil), ?_⟩
      simp [Ne.symm ns']
    | @dct1 l x i e =>
      cases r
      obtain ⟨_, ns, vs, kv, o, es, ep, ho, hc, hd, _, hp, _⟩ := I.hok _ _ e
      cases kv with
      | @cons p q l1 l2 kq kr =>
        cases kr
        obtain ⟨h1, t, h2⟩ := kq
        obtain ⟨en, he, hk, hv⟩ : ∃ en, es.toList = [en] ∧ keyIs q.1 en.key = true ∧ en.val = q.2 := by
          cases hes : es.toList with
          | nil => rw [hes] at hp; cases hp
          | cons x y =>
            rw [hes] at hp
            cases hp with
            | cons p1 p2 p3 => cases p3; exact ⟨x, rfl, p1, p2⟩
        have h1' : (Sum.inr x : Key) = q.1 := h1
        rw [← h1'] at hk
        obtain ⟨t', hk'⟩ := Value.isStrOf_shape (show Value.isStrOf x en.key = true from hk)
        have ns' := of_decide_eq_false (show decide (_ = sysModules) = false by simpa using ns)
        refine ⟨_, Reads.dict (kvs := [(.str x, .int i)]) ho hc.1 hd (as := [] ++ []) (bs := [] ++ []) ?_ ?_, ?_⟩
        · rw [he]; show ReadsAll _ [en.key] _ _; rw [hk']; exact .cons (.str x t') .nil
        · rw [he]; show ReadsAll _ [en.val] _ _; rw [hv, h2]; exact .cons (.int i t) .nil
        · simp [Ne.symm ns']
    | @dctN l x e =>
      cases r
      obtain ⟨_, ns, vs, kv, o, es, ep, ho, hc, hd, _, hp, _⟩ := I.hok _ _ e
      cases kv with
      | @cons p q l1 l2 kq kr =>
        cases kr
        obtain ⟨h1, h2⟩ := kq
        obtain ⟨en, he, hk, hv⟩ : ∃ en, es.toList = [en] ∧ keyIs q.1 en.key = true ∧ en.val = q.2 := by
          cases hes : es.toList with
          | nil => rw [hes] at hp; cases hp
          | cons x y =>
            rw [hes] at hp
            cases hp with
            | cons p1 p2 p3 => cases p3; exact ⟨x, rfl, p1, p2⟩
        have h1' : (Sum.inr x : Key) = q.1 := h1
        rw [← h1'] at hk
        obtain ⟨t', hk'⟩ := Value.isStrOf_shape (show Value.isStrOf x en.key = true from hk)
        have ns' := of_decide_eq_false (show decide (_ = sysModules) = false by simpa using ns)
        refine ⟨_, Reads.dict (kvs := [(.str x, .none)]) ho hc.1 hd (as := [] ++ []) (bs := [] ++ []) ?_ ?_, ?_⟩
        · rw [he]; show ReadsAll _ [en.key] _ _; rw [hk']; exact .cons (.str x t') .nil
        · rw [he]; show ReadsAll _ [en.val] _ _; rw [hv, h2]; exact .cons .none .nil
        · simp [Ne.symm ns']
    | @dct2 l x y i j e =>
      cases r
      obtain ⟨_, ns, vs, kv, o, es, ep, ho, hc, hd, _, hp, _⟩ := I.hok _ _ e
      cases kv with
      | @cons p q l1 l2 kq kr =>
        cases kr with
        | @cons p2 q2 l3 l4 kq2 kr2 =>
        cases kr2
        obtain ⟨h1, t, h2⟩ := kq
        obtain ⟨g1, u, g2⟩ := kq2
        obtain ⟨en, en2, he, hk, hv, hk2, hv2⟩ : ∃ en en2, es.toList = [en, en2] ∧ keyIs q.1 en.key = true ∧ en.val = q.2 ∧ keyIs q2.1 en2.key = true ∧ en2.val = q2.2 := by
          cases hes : es.toList with
          | nil => rw [hes] at hp; cases hp
          | cons x y =>
            rw [hes] at hp
            cases hp with
            | cons p1 p2 p3 =>
              cases p3 with
              | cons p4 p5 p6 => cases p6; exact ⟨_, _, rfl, p1, p2, p4, p5⟩
        have h1' : (Sum.inr x : Key) = q.1 := h1
        have g1' : (Sum.inr y : Key) = q2.1 := g1
        rw [← h1'] at hk
        rw [← g1'] at hk2
        obtain ⟨t', hk'⟩ := Value.isStrOf_shape (show Value.isStrOf x en.key = true from hk)
        obtain ⟨u', hk2'⟩ := Value.isStrOf_shape (show Value.isStrOf y en2.key = true from hk2)
        have ns' := of_decide_eq_false (show decide (_ = sysModules) = false by simpa using ns)
        refine ⟨_, Reads.dict (kvs := [(.str x, .int i), (.str y, .int j)]) ho hc.1 hd (as := [] ++ ([] ++ [])) (bs := [] ++ ([] ++ [])) ?_ ?_, ?_⟩
        · rw [he]; show ReadsAll _ [en.key, en2.key] _ _; rw [hk', hk2']; exact .cons (.str x t') (.cons (.str y u') .nil)
        · rw [he]; show ReadsAll _ [en.val, en2.val] _ _; rw [hv, h2, hv2, g2]; exact .cons (.int i t) (.cons (.int j u) .nil)
        · simp [Ne.symm ns']
theorem Dq.readsAll (I : Inv X pins σ H s) : ∀ (ds : List PyData) (vs : List V) (us : List Value), DqAll X.K N H vs ds → Vals vs us → ∃ as, ReadsAll s.heap us ds as ∧ sysModules ∉ as
  | [], _, _, h, r => by
    cases h; cases r; exact ⟨_, ReadsAll.nil, by simp⟩
  | d :: ds, _, _, h, r => by
    cases h with
    | cons h1 h2 =>
      cases r with
      | cons r1 r2 =>
        obtain ⟨as, q1, n1⟩ := Dq.reads I d _ _ h1 r1
        obtain ⟨bs, q2, n2⟩ := Dq.readsAll I ds _ _ h2 r2
        exact ⟨_, ReadsAll.cons q1 q2, by simp [n1, n2]⟩
end
end
structure Shq (dep n : Nat) (d : PyData) : Prop where
  sh : d.showable = true
  dp : d.depth ≤ dep
  ln : d.shown.length ≤ n
theorem Shq.mono {dep dep' n n' : Nat} {d : PyData} (h : Shq dep n d) (h1 : dep ≤ dep') (h2 : n ≤ n') : Shq dep' n' d := ⟨h.sh, Nat.le_trans h.dp h1, Nat.le_trans h.ln h2⟩
theorem Shw.q {dep n : Nat} {d : PyData} (h : Shw dep n d) : Shq dep n d := ⟨h.sh, h.dp, h.ln⟩
theorem shqAll {dep n : Nat} : ∀ {ds : List PyData}, (∀ d ∈ ds, Shq dep n d) → PyData.showableAll ds = true ∧ PyData.depthAll ds ≤ dep
  | [], _ => ⟨by simp only [PyData.showableAll], by simp [PyData.depthAll]⟩
  | d :: r, h => by
    obtain ⟨h1, h3⟩ := shqAll (ds := r) fun x hx => h x (List.mem_cons_of_mem _ hx)
    have g := h d List.mem_cons_self
    refine ⟨by simp only [PyData.showableAll, g.sh, h1, Bool.and_self], ?_⟩
    simp only [PyData.depthAll]
    exact Nat.max_le.mpr ⟨g.dp, h3⟩
theorem Shq.tuple {dep n m : Nat} {ds : List PyData} (h : ∀ d ∈ ds, Shq dep n d) (hm : ds.length ≤ m) : Shq (dep + 1) (m * (n + 2) + 3) (.tuple ds) := by
  obtain ⟨h1, h3⟩ := shqAll h
  refine ⟨by simp only [PyData.showable, h1], by simp only [PyData.depth]; omega, ?_⟩
  simp only [PyData.shown]
  rw [shownAll_map]
  have a1 := tupleText_len (ds.map PyData.shown)
  have a2 := piled_le fun d hd => (h d hd).ln
  have a3 : ds.length * (n + 2) ≤ m * (n + 2) := Nat.mul_le_mul_right _ hm
  omega
theorem Shq.list {dep n m : Nat} {ds : List PyData} (h : ∀ d ∈ ds, Shq dep n d) (hm : ds.length ≤ m) : Shq (dep + 1) (m * (n + 2) + 3) (.list ds) := by
  obtain ⟨h1, h3⟩ := shqAll h
  refine ⟨by simp only [PyData.showable, h1], by simp only [PyData.depth]; omega, ?_⟩
  simp only [PyData.shown]
  rw [shownAll_map]
  have a1 := listText_len (ds.map PyData.shown)
  have a2 := piled_le fun d hd => (h d hd).ln
  have a3 : ds.length * (n + 2) ≤ m * (n + 2) := Nat.mul_le_mul_right _ hm
  omega
def rReprQ (K : PySem.W.Frag) : List V → Hp → VK → Prop := fun xs H Q => ∃ (N : Addr → Prop) (v : V) (d : PyData), xs = [v] ∧ Dq K N H v d ∧ Shq 60 sizeLine d ∧ Q (.str d.shown) H
theorem call_reprQ {X : Cx} {k : Nat} (gd : X.A.guards = some []) (hr : Room k X.A) : CallR X (.builtin "repr") (rReprQ X.K) := by
  intro pins s σ H xs us Q I rv h
  obtain ⟨N, v, d, rfl, hd, hs, q⟩ := h
  obtain ⟨u, rfl, rx⟩ := vals1 rv
  have isref : ∀ (l : Addr), v = .ref l → wpAny (model X.prog X.w) X.A (call (.builtin "repr") [u]) (EP X pins σ Q) X.xe s := fun l e => by
    subst e
    obtain ⟨as, r, hn⟩ := Dq.reads I d _ _ hd rx
    obtain rfl : u = .ref l := rx
    exact repr_of_reads' r hs.sh (fun _ => hn) gd (by have := hr.un; have := hs.dp; omega) (fun _ _ e => e) (fun h' t tk hk => ⟨.str d.shown, H, I.kept hk, ⟨t, rfl⟩, q⟩) hs.ln
  cases hd with
  | non => obtain rfl : u = .none := rx; exact PySem.P.repr_of_none ⟨.str "None", H, I.tok _, ⟨_, rfl⟩, by simpa only [PyData.shown] using q⟩
  | bl b => obtain rfl : u = .bool b := rx; exact PySem.P.repr_of_bool ⟨.str _, H, I.tok _, ⟨_, rfl⟩, by simpa only [PyData.shown] using q⟩
  | int i =>
    obtain ⟨t, rfl⟩ := rx
    have h1 : i.natAbs.log2 < 1920 := by simpa only [PyData.showable, decide_eq_true_eq] using hs.sh
    exact PySem.P.repr_of_int h1 ⟨.str _, H, I.tok _, ⟨_, rfl⟩, by simpa only [PyData.shown] using q⟩
  | str x =>
    obtain ⟨t, rfl⟩ := rx
    have h1 : (reprText x).length ≤ sizeLine := by simpa only [PyData.shown] using hs.ln
    exact PySem.P.repr_of_str ⟨.str _, H, I.tok _, ⟨_, rfl⟩, by simpa only [PyData.shown] using q⟩ h1
  | lst _ _ _ _ => exact isref _ rfl
  | tup _ _ => exact isref _ rfl
  | dct0 _ => exact isref _ rfl
  | dct1 _ => exact isref _ rfl
  | dctN _ => exact isref _ rfl
  | dct2 _ => exact isref _ rfl
end Pr
namespace Pr
open PySem PySem.Spec PyProof.Rows L2
section
variable {X : Cx} {es : List Expr} {t : TA} {pos : Pos}
/-- a list that stands apart from the modules' table -/
def tLstG (t : TA) : TE := fun σ H Q => t σ H fun xs H1 => xs.length ≤ sizeLine ∧ ∀ p, H1 p = none → p ≠ sysModules → Q (.ref p) (upd H1 p (.lst xs))
theorem pe_lstG (h : PA X es t) : PE X (.List es pos) (tLstG t) := by
  refine ⟨fun pins s σ H Q I hq => wpAny_List_spliced (thn (h.run pos pins s σ H _ I hq) fun us s1 ⟨xs, H1, I1, r, z, q⟩ => ⟨by rw [← r.length]; exact z, ?_⟩)⟩
  refine ⟨.ref s1.heap.objs.size, upd H1 s1.heap.objs.size (.lst xs), I1.laid (t' := s1.toks) (fun b u e => Heap.get?_push_of_some _ e) (Nat.le_refl _) ⟨z, us, 0, r, Heap.get?_push_size _ rfl⟩, rfl,
    q _ (I1.hok.fresh (Nat.le_refl _)) (Nat.ne_of_gt I1.big)⟩
end
end Pr
namespace Pr
open PySem PySem.Spec PyProof.Rows L2
section
variable {X : Cx}
/-- t + u, one way on -/
def rCatS (K : PySem.W.Frag) : R2 := fun x y H Q => ∃ a b xs ys, x = .ref a ∧ y = .ref b ∧ SqT K H a xs ∧ SqT K H b ys ∧ xs.length + ys.length ≤ sizeLine ∧ ∀ p H', Same H H' → SqT K H' p (xs ++ ys) → Q (.ref p) H'
theorem op_catS : OpR X (binaryOp .Add) (rCatS X.K) := by
  intro pins s σ H x y u1 u2 Q I rx ry h
  obtain ⟨a, b, xs, ys, rfl, rfl, ha, hb, hz, q⟩ := h
  refine op_catA pins s σ H _ _ u1 u2 Q I rx ry ⟨a, b, xs, ys, rfl, rfl, ha, hb, hz, fun e => q b H (Same.refl _) ?_, fun _ e => q a H (Same.refl _) ?_, fun _ _ p np => q p _ (same_new np) (.inl (.inl upd_same))⟩
  · rw [e]; exact hb
  · rw [e, List.append_nil]; exact ha
/-- t[lo:hi], one way on -/
def rSlS (K : PySem.W.Frag) : V → Option Int → Option Int → Hp → VK → Prop := fun x lo hi H Q => ∃ a xs, x = .ref a ∧ SqT K H a xs ∧ ∀ p H', Same H H' → SqT K H' p (cutV xs lo hi) → Q (.ref p) H'
theorem sl_tupS : SlR X (rSlS X.K) := by
  intro pins s σ H x v vl vu lo hi sl Q I rx hs pl pu h
  obtain ⟨a, xs, rfl, ha, q⟩ := h
  refine sl_tupA pins s σ H _ v vl vu lo hi sl Q I rx hs pl pu ⟨a, xs, rfl, ha, fun e => q a H (Same.refl _) ?_, fun _ p np => q p _ (same_new np) (.inl (.inl upd_same))⟩
  have : cutV xs lo hi = xs := by
    unfold cutV
    rw [e.1, e.2, List.drop_zero, Nat.sub_zero, List.take_length]
  rw [this]; exact ha
end
end Pr
namespace Pr
open PySem PySem.Spec PyProof.Rows L2
end Pr
namespace Pr
open PySem PySem.Spec PyProof.Rows L2
theorem list_neL1 (l : Addr) (items : Array Value) (n : Nat) (b : Addr) (items2 : Array Value) (n2 : Nat) (hc0 : (items.size != items2.size) = true) :
    Meets (Builtin.«list.__ne__» ⟨[.ref l, .ref b], []⟩) (fun _ R s => s.heap.get? l = some { cls := .type "list", dict := none, data := .seq items n, slots := #[] } ∧ s.heap.get? b = some { cls := .type "list", dict := none, data := .seq items2 n2, slots := #[] } ∧ R (.ok (.ret (Value.bool (CmpOp.NotEq == CmpOp.NotEq)))) { s with heap := s.heap, toks := s.toks }) :=
  .of_wp fun prog w A R s h => by
    obtain ⟨hp, g, d, tk, os⟩ := s; obtain ⟨hl, hb, h⟩ := h
    have f3 := AutoSeq1.sub_list_list
    wp_walk using AutoSeq1.wpAny_loadPart' hl, AutoSeq1.wpAny_loadPart' hb
    exact ⟨_, rfl, h⟩
section
variable {X : Cx}
/-- xs != [], two lists that stand -/
def rNeE1 : R2 := fun x y H Q => ∃ l b xs, x = .ref l ∧ y = .ref b ∧ H l = some (.lst xs) ∧ H b = some (.lst []) ∧ Q (.bl (!xs.isEmpty)) H
theorem op_neE1 (hu : X.A.units + 64 < cLine) : OpR X (compareOp .NotEq) rNeE1 := by
  intro pins s σ H x y v u Q I rx ry h
  obtain ⟨l, b, xs, rfl, rfl, hl, hb, q⟩ := h
  by_cases e : xs = []
  · subst e
    exact op_neD hu pins s σ H _ _ v u Q I rx ry ⟨.list [], .list [], .lst (.inl (.inl hl)) .nil, .lst (.inl (.inl hb)) .nil, rfl, rfl, q⟩
  · cases rx
    cases ry
    obtain ⟨_, its, n, rv, ho⟩ := I.hok _ _ hl
    obtain ⟨_, its2, n2, rv2, ho2⟩ := I.hok _ _ hb
    cases rv2
    have hlen := rv.length
    have hne : its.toArray.size ≠ 0 := by
      rw [List.size_toArray, ← hlen]
      exact fun z => e (List.eq_nil_of_length_eq_zero z)
    have q' : Q (.bl true) H := by
      have : xs.isEmpty = false := by
        cases xs with
        | nil => exact absurd rfl e
        | cons _ _ => rfl
      rw [this] at q; exact q
    exact richCompare_meets_room (op := .NotEq) ⟨_, ho, rfl⟩ ⟨_, ho2, rfl⟩ PySem.F.slot_list_ne PySem.F.entry_list_ne (PySem.F.args_list_ne_2 _ _) (list_neL1 l its.toArray n b ([] : List Value).toArray n2 (by simpa using hne))
      ⟨ho, ho2, show Value.bool (CmpOp.NotEq == CmpOp.NotEq) ≠ Value.notImplemented ∧ _ from ⟨(fun z => nomatch z), .bl true, H, I, rfl, q'⟩⟩ (by omega)
end
end Pr
namespace Pr
open PySem PySem.Spec PyProof.Rows L2
mutual
def lf : PyData → Bool
  | .list _ => false
  | .dict _ => false
  | .tuple ds => lfAll ds
  | .none => true
  | .bool _ => true
  | .int _ => true
  | .str _ => true
def lfAll : List PyData → Bool
  | [] => true
  | d :: r => lf d && lfAll r
end
theorem lfAll_of {ds : List PyData} (h : ∀ d ∈ ds, lf d = true) : lfAll ds = true := by
  induction ds with
  | nil => simp [lfAll]
  | cons d r ih => simp [lfAll, h d List.mem_cons_self, ih fun x hx => h x (List.mem_cons_of_mem _ hx)]
theorem lf_tup {ds : List PyData} (h : ∀ d ∈ ds, lf d = true) : lf (.tuple ds) = true := by simp only [lf]; exact lfAll_of h
theorem lf_ints (l : List Int) : lf (dInts l) = true := lf_tup fun d hd => by
  obtain ⟨x, _, rfl⟩ := List.mem_map.mp hd
  simp only [lf]
theorem lf_pan (p : List (List Int)) : lf (dPan p) = true := lf_tup fun d hd => by
  obtain ⟨x, _, rfl⟩ := List.mem_map.mp hd
  exact lf_ints x
theorem lf_strs (l : List Str) : lf (dStrs l) = true := lf_tup fun d hd => by
  obtain ⟨x, _, rfl⟩ := List.mem_map.mp hd
  simp only [lf]
def Kp (H H' : Hp) : Prop := (∀ b xs, H b = some (.tup xs) → H' b = some (.tup xs)) ∧ ∀ b o u, H b = some (.frz o u) → H' b = some (.frz o u)
theorem Kp.refl (H : Hp) : Kp H H := ⟨fun _ _ h => h, fun _ _ _ h => h⟩
theorem Kp.trans {H H1 H2 : Hp} (x : Kp H H1) (y : Kp H1 H2) : Kp H H2 := ⟨fun b xs h => y.1 b xs (x.1 b xs h), fun b o u h => y.2 b o u (x.2 b o u h)⟩
theorem Kp.of {H H' : Hp} (x : Same H H') : Kp H H' := ⟨fun b xs h => x b _ h, fun b o u h => x b _ h⟩
theorem Kp.upd {H : Hp} {D : Addr} {xs : List V} {o : HO} (h : H D = some (.lst xs)) : Kp H (upd H D o) :=
  ⟨fun b ys e => by rw [upd_ne (ne_of e h (by intro z; cases z))]; exact e, fun b q u e => by rw [upd_ne (ne_of e h (by intro z; cases z))]; exact e⟩
theorem Kp.but {H H' : Hp} {a c : Addr} {m : Nat} (d : Deck H a c m) (b : But a c H H') : Kp H H' :=
  ⟨fun p xs e => let q := d.apart e (fun _ => by intro z; cases z); b _ _ q.1 q.2 e, fun p o u e => let q := d.apart e (fun _ => by intro z; cases z); b _ _ q.1 q.2 e⟩
theorem FT.kp {H H' : Hp} {a : Addr} {xs : List V} (e : Kp H H') (h : FT H a xs) : FT H' a xs := let ⟨o, q, z⟩ := h; ⟨o, e.2 _ _ _ q, z⟩
theorem PanAt.kp {H H' : Hp} {p : Addr} {pan : List (List Int)} (e : Kp H H') (h : PanAt H p pan) : PanAt H' p pan :=
  let ⟨qs, h1, h2⟩ := h; ⟨qs, h1.kp e, h2.mono fun _ _ x => x.kp e⟩
section
variable {K : PySem.W.Frag} {H H' : Hp}
theorem sqT_kp {a : Addr} {xs : List V} (e : Kp H H') (h : SqT K H a xs) : SqT K H' a xs := by
  rcases h with (h | ⟨o, h⟩) | h
  · exact .inl (.inl (e.1 _ _ h))
  · exact .inl (.inr ⟨o, e.2 _ _ _ h⟩)
  · exact .inr h
mutual
theorem dp_same (e : Same H H') : ∀ (d : PyData) (v : V), Dp K H v d → Dp K H' v d
  | .none, _, h => by cases h; exact .non
  | .bool _, _, h => by cases h; exact .bl _
  | .int _, _, h => by cases h; exact .int _
  | .str _, _, h => by cases h; exact .str _
  | .list ds, _, h => by cases h with | lst q r => exact .lst (e.seq q) (dpAll_same e ds _ r)
  | .tuple ds, _, h => by cases h with | tup q r => exact .tup (same_sqT e q) (dpAll_same e ds _ r)
  | .dict _, _, h => by cases h
theorem dpAll_same (e : Same H H') : ∀ (ds : List PyData) (vs : List V), DpAll K H vs ds → DpAll K H' vs ds
  | [], _, h => by cases h; exact .nil
  | d :: r, _, h => by cases h with | cons x y => exact .cons (dp_same e d _ x) (dpAll_same e r _ y)
end
mutual
theorem dp_kp (e : Kp H H') : ∀ (d : PyData) (v : V), lf d = true → Dp K H v d → Dp K H' v d
  | .none, _, _, h => by cases h; exact .non
  | .bool _, _, _, h => by cases h; exact .bl _
  | .int _, _, _, h => by cases h; exact .int _
  | .str _, _, _, h => by cases h; exact .str _
  | .list ds, _, z, h => by simp [lf] at z
  | .tuple ds, _, z, h => by cases h with | tup q r => exact .tup (sqT_kp e q) (dpAll_kp e ds _ (by simpa [lf] using z) r)
  | .dict _, _, _, h => by cases h
theorem dpAll_kp (e : Kp H H') : ∀ (ds : List PyData) (vs : List V), lfAll ds = true → DpAll K H vs ds → DpAll K H' vs ds
  | [], _, _, h => by cases h; exact .nil
  | d :: r, _, z, h => by
    simp only [lfAll, Bool.and_eq_true] at z
    cases h with | cons x y => exact .cons (dp_kp e d _ z.1 x) (dpAll_kp e r _ z.2 y)
end
theorem _root_.L2.Dp.sm {d : PyData} {v : V} (h : Dp K H v d) (e : Same H H') : Dp K H' v d := dp_same e d v h
theorem _root_.L2.DpAll.sm {ds : List PyData} {vs : List V} (h : DpAll K H vs ds) (e : Same H H') : DpAll K H' vs ds := dpAll_same e ds vs h
theorem _root_.L2.Dp.kp {d : PyData} {v : V} (h : Dp K H v d) (e : Kp H H') (z : lf d = true := by first | exact lf_pan _ | exact lf_ints _ | exact lf_strs _ | rfl | assumption) : Dp K H' v d := dp_kp e d v z h
theorem _root_.L2.DpAll.length {ds : List PyData} : ∀ {vs : List V}, DpAll K H vs ds → vs.length = ds.length := by
  induction ds with
  | nil => intro vs h; cases h; rfl
  | cons d r ih => intro vs h; cases h with | cons x y => simp [ih y]
theorem _root_.L2.DpAll.get {ds : List PyData} : ∀ {vs : List V}, DpAll K H vs ds → ∀ (i : Nat) (d : PyData), ds[i]? = some d → ∃ v, vs[i]? = some v ∧ Dp K H v d := by
  induction ds with
  | nil => intro vs h i d e; simp at e
  | cons d' r ih =>
    intro vs h i d e
    cases h with
    | cons x y =>
      cases i with
      | zero => simp at e; subst e; exact ⟨_, rfl, x⟩
      | succ i => obtain ⟨v, h1, h2⟩ := ih y i d (by simpa using e); exact ⟨v, by simpa using h1, h2⟩
theorem _root_.L2.DpAll.append {d1 d2 : List PyData} : ∀ {v1 v2 : List V}, DpAll K H v1 d1 → DpAll K H v2 d2 → DpAll K H (v1 ++ v2) (d1 ++ d2) := by
  induction d1 with
  | nil => intro v1 v2 h g; cases h; exact g
  | cons d r ih => intro v1 v2 h g; cases h with | cons x y => exact .cons x (ih y g)
theorem _root_.L2.DpAll.take {ds : List PyData} : ∀ {vs : List V} (n : Nat), DpAll K H vs ds → DpAll K H (vs.take n) (ds.take n) := by
  induction ds with
  | nil => intro vs n h; cases h; simp; exact .nil
  | cons d r ih =>
    intro vs n h
    cases h with
    | cons x y =>
      cases n with
      | zero => simp; exact .nil
      | succ n => simpa using DpAll.cons x (ih n y)
theorem _root_.L2.DpAll.drop {ds : List PyData} : ∀ {vs : List V} (n : Nat), DpAll K H vs ds → DpAll K H (vs.drop n) (ds.drop n) := by
  induction ds with
  | nil => intro vs n h; cases h; simp; exact .nil
  | cons d r ih =>
    intro vs n h
    cases h with
    | cons x y =>
      cases n with
      | zero => simpa using DpAll.cons x y
      | succ n => simpa using ih n y
theorem dpAll_intsV : ∀ {l : List Int} {vs : List V}, DpAll K H vs (l.map PyData.int) → vs = l.map V.int
  | [], _, h => by cases h; rfl
  | x :: r, _, h => by
    rw [List.map_cons] at h
    cases h with | cons a b => cases a; rw [dpAll_intsV b]; rfl
theorem _root_.L2.Dp.tupI {v : V} {ds : List PyData} (h : Dp K H v (.tuple ds)) : ∃ a xs, v = .ref a ∧ SqT K H a xs ∧ DpAll K H xs ds := by cases h with | tup q r => exact ⟨_, _, rfl, q, r⟩
theorem _root_.L2.Dp.lstI {v : V} {ds : List PyData} (h : Dp K H v (.list ds)) : ∃ a xs, v = .ref a ∧ SqL K H a xs ∧ DpAll K H xs ds := by cases h with | lst q r => exact ⟨_, _, rfl, q, r⟩
theorem _root_.L2.Dp.intsI {v : V} {l : List Int} (h : Dp K H v (dInts l)) : ∃ a, v = .ref a ∧ SqT K H a (l.map V.int) := by
  obtain ⟨a, xs, rfl, q, r⟩ := Dp.tupI h
  rw [dpAll_intsV r] at q
  exact ⟨a, rfl, q⟩
end
section
variable (K : PySem.W.Frag)
def Gv (t : TE) (σ : L2.St) (H : Hp) (d : PyData) : Prop := ∀ H1, Same H H1 → ∀ Q : VK, (∀ v H', Same H1 H' → Dp K H' v d → Q v H') → t σ H1 Q
/-- a list that is tracked -/
def GvL (t : TE) (σ : L2.St) (H : Hp) (ds : List PyData) : Prop := ∀ H1, Same H H1 → ∀ Q : VK, (∀ a vs H', Same H1 H' → H' a = some (.lst vs) → DpAll K H' vs ds → Q (.ref a) H') → t σ H1 Q
/-- a new list -/
def GvN (t : TE) (σ : L2.St) (H : Hp) (ds : List PyData) : Prop := ∀ H1, Same H H1 → ∀ Q : VK, (∀ a vs H', Same H1 H' → H1 a = none → H' a = some (.lst vs) → DpAll K H' vs ds → Q (.ref a) H') → t σ H1 Q
def GvA (t : TA) (σ : L2.St) (H : Hp) (ds : List PyData) : Prop := ∀ H1, Same H H1 → ∀ Q : List V → Hp → Prop, (∀ vs H', Same H1 H' → DpAll K H' vs ds → Q vs H') → t σ H1 Q
def GvT (t : TT) (σ : L2.St) (H : Hp) (b : Bool) : Prop := ∀ H1, Same H H1 → ∀ Q : Bool → Hp → Prop, (∀ H', Same H1 H' → Q b H') → t σ H1 Q
/-- what a walk gives, while what it goes over stays as R says -/
def GvI (R : Hp → Hp → Prop) (wi : TI) (σ : L2.St) (H : Hp) (ds : List PyData) : Prop := ∀ H1, Same H H1 → ∀ Q : It → Hp → Prop,
  (∀ J H', Same H1 H' → Walk J ds.length (R H') (fun i h x h' => Same h h' ∧ ∃ d, ds[i]? = some d ∧ Dp K h' x d) → Q J H') → wi σ H1 Q
end
section
variable {K : PySem.W.Frag} {σ : L2.St} {H H' : Hp} {t ta tb : TE} {d e : PyData} {ds : List PyData} {ta' : TA} {tt uu : TT} {b c : Bool}
theorem GvN.gl (h : GvN K t σ H ds) : GvL K t σ H ds := fun H1 s Q q => h H1 s Q fun a vs H' s' _ e dv => q a vs H' s' e dv
theorem GvN.at (h : GvN K t σ H ds) {Q : VK} (q : ∀ a vs H', Same H H' → H a = none → H' a = some (.lst vs) → DpAll K H' vs ds → Q (.ref a) H') : t σ H Q := h H (Same.refl _) Q q
theorem GvN.to {es : List PyData} (h : GvN K t σ H ds) (q : ds = es) : GvN K t σ H es := q ▸ h
theorem GvN.gv (h : GvN K t σ H ds) : Gv K t σ H (.list ds) := fun H1 s Q q => h H1 s Q fun a vs H' s' _ e dv => q _ H' s' (.lst (.inl (.inl e)) dv)
theorem GvL.gv (h : GvL K t σ H ds) : Gv K t σ H (.list ds) := fun H1 s Q q => h H1 s Q fun a vs H' s' e dv => q _ H' s' (.lst (.inl (.inl e)) dv)
theorem GvL.at (h : GvL K t σ H ds) {Q : VK} (q : ∀ a vs H', Same H H' → H' a = some (.lst vs) → DpAll K H' vs ds → Q (.ref a) H') : t σ H Q := h H (Same.refl _) Q q
theorem GvL.to {es : List PyData} (h : GvL K t σ H ds) (q : ds = es) : GvL K t σ H es := q ▸ h
theorem gl_var {i : Nat} {a : Addr} {vs : List V} (h : σ[i]? = some (some (.ref a))) (e : H a = some (.lst vs)) (hd : DpAll K H vs ds) : GvL K (tVar i) σ H ds := fun H1 s Q q => ⟨_, h, q a vs H1 (Same.refl _) (s _ _ e) (hd.sm s)⟩
theorem Gv.at (h : Gv K t σ H d) {Q : VK} (q : ∀ v H', Same H H' → Dp K H' v d → Q v H') : t σ H Q := h H (Same.refl _) Q q
theorem Gv.sm (h : Gv K t σ H d) (s : Same H H') : Gv K t σ H' d := fun H1 s1 => h H1 (s.trans s1)
theorem Gv.to (h : Gv K t σ H d) (q : d = e) : Gv K t σ H e := q ▸ h
theorem GvT.at (h : GvT tt σ H b) {Q : Bool → Hp → Prop} (q : ∀ H', Same H H' → Q b H') : tt σ H Q := h H (Same.refl _) Q q
theorem GvT.to (h : GvT tt σ H b) (q : b = c) : GvT tt σ H c := q ▸ h
theorem gv_var {i : Nat} {v : V} (h : σ[i]? = some (some v)) (hd : Dp K H v d) : Gv K (tVar i) σ H d := fun H1 s Q q => ⟨v, h, q v H1 (Same.refl _) (hd.sm s)⟩
theorem gv_int {i : Int} : Gv K (tC (.int i)) σ H (.int i) := fun H1 _ Q q => q _ H1 (Same.refl _) (.int i)
theorem gv_str {x : Str} : Gv K (tC (.str x)) σ H (.str x) := fun H1 _ Q q => q _ H1 (Same.refl _) (.str x)
theorem gv_non : Gv K (tC .non) σ H .none := fun H1 _ Q q => q _ H1 (Same.refl _) .non
theorem gva_nil : GvA K tNil σ H [] := fun H1 _ Q q => q [] H1 (Same.refl _) .nil
theorem gva_cons {tr : TA} (h : Gv K t σ H d) (g : GvA K tr σ H ds) : GvA K (tCons t tr) σ H (d :: ds) := fun H1 s Q q =>
  h H1 s _ fun v H2 s2 d2 => g H2 (s.trans s2) _ fun vs H3 s3 d3 => q _ H3 (s2.trans s3) (.cons (d2.sm s3) d3)
theorem gva_starT {es : List PyData} {tr : TA} (h : Gv K t σ H (.tuple es)) (g : GvA K tr σ H ds) : GvA K (StX.tStar K t tr) σ H (es ++ ds) := fun H1 s Q q =>
  h H1 s _ fun v H2 s2 d2 => by
    obtain ⟨a, xs, rfl, hq, hr⟩ := d2.tupI
    exact ⟨a, xs, rfl, .inl hq, g H2 (s.trans s2) _ fun vs H3 s3 d3 => q _ H3 (s2.trans s3) (DpAll.append (hr.sm s3) d3)⟩
theorem gva_starL {es : List PyData} {tr : TA} (h : Gv K t σ H (.list es)) (g : GvA K tr σ H ds) : GvA K (StX.tStar K t tr) σ H (es ++ ds) := fun H1 s Q q =>
  h H1 s _ fun v H2 s2 d2 => by
    obtain ⟨a, xs, rfl, hq, hr⟩ := d2.lstI
    exact ⟨a, xs, rfl, .inr hq, g H2 (s.trans s2) _ fun vs H3 s3 d3 => q _ H3 (s2.trans s3) (DpAll.append (hr.sm s3) d3)⟩
theorem small5 {n : Nat} (h : n ≤ 100000) : n < sizeLine := Nat.lt_of_le_of_lt h (by decide)
theorem gv_tup (h : GvA K ta' σ H ds) (hl : ds.length ≤ sizeLine := by first | decide | exact Nat.le_of_lt (small5 (by simp only [List.length_cons, List.length_nil]; decide))) : Gv K (tTup ta') σ H (.tuple ds) := fun H1 s Q q => h H1 s _ fun vs H2 s2 d2 =>
  ⟨by rw [d2.length]; exact hl, fun p np => q _ _ (s2.trans (same_new np)) (.tup (.inl (.inl upd_same)) (d2.sm (same_new np)))⟩
theorem gn_lst (h : GvA K ta' σ H ds) (hl : ds.length ≤ sizeLine := by first | decide | exact Nat.le_of_lt (small5 (by simp only [List.length_cons, List.length_nil]; decide))) : GvN K (tLst ta') σ H ds := fun H1 s Q q => h H1 s _ fun vs H2 s2 d2 =>
  ⟨by rw [d2.length]; exact hl, fun p np => q _ _ _ (s2.trans (same_new np)) (s2.free np) upd_same (d2.sm (same_new np))⟩
theorem gl_lst (h : GvA K ta' σ H ds) (hl : ds.length ≤ sizeLine := by first | decide | exact Nat.le_of_lt (small5 (by simp only [List.length_cons, List.length_nil]; decide))) : GvL K (tLst ta') σ H ds := (gn_lst h hl).gl
theorem gv_lst (h : GvA K ta' σ H ds) (hl : ds.length ≤ sizeLine := by first | decide | exact Nat.le_of_lt (small5 (by simp only [List.length_cons, List.length_nil]; decide))) : Gv K (tLst ta') σ H (.list ds) := (gl_lst h hl).gv
theorem gv_op2 {r : R2} (ha : Gv K ta σ H d) (hb : Gv K tb σ H e) {f : PyData} (hr : ∀ x y H1 Q, Same H H1 → Dp K H1 x d → Dp K H1 y e → (∀ v H', Same H1 H' → Dp K H' v f → Q v H') → r x y H1 Q) : Gv K (tOp r ta tb) σ H f := fun H1 s Q q =>
  ha H1 s _ fun x H2 s2 d2 => hb H2 (s.trans s2) _ fun y H3 s3 d3 => hr x y H3 Q ((s.trans s2).trans s3) (d2.sm s3) d3 fun v H4 s4 d4 => q v H4 ((s2.trans s3).trans s4) d4
theorem gv_I0 {g : Int → Int → V} {i j : Int} (ha : Gv K ta σ H (.int i)) (hb : Gv K tb σ H (.int j)) {f : PyData} (hf : ∀ H, Dp K H (g i j) f) : Gv K (tOp (rI0 g) ta tb) σ H f :=
  gv_op2 ha hb fun x y H1 Q s hx hy q => by cases hx; cases hy; exact ⟨i, j, rfl, rfl, q _ _ (Same.refl _) (hf _)⟩
theorem gv_I {C : Int → Int → Prop} {g : Int → Int → V} {i j : Int} (ha : Gv K ta σ H (.int i)) (hb : Gv K tb σ H (.int j)) (hc : C i j) {f : PyData} (hf : ∀ H, Dp K H (g i j) f) : Gv K (tOp (rI C g) ta tb) σ H f :=
  gv_op2 ha hb fun x y H1 Q s hx hy q => by cases hx; cases hy; exact ⟨i, j, rfl, rfl, hc, q _ _ (Same.refl _) (hf _)⟩
theorem gv_add {i j : Int} (ha : Gv K ta σ H (.int i)) (hb : Gv K tb σ H (.int j)) : Gv K (tOp (rI0 fun i j => V.int (i + j)) ta tb) σ H (.int (i + j)) := gv_I0 ha hb fun _ => .int _
theorem gv_eqI {i j : Int} (ha : Gv K ta σ H (.int i)) (hb : Gv K tb σ H (.int j)) : Gv K (tOp rEq ta tb) σ H (.bool (decide (i = j))) :=
  gv_op2 ha hb fun x y H1 Q s hx hy q => by
    cases hx; cases hy
    refine ⟨rfl, q _ _ (Same.refl _) ?_⟩
    rw [show decide (V.int i = V.int j) = decide (i = j) from decide_eq_decide.mpr ⟨fun h => V.int.inj h, fun h => by rw [h]⟩]
    exact .bl _
theorem gv_neI {i j : Int} (ha : Gv K ta σ H (.int i)) (hb : Gv K tb σ H (.int j)) : Gv K (tOp rNe ta tb) σ H (.bool (!decide (i = j))) :=
  gv_op2 ha hb fun x y H1 Q s hx hy q => by
    cases hx; cases hy
    refine ⟨rfl, q _ _ (Same.refl _) ?_⟩
    rw [show decide (V.int i = V.int j) = decide (i = j) from decide_eq_decide.mpr ⟨fun h => V.int.inj h, fun h => by rw [h]⟩]
    exact .bl _
theorem gv_eqS {i j : Str} (ha : Gv K ta σ H (.str i)) (hb : Gv K tb σ H (.str j)) : Gv K (tOp rEq ta tb) σ H (.bool (decide (i = j))) :=
  gv_op2 ha hb fun x y H1 Q s hx hy q => by
    cases hx; cases hy
    refine ⟨rfl, q _ _ (Same.refl _) ?_⟩
    rw [show decide (V.str i = V.str j) = decide (i = j) from decide_eq_decide.mpr ⟨fun h => V.str.inj h, fun h => by rw [h]⟩]
    exact .bl _
theorem gv_neS {i j : Str} (ha : Gv K ta σ H (.str i)) (hb : Gv K tb σ H (.str j)) : Gv K (tOp rNe ta tb) σ H (.bool (!decide (i = j))) :=
  gv_op2 ha hb fun x y H1 Q s hx hy q => by
    cases hx; cases hy
    refine ⟨rfl, q _ _ (Same.refl _) ?_⟩
    rw [show decide (V.str i = V.str j) = decide (i = j) from decide_eq_decide.mpr ⟨fun h => V.str.inj h, fun h => by rw [h]⟩]
    exact .bl _
theorem gv_eqD (ha : Gv K ta σ H d) (hb : Gv K tb σ H e) (h1 : SeqAt.shaped d = true) (h2 : SeqAt.shaped e = true) : Gv K (tOp (rEqD K) ta tb) σ H (.bool (PyData.eqv d e)) :=
  gv_op2 ha hb fun x y H1 Q s hx hy q => ⟨d, e, hx, hy, h1, h2, q _ _ (Same.refl _) (.bl _)⟩
theorem gv_neD (ha : Gv K ta σ H d) (hb : Gv K tb σ H e) (h1 : SeqAt.shaped d = true) (h2 : SeqAt.shaped e = true) : Gv K (tOp (rNeD K) ta tb) σ H (.bool (!PyData.eqv d e)) :=
  gv_op2 ha hb fun x y H1 Q s hx hy q => ⟨d, e, hx, hy, h1, h2, q _ _ (Same.refl _) (.bl _)⟩
theorem inV_intsG {b : Int} (l : List Int) : inV (.int b) (l.map V.int) = decide (b ∈ l) := by
  unfold inV
  rw [List.any_map, Bool.eq_iff_iff, List.any_eq_true, decide_eq_true_eq]
  constructor
  · rintro ⟨x, hx, e⟩
    have e' : x = b := by simpa [eqV] using e
    rw [← e']; exact hx
  · intro h
    exact ⟨b, h, by simp [eqV]⟩
theorem flat_intsG : ∀ l : List Int, (l.map V.int).all flatV = true
  | [] => rfl
  | x :: r => by rw [List.map_cons, List.all_cons, flat_intsG r]; rfl
theorem gv_inT {neg : Bool} {i : Int} {l : List Int} (ha : Gv K ta σ H (.int i)) (hb : Gv K tb σ H (dInts l)) : Gv K (tOp (rIn K neg) ta tb) σ H (.bool (if neg then !decide (i ∈ l) else decide (i ∈ l))) :=
  gv_op2 ha hb fun x y H1 Q s hx hy q => by
    cases hx
    obtain ⟨a, rfl, hq⟩ := hy.intsI
    refine ⟨a, _, rfl, .inr hq, rfl, flat_intsG l, ?_⟩
    rw [inV_intsG]
    exact q _ _ (Same.refl _) (.bl _)
theorem gv_ixT {i : Int} {j : Nat} (ha : Gv K ta σ H (.tuple ds)) (hb : Gv K tb σ H (.int i)) (hi : i = (j : Int)) (hj : ds[j]? = some d) : Gv K (tOp (rIxT K) ta tb) σ H d :=
  gv_op2 ha hb fun x y H1 Q s hx hy q => by
    cases hy
    obtain ⟨a, xs, rfl, hq, hr⟩ := hx.tupI
    obtain ⟨v, hv, dv⟩ := hr.get j d hj
    exact ⟨a, xs, i, v, rfl, rfl, hq, by rw [hi]; exact atI_nat hv, q _ _ (Same.refl _) dv⟩
theorem gv_ixL {i : Int} {j : Nat} (ha : Gv K ta σ H (.list ds)) (hb : Gv K tb σ H (.int i)) (hi : i = (j : Int)) (hj : ds[j]? = some d) : Gv K (tOp (rIxL K) ta tb) σ H d :=
  gv_op2 ha hb fun x y H1 Q s hx hy q => by
    cases hy
    obtain ⟨a, xs, rfl, hq, hr⟩ := hx.lstI
    obtain ⟨v, hv, dv⟩ := hr.get j d hj
    exact ⟨a, xs, i, v, rfl, rfl, hq, by rw [hi]; exact atI_nat hv, q _ _ (Same.refl _) dv⟩
theorem gv_pan {i : Int} {pan : List (List Int)} (ha : Gv K ta σ H (dPan pan)) (hb : Gv K tb σ H (.int i)) (h0 : 0 ≤ i) (h1 : i < (pan.length : Int)) : Gv K (tOp (rIxT K) ta tb) σ H (dInts (pan.getD i.toNat [])) := by
  refine gv_ixT (j := i.toNat) ha hb (by omega) ?_
  rw [List.getElem?_map, List.getD_eq_getElem?_getD, List.getElem?_eq_getElem (by omega)]; rfl
theorem gv_cb {r : List V → Hp → VK → Prop} (h : GvA K ta' σ H ds) {f : PyData} (hr : ∀ vs H1 Q, Same H H1 → DpAll K H1 vs ds → (∀ v H', Same H1 H' → Dp K H' v f → Q v H') → r vs H1 Q) : Gv K (tCB r ta') σ H f := fun H1 s Q q =>
  h H1 s _ fun vs H2 s2 d2 => hr vs H2 Q (s.trans s2) d2 fun v H3 s3 d3 => q v H3 (s2.trans s3) d3
theorem dpAll1 {vs : List V} (h : DpAll K H vs [d]) : ∃ v, vs = [v] ∧ Dp K H v d := by
  cases h with | cons x y => cases y; exact ⟨_, rfl, x⟩
theorem dpAll2 {vs : List V} (h : DpAll K H vs [d, e]) : ∃ v u, vs = [v, u] ∧ Dp K H v d ∧ Dp K H u e := by
  cases h with | cons x y => obtain ⟨u, rfl, z⟩ := dpAll1 y; exact ⟨_, _, rfl, x, z⟩
theorem dpAll3 {f : PyData} {vs : List V} (h : DpAll K H vs [d, e, f]) : ∃ v u w, vs = [v, u, w] ∧ Dp K H v d ∧ Dp K H u e ∧ Dp K H w f := by
  cases h with | cons x y => obtain ⟨u, w, rfl, z⟩ := dpAll2 y; exact ⟨_, _, _, rfl, x, z⟩
theorem dpAll4 {f g : PyData} {vs : List V} (h : DpAll K H vs [d, e, f, g]) : ∃ v u w z, vs = [v, u, w, z] ∧ Dp K H v d ∧ Dp K H u e ∧ Dp K H w f ∧ Dp K H z g := by
  cases h with | cons x y => obtain ⟨u, w, q, rfl, z⟩ := dpAll3 y; exact ⟨_, _, _, _, rfl, x, z⟩
def rLenG (K : PySem.W.Frag) : List V → Hp → VK → Prop := fun xs H Q => ∃ p ys, xs = [V.ref p] ∧ (SqL K H p ys ∨ SqT K H p ys) ∧ Q (.int ys.length) H
theorem cr_lenG {X : Cx} : CallR X (.builtin "len") (rLenG X.K) := call_len_seq
def rTupG (K : PySem.W.Frag) : List V → Hp → VK → Prop := fun xs H Q => ∃ p ys, xs = [V.ref p] ∧ ((SqL K H p ys ∧ ∀ l, H l = none → Q (.ref l) (upd H l (.tup ys))) ∨ (SqT K H p ys ∧ Q (.ref p) H))
theorem cr_tupG {X : Cx} : CallR X (.type "tuple") (rTupG X.K) := call_tuple_of
theorem gv_lenT (h : Gv K t σ H (.tuple ds)) : Gv K (tCB (rLenG K) (tCons t tNil)) σ H (.int ds.length) :=
  gv_cb (gva_cons h gva_nil) fun vs H1 Q s hd q => by
    obtain ⟨v, rfl, hv⟩ := dpAll1 hd
    obtain ⟨a, xs, rfl, hq, hr⟩ := hv.tupI
    exact ⟨a, xs, rfl, .inr hq, by rw [hr.length]; exact q _ _ (Same.refl _) (.int _)⟩
theorem gv_lenL (h : Gv K t σ H (.list ds)) : Gv K (tCB (rLenG K) (tCons t tNil)) σ H (.int ds.length) :=
  gv_cb (gva_cons h gva_nil) fun vs H1 Q s hd q => by
    obtain ⟨v, rfl, hv⟩ := dpAll1 hd
    obtain ⟨a, xs, rfl, hq, hr⟩ := hv.lstI
    exact ⟨a, xs, rfl, .inl hq, by rw [hr.length]; exact q _ _ (Same.refl _) (.int _)⟩
theorem gv_tupL (h : Gv K t σ H (.list ds)) : Gv K (tCB (rTupG K) (tCons t tNil)) σ H (.tuple ds) :=
  gv_cb (gva_cons h gva_nil) fun vs H1 Q s hd q => by
    obtain ⟨v, rfl, hv⟩ := dpAll1 hd
    obtain ⟨a, xs, rfl, hq, hr⟩ := hv.lstI
    exact ⟨a, xs, rfl, .inl ⟨hq, fun l nl => q _ _ (same_new nl) (.tup (.inl (.inl upd_same)) (hr.sm (same_new nl)))⟩⟩
/-- the ascending one of the same numbers -/
def srt (l : List Int) : List Int := l.mergeSort (fun a b => decide (a ≤ b))
theorem srt_perm (l : List Int) : (srt l).Perm l := List.mergeSort_perm _ _
theorem srt_up (l : List Int) : (srt l).Pairwise (· ≤ ·) := by
  have := List.pairwise_mergeSort (le := fun a b : Int => decide (a ≤ b)) (fun a b c h1 h2 => by simp at *; omega) (fun a b => by simp; omega) l
  exact this.imp fun h => by simpa using h
theorem perm_up_eq : ∀ {l1 l2 : List Int}, l1.Perm l2 → l1.Pairwise (· ≤ ·) → l2.Pairwise (· ≤ ·) → l1 = l2 := by
  intro l1
  induction l1 with
  | nil => intro l2 h _ _; exact (List.nil_perm.mp h).symm
  | cons x r ih =>
    intro l2 h h1 h2
    cases l2 with
    | nil => exact absurd h.symm (by simp)
    | cons y s =>
      rw [List.pairwise_cons] at h1 h2
      have hxy : x = y := by
        have hx : x ∈ y :: s := h.subset List.mem_cons_self
        have hy : y ∈ x :: r := h.symm.subset List.mem_cons_self
        rcases List.mem_cons.mp hx with e | e
        · exact e
        · rcases List.mem_cons.mp hy with e' | e'
          · exact e'.symm
          · have := h1.1 y e'
            have := h2.1 x e
            omega
      subst hxy
      rw [ih (List.Perm.cons_inv h) h1.2 h2.2]
theorem srt_eq {l m : List Int} (h : m.Perm l) (u : m.Pairwise (· ≤ ·)) : srt l = m := perm_up_eq ((srt_perm l).trans h.symm) (srt_up l) u
theorem srt_self {l : List Int} (u : l.Pairwise (· < ·)) : srt l = l := srt_eq (List.Perm.refl _) (u.imp fun h => by omega)
theorem gv_sortL {l : List Int} (h : Gv K t σ H (.list (l.map PyData.int))) (hl : l.length < 64) : Gv K (tCB (rSorted K) (tCons t tNil)) σ H (.list ((srt l).map PyData.int)) :=
  gv_cb (gva_cons h gva_nil) fun vs H1 Q s hd q => by
    obtain ⟨v, rfl, hv⟩ := dpAll1 hd
    obtain ⟨a, xs, rfl, hq, hr⟩ := hv.lstI
    rw [dpAll_intsV hr] at hq
    refine ⟨a, l, rfl, hq, hl, fun ns' p hp hu np => ?_⟩
    rw [← srt_eq hp hu]
    exact q _ _ (same_new np) (.lst (.inl (.inl upd_same)) (dpAll_ints _))
theorem gvt_test (h : Gv K t σ H (.bool b)) : GvT (tTest t) σ H b := fun H1 s Q q => h H1 s _ fun v H2 s2 d2 => by cases d2; exact ⟨b, rfl, q _ s2⟩
theorem gvt_b (h : Gv K t σ H (.bool b)) : GvT (tB t) σ H b := fun H1 s Q q => h H1 s _ fun v H2 s2 d2 => by cases d2; exact ⟨b, rfl, q _ s2⟩
theorem gvt_not (h : GvT tt σ H b) : GvT (tNot tt) σ H (!b) := fun H1 s Q q => h H1 s _ fun H2 s2 => q _ s2
theorem gvt_yes : GvT tYes σ H true := fun H1 s Q q => q H1 (Same.refl _)
theorem gvt_and (h : GvT tt σ H b) (g : ∀ H', Same H H' → b = true → GvT uu σ H' c) : GvT (tAnd tt uu) σ H (b && c) := fun H1 s Q q => h H1 s _ fun H2 s2 => by
  cases b with
  | true => rw [if_pos rfl]; exact g H2 (s.trans s2) rfl H2 (Same.refl _) _ fun H3 s3 => q _ (s2.trans s3)
  | false => rw [if_neg Bool.false_ne_true]; exact q _ s2
theorem gvt_or (h : GvT tt σ H b) (g : ∀ H', Same H H' → b = false → GvT uu σ H' c) : GvT (tOr tt uu) σ H (b || c) := fun H1 s Q q => h H1 s _ fun H2 s2 => by
  cases b with
  | true => rw [if_pos rfl]; exact q _ s2
  | false => rw [if_neg Bool.false_ne_true]; exact g H2 (s.trans s2) rfl H2 (Same.refl _) _ fun H3 s3 => q _ (s2.trans s3)
theorem gv_if (h : GvT tt σ H b) (h1 : b = true → Gv K ta σ H d) (h2 : b = false → Gv K tb σ H e) : Gv K (tIf tt ta tb) σ H (if b then d else e) := fun H1 s Q q => h H1 s _ fun H2 s2 => by
  cases b with
  | true => rw [if_pos rfl]; exact h1 rfl H2 (s.trans s2) _ fun v H3 s3 d3 => q v H3 (s2.trans s3) d3
  | false => rw [if_neg Bool.false_ne_true]; exact h2 rfl H2 (s.trans s2) _ fun v H3 s3 d3 => q v H3 (s2.trans s3) d3
/-- a def that only computes -/
def spP (K : PySem.W.Frag) {α : Type} (δ : α → List PyData) (C : α → Prop) (f : α → PyData) : Sp := fun vs H Q _ => ∃ a, DpAll K H vs (δ a) ∧ C a ∧ ∀ v H', Same H H' → Dp K H' v (f a) → Q v H'
theorem gv_call {α : Type} {δ : α → List PyData} {C : α → Prop} {f : α → PyData} {E : XK} (a : α) (h : GvA K ta' σ H (δ a)) (hc : C a) : Gv K (tCall (spP K δ C f) [] E ta') σ H (f a) := fun H1 s Q q =>
  h H1 s _ fun vs H2 s2 d2 => ⟨a, by rw [List.append_nil]; exact d2, hc, fun v H3 s3 d3 => q v H3 (s2.trans s3) d3⟩
end
section
variable {K : PySem.W.Frag} {R : Hp → Hp → Prop} {σ : L2.St} {H : Hp} {t : TE} {ta : TA} {ds : List PyData}
theorem gvi_list (h : Gv K t σ H (.list ds)) : GvI K Same (iList K t) σ H ds := fun H1 s Q q => h H1 s _ fun v H2 s2 d2 => by
  obtain ⟨a, xs, rfl, hq, hr⟩ := d2.lstI
  refine ⟨a, rfl, ⟨xs, hq⟩, q _ H2 s2 ?_⟩
  rw [← hr.length]
  refine walk_list.mono (fun h e => e.seq hq) fun i h x h' hi e y => ?_
  obtain ⟨rfl, y⟩ := y
  have hi' : i < ds.length := by rw [← hr.length]; exact hi
  obtain ⟨v, hv, dv⟩ := hr.get i ds[i] (List.getElem?_eq_getElem hi')
  rw [hv] at y; cases y
  exact ⟨Same.refl _, ds[i], List.getElem?_eq_getElem hi', dv.sm e⟩
theorem gvi_tup (h : Gv K t σ H (.tuple ds)) : GvI K Same (iTup K t) σ H ds := fun H1 s Q q => h H1 s _ fun v H2 s2 d2 => by
  obtain ⟨a, xs, rfl, hq, hr⟩ := d2.tupI
  refine ⟨a, rfl, ⟨xs, hq⟩, q _ H2 s2 ?_⟩
  rw [← hr.length]
  refine walk_tup.mono (fun h e => same_sqT e hq) fun i h x h' hi e y => ?_
  obtain ⟨rfl, y⟩ := y
  have hi' : i < ds.length := by rw [← hr.length]; exact hi
  obtain ⟨v, hv, dv⟩ := hr.get i ds[i] (List.getElem?_eq_getElem hi')
  rw [hv] at y; cases y
  exact ⟨Same.refl _, ds[i], List.getElem?_eq_getElem hi', dv.sm e⟩
theorem gvi_range {n : Nat} (h : Gv K t σ H (.int n)) (hn : n < 2 ^ 62) : GvI K R (iRng1 (tCons t tNil)) σ H ((List.range n).map fun i : Nat => PyData.int (i : Int)) := fun H1 s Q q => h H1 s _ fun v H2 s2 d2 => by
  cases d2
  refine ⟨(n : Int), rfl, by omega, by omega, q _ H2 s2 ?_⟩
  rw [List.length_map, List.length_range, Int.toNat_natCast]
  refine walk_range.mono (fun _ _ => trivial) fun i h x h' hi e y => ?_
  obtain ⟨rfl, rfl⟩ := y
  refine ⟨Same.refl _, .int (i : Int), ?_, ?_⟩
  · rw [List.getElem?_map, List.getElem?_range hi]; rfl
  · dsimp only; rw [Int.zero_add]; exact .int _
theorem gvi_enumT {α : Type} {δ : α → PyData} {as : List α} (h : Gv K t σ H (.tuple (as.map δ))) : GvI K Same (iEnumT K (tCons t tNil)) σ H (as.zipIdx.map fun x => .tuple [.int (x.2 : Nat), δ x.1]) := fun H1 s Q q => h H1 s _ fun v H2 s2 d2 => by
  obtain ⟨a, xs, rfl, hq, hr⟩ := d2.tupI
  refine ⟨a, xs, rfl, hq, q _ H2 s2 ?_⟩
  have hl : xs.length = as.length := by rw [hr.length, List.length_map]
  rw [List.length_map, List.length_zipIdx, ← hl]
  refine walk_enumT.mono (fun h e => same_sqT e hq) fun i h x h' hi e y => ?_
  obtain ⟨T, x1, x2, rfl, nT, rfl, e1, e2⟩ := y
  cases e1
  have hi' : i < as.length := by omega
  obtain ⟨v, hv, dv⟩ := hr.get i (δ as[i]) (by rw [List.getElem?_map, List.getElem?_eq_getElem hi']; rfl)
  replace e2 : xs[i]? = some x2 := e2
  rw [hv] at e2; cases e2
  have sT : Same h (upd h T (.tup [.int (i : Nat), x2])) := same_new nT
  refine ⟨sT, .tuple [.int (i : Nat), δ as[i]], ?_, .tup (.inl (.inl upd_same)) (.cons (.int _) (.cons ((dv.sm e).sm sT) .nil))⟩
  rw [List.getElem?_map, List.getElem?_zipIdx, List.getElem?_eq_getElem hi']
  simp
/-- what a comprehension has gathered when D is the new list -/
def LcP (K : PySem.W.Frag) (H1 : Hp) (D : Addr) (ds : Nat → List PyData) (k : Nat) (H2 : Hp) : Prop := (∀ b o, b ≠ D → H1 b = some o → H2 b = some o) ∧ ∃ acc, H2 D = some (.lst acc) ∧ DpAll K H2 acc (ds k) ∧ acc.length ≤ k
theorem lcP_yes {H1 H5 H2 : Hp} {D : Addr} {ds : Nat → List PyData} {k : Nat} {acc : List V} {y : V} {d : PyData} (h : ∀ b o, b ≠ D → H1 b = some o → H2 b = some o) (s25 : Same H2 H5) (eD : H2 D = some (.lst acc)) (ha : DpAll K H2 acc (ds k)) (la : acc.length ≤ k) (dy : Dp K H5 y d)
    (e : ds (k + 1) = ds k ++ [d]) (z : lfAll (ds (k + 1)) = true) : LcP K H1 D ds (k + 1) (upd H5 D (.lst (acc ++ [y]))) := by
  refine ⟨fun b o hb q => by rw [upd_ne hb]; exact s25 _ _ (h b o hb q), acc ++ [y], upd_same, ?_, by rw [List.length_append]; show acc.length + 1 ≤ k + 1; omega⟩
  refine dpAll_kp (Kp.upd (s25 _ _ eD)) _ _ z ?_
  rw [e]
  exact DpAll.append (ha.sm s25) (.cons dy .nil)
theorem lcP_no {H1 H3 H2 : Hp} {D : Addr} {ds : Nat → List PyData} {k : Nat} {acc : List V} (h : ∀ b o, b ≠ D → H1 b = some o → H2 b = some o) (s23 : Same H2 H3) (eD : H2 D = some (.lst acc)) (ha : DpAll K H2 acc (ds k)) (la : acc.length ≤ k)
    (e : ds (k + 1) = ds k) : LcP K H1 D ds (k + 1) H3 :=
  ⟨fun b o hb q => s23 _ _ (h b o hb q), acc, s23 _ _ eD, by rw [e]; exact ha.sm s23, by omega⟩
theorem fil_take {α : Type} {as : List α} {p : α → Bool} {f : α → PyData} {k : Nat} (hk : k < as.length) : (((as.take (k + 1)).filter p).map f) = ((as.take k).filter p).map f ++ if p as[k] then [f as[k]] else [] := by
  rw [List.take_add_one, List.getElem?_eq_getElem hk, Option.toList_some, List.filter_append, List.map_append]
  cases h : p as[k] with
  | true => rw [List.filter_cons_of_pos h]; rfl
  | false => rw [List.filter_cons_of_neg (by rw [h]; exact Bool.false_ne_true)]; rfl
theorem lf_fil {α : Type} {as : List α} {p : α → Bool} {f : α → PyData} (h : ∀ a ∈ as, lf (f a) = true) (k : Nat) : lfAll (((as.take k).filter p).map f) = true := lfAll_of fun d hd => by
  obtain ⟨a, ha, rfl⟩ := List.mem_map.mp hd
  exact h a (List.mem_of_mem_take (List.mem_filter.mp ha).1)
/-- a comprehension, its target one name -/
theorem gn_lc {wi : TI} {tt : TT} {te : TE} {i : Nat} {α : Type} {δ : α → PyData} {as : List α} {p : α → Bool} {f : α → PyData} (hI : GvI K Same wi σ H (as.map δ))
    (hb : ∀ a v H1, a ∈ as → Same H H1 → Dp K H1 v (δ a) → GvT tt ((σ.set i none).set i (some v)) H1 (p a) ∧ (p a = true → Gv K te ((σ.set i none).set i (some v)) H1 (f a)))
    (hf : ∀ a ∈ as, lf (f a) = true) (hn : as.length ≤ 100000) : GvN K (tLc wi (gName i) tt te [i]) σ H ((as.filter p).map f) := by
  intro H0 s0 Q q
  refine hI H0 s0 _ fun J H1 s1 w D nD => ?_
  rw [List.length_map] at w
  refine lc_it w (LcP K H1 D fun k => ((as.take k).filter p).map f) ⟨fun b o hb e => by rw [upd_ne hb]; exact e, [], upd_same, .nil, Nat.zero_le _⟩ (fun k H2 _ hP b o e => hP.1 b o (ne_of_none e nD) e) (fun k x H2 H3 hk hP hY => ?_) (fun H2 hP => ?_)
  · obtain ⟨s2, acc, eD, hacc, la⟩ := hP
    obtain ⟨s3, d, hd, dx⟩ := hY
    rw [List.getElem?_map, List.getElem?_eq_getElem hk] at hd
    cases hd
    have sH : Same H H3 := (s0.trans s1).trans fun b o e => s3 _ _ (s2 b o (ne_of_none e nD) e)
    obtain ⟨g1, g2⟩ := hb as[k] x H3 (List.getElem_mem _) sH dx
    refine ⟨by show ((σ.set i none).set i (some x)).set i none = σ.set i none; rw [List.set_set, List.set_set], g1.at fun H4 s4 => ?_⟩
    cases hp : p as[k] with
    | true =>
      rw [if_pos rfl]
      refine (g2 hp).sm s4 |>.at fun y H5 s5 dy => ⟨acc, s5 _ _ (s4 _ _ (s3 _ _ eD)), small5 (by omega), ?_⟩
      exact lcP_yes s2 ((s3.trans s4).trans s5) eD hacc la dy (by rw [fil_take hk, hp]; rfl) (lf_fil hf _)
    | false =>
      rw [if_neg Bool.false_ne_true]
      exact lcP_no s2 (s3.trans s4) eD hacc la (by rw [fil_take hk, hp]; exact List.append_nil _)
  · obtain ⟨s2, acc, eD, hacc, la⟩ := hP
    replace hacc : DpAll K H2 acc (((as.take as.length).filter p).map f) := hacc
    rw [List.take_length] at hacc
    exact q _ _ H2 (s1.trans fun b o e => s2 b o (ne_of_none e nD) e) (s1.free nD) eD hacc
theorem gl_lc {wi : TI} {tt : TT} {te : TE} {i : Nat} {α : Type} {δ : α → PyData} {as : List α} {p : α → Bool} {f : α → PyData} (hI : GvI K Same wi σ H (as.map δ))
    (hb : ∀ a v H1, a ∈ as → Same H H1 → Dp K H1 v (δ a) → GvT tt ((σ.set i none).set i (some v)) H1 (p a) ∧ (p a = true → Gv K te ((σ.set i none).set i (some v)) H1 (f a)))
    (hf : ∀ a ∈ as, lf (f a) = true) (hn : as.length ≤ 100000) : GvL K (tLc wi (gName i) tt te [i]) σ H ((as.filter p).map f) := (gn_lc hI hb hf hn).gl
theorem gv_lc {wi : TI} {tt : TT} {te : TE} {i : Nat} {α : Type} {δ : α → PyData} {as : List α} {p : α → Bool} {f : α → PyData} (hI : GvI K Same wi σ H (as.map δ))
    (hb : ∀ a v H1, a ∈ as → Same H H1 → Dp K H1 v (δ a) → GvT tt ((σ.set i none).set i (some v)) H1 (p a) ∧ (p a = true → Gv K te ((σ.set i none).set i (some v)) H1 (f a)))
    (hf : ∀ a ∈ as, lf (f a) = true) (hn : as.length ≤ 100000) : Gv K (tLc wi (gName i) tt te [i]) σ H (.list ((as.filter p).map f)) := (gl_lc hI hb hf hn).gv
theorem set_two {i j : Nat} (σ : L2.St) (v u : V) : (((((σ.set j none).set i none).set i (some v)).set j (some u)).set j none).set i none = (σ.set j none).set i none := by
  refine List.ext_getElem? fun k => ?_
  simp only [List.getElem?_set, List.length_set]
  split <;> split <;> (try split) <;> simp_all
/-- the same, its target two names -/
theorem gn_lc2 {wi : TI} {tt : TT} {te : TE} {i j : Nat} {α : Type} {δ1 δ2 : α → PyData} {as : List α} {p : α → Bool} {f : α → PyData} (hI : GvI K Same wi σ H (as.map fun a => .tuple [δ1 a, δ2 a]))
    (hb : ∀ a v u H1, a ∈ as → Same H H1 → Dp K H1 v (δ1 a) → Dp K H1 u (δ2 a) → GvT tt ((((σ.set j none).set i none).set i (some v)).set j (some u)) H1 (p a) ∧ (p a = true → Gv K te ((((σ.set j none).set i none).set i (some v)).set j (some u)) H1 (f a)))
    (hf : ∀ a ∈ as, lf (f a) = true) (hn : as.length ≤ 100000) (hij : i ≠ j) : GvN K (tLc wi (gTup K 2 (gCons (gName i) (gCons (gName j) gNil))) tt te [i, j]) σ H ((as.filter p).map f) := by
  intro H0 s0 Q q
  refine hI H0 s0 _ fun J H1 s1 w D nD => ?_
  rw [List.length_map] at w
  refine lc_it w (LcP K H1 D fun k => ((as.take k).filter p).map f) ⟨fun b o hb e => by rw [upd_ne hb]; exact e, [], upd_same, .nil, Nat.zero_le _⟩ (fun k H2 _ hP b o e => hP.1 b o (ne_of_none e nD) e) (fun k x H2 H3 hk hP hY => ?_) (fun H2 hP => ?_)
  · obtain ⟨s2, acc, eD, hacc, la⟩ := hP
    obtain ⟨s3, d, hd, dx⟩ := hY
    rw [List.getElem?_map, List.getElem?_eq_getElem hk] at hd
    cases hd
    have sH : Same H H3 := (s0.trans s1).trans fun b o e => s3 _ _ (s2 b o (ne_of_none e nD) e)
    obtain ⟨T, xs, rfl, hT, hr⟩ := dx.tupI
    obtain ⟨v, u, rfl, dv, du⟩ := dpAll2 hr
    obtain ⟨g1, g2⟩ := hb as[k] v u H3 (List.getElem_mem _) sH dv du
    refine ⟨T, [v, u], rfl, hT, rfl, v, [u], rfl, u, [], rfl, rfl, ?_, g1.at fun H4 s4 => ?_⟩
    · show (((((σ.set j none).set i none).set i (some v)).set j (some u)).set j none).set i none = (σ.set j none).set i none
      exact set_two _ _ _
    cases hp : p as[k] with
    | true =>
      rw [if_pos rfl]
      refine (g2 hp).sm s4 |>.at fun y H5 s5 dy => ⟨acc, s5 _ _ (s4 _ _ (s3 _ _ eD)), small5 (by omega), ?_⟩
      exact lcP_yes s2 ((s3.trans s4).trans s5) eD hacc la dy (by rw [fil_take hk, hp]; rfl) (lf_fil hf _)
    | false =>
      rw [if_neg Bool.false_ne_true]
      exact lcP_no s2 (s3.trans s4) eD hacc la (by rw [fil_take hk, hp]; exact List.append_nil _)
  · obtain ⟨s2, acc, eD, hacc, la⟩ := hP
    replace hacc : DpAll K H2 acc (((as.take as.length).filter p).map f) := hacc
    rw [List.take_length] at hacc
    exact q _ _ H2 (s1.trans fun b o e => s2 b o (ne_of_none e nD) e) (s1.free nD) eD hacc
theorem gl_lc2 {wi : TI} {tt : TT} {te : TE} {i j : Nat} {α : Type} {δ1 δ2 : α → PyData} {as : List α} {p : α → Bool} {f : α → PyData} (hI : GvI K Same wi σ H (as.map fun a => .tuple [δ1 a, δ2 a]))
    (hb : ∀ a v u H1, a ∈ as → Same H H1 → Dp K H1 v (δ1 a) → Dp K H1 u (δ2 a) → GvT tt ((((σ.set j none).set i none).set i (some v)).set j (some u)) H1 (p a) ∧ (p a = true → Gv K te ((((σ.set j none).set i none).set i (some v)).set j (some u)) H1 (f a)))
    (hf : ∀ a ∈ as, lf (f a) = true) (hn : as.length ≤ 100000) (hij : i ≠ j) : GvL K (tLc wi (gTup K 2 (gCons (gName i) (gCons (gName j) gNil))) tt te [i, j]) σ H ((as.filter p).map f) := (gn_lc2 hI hb hf hn hij).gl
theorem gv_lc2 {wi : TI} {tt : TT} {te : TE} {i j : Nat} {α : Type} {δ1 δ2 : α → PyData} {as : List α} {p : α → Bool} {f : α → PyData} (hI : GvI K Same wi σ H (as.map fun a => .tuple [δ1 a, δ2 a]))
    (hb : ∀ a v u H1, a ∈ as → Same H H1 → Dp K H1 v (δ1 a) → Dp K H1 u (δ2 a) → GvT tt ((((σ.set j none).set i none).set i (some v)).set j (some u)) H1 (p a) ∧ (p a = true → Gv K te ((((σ.set j none).set i none).set i (some v)).set j (some u)) H1 (f a)))
    (hf : ∀ a ∈ as, lf (f a) = true) (hn : as.length ≤ 100000) (hij : i ≠ j) : Gv K (tLc wi (gTup K 2 (gCons (gName i) (gCons (gName j) gNil))) tt te [i, j]) σ H (.list ((as.filter p).map f)) := (gl_lc2 hI hb hf hn hij).gv
theorem gs_ret {t : TE} {d : PyData} {D : Ends} (h : Gv K t σ H d) (q : ∀ v H', Same H H' → Dp K H' v d → D.rt v H') : tRet t D σ H := h.at q
theorem gs_if {c : TT} {b : Bool} {t u : TS} {D : Ends} (h : GvT c σ H b) (h1 : b = true → ∀ H', Same H H' → t D σ H') (h2 : b = false → ∀ H', Same H H' → u D σ H') : tIfS c t u D σ H := h.at fun H' s => by
  cases b with
  | true => rw [if_pos rfl]; exact h1 rfl H' s
  | false => rw [if_neg Bool.false_ne_true]; exact h2 rfl H' s
end
end Pr
namespace Pr
open PySem PySem.Spec PyProof.Rows L2
section
variable {K : PySem.W.Frag} {σ : L2.St} {H : Hp} {t ta tb : TE} {d e : PyData} {ds es : List PyData}
theorem gs_if1 {c : TT} {b : Bool} {t u : TS} {D : Ends} (h : GvT c σ H b) (h1 : b = true → ∀ H', Same H H' → t { D with nx := u D } σ H') (h2 : b = false → ∀ H', Same H H' → u D σ H') : tSeq (tIfS c t tNext) u D σ H := gs_if h h1 h2
theorem gs_set1 {i : Nat} {u : TS} {D : Ends} (h : Gv K t σ H d) (q : ∀ v H', Same H H' → Dp K H' v d → u D (σ.set i (some v)) H') : tSeq (tAsg t (gName i)) u D σ H := h.at fun v H' s dv => q v H' s dv
/-- a test that comes out false, what stands under it not reached -/
theorem gs_no {c : TT} {t u : TS} {D : Ends} {b : Bool} (h : GvT c σ H b) (hb : b = false) (h2 : ∀ H', Same H H' → u D σ H') : tSeq (tIfS c t tNext) u D σ H := gs_if h (fun e => by rw [hb] at e; cases e) fun _ => h2
theorem gs_noN {c : TT} {t : TS} {D : Ends} {b : Bool} (h : GvT c σ H b) (hb : b = false) (h2 : ∀ H', Same H H' → D.nx σ H') : tIfS c t tNext D σ H := gs_if h (fun e => by rw [hb] at e; cases e) fun _ => h2
/-- for i in range(n) -/
theorem gs_range {n i : Nat} {tb : TS} {D : Ends} (h : Gv K t σ H (.int n)) (hn : n < 2 ^ 62) (Pv : Hp → Nat → L2.St → Hp → Prop) (h0 : ∀ H1, Same H H1 → Pv H1 0 σ H1)
    (hs : ∀ H1 k σ' H', Same H H1 → k < n → Pv H1 k σ' H' → tb { D with nx := Pv H1 (k + 1), ct := Pv H1 (k + 1), bk := D.nx } (σ'.set i (some (.int (k : Int)))) H')
    (hd : ∀ H1 σ' H', Same H H1 → Pv H1 n σ' H' → D.nx σ' H') : tFor (iRng1 (tCons t tNil)) (gName i) tb D σ H := by
  refine h.at fun v H1 s1 d1 => ?_
  cases d1
  refine ⟨(n : Int), rfl, by omega, by omega, ?_⟩
  rw [Int.toNat_natCast]
  refine for_range (Pv H1) (h0 H1 s1) (fun k σ' H' hk hP => ?_) (fun σ' H' hP => hd H1 σ' H' s1 hP)
  rw [Int.zero_add]
  exact hs H1 k σ' H' s1 hk hP
theorem gv_un {r : V → Hp → VK → Prop} (h : Gv K t σ H d) {f : PyData} (hr : ∀ x H1 Q, Same H H1 → Dp K H1 x d → (∀ v H', Same H1 H' → Dp K H' v f → Q v H') → r x H1 Q) : Gv K (tUn r t) σ H f := fun H1 s Q q =>
  h H1 s _ fun v H2 s2 d2 => hr v H2 Q (s.trans s2) d2 fun v H3 s3 d3 => q v H3 (s2.trans s3) d3
theorem gv_neg {i : Int} (h : Gv K t σ H (.int i)) : Gv K (tUn (rU fun i => .int (-i)) t) σ H (.int (-i)) := gv_un h fun x H1 Q s hx q => by cases hx; exact ⟨i, rfl, q _ _ (Same.refl _) (.int _)⟩
theorem gn_cat (ha : GvL K ta σ H ds) (hb : GvL K tb σ H es) (hn : ds.length + es.length ≤ 100000) : GvN K (tOp rCat ta tb) σ H (ds ++ es) := fun H1 s Q q =>
  ha H1 s _ fun a xs H2 s2 ea da => hb H2 (s.trans s2) _ fun b ys H3 s3 eb db =>
    ⟨a, b, xs, ys, rfl, rfl, s3 _ _ ea, eb, by rw [da.length, db.length]; exact Nat.le_of_lt (small5 hn), fun p np => q _ _ _ ((s2.trans s3).trans (same_new np)) ((s2.trans s3).free np) upd_same (DpAll.append (da.sm (s3.trans (same_new np))) (db.sm (same_new np)))⟩
theorem gs_setN {i : Nat} {u : TS} {D : Ends} (h : GvN K t σ H ds) (q : ∀ a vs H', Same H H' → H a = none → H' a = some (.lst vs) → DpAll K H' vs ds → u D (σ.set i (some (.ref a))) H') : tSeq (tAsg t (gName i)) u D σ H := h.at fun a vs H' s n e dv => q a vs H' s n e dv
theorem gs_setL {i : Nat} {u : TS} {D : Ends} (h : GvL K t σ H ds) (q : ∀ a vs H', Same H H' → H' a = some (.lst vs) → DpAll K H' vs ds → u D (σ.set i (some (.ref a))) H') : tSeq (tAsg t (gName i)) u D σ H := h.at fun a vs H' s e dv => q a vs H' s e dv
theorem gv_catT (ha : Gv K ta σ H (.tuple ds)) (hb : Gv K tb σ H (.tuple es)) (hn : ds.length + es.length ≤ 100000) : Gv K (tOp (rCatS K) ta tb) σ H (.tuple (ds ++ es)) :=
  gv_op2 ha hb fun x y H1 Q s hx hy q => by
    obtain ⟨a, xs, rfl, hq, hr⟩ := hx.tupI
    obtain ⟨b, ys, rfl, hq2, hr2⟩ := hy.tupI
    exact ⟨a, b, xs, ys, rfl, rfl, hq, hq2, by rw [hr.length, hr2.length]; exact Nat.le_of_lt (small5 hn), fun p H' s' hp => q _ _ s' (.tup hp (DpAll.append (hr.sm s') (hr2.sm s')))⟩
theorem cut_dp {ds : List PyData} {xs : List V} (h : DpAll K H xs ds) (lo hi : Option Int) : DpAll K H (cutV xs lo hi) ((ds.drop (HT.sIx ds.length 0 lo)).take (HT.sIx ds.length ds.length hi - HT.sIx ds.length 0 lo)) := by
  unfold cutV
  rw [h.length]
  exact (h.drop _).take _
end
end Pr
namespace Pr
open PySem PySem.Spec PyProof.Rows L2
theorem rgV_intL (n : Nat) : rgV 0 (n : Int) = (intL n).map V.int := by
  unfold rgV intL
  rw [List.map_map, Int.sub_zero, Int.toNat_natCast]
  refine List.map_congr_left fun i _ => ?_
  show V.int (0 + (i : Int)) = V.int (i : Int)
  rw [Int.zero_add]
theorem paired_mono_mem {α β : Type} {F G : α → β → Prop} : ∀ {l1 : List α} {l2 : List β}, Paired F l1 l2 → (∀ a b, a ∈ l1 → b ∈ l2 → F a b → G a b) → Paired G l1 l2
  | _, _, .nil, _ => .nil
  | _, _, .cons r t, h => .cons (h _ _ List.mem_cons_self List.mem_cons_self r) (paired_mono_mem t fun a b ha hb => h a b (List.mem_cons_of_mem _ ha) (List.mem_cons_of_mem _ hb))
/-- each of 0 .. n - 1 once -/
structure IsP (n : Nat) (nm : List Int) : Prop where
  len : nm.length = n
  nd : nm.Nodup
  rng : ∀ x ∈ nm, 0 ≤ x ∧ x < (n : Int)
theorem IsP.mem {n : Nat} {nm : List Int} (h : IsP n nm) {x : Int} (h0 : 0 ≤ x) (h1 : x < (n : Int)) : x ∈ nm := Classical.byContradiction fun hx => by
  have := nodup_few n (x :: nm) (List.nodup_cons.mpr ⟨hx, h.nd⟩) fun y hy => by
    rcases List.mem_cons.mp hy with rfl | hy
    · exact ⟨h0, h1⟩
    · exact h.rng y hy
  rw [List.length_cons, h.len] at this
  omega
/-- what button b is called -/
def nmOf (nm : List Int) (x : Int) : Int := nm.getD x.toNat 0
theorem IsP.at {n : Nat} {nm : List Int} (h : IsP n nm) {x : Int} (h0 : 0 ≤ x) (h1 : x < (n : Int)) : nm[x.toNat]? = some (nmOf nm x) := by
  unfold nmOf
  rw [List.getD_eq_getElem?_getD, List.getElem?_eq_getElem (by rw [h.len]; omega)]; rfl
theorem nd_get {l : List Int} (h : l.Nodup) {i j : Nat} {x : Int} (hi : l[i]? = some x) (hj : l[j]? = some x) : i = j := by
  obtain ⟨w1, z1⟩ := List.getElem?_eq_some_iff.mp hi
  obtain ⟨w2, z2⟩ := List.getElem?_eq_some_iff.mp hj
  have hp := List.pairwise_iff_getElem.mp h
  rcases Nat.lt_trichotomy i j with lt | e | lt
  · exact absurd (z1.trans z2.symm) (hp _ _ w1 w2 lt)
  · exact e
  · exact absurd (z2.trans z1.symm) (hp _ _ w2 w1 lt)
theorem IsP.inj {n : Nat} {nm : List Int} (h : IsP n nm) {x y : Int} (h0 : 0 ≤ x) (h1 : x < (n : Int)) (h2 : 0 ≤ y) (h3 : y < (n : Int)) (e : nmOf nm x = nmOf nm y) : x = y := by
  have a := h.at h0 h1
  have b := h.at h2 h3
  rw [← e] at b
  have := nd_get h.nd a b
  omega
end Pr
namespace Pr
open PySem PySem.Spec PyProof.Rows L2
section
variable {κ : Type} [DecidableEq κ]
abbrev BL (κ : Type) := List (κ × List Int)
def addK (L : BL κ) (k : κ) (r : List Int) : BL κ := if k ∈ L.map (·.1) then L else L ++ [(k, r)]
/-- what the first m presses of one thing add -/
def procB (step : κ → Nat → κ) (L : BL κ) (k : κ) (r : List Int) (m : Nat) : BL κ := (List.range m).foldl (fun L b => addK L (step k b) (r ++ [(b : Int)])) L
theorem procB_succ (step : κ → Nat → κ) (L : BL κ) (k : κ) (r : List Int) (m : Nat) : procB step L k r (m + 1) = addK (procB step L k r m) (step k m) (r ++ [(m : Int)]) := by
  unfold procB; rw [List.range_succ, List.foldl_append]; rfl
def bfsN (step : κ → Nat → κ) (n : Nat) (s : κ) : Nat → BL κ
  | 0 => [(s, [])]
  | i + 1 => match (bfsN step n s i)[i]? with
    | none => bfsN step n s i
    | some x => procB step (bfsN step n s i) x.1 x.2 n
theorem addK_pre (L : BL κ) (k : κ) (r : List Int) : L <+: addK L k r := by
  unfold addK; split
  · exact List.prefix_refl _
  · exact List.prefix_append _ _
theorem procB_pre (step : κ → Nat → κ) (L : BL κ) (k : κ) (r : List Int) : ∀ m, L <+: procB step L k r m
  | 0 => List.prefix_refl _
  | m + 1 => by rw [procB_succ]; exact (procB_pre step L k r m).trans (addK_pre _ _ _)
variable {step : κ → Nat → κ} {n : Nat} {s : κ}
theorem bfs_step {i : Nat} {x : κ × List Int} (h : (bfsN step n s i)[i]? = some x) : bfsN step n s (i + 1) = procB step (bfsN step n s i) x.1 x.2 n := by
  simp only [bfsN, h]
theorem bfs_succ_pre (i : Nat) : bfsN step n s i <+: bfsN step n s (i + 1) := by
  show bfsN step n s i <+: match (bfsN step n s i)[i]? with | none => bfsN step n s i | some x => procB step (bfsN step n s i) x.1 x.2 n
  split
  · exact List.prefix_refl _
  · exact procB_pre _ _ _ _ _
theorem bfs_pre {i j : Nat} (h : i ≤ j) : bfsN step n s i <+: bfsN step n s j := by
  induction j with
  | zero => have : i = 0 := by omega
            subst this; exact List.prefix_refl _
  | succ j ih =>
    by_cases e : i = j + 1
    · subst e; exact List.prefix_refl _
    · exact (ih (by omega)).trans (bfs_succ_pre j)
theorem pre_get {α : Type} {l1 l2 : List α} (h : l1 <+: l2) {i : Nat} (hi : i < l1.length) : l2[i]? = l1[i]? := by
  obtain ⟨t, rfl⟩ := h
  rw [List.getElem?_append_left hi]
theorem addK_all {P : κ → Prop} {L : BL κ} {k : κ} {r : List Int} (h : ∀ x ∈ L, P x.1) (hk : P k) : ∀ x ∈ addK L k r, P x.1 := by
  unfold addK; split
  · exact h
  · intro x hx
    rcases List.mem_append.mp hx with hx | hx
    · exact h x hx
    · rw [List.mem_singleton.mp hx]; exact hk
theorem addK_nd {L : BL κ} {k : κ} {r : List Int} (h : (L.map (·.1)).Nodup) : ((addK L k r).map (·.1)).Nodup := by
  unfold addK; split
  · exact h
  · rename_i hk
    rw [List.map_append, List.nodup_append]
    exact ⟨h, by simp, fun a ha b hb => by rintro rfl; exact hk (by rw [List.mem_singleton.mp hb] at ha; exact ha)⟩
theorem procB_all {P : κ → Prop} {L : BL κ} {k : κ} {r : List Int} (h : ∀ x ∈ L, P x.1) : ∀ m, (∀ b, b < m → P (step k b)) → ∀ x ∈ procB step L k r m, P x.1
  | 0, _ => h
  | m + 1, hk => by rw [procB_succ]; exact addK_all (procB_all h m fun b hb => hk b (by omega)) (hk m (by omega))
theorem procB_nd {L : BL κ} {k : κ} {r : List Int} (h : (L.map (·.1)).Nodup) : ∀ m, ((procB step L k r m).map (·.1)).Nodup
  | 0 => h
  | m + 1 => by rw [procB_succ]; exact addK_nd (procB_nd h m)
theorem bfs_nd (i : Nat) : ((bfsN step n s i).map (·.1)).Nodup := by
  induction i with
  | zero => show ([s]).Nodup; simp
  | succ i ih =>
    show (List.map (fun x : κ × List Int => x.1) (match (bfsN step n s i)[i]? with | none => bfsN step n s i | some x => procB step (bfsN step n s i) x.1 x.2 n)).Nodup
    split
    · exact ih
    · exact procB_nd ih n
theorem bfs_all {P : κ → Prop} (h0 : P s) (hs : ∀ k b, P k → b < n → P (step k b)) (i : Nat) : ∀ x ∈ bfsN step n s i, P x.1 := by
  induction i with
  | zero => intro x hx; rw [List.mem_singleton.mp hx]; exact h0
  | succ i ih =>
    show ∀ x ∈ (match (bfsN step n s i)[i]? with | none => bfsN step n s i | some x => procB step (bfsN step n s i) x.1 x.2 n), P x.1
    split
    · exact ih
    · rename_i x hx
      exact procB_all ih n fun b hb => hs _ _ (ih _ (List.mem_of_getElem? hx)) hb
theorem bfs_stop {i : Nat} (h : (bfsN step n s i).length ≤ i) {j : Nat} (hj : i ≤ j) : bfsN step n s j = bfsN step n s i := by
  induction j with
  | zero => have : i = 0 := by omega
            subst this; rfl
  | succ j ih =>
    by_cases e : i = j + 1
    · subst e; rfl
    · have ih := ih (by omega)
      show (match (bfsN step n s j)[j]? with | none => bfsN step n s j | some x => procB step (bfsN step n s j) x.1 x.2 n) = _
      rw [ih, List.getElem?_eq_none (by omega)]
/-- rows are short: the row of a thing is as long as its level -/
theorem procB_rows {L : BL κ} {k : κ} {r : List Int} {N : Nat} (h : ∀ x ∈ L, x.2.length ≤ N ∧ ∀ y ∈ x.2, 0 ≤ y ∧ y < (n : Int)) (hr : r.length + 1 ≤ N ∧ ∀ y ∈ r, 0 ≤ y ∧ y < (n : Int)) : ∀ m, m ≤ n → ∀ x ∈ procB step L k r m, x.2.length ≤ N ∧ ∀ y ∈ x.2, 0 ≤ y ∧ y < (n : Int)
  | 0, _ => h
  | m + 1, hm => by
    rw [procB_succ]
    unfold addK
    split
    · exact procB_rows h hr m (by omega)
    · intro x hx
      rcases List.mem_append.mp hx with hx | hx
      · exact procB_rows h hr m (by omega) x hx
      · rw [List.mem_singleton.mp hx]
        refine ⟨by rw [List.length_append]; exact hr.1, fun y hy => ?_⟩
        rcases List.mem_append.mp hy with hy | hy
        · exact hr.2 y hy
        · rw [List.mem_singleton.mp hy]; omega
theorem bfs_rows (i : Nat) : ∀ x ∈ bfsN step n s i, x.2.length ≤ i ∧ ∀ y ∈ x.2, 0 ≤ y ∧ y < (n : Int) := by
  induction i with
  | zero => intro x hx; rw [List.mem_singleton.mp hx]; exact ⟨Nat.le_refl _, fun y hy => by cases hy⟩
  | succ i ih =>
    have ih' : ∀ x ∈ bfsN step n s i, x.2.length ≤ i + 1 ∧ ∀ y ∈ x.2, 0 ≤ y ∧ y < (n : Int) := fun x hx => ⟨by have := (ih x hx).1; omega, (ih x hx).2⟩
    show ∀ x ∈ (match (bfsN step n s i)[i]? with | none => bfsN step n s i | some x => procB step (bfsN step n s i) x.1 x.2 n), _
    split
    · exact ih'
    · rename_i x hx
      have hx' := ih x (List.mem_of_getElem? hx)
      exact procB_rows ih' ⟨by omega, hx'.2⟩ n (Nat.le_refl _)
end
/-- the number whose digits to the base b these are -/
def enc (b : Nat) : Nat → (Nat → Nat) → Nat
  | 0, _ => 0
  | n + 1, d => d 0 + b * enc b n fun i => d (i + 1)
theorem enc_lt {b : Nat} : ∀ (n : Nat) (d : Nat → Nat), (∀ i, i < n → d i < b) → enc b n d < b ^ n
  | 0, _, _ => by simp [enc]
  | n + 1, d, h => by
    have h0 := h 0 (by omega)
    have h1 := enc_lt n (fun i => d (i + 1)) fun i hi => h (i + 1) (by omega)
    show d 0 + b * enc b n (fun i => d (i + 1)) < b ^ (n + 1)
    rw [Nat.pow_succ]
    have h2 : b * (enc b n (fun i => d (i + 1)) + 1) ≤ b * b ^ n := Nat.mul_le_mul_left _ h1
    rw [Nat.mul_add, Nat.mul_one] at h2
    rw [Nat.mul_comm (b ^ n) b]
    omega
theorem enc_inj {b : Nat} : ∀ (n : Nat) (d e : Nat → Nat), (∀ i, i < n → d i < b) → (∀ i, i < n → e i < b) → enc b n d = enc b n e → ∀ i, i < n → d i = e i
  | 0, _, _, _, _, _, i, hi => by omega
  | n + 1, d, e, hd, he, h, i, hi => by
    have h' : d 0 + b * enc b n (fun i => d (i + 1)) = e 0 + b * enc b n (fun i => e (i + 1)) := h
    have d0 := hd 0 (by omega)
    have e0 := he 0 (by omega)
    have hb : 0 < b := by omega
    have z : d 0 = e 0 := by
      have := congrArg (· % b) h'
      simp only [Nat.add_mul_mod_self_left] at this
      rwa [Nat.mod_eq_of_lt d0, Nat.mod_eq_of_lt e0] at this
    have z2 : enc b n (fun i => d (i + 1)) = enc b n (fun i => e (i + 1)) := by
      rw [z] at h'
      exact Nat.eq_of_mul_eq_mul_left hb (Nat.add_left_cancel h')
    cases i with
    | zero => exact z
    | succ i => exact enc_inj n _ _ (fun i hi => hd (i + 1) (by omega)) (fun i hi => he (i + 1) (by omega)) z2 i (by omega)
/-- things with different digits are few -/
theorem few_of {κ : Type} {b n : Nat} {P : κ → Prop} {dig : κ → Nat → Nat} (hd : ∀ k i, P k → i < n → dig k i < b) (inj : ∀ k k', P k → P k' → (∀ i, i < n → dig k i = dig k' i) → k = k') {ks : List κ} (nd : ks.Nodup) (h : ∀ k ∈ ks, P k) : ks.length ≤ b ^ n := by
  have := nodup_few (b ^ n) (ks.map fun k => ((enc b n (dig k) : Nat) : Int)) ?_ ?_
  · rwa [List.length_map] at this
  · rw [List.nodup_iff_pairwise_ne, List.pairwise_map]
    refine List.Pairwise.imp_of_mem ?_ (List.nodup_iff_pairwise_ne.mp nd)
    intro k k' hk hk' ne e
    refine ne (inj k k' (h k hk) (h k' hk') ?_)
    exact enc_inj n _ _ (fun i hi => hd k i (h k hk) hi) (fun i hi => hd k' i (h k' hk') hi) (by omega)
  · intro x hx
    obtain ⟨k, hk, rfl⟩ := List.mem_map.mp hx
    have := enc_lt n (dig k) fun i hi => hd k i (h k hk) hi
    exact ⟨by omega, by exact_mod_cast this⟩
/-- states of n buttons -/
theorem few_states {n : Nat} {ks : List (List Int)} (nd : ks.Nodup) (h : ∀ k ∈ ks, Asc n k) : ks.length ≤ 2 ^ n := by
  refine few_of (P := Asc n) (dig := fun k i => if (i : Int) ∈ k then 1 else 0) (fun k i _ _ => by split <;> omega) (fun k k' hk hk' hh => ?_) nd h
  refine asc_ext hk.up hk'.up fun x => ?_
  have key : ∀ {l l' : List Int}, Asc n l → (∀ i, i < n → (if (i : Int) ∈ l then 1 else 0 : Nat) = if (i : Int) ∈ l' then 1 else 0) → ∀ {x : Int}, x ∈ l → x ∈ l' := fun {l l'} hl hh {x} hx => by
    have r := hl.rng x hx
    have := hh x.toNat (by omega)
    rw [show ((x.toNat : Nat) : Int) = x by omega, if_pos hx] at this
    by_cases h : x ∈ l'
    · exact h
    · rw [if_neg h] at this; omega
  exact ⟨key hk hh, key hk' fun i hi => (hh i hi).symm⟩
end Pr
namespace Pr
open PySem PySem.Spec PyProof.Rows L2 PySem.W
/-- v is a tuple that holds these numbers -/
def IsTI (h : Heap) (v : Value) (ns : List Int) : Prop :=
  ∃ (a : Addr) (dd : Option Addr) (items : Array Value) (n : Nat) (sl : Array (Option Value)), v = .ref a ∧ h.get? a = some { cls := .type "tuple", dict := dd, data := .seq items n, slots := sl } ∧ IntsAre items.toList ns
theorem IsTI.keeps {h h' : Heap} {v : Value} {ns : List Int} (x : IsTI h v ns) (k : ∀ b o, v = .ref b → h.get? b = some o → h'.get? b = some o) : IsTI h' v ns := by
  obtain ⟨a, dd, items, n, sl, e, g, i⟩ := x
  exact ⟨a, dd, items, n, sl, e, k _ _ e g, i⟩
theorem IsTI.type {M : Model} {h : Heap} {v : Value} {ns : List Int} (x : IsTI h v ns) : Looks M h (typeOf v) (.type "tuple") := by
  obtain ⟨a, dd, items, n, sl, rfl, g, i⟩ := x
  exact (Looks.ld g).andThen .now
end Pr
namespace Pr
open PySem PySem.Spec PyProof.Rows L2 PySem.W
end Pr
namespace Pr
open PySem PySem.Spec PyProof.Rows L2
section
variable {X : Cx}
/-- {k: v}, k a tuple; the new dict stands empty while the pair is made -/
def tDispT (tk tv : TE) : TE := fun σ H Q => ∀ p, H p = none → tPairs [(tk, tv)] σ (upd H p (.dT [])) fun ps H2 => H2 p = some (.dT []) ∧ ∃ (y : V) (b : Addr) (ks : List Key), ps = [(V.ref b, y)] ∧ H2 b = some (.tup (ks.map kV)) ∧ Q (.ref p) (upd H2 p (.dT [(ks, y)]))
theorem pe_dispT {k v : Expr} {tk tv : TE} {pos : Pos} (hu : X.A.units + 1 < cLine) (hk : PE X k tk) (hv : PE X v tv) : PE X (.Dict [some k] [v] pos) (tDispT tk tv) := by
  refine ⟨fun pins s σ H Q I q => ?_⟩
  have hn := I.hok.fresh (Nat.le_refl s.heap.objs.size)
  have I1 := I.laid (a := s.heap.objs.size) (o := .dT []) (h' := s.heap.push { cls := .type "dict", data := .dict #[] }) (t' := s.toks) (fun _ _ q => Heap.get?_push_of_some _ q) (Nat.le_refl _) (dt_empty s.heap I.big)
  have e0 := zip_pairTrees [some k] [v] X.env pos rfl rfl
  rw [arm_eval_Dict, e0, dictDisplay_pairs _ (by simp [pairTrees]) (by simp [pairTrees])]
  refine wpAny_bind (wpAny_standAt (wpAny_bind (wpAny_subDictH (knd := tupleKind (mixKind X.prog X.w)) (show X.A.units < cLine by omega) (by simp [pairTrees]) ?_)))
  have hp : PPs X pos [some k] [v] [(tk, tv)] := pps_cons hk hv pps_nil
  refine thn (hp.run pins _ σ _ _ I1 (q _ hn)) fun ws s2 ⟨ps, H2, I2, rel, e, y, b, ks, ep, eb, q2⟩ => ?_
  subst ep
  cases rel with
  | @cons _ wv _ bs r1 r2 =>
    cases r2
    obtain ⟨w1, w2⟩ := wv
    obtain ⟨rb, ry⟩ := r1
    obtain rfl : w1 = Value.ref b := rb
    obtain ⟨z, hd, xs, rx, dd⟩ := dt_of I2.hok e
    cases rx
    refine ⟨[(ks, b, w2)], ⟨rfl, rfl, key_of I2.hok eb, trivial⟩, dd, fun h' tk' dd' hs => ?_⟩
    refine wpAny_pure ⟨.ref s.heap.objs.size, _, ?_, rfl, q2⟩
    obtain ⟨qo, es, epo, hq, h2, h3, h4, _, h5⟩ := dd'
    refine d_write I2 (by rw [e]; exact True.intro) hs ⟨qo, hq⟩ ⟨by show 1 ≤ sizeLine; decide, hd, _, .cons ⟨rfl, ?_, ry⟩ .nil, qo, es, epo, hq, h2, h3, h4, h5⟩
    rw [upd_ne (ne_of eb e (fun z => nomatch z))]
    exact eb
end
def kInt (k : List Int) : List Key := k.map Sum.inl
theorem kInt_kV (k : List Int) : (kInt k).map kV = k.map V.int := by unfold kInt; rw [List.map_map]; rfl
theorem kInt_inj {a b : List Int} (h : kInt a = kInt b) : a = b := by
  have := congrArg (List.map kV) h
  rw [kInt_kV, kInt_kV] at this
  exact List.map_inj_right (fun x y h => V.int.inj h) |>.mp this
theorem val_zip {κ : Type} [DecidableEq κ] : ∀ {ks : List κ} {vs : List V} {i : Nat} {k : κ} {v : V}, ks.Nodup → ks[i]? = some k → vs[i]? = some v → valV (ks.zip vs) k = some v
  | [], _, _, _, _, _, h, _ => by simp at h
  | _ :: _, [], _, _, _, _, _, h => by simp at h
  | a :: ks, b :: vs, 0, k, v, nd, h1, h2 => by
    simp at h1 h2; subst h1 h2
    rw [List.zip_cons_cons]; exact valV_pos rfl
  | a :: ks, b :: vs, i + 1, k, v, nd, h1, h2 => by
    rw [List.nodup_cons] at nd
    have h1' : ks[i]? = some k := by simpa using h1
    rw [List.zip_cons_cons, valV_neg (fun e => nd.1 (by rw [show a = k from e]; exact List.mem_of_getElem? h1'))]
    exact val_zip nd.2 h1' (by simpa using h2)
theorem val_zip_none {κ : Type} [DecidableEq κ] : ∀ {ks : List κ} {vs : List V} {k : κ}, k ∉ ks → valV (ks.zip vs) k = none
  | [], _, _, _ => rfl
  | _ :: _, [], _, _ => by rw [List.zip_nil_right]; rfl
  | a :: ks, b :: vs, k, h => by
    rw [List.zip_cons_cons, valV_neg (fun e => h (by rw [show a = k from e]; exact List.mem_cons_self))]
    exact val_zip_none fun z => h (List.mem_cons_of_mem _ z)
/-- the dict of the things found, each with its row -/
def DictB (K : PySem.W.Frag) (H : Hp) (d : Addr) (L : BL (List Key)) : Prop := ∃ vs, H d = some (.dT ((L.map (·.1)).zip vs)) ∧ DpAll K H vs (L.map fun x => dInts x.2)
theorem DictB.same {K : PySem.W.Frag} {H H' : Hp} {d : Addr} {L : BL (List Key)} (h : DictB K H d L) (s : Same H H') : DictB K H' d L := let ⟨vs, e, dv⟩ := h; ⟨vs, s _ _ e, dv.sm s⟩
theorem DictB.get {K : PySem.W.Frag} {H : Hp} {d a : Addr} {L : BL (List Key)} {i : Nat} {x : List Key × List Int} (h : DictB K H d L) (nd : (L.map (·.1)).Nodup) (hx : L[i]? = some x) (ea : H a = some (.tup (x.1.map kV))) : ∃ v, DGet H d (.ref a) (some v) ∧ Dp K H v (dInts x.2) := by
  obtain ⟨vs, e, dv⟩ := h
  obtain ⟨v, hv, dx⟩ := dv.get i (dInts x.2) (by rw [List.getElem?_map, hx]; rfl)
  refine ⟨v, ?_, dx⟩
  have := DGet.t (k := x.1) e ea
  rwa [val_zip nd (by rw [List.getElem?_map, hx]; rfl) hv] at this
theorem DictB.none {K : PySem.W.Frag} {H : Hp} {d a : Addr} {L : BL (List Key)} {k : List Key} (h : DictB K H d L) (hk : k ∉ L.map (·.1)) (ea : H a = some (.tup (k.map kV))) : DGet H d (.ref a) none := by
  obtain ⟨vs, e, dv⟩ := h
  have := DGet.t (k := k) e ea
  rwa [val_zip_none hk] at this
theorem DictB.some {K : PySem.W.Frag} {H : Hp} {d a : Addr} {L : BL (List Key)} {k : List Key} (h : DictB K H d L) (nd : (L.map (·.1)).Nodup) (hk : k ∈ L.map (·.1)) (ea : H a = some (.tup (k.map kV))) : ∃ v, DGet H d (.ref a) (some v) := by
  obtain ⟨x, hx, rfl⟩ := List.mem_map.mp hk
  obtain ⟨i, hi⟩ := List.getElem?_of_mem hx
  obtain ⟨v, g, _⟩ := h.get nd hi ea
  exact ⟨v, g⟩
/-- the heap but for what stands at d and at l -/
def But2 (d l : Addr) (H H' : Hp) : Prop := ∀ b o, b ≠ d → b ≠ l → H b = some o → H' b = some o
theorem kp_dT {H : Hp} {d : Addr} {kvs : List (List Key × V)} {o : HO} (h : H d = some (.dT kvs)) : Kp H (upd H d o) :=
  ⟨fun b ys e => by rw [upd_ne (ne_of e h (by intro z; cases z))]; exact e, fun b q u e => by rw [upd_ne (ne_of e h (by intro z; cases z))]; exact e⟩
theorem lf_rows {L : BL (List Key)} : lfAll (L.map fun x => dInts x.2) = true := lfAll_of fun d hd => by
  obtain ⟨x, _, rfl⟩ := List.mem_map.mp hd
  exact lf_ints _
/-- a new thing is put into it -/
theorem DictB.put {K : PySem.W.Frag} {H : Hp} {d a : Addr} {L : BL (List Key)} {k : List Key} {r : List Int} {v : V} (h : DictB K H d L) (hk : k ∉ L.map (·.1)) (ea : H a = .some (.tup (k.map kV))) (dv : Dp K H v (dInts r)) (hl : L.length < 100000) :
    ∃ H', DPut H d (.ref a) v H' ∧ DictB K H' d (L ++ [(k, r)]) ∧ Kp H H' ∧ ∀ b o, b ≠ d → H b = .some o → H' b = .some o := by
  obtain ⟨vs, e, dvs⟩ := h
  have lv : vs.length = L.length := by rw [dvs.length, List.length_map]
  refine ⟨_, DPut.t (k := k) (v := v) e ea (by rw [List.length_zip, List.length_map, lv, Nat.min_self]; exact small5 (by omega)), ?_, kp_dT e, fun b o hb eb => by rw [upd_ne hb]; exact eb⟩
  rw [putK_new v (val_zip_none hk)]
  refine ⟨vs ++ [v], ?_, ?_⟩
  · rw [upd_same, List.map_append, List.zip_append (by rw [List.length_map, lv])]; rfl
  · refine dpAll_kp (kp_dT e) _ _ lf_rows ?_
    rw [List.map_append]
    exact DpAll.append dvs (.cons dv .nil)
end Pr
namespace Pr
open PySem PySem.Spec PyProof.Rows L2
end Pr
namespace Pr
open PySem PySem.Spec PyProof.Rows L2
/-- a new tuple -/
def GvU (K : PySem.W.Frag) (t : TE) (σ : L2.St) (H : Hp) (ds : List PyData) : Prop := ∀ H1, Same H H1 → ∀ Q : VK, (∀ a vs H', Same H1 H' → H1 a = none → H' a = some (.tup vs) → DpAll K H' vs ds → Q (.ref a) H') → t σ H1 Q
section
variable {K : PySem.W.Frag} {σ : L2.St} {H : Hp} {t ta tb : TE} {d e : PyData} {ds es : List PyData}
theorem GvU.at (h : GvU K t σ H ds) {Q : VK} (q : ∀ a vs H', Same H H' → H a = none → H' a = some (.tup vs) → DpAll K H' vs ds → Q (.ref a) H') : t σ H Q := h H (Same.refl _) Q q
theorem GvU.gv (h : GvU K t σ H ds) : Gv K t σ H (.tuple ds) := fun H1 s Q q => h H1 s Q fun a vs H' s' _ e dv => q _ H' s' (.tup (.inl (.inl e)) dv)
theorem gu_tupL (h : Gv K t σ H (.list ds)) : GvU K (tCB (rTupG K) (tCons t tNil)) σ H ds := fun H1 s Q q => h H1 s _ fun v H2 s2 d2 => by
  obtain ⟨a, xs, rfl, hq, hr⟩ := d2.lstI
  exact ⟨a, xs, rfl, .inl ⟨hq, fun l nl => q _ _ _ (s2.trans (same_new nl)) (s2.free nl) upd_same (hr.sm (same_new nl))⟩⟩
theorem gu_tupRg {n : Nat} (h : Gv K t σ H (.int n)) (hn : n ≤ 100000) : GvU K (tTupRg (tRg1 t)) σ H ((intL n).map PyData.int) := fun H1 s Q q => h H1 s _ fun v H2 s2 d2 => by
  cases d2
  refine ⟨_, rfl, ⟨by omega, by omega, by omega, by omega, ?_⟩, fun p np => q _ _ _ (s2.trans (same_new np)) (s2.free np) upd_same ?_⟩
  · have := small5 hn; omega
  · rw [rgV_intL]; exact dpAll_ints _
end
section
variable {X : Cx}
def rRepA (K : PySem.W.Frag) : R2 := fun x y H Q => ∃ (l : Addr) (v : V) (k : Nat), x = .ref l ∧ y = .int (k : Int) ∧ SqT K H l [v] ∧ k ≤ 1000 ∧ ∀ p H', Same H H' → SqT K H' p (List.replicate k v) → Q (.ref p) H'
theorem rep_flatA {v : V} : ∀ k : Nat, (List.replicate k [v]).flatten = List.replicate k v
  | 0 => rfl
  | k + 1 => by rw [List.replicate_succ, List.flatten_cons, rep_flatA k]; rfl
theorem op_repA : OpR X (binaryOp .Mult) (rRepA X.K) := by
  intro pins s σ H x y v u Q I rx ry h
  obtain ⟨l, z, k, rfl, rfl, hT, hk, q⟩ := h
  match k, hk, q, ry with
  | 0, _, q, ry => exact op_rep1 pins s σ H _ _ v u Q I rx ry ⟨l, z, rfl, hT, .inr ⟨rfl, fun p np => q p _ (same_new np) (.inl (.inl upd_same))⟩⟩
  | 1, _, q, ry => exact op_rep1 pins s σ H _ _ v u Q I rx ry ⟨l, z, rfl, hT, .inl ⟨rfl, q l H (Same.refl _) hT⟩⟩
  | k + 2, hk, q, ry => exact op_repT pins s σ H _ _ v u Q I rx ry ⟨l, ((k + 2 : Nat) : Int), [z], rfl, rfl, hT, by simp, by omega, by omega, (by show 1 ≤ 1000; decide), fun p np => q p _ (same_new np) (.inl (.inl (by rw [upd_same, Int.toNat_natCast, rep_flatA])))⟩
end
def unK (k : List Key) : List Int := k.map fun x => match x with | .inl i => i | .inr _ => 0
theorem unK_kInt (l : List Int) : unK (kInt l) = l := by unfold unK kInt; rw [List.map_map]; exact List.map_id l
def stepP (pan : List (List Int)) (k : List Key) (b : Nat) : List Key := kInt (pressM pan (unK k) (b : Int))
def PKs (n : Nat) (k : List Key) : Prop := ∃ st, k = kInt st ∧ Asc n st
theorem pks_step {pan : List (List Int)} {k : List Key} {b : Nat} (h : PKs pan.length k) : PKs pan.length (stepP pan k b) := ⟨_, rfl, pressM_asc _ _ _⟩
theorem bfs_few {pan : List (List Int)} (few : pan.length ≤ 10) {k : List Key} (h : PKs pan.length k) (i : Nat) : (bfsN (stepP pan) pan.length k i).length ≤ 1024 := by
  have nd := bfs_nd (step := stepP pan) (n := pan.length) (s := k) i
  have hp := bfs_all (P := PKs pan.length) (step := stepP pan) (n := pan.length) h (fun k b hk _ => pks_step hk) i
  have := few_states (n := pan.length) (ks := (bfsN (stepP pan) pan.length k i).map fun x => unK x.1) ?_ ?_
  · rw [List.length_map] at this
    exact Nat.le_trans this (Nat.pow_le_pow_right (by decide) few)
  · rw [List.nodup_iff_pairwise_ne, List.pairwise_map]
    rw [List.nodup_iff_pairwise_ne, List.pairwise_map] at nd
    refine List.Pairwise.imp_of_mem ?_ nd
    intro x y hx hy ne e
    obtain ⟨a, ea, _⟩ := hp x hx
    obtain ⟨b, eb, _⟩ := hp y hy
    rw [ea, eb, unK_kInt, unK_kInt] at e
    exact ne (by rw [ea, eb, e])
  · intro z hz
    obtain ⟨x, hx, rfl⟩ := List.mem_map.mp hz
    obtain ⟨a, ea, ha⟩ := hp x hx
    rw [ea, unK_kInt]; exact ha
/-- the states that are reached, in the order in which they are found -/
def foundM (pan : List (List Int)) (st : List Int) : BL (List Key) := bfsN (stepP pan) pan.length (kInt st) 1024
end Pr
namespace Pr
open PySem PySem.Spec PyProof.Rows L2
/-- a dict of rows -/
def GvDB (K : PySem.W.Frag) (t : TE) (σ : L2.St) (H : Hp) (L : BL (List Key)) : Prop := ∀ H1, Same H H1 → ∀ Q : VK, (∀ d H', Same H1 H' → DictB K H' d L → Q (.ref d) H') → t σ H1 Q
end Pr
namespace L2
theorem Room.u1 {k : Nat} {A : PySem.Around} (r : Room k A) : A.units + 1 < PySem.cLine := Nat.lt_of_le_of_lt (Nat.add_le_add_left (show 1 ≤ 64 by decide) _) r.units
end L2
namespace Pr
open PySem PySem.Spec PyProof.Rows L2
def rReprN (K : PySem.W.Frag) : List V → Hp → VK → Prop := fun xs H Q => rRepr K xs H Q ∨ (xs = [.non] ∧ Q (.str (PyData.shown .none)) H)
theorem shq_none : Shq 60 sizeLine .none := ⟨by simp only [PyData.showable], by simp [PyData.depth], by simp only [PyData.shown]; decide⟩
theorem cr_reprN {X : Cx} {k : Nat} (gd : X.A.guards = some []) (hr : Room k X.A) : CallR X (.builtin "repr") (rReprN X.K) := by
  intro pins s σ H xs us Q I rv h
  rcases h with h | ⟨rfl, q⟩
  · exact call_repr gd hr pins s σ H xs us Q I rv h
  · exact call_reprQ gd hr pins s σ H _ us Q I rv ⟨fun _ => False, .non, .none, rfl, .non, shq_none, q⟩
section
variable {K : PySem.W.Frag} {σ : L2.St} {H : Hp} {t ta tb : TE} {d e : PyData}
/-- what repr takes -/
def RepOk (d : PyData) : Prop := d = .none ∨ (Shw 60 sizeLine d ∧ ∃ ds, d = .tuple ds ∨ d = .list ds)
theorem gv_reprN (h : Gv K t σ H d) (hd : RepOk d) : Gv K (tCB (rReprN K) (tCons t tNil)) σ H (.str d.shown) := by
  rcases hd with rfl | ⟨hs, hr⟩
  · exact gv_cb (gva_cons h gva_nil) fun vs H1 Q s hd' q => by
      obtain ⟨v, rfl, hv⟩ := dpAll1 hd'
      cases hv
      exact .inr ⟨rfl, q _ _ (Same.refl _) (.str _)⟩
  · exact gv_cb (gva_cons h gva_nil) fun vs H1 Q s hd' q => by
      obtain ⟨v, rfl, hv⟩ := dpAll1 hd'
      obtain ⟨a, rfl⟩ : ∃ a, v = V.ref a := by
        obtain ⟨ds, rfl | rfl⟩ := hr
        · obtain ⟨a, _, e, _⟩ := hv.tupI; exact ⟨a, e⟩
        · obtain ⟨a, _, e, _⟩ := hv.lstI; exact ⟨a, e⟩
      exact .inl ⟨a, d, rfl, hv, hs.sh, hs.nd, hs.dp, hs.ln, q _ _ (Same.refl _) (.str _)⟩
/-- what the dict says of a thing -/
def wayOf (L : BL (List Key)) (k : List Key) : PyData := match L.find? fun x => decide (x.1 = k) with
  | some x => dInts x.2
  | none => .none
theorem way_get {L : BL (List Key)} {dd g : Addr} {k : List Key} (h : DictB K H dd L) (nd : (L.map (·.1)).Nodup) (eg : H g = some (.tup (k.map kV))) : ∃ o, DGet H dd (.ref g) o ∧ Dp K H (o.getD .non) (wayOf L k) := by
  unfold wayOf
  cases e : L.find? fun x => decide (x.1 = k) with
  | none =>
    refine ⟨none, h.none (fun hk => ?_) eg, .non⟩
    obtain ⟨x, hx, rfl⟩ := List.mem_map.mp hk
    have := List.find?_eq_none.mp e x hx
    simp at this
  | some x =>
    have hx := List.mem_of_find?_eq_some e
    have e2 : x.1 = k := by simpa using List.find?_some e
    subst e2
    obtain ⟨i, hi⟩ := List.getElem?_of_mem hx
    obtain ⟨v, g1, g2⟩ := h.get nd hi eg
    exact ⟨some v, g1, g2⟩
theorem dictB_is {dd : Addr} {L : BL (List Key)} (h : DictB K H dd L) : IsD H dd := let ⟨vs, e, _⟩ := h; .inr ⟨_, .inl e⟩
theorem gv_get1 {L : BL (List Key)} {j : Nat} {g : Addr} {gl : List Int} (h : GvDB K t σ H L) (nd : (L.map (·.1)).Nodup) (hj : σ[j]? = some (some (.ref g))) (eg : H g = some (.tup (gl.map V.int))) : Gv K (tDGet1 t (tVar j)) σ H (wayOf L (kInt gl)) := fun H1 s Q q => h H1 s _ fun dd H2 s2 hd => by
  obtain ⟨o, h1, h2⟩ := way_get hd nd (k := kInt gl) (by rw [kInt_kV]; exact s2 _ _ (s _ _ eg))
  exact ⟨dd, rfl, dictB_is hd, .ref g, hj, o, h1, q _ H2 s2 h2⟩
end
theorem found_nd (pan : List (List Int)) (st : List Int) : ((foundM pan st).map (·.1)).Nodup := bfs_nd 1024
theorem way_shw {pan : List (List Int)} (few : pan.length ≤ 10) (st : List Int) (k : List Key) : wayOf (foundM pan st) k = .none ∨ ∃ r : List Int, wayOf (foundM pan st) k = dInts r ∧ r.length ≤ 1024 ∧ ∀ x ∈ r, 0 ≤ x ∧ x < 10 := by
  unfold wayOf
  cases e : (foundM pan st).find? fun x => decide (x.1 = k) with
  | none => exact .inl rfl
  | some x =>
    have hx := List.mem_of_find?_eq_some e
    have := bfs_rows (step := stepP pan) (n := pan.length) (s := kInt st) 1024 x hx
    exact .inr ⟨x.2, rfl, by have := this.1; omega, fun y hy => by have := this.2 y hy; omega⟩
theorem shw_none : Shw 1 4 .none := ⟨by simp only [PyData.showable], by simp only [PyData.hasDict], by simp [PyData.depth], by simp only [PyData.shown]; decide⟩
theorem way_shw1 {pan : List (List Int)} (few : pan.length ≤ 10) (st : List Int) (k : List Key) : Shw 1 3075 (wayOf (foundM pan st) k) := by
  rcases way_shw few st k with h | ⟨r, h, h1, h2⟩
  · rw [h]; exact shw_none.mono (by decide) (by decide)
  · rw [h]; exact shw_ints (m := 1024) h1 h2
end Pr
namespace K48
open PySem PySem.Spec PyProof.Rows L2 Pr
def rMin2 : List V → Hp → VK → Prop := fun xs H Q => ∃ i j, xs = [.int i, .int j] ∧ Q (.int (if j < i then j else i)) H
theorem gs_seqJ {t u : TS} {D : Ends} {σ : L2.St} {H : Hp} (J : L2.St → Hp → Prop) (hk : ∀ σ' H', J σ' H' → u D σ' H') (h : (∀ σ' H', J σ' H' → u D σ' H') → t { D with nx := u D } σ H) : tSeq t u D σ H := h hk
theorem Deck.upd' {H : Hp} {a c b : Addr} {m : Nat} {o : HO} (d : Deck H a c m) (n : b ≠ a ∧ b ≠ c) : Deck (upd H b o) a c m := by
  obtain ⟨cs, k, h1, h2, h3⟩ := d
  exact ⟨cs, k, by rw [upd_ne (Ne.symm n.1)]; exact h1, by rw [upd_ne (Ne.symm n.2)]; exact h2, h3⟩
def nPanel : List Str := ["_law_deck_here", "_law_most", "_law_n", "_law_way_here", "_law_share", "_law_found", "_law_button", "_law_own", "_law_one"]
theorem scPanel : FnScope nPanel ["_law_deck_here", "_law_most"] (defScope sPanel) := ⟨rfl, rfl, rfl, by decide +kernel, rfl, by decide +kernel, by decide +kernel⟩
section
variable {P : Program} {w : World} {K : PySem.W.Frag} {mg : Str → Option Value} {base : Heap}
def spPanel (K : PySem.W.Frag) : Sp := fun vs H Q _ => ∃ (a c : Addr) (m : Nat) (most : Int), vs = [.ref a, .int most] ∧ Deck H a c (m + 300) ∧ 1 ≤ most ∧ most ≤ 10 ∧
  ∀ H' v pan, But a c H H' → Deck H' a c m → Dp K H' v (dPan pan) → Good pan → (pan.length : Int) ≤ most → Q v H'
theorem ok_Panel {fDraw : Addr} {fdDraw : FuncData} {f : Addr} {fd : FuncData} {k : Nat} (F : Fun K "_law_panel" "_law_panel" sPanel f fd)
    (FDraw : Fun K "_law_draw" "_law_draw" sDraw fDraw fdDraw) (bDraw : Binds K fdDraw ["_law_deck_here", "_law_many"] []) (gDraw : mg "_law_draw" = some (.ref fDraw))
    (m_len : mg "len" = none) (m_list : mg "list" = none) (m_min : mg "min" = none) (m_range : mg "range" = none) (m_tuple : mg "tuple" = none) : FnOk P w K mg base CX0 (k + 2) f fd ["_law_deck_here", "_law_most"] (spPanel K) := by
  have GDraw : FnOk P w K mg base CX0 (k + 1) fDraw fdDraw ["_law_deck_here", "_law_many"] spDraw := ok_draw FDraw m_len
  refine F.ok scPanel (fun vs H Q E h => ?_) (fun cdv A outer s H vs Q E hr h => ?_)
  · obtain ⟨a, c, m, most, rfl, _⟩ := h
    rfl
  · obtain ⟨a, c, m, most, rfl, hD, m1, m2, q⟩ := h
    refine ⟨_, pss_cons (ps_set (i := 2) scPanel.nd rfl (.inl rfl) (pe_ix (show IxR _ (rIxL K) from ix_list) (pe_lst (pa_cons (pe_op op_add pe_int (pe_call GDraw (hr.mono (by omega)) (by rfl) gDraw FDraw.kp bDraw .nil pass0 (pa_cons (pv 0) (pa_cons (pv 1) pa_nil)))) (pa_cons (pv 1) (pa_cons (pe_op op_add pe_int (pe_call GDraw (hr.mono (by omega)) (by rfl) gDraw FDraw.kp bDraw .nil pass0 (pa_cons (pv 0) (pa_cons (pe_callB (show CallR _ _ rMin2 from call_min2 rfl) (by rfl) m_min (by decide +kernel) (pa_cons pe_int (pa_cons (pv 1) pa_nil))) pa_nil)))) pa_nil)))) (pe_call GDraw (hr.mono (by omega)) (by rfl) gDraw FDraw.kp bDraw .nil pass0 (pa_cons (pv 0) (pa_cons pe_int pa_nil))) (fun _ _ => rfl)))
      (pss_cons (ps_asg (pe_tup (pa_cons (pe_call GDraw (hr.mono (by omega)) (by rfl) gDraw FDraw.kp bDraw .nil pass0 (pa_cons (pv 0) (pa_cons pe_int pa_nil))) (pa_cons (pe_op op_add pe_int (pe_call GDraw (hr.mono (by omega)) (by rfl) gDraw FDraw.kp bDraw .nil pass0 (pa_cons (pv 0) (pa_cons pe_int pa_nil)))) (pa_cons (pe_lst pa_nil) pa_nil)))) (pg_tup rfl (pgs_cons (pg_name (i := 3) scPanel.nd rfl (Or.inl rfl)) (pgs_cons (pg_name (i := 4) scPanel.nd rfl (Or.inr rfl)) (pgs_cons (pg_name (i := 5) scPanel.nd rfl (Or.inl rfl)) pgs_nil)))))
      (pss_cons (ps_for PassesOwn.never rfl (pi_range1 (by rfl) m_range (pa_cons (pv 2) pa_nil)) (pg_name (i := 6) scPanel.nd rfl (Or.inr rfl)) (pss_cons (ps_setLc (i := 7) (own := [("_law_one", 8)]) (g := gName 8) rfl scPanel.nd rfl rfl (sw_true rfl rfl rfl (by decide +kernel)) (pi_range1 (by rfl) m_range (pa_cons (pv 2) pa_nil)) (blkOk_by (own := [("_law_one", 8)]) (N := nPanel) (sc := defScope sPanel) (by decide +kernel)) (fun _ _ _ _ _ => pg_name (i := 8) scPanel.nd rfl (Or.inl rfl)) (fun _ _ _ _ _ => pts_one (pt_cmpR op_lt (pe_call GDraw (hr.mono (by omega)) (by rfl) gDraw FDraw.kp bDraw .nil pass0 (pa_cons (pv 0) (pa_cons pe_int pa_nil))) (pv 4) (nomark _))) (fun _ _ _ _ _ => pv 8))
      (pss_cons (ps_if (pt_cmpR op_eq (pv 3) pe_int (nomark _)) (pss_one (ps_set (i := 7) scPanel.nd rfl (.inl rfl) (pe_lst (pa_cons (pe_op op_mod (pe_op op_add (pv 6) pe_int) (pv 2)) pa_nil)))) pss_nil)
      (pss_cons (ps_if (PW.pt (pw_and (pt_cmpR op_eq (pv 3) pe_int (nomark _)) (pw_and1 (pt_cmpR op_eq (pe_call GDraw (hr.mono (by omega)) (by rfl) gDraw FDraw.kp bDraw .nil pass0 (pa_cons (pv 0) (pa_cons pe_int pa_nil))) pe_int (nomark _))))) (pss_one (ps_set (i := 7) scPanel.nd rfl (.inl rfl) (pe_listRg rfl (by rfl) m_list (prg_1 (by rfl) m_range (pv 2))))) pss_nil)
      (pss_cons (ps_if (pt_cmpR op_eq (pv 3) pe_int (nomark _)) (pss_one (ps_setLc (i := 7) (own := [("_law_one", 8)]) (g := gName 8) rfl scPanel.nd rfl rfl (sw_true rfl rfl rfl (by decide +kernel)) (show PI _ _ _ (iList K _) from pi_list (pv 7)) (blkOk_by (own := [("_law_one", 8)]) (N := nPanel) (sc := defScope sPanel) (by decide +kernel)) (fun _ _ _ _ _ => pg_name (i := 8) scPanel.nd rfl (Or.inl rfl)) (fun _ _ _ _ _ => pts_one (pt_cmpR op_gt (pv 8) (pv 6) (nomark _))) (fun _ _ _ _ _ => pv 8))) pss_nil)
      (pss_one (ps_expr (show PE _ _ (tBM K "list" rAppend _ _) from pe_bm PySem.F.plainAttrs_list PySem.F.slot_list_append PySem.F.type_list_append mt_append (pv 5) (pa_cons (pe_callTy (show CallR _ _ (rTupG K) from cr_tupG) (by rfl) m_tuple (by decide +kernel) (pa_cons (pe_lc (own := [("_law_one", 8)]) (g := gName 8) rfl scPanel.nd (show PI _ _ _ (iList K _) from pi_list (pv 7)) (blkOk_by (own := [("_law_one", 8)]) (N := nPanel) (sc := defScope sPanel) (by decide +kernel)) (fun _ _ _ _ _ => pg_name (i := 8) scPanel.nd rfl (Or.inl rfl)) (fun _ _ _ _ _ => pts_one (pt_cmpR op_ne (pv 8) (pv 6) (nomark _))) (fun _ _ _ _ _ => pv 8)) pa_nil)) pa_nil)))))))))
      (pss_one (ps_ret (pe_callTy (show CallR _ _ (rTupG K) from cr_tupG) (by rfl) m_tuple (by decide +kernel) (pa_cons (pv 5) pa_nil)))))), ?_⟩
    refine ⟨.ref a, rfl, .int most, rfl, a, c, m + 299, most, rfl, hD.less (by omega), by omega, by omega, fun H1 r1 b1 D1 r1a r1b => ?_⟩
    refine ⟨1, r1, rfl, rfl, .int most, rfl, .ref a, rfl, .int most, rfl, 4, most, rfl, a, c, m + 298, _, rfl, D1.less (by omega), by split <;> omega, by split <;> omega, fun H2 r2 b2 D2 r2a r2b => ?_⟩
    refine ⟨1, r2, rfl, rfl, by show 3 ≤ sizeLine; decide, fun L nL => ?_⟩
    have sL : Same H2 (upd H2 L (.lst [.int (1 + r1), .int most, .int (1 + r2)])) := same_new nL
    refine ⟨.ref a, rfl, a, c, m + 297, 3, rfl, (D2.same sL).less (by omega), by decide, by decide, fun H3 r3 b3 D3 r3a r3b => ?_⟩
    have hL : H3 L = some (.lst [.int (1 + r1), .int most, .int (1 + r2)]) := b3 _ _ (D2.fresh nL).1 (D2.fresh nL).2 upd_same
    have r2c : r2 < most := by revert r2b; split <;> intro r2b <;> omega
    obtain ⟨nn, hnn, nn1, nn2⟩ : ∃ nn : Nat, atI [V.int (1 + r1), .int most, .int (1 + r2)] r3 = some (.int (nn : Int)) ∧ 1 ≤ nn ∧ (nn : Int) ≤ most := by
      obtain rfl | rfl | rfl : r3 = 0 ∨ r3 = 1 ∨ r3 = 2 := by omega
      · exact ⟨(1 + r1).toNat, by rw [Int.toNat_of_nonneg (by omega)]; rfl, by omega, by omega⟩
      · exact ⟨most.toNat, by rw [Int.toNat_of_nonneg (by omega)]; rfl, by omega, by omega⟩
      · exact ⟨(1 + r2).toNat, by rw [Int.toNat_of_nonneg (by omega)]; rfl, by omega, by omega⟩
    have nn3 : nn ≤ 10 := by omega
    refine ⟨L, _, _, .int (nn : Int), rfl, rfl, .inl (.inl hL), hnn, ?_⟩
    refine ⟨.ref a, rfl, a, c, m + 296, 5, rfl, D3.less (by omega), by decide, by decide, fun H4 r4 b4 D4 r4a r4b => ?_⟩
    refine ⟨.ref a, rfl, a, c, m + 295, 4, rfl, D4.less (by omega), by decide, by decide, fun H5 r5 b5 D5 r5a r5b => ⟨1, r5, rfl, rfl, ?_⟩⟩
    refine ⟨Nat.zero_le _, fun F nF => ⟨by show 3 ≤ sizeLine; decide, fun T nT => ⟨T, _, rfl, .inl (.inl upd_same), rfl, _, _, rfl, _, _, rfl, _, _, rfl, rfl, ?_⟩⟩⟩
    dsimp only
    have b05 : But a c H H5 := (((b1.trans b2).trans (But.of sL)).trans b3).trans (b4.trans b5)
    have hnF : H F = none := by
      cases e : H F with
      | none => rfl
      | some o => have := b05 F o (D5.fresh nF).1 (D5.fresh nF).2 e; rw [nF] at this; cases this
    have FD' := D5.fresh nF
    refine gen_heap (fun H6 => But a c H H6 ∧ Deck H6 a c (m + 200) ∧ H6 F = some (.lst [])) ⟨(b05.trans (But.of (same_new nF))).trans (But.of (same_new nT)), ((D5.same (same_new nF)).same (same_new nT)).less (by omega), same_new nT _ _ upd_same⟩ fun H6 ⟨b6, D6, eF6⟩ => ?_
    refine ⟨.int (nn : Int), rfl, (nn : Int), rfl, by omega, by omega, ?_⟩
    refine for_range (n := nn) (fun i σ H7 => But a c H H7 ∧ Deck H7 a c (m + 12 * (10 - i)) ∧ i ≤ nn ∧
        (∃ (vs : List V) (pan : List (List Int)), H7 F = some (.lst vs) ∧ DpAll K H7 vs (pan.map dInts) ∧ pan.length = i ∧ ∀ (j : Nat) (l : List Int), pan[j]? = some l → Asc nn l ∧ (j : Int) ∉ l) ∧
        ∃ x6 x7 x8, σ = [some (.ref a), some (.int most), some (.int (nn : Int)), some (.int r4), some (.int (1 + r5)), some (.ref F), x6, x7, x8]) ⟨b6, D6.less (by omega), Nat.zero_le _, ⟨[], [], eF6, .nil, rfl, fun j l h => by simp at h⟩, none, none, none, rfl⟩ (fun i σ H7 hi hP => ?_) (fun σ H7 hP => ?_)
    · obtain ⟨b7, D7, hin, ⟨vs, pan, eF7, dvs, hpl, hpan⟩, x6, x7, x8, rfl⟩ := hP
      rw [Int.zero_add]
      have vl : vs.length ≤ 10 := by rw [dvs.length, List.length_map, hpl]; omega
      let J : L2.St → Hp → Prop := fun σ H' => But a c H7 H' ∧ Deck H' a c (m + 12 * (10 - i) - 12) ∧ ∃ (O : Addr) (acc : List Int) (x8 : Option V), H' O = some (.lst (acc.map V.int)) ∧ (O ≠ a ∧ O ≠ c) ∧ Asc nn acc ∧ σ = [some (.ref a), some (.int most), some (.int (nn : Int)), some (.int r4), some (.int (1 + r5)), some (.ref F), some (.int (i : Int)), some (.ref O), x8]
      let J0 : L2.St → Hp → Prop := fun σ H' => But a c H7 H' ∧ Deck H' a c (m + 12 * (10 - i) - 11) ∧ ∃ (O : Addr) (acc : List Int) (x8 : Option V), H' O = some (.lst (acc.map V.int)) ∧ (O ≠ a ∧ O ≠ c) ∧ Asc nn acc ∧ σ = [some (.ref a), some (.int most), some (.int (nn : Int)), some (.int r4), some (.int (1 + r5)), some (.ref F), some (.int (i : Int)), some (.ref O), x8]
      refine gs_seqJ (J := J0) (fun σ8 H8 hJ => ?_) (fun hk => ?_)
      · refine gs_seqJ (J := J0) (fun σ9 H9 hJ => ?_) (fun hk => ?_)
        · refine gs_seqJ (J := J) (fun σ9 H9 hJ => ?_) (fun hk => ?_)
          · refine gs_seqJ (J := J) (fun σ9 H9 hJ => ?_) (fun hk => ?_)
            · -- append
              obtain ⟨b9, D9, O, acc, x8, eO, nO, hacc, rfl⟩ := hJ
              have al := hacc.len
              have eF9 := b9 _ _ FD'.1 FD'.2 eF7
              refine ⟨.ref F, rfl, .inl ⟨rfl, _, .inl (.inl eF9)⟩, (gu_tupL (K := K) (gv_lc (δ := PyData.int) (as := acc) (p := fun z => !decide (z = (i : Int))) (f := PyData.int) (gvi_list (gv_var rfl (.lst (.inl (.inl eO)) (dpAll_ints acc)))) (fun z vz Hz hz sz dz => ⟨gvt_test (gv_neI (gv_var rfl dz) (gv_var rfl (.int (i : Int)))), fun _ => gv_var rfl dz⟩) (fun _ _ => rfl) (by omega))).at fun p ws HA sA np ep dp => ?_⟩
              have eFA := sA _ _ eF9
              refine ⟨F, _, .ref p, rfl, rfl, eFA, Nat.lt_of_le_of_lt vl (by decide), ?_⟩
              have kF := Kp.upd (o := .lst (vs ++ [.ref p])) eFA
              have k7A : Kp H7 HA := (Kp.but D7 b9).trans (Kp.of sA)
              have hne : ∀ b o, b ≠ a → b ≠ c → H b = some o → HA b = some o := fun b o h1 h2 e => sA _ _ (b9 b o h1 h2 (b7 b o h1 h2 e))
              refine ⟨fun b o h1 h2 e => by rw [upd_ne (ne_of_none e hnF)]; exact hne b o h1 h2 e, (Deck.upd' (D9.same sA) FD').less (by omega), hi, ⟨vs ++ [.ref p], pan ++ [acc.filter fun z => !decide (z = (i : Int))], upd_same, ?_, by rw [List.length_append, hpl]; rfl, fun j l hj => ?_⟩, _, _, _, rfl⟩
              · rw [List.map_append]
                refine DpAll.append (dpAll_kp (k7A.trans kF) _ _ (lfAll_of fun d hd => by obtain ⟨l, _, rfl⟩ := List.mem_map.mp hd; exact lf_ints l) dvs) (.cons ?_ .nil)
                have pF : p ≠ F := fun z => by rw [z, eF9] at np; cases np
                rw [dpAll_intsV dp] at ep
                exact dp_ints (.inl (.inl (by rw [upd_ne pF]; exact ep)))
              · by_cases hji : j < i
                · rw [List.getElem?_append_left (by omega)] at hj
                  exact hpan j l hj
                · rw [List.getElem?_append_right (by omega), hpl] at hj
                  obtain rfl : j = i := by
                    have := (List.getElem?_eq_some_iff.mp hj).1
                    rw [List.length_singleton] at this; omega
                  rw [Nat.sub_self] at hj
                  obtain rfl : (acc.filter fun z => !decide (z = (j : Int))) = l := by simpa using hj
                  exact ⟨⟨hacc.up.filter _, fun x hx => hacc.rng x (List.mem_filter.mp hx).1⟩, fun h => by simpa using (List.mem_filter.mp h).2⟩
            · -- way == 2
              obtain ⟨b9, D9, O, acc, x8, eO, nO, hacc, rfl⟩ := hJ
              have al := hacc.len
              refine gs_if (gvt_test (K := K) (gv_eqI (gv_var rfl (.int r4)) gv_int)) (fun e H' s' => ?_) (fun e H' s' => ?_)
              · refine (gn_lc (K := K) (δ := PyData.int) (as := acc) (p := fun z => decide ((i : Int) < z)) (f := PyData.int) (gvi_list (gv_var rfl (.lst (.inl (.inl (s' _ _ eO))) (dpAll_ints acc)))) (fun z vz Hz hz sz dz => ⟨gvt_test (gv_I0 (gv_var rfl dz) (gv_var rfl (.int (i : Int))) fun _ => .bl _), fun _ => gv_var rfl dz⟩) (fun _ _ => rfl) (by omega)).at fun O2 ws HA sA nA eA dA => ?_
                rw [dpAll_intsV dA] at eA
                exact hk _ _ ⟨b9.trans (But.of (s'.trans sA)), (D9.same (s'.trans sA)), O2, _, _, eA, D9.fresh (s'.free nA), ⟨hacc.up.filter _, fun x hx => hacc.rng x (List.mem_filter.mp hx).1⟩, rfl⟩
              · exact hk _ _ ⟨b9.trans (But.of s'), D9.same s', O, acc, _, s' _ _ eO, nO, hacc, rfl⟩
          · -- way == 1 and a draw
            obtain ⟨b9, D9, O, acc, x8, eO, nO, hacc, rfl⟩ := hJ
            refine ⟨.int r4, rfl, rfl, _, rfl, ite2 (fun e => ?_) (fun e => ?_)⟩
            · refine ⟨.ref a, rfl, a, c, m + 12 * (10 - i) - 12, 2, rfl, D9.less (by omega), by decide, by decide, fun HA rA bA DA rAa rAb => ⟨rfl, _, rfl, ite2 (fun e2 => ?_) (fun e2 => ?_)⟩⟩
              · refine ⟨.int (nn : Int), rfl, (nn : Int), rfl, ⟨by omega, by omega, by omega, by omega, by have := small5 (n := nn) (by omega); omega⟩, fun O2 nO2 => ?_⟩
                have eR : rgV 0 (nn : Int) = (intL nn).map V.int := by
                  unfold rgV intL
                  rw [List.map_map, Int.sub_zero, Int.toNat_natCast]
                  exact List.map_congr_left fun z _ => by simp
                exact hk _ _ ⟨(b9.trans bA).trans (But.of (same_new nO2)), DA.same (same_new nO2), O2, intL nn, _, by rw [upd_same, eR], DA.fresh nO2, by have := Asc.filter (n := nn) (fun _ => true); rwa [List.filter_eq_self.mpr (fun _ _ => rfl)] at this, rfl⟩
              · exact hk _ _ ⟨b9.trans bA, DA, O, acc, _, bA _ _ nO.1 nO.2 eO, nO, hacc, rfl⟩
            · exact hk _ _ ⟨b9, D9.less (by omega), O, acc, _, eO, nO, hacc, rfl⟩
        · -- way == 0
          obtain ⟨b9, D9, O, acc, x8, eO, nO, hacc, rfl⟩ := hJ
          refine gs_if (gvt_test (K := K) (gv_eqI (gv_var rfl (.int r4)) gv_int)) (fun e H' s' => ?_) (fun e H' s' => ?_)
          · refine ⟨.int (i : Int), rfl, _, 1, rfl, rfl, .int (nn : Int), rfl, _, _, rfl, rfl, (by show (0 : Int) < (nn : Int); omega), by show 1 ≤ sizeLine; decide, fun O2 nO2 => ?_⟩
            exact hk _ _ ⟨b9.trans (But.of (s'.trans (same_new nO2))), D9.same (s'.trans (same_new nO2)), O2, [((i : Int) + 1) % (nn : Int)], _, upd_same, D9.fresh (s'.free nO2), ⟨List.pairwise_singleton _ _, fun x hx => by rw [List.mem_singleton.mp hx]; exact ⟨Int.emod_nonneg _ (by omega), Int.emod_lt_of_pos _ (by omega)⟩⟩, rfl⟩
          · exact hk _ _ ⟨b9.trans (But.of s'), D9.same s', O, acc, _, s' _ _ eO, nO, hacc, rfl⟩
      · -- own
        refine ⟨.int (nn : Int), rfl, (nn : Int), rfl, by omega, by omega, fun O nO => ?_⟩
        have oO := D7.fresh nO
        refine lc_range (n := nn) (fun k H8 => But a c H7 H8 ∧ Deck H8 a c (m + 12 * (10 - i) - k) ∧ ∃ acc : List Int, H8 O = some (.lst (acc.map V.int)) ∧ Asc k acc)
          ⟨But.of (same_new nO), (D7.same (same_new nO)).less (by omega), [], upd_same, Asc.nil _⟩ (fun k H8 hk' hP => ?_) (fun H8 hP => ?_)
        · obtain ⟨b8, D8, acc, eO, hacc⟩ := hP
          have al := hacc.len
          rw [Int.zero_add]
          refine ⟨rfl, .ref a, rfl, a, c, m + 12 * (10 - i) - (k + 1), 5, rfl, D8.less (by omega), by decide, by decide, fun H9 r9 b9 D9 r9a r9b => ⟨.int (1 + r5), rfl, _, _, rfl, rfl, _, rfl, ite2 (fun e => ?_) (fun e => ?_)⟩⟩
          · refine ⟨.int (k : Int), rfl, _, b9 _ _ oO.1 oO.2 eO, by rw [List.length_map]; exact small1000 (by omega), fun b o h1 h2 e => ?_, Deck.upd' D9 oO, acc ++ [(k : Int)], by rw [upd_same, List.map_append]; rfl, ?_⟩
            · rw [upd_ne (ne_of_none e nO)]
              exact b9 _ _ h1 h2 (b8 _ _ h1 h2 e)
            · refine ⟨List.pairwise_append.mpr ⟨hacc.up, List.pairwise_singleton _ _, fun x hx y hy => ?_⟩, fun x hx => ?_⟩
              · rw [List.mem_singleton.mp hy]; exact (hacc.rng x hx).2
              · rcases List.mem_append.mp hx with h | h
                · have := hacc.rng x h; omega
                · rw [List.mem_singleton.mp h]; omega
          · exact ⟨b8.trans b9, D9, acc, b9 _ _ oO.1 oO.2 eO, hacc.up, fun x hx => by have := hacc.rng x hx; omega⟩
        · obtain ⟨b8, D8, acc, eO, hacc⟩ := hP
          exact hk _ _ ⟨b8, D8.less (by omega), O, acc, _, eO, oO, ⟨hacc.up, fun x hx => by have := hacc.rng x hx; omega⟩, rfl⟩
    · obtain ⟨b7, D7, hin, ⟨vs, pan, eF7, dvs, hpl, hpan⟩, x6, x7, x8, rfl⟩ := hP
      refine gs_ret (K := K) (gv_tupL (gv_var rfl (.lst (.inl (.inl eF7)) dvs))) fun v H8 s8 dv => q H8 v pan (b7.trans (But.of s8)) ((D7.same s8).less (by omega)) dv ?_ (by omega)
      refine ⟨by omega, by omega, fun l hl => ?_, fun l hl => ?_, fun j l hl => (hpan j l hl).2⟩
      · obtain ⟨j, hj⟩ := List.getElem?_of_mem hl
        exact (hpan j l hj).1.up
      · obtain ⟨j, hj⟩ := List.getElem?_of_mem hl
        intro x hx
        have := (hpan j l hj).1.rng x hx
        omega
end
end K48
namespace K48
open PySem PySem.Spec PyProof.Rows L2 Pr
def nAny : List Str := ["panel", "button", "others", "other"]
theorem scAny : FnScope nAny ["panel", "button", "others"] (defScope sAny) := ⟨rfl, rfl, rfl, by decide +kernel, rfl, by decide +kernel, by decide +kernel⟩
def nHeld : List Str := ["panel", "state", "held", "left", "button"]
theorem scHeld : FnScope nHeld ["panel", "state"] (defScope sHeld) := ⟨rfl, rfl, rfl, by decide +kernel, rfl, by decide +kernel, by decide +kernel⟩
section
variable {P : Program} {w : World} {K : PySem.W.Frag} {mg : Str → Option Value} {base : Heap}
def spAny (K : PySem.W.Frag) : Sp := fun vs H Q _ => ∃ (p o : Addr) (pan : List (List Int)) (b : Int) (os : List Int), vs = [.ref p, .int b, .ref o] ∧ PanT K H p pan ∧ Good pan ∧ 0 ≤ b ∧ b < (pan.length : Int) ∧ SqT K H o (os.map V.int) ∧
  ∀ H', Same H H' → Q (.bl (relB pan os b)) H'
theorem ok_any {f : Addr} {fd : FuncData} {k : Nat} (F : Fun K "releases_any" "releases_any" sAny f fd) (my : mg "any" = none) : FnOk P w K mg base CX0 (k + 1) f fd ["panel", "button", "others"] (spAny K) := by
  refine F.ok scAny (fun vs H Q E h => ?_) (fun cdv A outer s H vs Q E hr h => ?_)
  · obtain ⟨p, o, pan, b, os, rfl, _⟩ := h
    rfl
  · obtain ⟨p, o, pan, b, os, rfl, hp, hg, b0, b1, ho, q⟩ := h
    refine ⟨_, pss_one (ps_ret (pe_callB (cr_any rfl) (by rfl) my (by decide +kernel) (pa_cons
      (pe_lc (own := [("other", 3)]) (g := gName 3) (tt := tYes) rfl scAny.nd (pi_tup (pe_ix ix_tup (pv 0) (pv 1) (fun _ _ => rfl)))
        (blkOk_by (own := [("other", 3)]) (N := nAny) (sc := defScope sAny) (by decide +kernel)) (fun _ _ _ _ _ => pg_name (i := 3) scAny.nd rfl (Or.inl rfl)) (fun _ _ _ _ _ => pts_nil)
        (fun _ _ _ _ _ => pe_cmpR (show OpR _ _ (rIn K false) from op_in_seq) (pv 3) (pv 2) (by rfl))) pa_nil))), ?_⟩
    obtain ⟨qs, q', hq, ha, hr', _⟩ := panT_at hp b0 b1
    have hll : (pan.getD b.toNat []).length ≤ 10 := by
      have hbn : b.toNat < pan.length := by omega
      have hm : pan.getD b.toNat [] ∈ pan := by
        rw [List.getD_eq_getElem?_getD, List.getElem?_eq_getElem hbn]
        exact List.getElem_mem hbn
      have few := hg.few
      refine pw_length (n := 10) (lo := 0) (hg.up _ hm) fun x hx => ?_
      have := hg.rng _ hm x hx
      omega
    unfold relB at q
    generalize pan.getD b.toNat [] = l at hr' hll q
    refine ⟨.ref p, rfl, .int b, rfl, p, _, _, .ref q', rfl, rfl, hq, ha, q', rfl, ⟨_, hr'⟩, fun D nD => ?_⟩
    refine lc_tup (xs := l.map V.int) (fun i H3 => Same H H3 ∧ H3 D = some (.lst (((l.take i).map fun c => decide (c ∈ os)).map V.bl))) ⟨same_new nD, upd_same⟩ (fun i H3 _ hP => same_sqT hP.1 hr') (fun i x H3 hx hP => ?_) (fun H3 hP => ?_)
    · obtain ⟨s3, eD⟩ := hP
      obtain ⟨z, hz, rfl⟩ := int_get hx
      refine ⟨rfl, tyes (iteT ⟨.int z, rfl, .ref o, rfl, o, _, rfl, .inr (same_sqT s3 ho), rfl, flat_ints _, _, eD, ?_, ?_, ?_⟩)⟩
      · rw [List.length_map, List.length_map, List.length_take]; exact small1000 (by omega)
      · intro b' ob e
        rw [upd_ne (ne_of_none e nD)]
        exact s3 _ _ e
      · rw [upd_same, if_neg Bool.false_ne_true, inV_ints, List.take_add_one, hz, List.map_append, List.map_append]; rfl
    · obtain ⟨s3, eD⟩ := hP
      rw [List.length_map, List.take_length] at eD
      refine ⟨D, _, rfl, .inl (.inl eD), ?_⟩
      rw [List.any_map]
      exact q _ s3
def spHeld (K : PySem.W.Frag) : Sp := fun vs H Q _ => ∃ (p t : Addr) (pan : List (List Int)) (st : List Int), vs = [.ref p, .ref t] ∧ PanT K H p pan ∧ Good pan ∧ SqT K H t (st.map V.int) ∧ Asc pan.length st ∧
  ∀ (H' : Hp) (u : Addr) (hs : List Int), Same H H' → SqT K H' u (hs.map V.int) → IsHeld pan st hs → Q (.ref u) H'
theorem filt_take {f : Int → Bool} {l : List Int} {i : Nat} {z : Int} (hz : l[i]? = some z) : (l.take (i + 1)).filter f = (l.take i).filter f ++ (if f z = true then [z] else []) := by
  rw [List.take_add_one, hz, List.filter_append]
  congr 1
  by_cases e : f z = true
  · rw [if_pos e]; exact List.filter_cons_of_pos e
  · rw [if_neg e]; exact List.filter_cons_of_neg e
theorem ok_held {f fA : Addr} {fd fdA : FuncData} {k : Nat} (F : Fun K "held_buttons" "held_buttons" sHeld f fd) (FA : Fun K "releases_any" "releases_any" sAny fA fdA) (bA : Binds K fdA ["panel", "button", "others"] []) (gA : mg "releases_any" = some (.ref fA))
    (ml : mg "len" = none) (mt : mg "tuple" = none) (my : mg "any" = none) : FnOk P w K mg base CX0 (k + 2) f fd ["panel", "state"] (spHeld K) := by
  have GA : FnOk P w K mg base CX0 (k + 1) fA fdA ["panel", "button", "others"] (spAny K) := ok_any FA my
  refine F.ok scHeld (fun vs H Q E h => ?_) (fun cdv A outer s H vs Q E hr h => ?_)
  · obtain ⟨p, t, pan, st, rfl, _⟩ := h
    rfl
  · obtain ⟨p, t, pan, st, rfl, hp, hg, ht, hst, q⟩ := h
    refine ⟨_, pss_cons (ps_set (i := 2) scHeld.nd rfl (.inr rfl) (pv 1))
      (pss_cons (ps_setLc (i := 3) (own := [("button", 4)]) (g := gName 4) rfl scHeld.nd rfl rfl (sw_true rfl rfl rfl (by decide +kernel)) (pi_tup (pv 2))
        (blkOk_by (own := [("button", 4)]) (N := nHeld) (sc := defScope sHeld) (by decide +kernel)) (fun _ _ _ _ _ => pg_name (i := 4) scHeld.nd rfl (Or.inl rfl))
        (fun _ _ _ _ _ => pts_one (pt_val (pe_call GA hr (by rfl) gA FA.kp bA .nil pass0 (pa_cons (pv 0) (pa_cons (pv 4) (pa_cons (pv 2) pa_nil)))))) (fun _ _ _ _ _ => pv 4))
      (pss_cons (ps_while PassesOwn.never (pt_cmpR op_lt (pe_callB call_len_seq (by rfl) ml PySem.boot_len (pa_cons (pv 3) pa_nil)) (pe_callB call_len_seq (by rfl) ml PySem.boot_len (pa_cons (pv 2) pa_nil)) (nomark _))
        (pss_cons (ps_set (i := 2) scHeld.nd rfl (.inr rfl) (pe_callTy call_tupF (by rfl) mt (by decide +kernel) (pa_cons (pv 3) pa_nil)))
        (pss_one (ps_setLc (i := 3) (own := [("button", 4)]) (g := gName 4) rfl scHeld.nd rfl rfl (sw_true rfl rfl rfl (by decide +kernel)) (pi_tup (pv 2))
          (blkOk_by (own := [("button", 4)]) (N := nHeld) (sc := defScope sHeld) (by decide +kernel)) (fun _ _ _ _ _ => pg_name (i := 4) scHeld.nd rfl (Or.inl rfl))
          (fun _ _ _ _ _ => pts_one (pt_val (pe_call GA hr (by rfl) gA FA.kp bA .nil pass0 (pa_cons (pv 0) (pa_cons (pv 4) (pa_cons (pv 2) pa_nil)))))) (fun _ _ _ _ _ => pv 4)))))
      (pss_one (ps_ret (pv 2))))), ?_⟩
    have few := hg.few
    refine ⟨.ref t, rfl, ?_⟩
    refine ⟨.ref t, rfl, t, rfl, ⟨_, ht⟩, fun D nD => ?_⟩
    have slen := hst.len
    refine lc_tup (xs := st.map V.int) (fun i H3 => Same H H3 ∧ H3 D = some (.lst (((st.take i).filter (relB pan st)).map V.int))) ⟨same_new nD, upd_same⟩ (fun i H3 _ hP => same_sqT hP.1 ht) (fun i x H3 hx hP => ?_) (fun H3 hP => ?_)
    · obtain ⟨s3, eD⟩ := hP
      obtain ⟨z, hz, rfl⟩ := int_get hx
      have hzr := hst.rng z (List.mem_of_getElem? hz)
      have step := filt_take (f := relB pan st) hz
      have fl := List.length_filter_le (relB pan st) (st.take i)
      rw [List.length_take] at fl
      refine ⟨rfl, .ref p, rfl, .int z, rfl, .ref t, rfl, p, t, pan, z, st, rfl, hp.same s3, hg, hzr.1, hzr.2, same_sqT s3 ht, fun H4 s4 => ⟨_, rfl, ite2 (fun e => ?_) (fun e => ?_)⟩⟩
      · refine ⟨.int z, rfl, _, s4 _ _ eD, by rw [List.length_map]; exact small1000 (by omega), fun b o e' => ?_, ?_⟩
        · rw [upd_ne (ne_of_none e' nD)]
          exact s4 _ _ (s3 _ _ e')
        · rw [upd_same, step, if_pos e, List.map_append]; rfl
      · refine ⟨s3.trans s4, ?_⟩
        rw [step, if_neg e, List.append_nil]; exact s4 _ _ eD
    · obtain ⟨s3, eD⟩ := hP
      rw [List.length_map, List.take_length] at eD
      refine ⟨fun mm σ H4 => ∃ (hs : List Int) (u L : Addr) (x4 : Option V), mm = hs.length ∧ Same H H4 ∧ SqT K H4 u (hs.map V.int) ∧ H4 L = some (.lst ((hs.filter (relB pan hs)).map V.int)) ∧ Hold pan st hs ∧ σ = [some (.ref p), some (.ref t), some (.ref u), some (.ref L), x4],
        ⟨_, st, t, D, _, rfl, s3, same_sqT s3 ht, eD, ⟨hst.up, fun x h => h, fun C _ h x hx => h x hx⟩, rfl⟩, ?_⟩
      rintro mm σ H4 ⟨hs, u, L, x4, rfl, s4, hu, eL, hh, rfl⟩
      have hsr : ∀ x ∈ hs, 0 ≤ x ∧ x < (pan.length : Int) := fun x hx => hst.rng x (hh.sub x hx)
      have hsl : hs.length ≤ 10 := pw_length (n := 10) (lo := 0) hh.up fun x hx => by have := hsr x hx; omega
      refine ⟨.ref L, rfl, L, _, rfl, .inl (.inl (.inl eL)), .ref u, rfl, u, _, rfl, .inr hu, _, _, rfl, rfl, _, rfl, ite2 (fun e => ?_) (fun e => ?_)⟩
      · have e' : (hs.filter (relB pan hs)).length < hs.length := by
          have := of_decide_eq_true e
          rw [List.length_map, List.length_map] at this; omega
        have hstep := hh.step
        generalize hs.filter (relB pan hs) = gs at e' eL hstep
        refine ⟨_, fun σ' H' h => h, .ref L, rfl, L, _, rfl, .inl (.inl eL), fun u' o' nu' ho' => ?_⟩
        have su : Same H4 (upd H4 u' (.frz o' (.tup (gs.map V.int)))) := same_new nu'
        have hu' : SqT K (upd H4 u' (.frz o' (.tup (gs.map V.int)))) u' (gs.map V.int) := .inl (.inr ⟨o', upd_same⟩)
        refine gen_name (fun H5 => Same H4 H5 ∧ SqT K H5 u' (gs.map V.int)) ⟨su, hu'⟩ fun H5 ⟨s5, hu5⟩ => ?_
        have s05 := s4.trans s5
        refine ⟨.ref u', rfl, u', rfl, ⟨_, hu5⟩, fun D2 nD2 => ?_⟩
        refine lc_tup (xs := gs.map V.int) (fun i H6 => Same H5 H6 ∧ H6 D2 = some (.lst (((gs.take i).filter (relB pan gs)).map V.int))) ⟨same_new nD2, upd_same⟩ (fun i H6 _ hP => same_sqT hP.1 hu5) (fun i x H6 hx hP => ?_) (fun H6 hP => ?_)
        · obtain ⟨s6, eD2⟩ := hP
          obtain ⟨z, hz, rfl⟩ := int_get hx
          have hzr := hst.rng z (hstep.sub z (List.mem_of_getElem? hz))
          have step := filt_take (f := relB pan gs) hz
          have fl := List.length_filter_le (relB pan gs) (gs.take i)
          rw [List.length_take] at fl
          refine ⟨rfl, .ref p, rfl, .int z, rfl, .ref u', rfl, p, u', pan, z, gs, rfl, hp.same (s05.trans s6), hg, hzr.1, hzr.2, same_sqT s6 hu5, fun H7 s7 => ⟨_, rfl, ite2 (fun e => ?_) (fun e => ?_)⟩⟩
          · refine ⟨.int z, rfl, _, s7 _ _ eD2, by rw [List.length_map]; exact small1000 (by omega), fun b o e' => ?_, ?_⟩
            · rw [upd_ne (ne_of_none e' nD2)]
              exact s7 _ _ (s6 _ _ e')
            · rw [upd_same, step, if_pos e, List.map_append]; rfl
          · refine ⟨s6.trans s7, ?_⟩
            rw [step, if_neg e, List.append_nil]; exact s7 _ _ eD2
        · obtain ⟨s6, eD2⟩ := hP
          rw [List.length_map, List.take_length] at eD2
          exact ⟨gs.length, e', gs, u', D2, _, rfl, s05.trans s6, same_sqT s6 hu5, eD2, hstep, rfl⟩
      · have e' : ¬ (hs.filter (relB pan hs)).length < hs.length := fun z => e (decide_eq_true (by rw [List.length_map, List.length_map]; omega))
        exact ⟨.ref u, rfl, q H4 u hs s4 hu (hh.done e')⟩
end
end K48
namespace Pr
open PySem PySem.Spec PyProof.Rows L2
/-- what b releases -/
abbrev relM (pan : List (List Int)) (b : Int) : List Int := pan.getD b.toNat []
/-- which buttons may be pressed on the way to the goal -/
def PrOk (pan : List (List Int)) (goal hs G : List Int) (b : Int) : Prop := (b ∈ goal ∧ b ∉ hs) ∨ (b ∈ G ∧ ∀ x ∈ relM pan b, x ∉ hs)
section
variable {pan : List (List Int)} {goal hs G : List Int}
/-- a button of the goal that is not held releases no held one -/
theorem free_of (hh : IsHeld pan goal hs) {b : Int} (hb : b ∈ goal) (hn : b ∉ hs) : ∀ x ∈ relM pan b, x ∉ hs := fun x hx hxs => by
  refine hn (hh.most (b :: hs) ?_ ?_ b List.mem_cons_self)
  · intro y hy
    rcases List.mem_cons.mp hy with rfl | hy
    · exact ⟨x, hx, List.mem_cons_of_mem _ hxs⟩
    · obtain ⟨z, h1, h2⟩ := hh.closed y hy
      exact ⟨z, h1, List.mem_cons_of_mem _ h2⟩
  · intro y hy
    rcases List.mem_cons.mp hy with rfl | hy
    · exact hb
    · exact hh.sub y hy
theorem PrOk.free (hh : IsHeld pan goal hs) {b : Int} (h : PrOk pan goal hs G b) : ∀ x ∈ relM pan b, x ∉ hs := by
  rcases h with ⟨h1, h2⟩ | ⟨_, h2⟩
  · exact free_of hh h1 h2
  · exact h2
end
end Pr
namespace Pr
open PySem PySem.Spec PyProof.Rows L2
end Pr
namespace Pr
open PySem PySem.Spec PyProof.Rows L2
section
variable {κ : Type} [DecidableEq κ] {step : κ → Nat → κ} {n : Nat} {s : κ}
structure Lv (step : κ → Nat → κ) (n : Nat) (L : BL κ) (i : Nat) : Prop where
  up : L.Pairwise fun a b => a.2.length ≤ b.2.length
  top : ∀ x, L[i]? = some x → ∀ y ∈ L, y.2.length ≤ x.2.length + 1
  near : ∀ j < i, ∀ x, L[j]? = some x → ∀ b < n, ∃ y ∈ L, y.1 = step x.1 b ∧ y.2.length ≤ x.2.length + 1
end
end Pr
namespace Pr
open PySem PySem.Spec PyProof.Rows L2
/-- n items of which P holds -/
def AllP (P : PyData → Prop) (n : Nat) (ds : List PyData) : Prop := ds.length = n ∧ ∀ d ∈ ds, P d
/-- a tuple of at most n items of which P holds -/
def TupP (P : PyData → Prop) (n : Nat) (d : PyData) : Prop := ∃ ds, d = .tuple ds ∧ ds.length ≤ n ∧ ∀ x ∈ ds, P x
theorem AllP.nil {P : PyData → Prop} : AllP P 0 [] := ⟨rfl, fun _ h => by cases h⟩
theorem AllP.cons {P : PyData → Prop} {n : Nat} {d : PyData} {ds : List PyData} (h : P d) (r : AllP P n ds) : AllP P (n + 1) (d :: ds) :=
  ⟨by rw [List.length_cons, r.1], fun x hx => by
    rcases List.mem_cons.mp hx with rfl | hx
    · exact h
    · exact r.2 x hx⟩
theorem AllP.append {P : PyData → Prop} {n m : Nat} {ds es : List PyData} (h : AllP P n ds) (r : AllP P m es) : AllP P (n + m) (ds ++ es) :=
  ⟨by rw [List.length_append, h.1, r.1], fun x hx => (List.mem_append.mp hx).elim (h.2 x) (r.2 x)⟩
theorem AllP.mono {P P' : PyData → Prop} {n : Nat} {ds : List PyData} (h : AllP P n ds) (f : ∀ d, P d → P' d) : AllP P' n ds := ⟨h.1, fun d hd => f d (h.2 d hd)⟩
theorem TupP.mono {P P' : PyData → Prop} {n m : Nat} {d : PyData} (h : TupP P n d) (f : ∀ d, P d → P' d) (hm : n ≤ m) : TupP P' m d :=
  let ⟨ds, e, l, q⟩ := h; ⟨ds, e, Nat.le_trans l hm, fun x hx => f x (q x hx)⟩
end Pr
namespace Pr
open PySem PySem.Spec PyProof.Rows L2
def isB : PyData → Bool
  | .bool _ => true
  | _ => false
theorem isB_kit {K : PySem.W.Frag} (d : PyData) : PySem.W.kitOne K (.type (tyD d)) (.type "bool") = some (isB d) := by
  cases d with
  | none => exact kit_ty (show kitB "NoneType" "bool" = some false by decide +kernel)
  | bool _ => exact kit_ty (show kitB "bool" "bool" = some true by decide +kernel)
  | int _ => exact kit_ty (show kitB "int" "bool" = some false by decide +kernel)
  | str _ => exact kit_ty (show kitB "str" "bool" = some false by decide +kernel)
  | list _ => exact kit_ty (show kitB "list" "bool" = some false by decide +kernel)
  | tuple _ => exact kit_ty (show kitB "tuple" "bool" = some false by decide +kernel)
  | dict _ => exact kit_ty (show kitB "dict" "bool" = some false by decide +kernel)
def isI : PyData → Bool
  | .bool _ => true
  | .int _ => true
  | _ => false
theorem isI_kit {K : PySem.W.Frag} (d : PyData) : PySem.W.kitOne K (.type (tyD d)) (.type "int") = some (isI d) := by
  cases d with
  | none => exact kit_ty (show kitB "NoneType" "int" = some false by decide +kernel)
  | bool _ => exact kit_ty (show kitB "bool" "int" = some true by decide +kernel)
  | int _ => exact kit_ty (show kitB "int" "int" = some true by decide +kernel)
  | str _ => exact kit_ty (show kitB "str" "int" = some false by decide +kernel)
  | list _ => exact kit_ty (show kitB "list" "int" = some false by decide +kernel)
  | tuple _ => exact kit_ty (show kitB "tuple" "int" = some false by decide +kernel)
  | dict _ => exact kit_ty (show kitB "dict" "int" = some false by decide +kernel)
def isT : PyData → Bool
  | .tuple _ => true
  | _ => false
theorem isT_kit {K : PySem.W.Frag} (d : PyData) : PySem.W.kitOne K (.type (tyD d)) (.type "tuple") = some (isT d) := by
  cases d with
  | none => exact kit_ty (show kitB "NoneType" "tuple" = some false by decide +kernel)
  | bool _ => exact kit_ty (show kitB "bool" "tuple" = some false by decide +kernel)
  | int _ => exact kit_ty (show kitB "int" "tuple" = some false by decide +kernel)
  | str _ => exact kit_ty (show kitB "str" "tuple" = some false by decide +kernel)
  | list _ => exact kit_ty (show kitB "list" "tuple" = some false by decide +kernel)
  | tuple _ => exact kit_ty (show kitB "tuple" "tuple" = some true by decide +kernel)
  | dict _ => exact kit_ty (show kitB "dict" "tuple" = some false by decide +kernel)
def isBtn (n : Int) : PyData → Bool
  | .int i => decide (0 ≤ i) && decide (i < n)
  | _ => false
def ascFrom (n : Int) : Int → List PyData → Bool
  | _, [] => true
  | b, .int i :: r => decide (0 ≤ i) && decide (i < n) && decide (b < i) && ascFrom n i r
  | _, _ :: _ => false
def btnT (n : Int) : PyData → Bool
  | .tuple ds => ascFrom n (-1) ds
  | _ => false
def dErr (k : PyData) (x : Str) : PyData := .tuple [k, .str x]
def hasInt (k : Int) : PyData → Bool
  | .tuple ds => ds.any fun d => match d with | .int i => decide (i = k) | _ => false
  | _ => false
def errFrom (n : Int) : Nat → List PyData → PyData
  | _, [] => .none
  | k, d :: r => if btnT n d then (if hasInt (k : Int) d then dErr (.int (k : Int)) "itself" else errFrom n (k + 1) r) else dErr (.int (k : Int)) "list"
def errD : PyData → PyData
  | .tuple ds => if 1 ≤ ds.length ∧ ds.length ≤ 10 then errFrom (ds.length : Int) 0 ds else dErr .none "panel"
  | _ => dErr .none "panel"
theorem ascFrom_ints {n : Int} : ∀ {b : Int} {ds : List PyData}, ascFrom n b ds = true → ∃ ns : List Int, ds = ns.map PyData.int ∧ ns.Pairwise (· < ·) ∧ ∀ x ∈ ns, b < x ∧ 0 ≤ x ∧ x < n
  | b, [], _ => ⟨[], rfl, List.Pairwise.nil, fun _ h => by cases h⟩
  | b, d :: r, h => by
    cases d with
    | int i =>
      simp only [ascFrom, Bool.and_eq_true, decide_eq_true_eq] at h
      obtain ⟨ns, rfl, h2, h3⟩ := ascFrom_ints h.2
      refine ⟨i :: ns, rfl, List.pairwise_cons.mpr ⟨fun x hx => (h3 x hx).1, h2⟩, fun x hx => ?_⟩
      rcases List.mem_cons.mp hx with rfl | hx
      · exact ⟨h.1.2, h.1.1⟩
      · have := h3 x hx; omega
    | none => simp [ascFrom] at h
    | bool _ => simp [ascFrom] at h
    | str _ => simp [ascFrom] at h
    | list _ => simp [ascFrom] at h
    | tuple _ => simp [ascFrom] at h
    | dict _ => simp [ascFrom] at h
theorem hasInt_ints {k : Int} (ns : List Int) : hasInt k (.tuple (ns.map PyData.int)) = decide (k ∈ ns) := by
  show (ns.map PyData.int).any _ = _
  rw [List.any_map, Bool.eq_iff_iff, List.any_eq_true, decide_eq_true_eq]
  constructor
  · rintro ⟨x, hx, e⟩
    have e' : x = k := by simpa using e
    rw [← e']; exact hx
  · intro h
    exact ⟨k, h, by simp⟩
theorem dqAll_of_ints {K : PySem.W.Frag} {N : Addr → Prop} {H : Hp} : ∀ {xs : List V} {ns : List Int}, DqAll K N H xs (ns.map PyData.int) → xs = ns.map V.int
  | _, [], h => by cases h; rfl
  | _, x :: r, h => by
    cases h with
    | cons h1 h2 => cases h1; rw [List.map_cons, dqAll_of_ints h2]
theorem errFrom_drop {n : Int} {ds : List PyData} {i : Nat} {d : PyData} (h : ds[i]? = some d) : errFrom n i (ds.drop i) = if btnT n d then (if hasInt (i : Int) d then dErr (.int (i : Int)) "itself" else errFrom n (i + 1) (ds.drop (i + 1))) else dErr (.int (i : Int)) "list" := by
  have hi := (List.getElem?_eq_some_iff.mp h).1
  have : ds.drop i = d :: ds.drop (i + 1) := by
    rw [List.drop_eq_getElem_cons hi, (List.getElem?_eq_some_iff.mp h).2]
  rw [this]; rfl
theorem eqv_intsL : ∀ (ns ms : List Int), PyData.eqvAll (ns.map PyData.int) (ms.map PyData.int) = decide (ns = ms)
  | [], [] => by simp [PyData.eqvAll]
  | [], _ :: _ => by simp [PyData.eqvAll]
  | _ :: _, [] => by simp [PyData.eqvAll]
  | x :: r, y :: t => by
    simp only [List.map_cons, PyData.eqvAll, PyData.eqv, eqv_intsL r t]
    by_cases h : x = y <;> by_cases h2 : r = t <;> simp [h, h2]
theorem canLay_ints : ∀ ns : List Int, PyData.canLayAll0 (ns.map PyData.int) = true ∧ PyData.depthAll (ns.map PyData.int) = 0
  | [] => ⟨by simp [PyData.canLayAll0], by simp [PyData.depthAll]⟩
  | x :: r => by
    obtain ⟨h1, h2⟩ := canLay_ints r
    exact ⟨by simp [PyData.canLayAll0, PyData.canLay0, h1], by simp [PyData.depthAll, PyData.depth, h2]⟩
end Pr
namespace Pr
open PySem PySem.Spec PyProof.Rows L2
theorem shp_ints (ns : List Int) : SeqAt.shaped (dInts ns) = true := by
  obtain ⟨h1, h2⟩ := canLay_ints ns
  simp [dInts, SeqAt.shaped, PyData.canLay0, PyData.depth, h1, h2]
theorem eqv_di (ns ms : List Int) : PyData.eqv (dInts ns) (dInts ms) = decide (ns = ms) := by
  unfold dInts
  simp only [PyData.eqv]
  exact eqv_intsL ns ms
theorem eqv_rowsA : ∀ (a b : List (List Int)), PyData.eqvAll (a.map dInts) (b.map dInts) = decide (a = b)
  | [], [] => by simp [PyData.eqvAll]
  | [], _ :: _ => by simp [PyData.eqvAll]
  | _ :: _, [] => by simp [PyData.eqvAll]
  | x :: r, y :: t => by
    simp only [List.map_cons, PyData.eqvAll, eqv_di, eqv_rowsA r t]
    by_cases h : x = y <;> by_cases h2 : r = t <;> simp [h, h2]
theorem eqv_rowsT (a b : List (List Int)) : PyData.eqv (.tuple (a.map dInts)) (.tuple (b.map dInts)) = decide (a = b) := by
  simp only [PyData.eqv]; exact eqv_rowsA a b
theorem lay_rows : ∀ a : List (List Int), PyData.canLayAll0 (a.map dInts) = true ∧ PyData.depthAll (a.map dInts) ≤ 1
  | [] => ⟨by simp [PyData.canLayAll0], by simp [PyData.depthAll]⟩
  | x :: r => by
    obtain ⟨h1, h2⟩ := lay_rows r
    obtain ⟨g1, g2⟩ := canLay_ints x
    refine ⟨by simp [PyData.canLayAll0, dInts, PyData.canLay0, h1, g1], ?_⟩
    simp only [List.map_cons, PyData.depthAll, dInts, PyData.depth, g2]
    omega
theorem shp_rowsT (a : List (List Int)) : SeqAt.shaped (.tuple (a.map dInts)) = true := by
  obtain ⟨h1, h2⟩ := lay_rows a
  simp only [SeqAt.shaped, PyData.canLay0, PyData.depth, h1, Bool.true_and]
  exact decide_eq_true (by omega)
def dNone : PyData → Bool
  | .none => true
  | _ => false
section
variable {K : PySem.W.Frag} {σ : L2.St} {H : Hp} {t tk ta tb : TE}
theorem set_three (σ : L2.St) (i j l : Nat) (v u x : V) : ((((((((σ.set l none).set j none).set i none).set i (some v)).set j (some u)).set l (some x)).set l none).set j none).set i none = ((σ.set l none).set j none).set i none := by
  refine List.ext_getElem? fun m => ?_
  simp only [List.getElem?_set, List.length_set]
  split <;> split <;> (try split) <;> simp_all
theorem gn_lc3 {wi : TI} {tt : TT} {te : TE} {i j l : Nat} {α : Type} {δ1 δ2 δ3 : α → PyData} {as : List α} {p : α → Bool} {f : α → PyData} (hI : GvI K Same wi σ H (as.map fun a => .tuple [δ1 a, δ2 a, δ3 a]))
    (hb : ∀ a v u x H1, a ∈ as → Same H H1 → Dp K H1 v (δ1 a) → Dp K H1 u (δ2 a) → Dp K H1 x (δ3 a) → GvT tt ((((((σ.set l none).set j none).set i none).set i (some v)).set j (some u)).set l (some x)) H1 (p a) ∧ (p a = true → Gv K te ((((((σ.set l none).set j none).set i none).set i (some v)).set j (some u)).set l (some x)) H1 (f a)))
    (hf : ∀ a ∈ as, lf (f a) = true) (hn : as.length ≤ 100000) (hij : i ≠ j) (hil : i ≠ l) (hjl : j ≠ l) : GvN K (tLc wi (gTup K 3 (gCons (gName i) (gCons (gName j) (gCons (gName l) gNil)))) tt te [i, j, l]) σ H ((as.filter p).map f) := by
  intro H0 s0 Q q
  refine hI H0 s0 _ fun J H1 s1 w D nD => ?_
  rw [List.length_map] at w
  refine lc_it w (LcP K H1 D fun k => ((as.take k).filter p).map f) ⟨fun b o hb e => by rw [upd_ne hb]; exact e, [], upd_same, .nil, Nat.zero_le _⟩ (fun k H2 _ hP b o e => hP.1 b o (ne_of_none e nD) e) (fun k x H2 H3 hk hP hY => ?_) (fun H2 hP => ?_)
  · obtain ⟨s2, acc, eD, hacc, la⟩ := hP
    obtain ⟨s3, d, hd, dx⟩ := hY
    rw [List.getElem?_map, List.getElem?_eq_getElem hk] at hd
    cases hd
    have sH : Same H H3 := (s0.trans s1).trans fun b o e => s3 _ _ (s2 b o (ne_of_none e nD) e)
    obtain ⟨T, xs, rfl, hT, hr⟩ := dx.tupI
    obtain ⟨v, u, x, rfl, dv, du, dx3⟩ := dpAll3 hr
    obtain ⟨g1, g2⟩ := hb as[k] v u x H3 (List.getElem_mem _) sH dv du dx3
    refine ⟨T, [v, u, x], rfl, hT, rfl, v, [u, x], rfl, u, [x], rfl, x, [], rfl, rfl, ?_, g1.at fun H4 s4 => ?_⟩
    · exact set_three _ _ _ _ _ _ _
    cases hp : p as[k] with
    | true =>
      rw [if_pos rfl]
      refine (g2 hp).sm s4 |>.at fun y H5 s5 dy => ⟨acc, s5 _ _ (s4 _ _ (s3 _ _ eD)), small5 (by omega), ?_⟩
      exact lcP_yes s2 ((s3.trans s4).trans s5) eD hacc la dy (by rw [fil_take hk, hp]; rfl) (lf_fil hf _)
    | false =>
      rw [if_neg Bool.false_ne_true]
      exact lcP_no s2 (s3.trans s4) eD hacc la (by rw [fil_take hk, hp]; exact List.append_nil _)
  · obtain ⟨s2, acc, eD, hacc, la⟩ := hP
    replace hacc : DpAll K H2 acc (((as.take as.length).filter p).map f) := hacc
    rw [List.take_length] at hacc
    exact q _ _ H2 (s1.trans fun b o e => s2 b o (ne_of_none e nD) e) (s1.free nD) eD hacc
theorem gn_repL1 {d : PyData} {k : Nat} (ha : GvL K ta σ H [d]) (hb : Gv K tb σ H (.int (k : Int))) (hk : k ≤ 1000) : GvN K (tOp rRep ta tb) σ H (List.replicate k d) := fun H1 s Q q =>
  ha H1 s _ fun a vs H2 s2 e dv => hb H2 (s.trans s2) _ fun y H3 s3 dy => by
    cases dy
    obtain ⟨v, rfl, dv1⟩ := dpAll1 dv
    refine ⟨a, (k : Int), [v], rfl, rfl, s3 _ _ e, by omega, by omega, by rw [Int.toNat_natCast]; show 1 * k ≤ _; exact Nat.le_of_lt (small1000 (by omega)), fun p np => ?_⟩
    have sp := same_new (o := .lst (List.replicate ((k : Nat) : Int).toNat [v]).flatten) np
    refine q p (List.replicate k v) _ ((s2.trans s3).trans sp) ((s2.trans s3).free np) ?_ ?_
    · rw [upd_same, Int.toNat_natCast, rep_flatA]
    · have : ∀ m, DpAll K (upd H3 p (.lst (List.replicate ((k : Nat) : Int).toNat [v]).flatten)) (List.replicate m v) (List.replicate m d) := fun m => by
        induction m with
        | zero => exact .nil
        | succ m ih => exact .cons ((dv1.sm s3).sm sp) ih
      exact this k
theorem gv_cutToG {ds : List PyData} {k : Nat} (h : Gv K t σ H (.tuple ds)) (hk : Gv K tk σ H (.int (k : Int))) (hl : k ≤ ds.length) : Gv K (tSl (rSlS K) t tNoPart (tPart tk)) σ H (.tuple (ds.take k)) := fun H1 s Q q => h H1 s _ fun v H2 s2 dv => hk H2 (s.trans s2) _ fun vk H3 s3 dk => by
  cases dk
  obtain ⟨a, xs, rfl, ha, hr⟩ := dv.tupI
  refine ⟨(k : Int), rfl, a, _, rfl, same_sqT s3 ha, fun p H4 s4 hp => q _ H4 ((s2.trans s3).trans s4) (.tup hp ?_)⟩
  have := cut_dp ((hr.sm s3).sm s4) none (some (k : Int))
  rw [HT.sIx_none, HT.sIx_nat, Nat.min_eq_left hl, List.drop_zero, Nat.sub_zero] at this
  exact this
theorem gv_cutFromG {ds : List PyData} {k : Nat} (h : Gv K t σ H (.tuple ds)) (hk : Gv K tk σ H (.int (k : Int))) (hl : k ≤ ds.length) : Gv K (tSl (rSlS K) t (tPart tk) tNoPart) σ H (.tuple (ds.drop k)) := fun H1 s Q q => h H1 s _ fun v H2 s2 dv => hk H2 (s.trans s2) _ fun vk H3 s3 dk => by
  cases dk
  obtain ⟨a, xs, rfl, ha, hr⟩ := dv.tupI
  refine ⟨(k : Int), rfl, a, _, rfl, same_sqT s3 ha, fun p H4 s4 hp => q _ H4 ((s2.trans s3).trans s4) (.tup hp ?_)⟩
  have := cut_dp ((hr.sm s3).sm s4) (some (k : Int)) none
  rw [HT.sIx_none, HT.sIx_nat, Nat.min_eq_left hl, List.take_of_length_le (by rw [List.length_drop]; omega)] at this
  exact this
theorem gv_intB {b : Bool} {r : List V → Hp → VK → Prop} (hr : r = fun xs H Q => (∃ i, xs = [.int i] ∧ Q (.int i) H) ∨ ∃ k, xs = [.bl k] ∧ Q (.int (if k then 1 else 0)) H) (h : Gv K t σ H (.bool b)) : Gv K (tCB r (tCons t tNil)) σ H (.int (if b then 1 else 0)) := by
  subst hr
  refine gv_cb (gva_cons h gva_nil) fun vs H1 Q s hd q => ?_
  obtain ⟨v, rfl, hv⟩ := dpAll1 hd
  cases hv
  exact .inr ⟨b, rfl, q _ _ (Same.refl _) (.int _)⟩
theorem cutTo (l : List Int) (m : Nat) : cutV (l.map V.int) none (some (m : Int)) = (l.take m).map V.int := by
  unfold cutV
  rw [List.length_map, HT.sIx_none, HT.sIx_nat, List.drop_zero, Nat.sub_zero, ← List.map_take]
  congr 1
  by_cases h : m ≤ l.length
  · rw [Nat.min_eq_left h]
  · rw [Nat.min_eq_right (by omega), List.take_of_length_le (Nat.le_refl _), List.take_of_length_le (by omega)]
theorem gv_cutTo {l : List Int} {k : Nat} (h : Gv K t σ H (dInts l)) (hk : Gv K tk σ H (.int (k : Int))) : Gv K (tSl (rSlS K) t tNoPart (tPart tk)) σ H (dInts (l.take k)) := fun H1 s Q q => h H1 s _ fun v H2 s2 dv => hk H2 (s.trans s2) _ fun vk H3 s3 dk => by
  cases dk
  obtain ⟨a, rfl, ha⟩ := dv.intsI
  refine ⟨(k : Int), rfl, a, _, rfl, same_sqT s3 ha, fun p H4 s4 hp => q _ H4 ((s2.trans s3).trans s4) ?_⟩
  rw [cutTo] at hp
  exact dp_ints hp
theorem gv_notN {d : PyData} (h : Gv K t σ H d) {r : R2} (hr : r = (fun x y H Q => y = .non ∧ Q (.bl (!decide (x = .non))) H)) : Gv K (tOp r t (tC .non)) σ H (.bool (!dNone d)) := by
  subst hr
  refine gv_op2 h gv_non fun x y H1 Q s hx hy q => ?_
  cases hy
  refine ⟨rfl, q _ _ (Same.refl _) ?_⟩
  have : decide (x = V.non) = dNone d := by
    cases hx <;> simp [dNone]
  rw [this]; exact .bl _
end
end Pr
namespace Pr
open PySem PySem.Spec PyProof.Rows L2
def tlen : PyData → Bool
  | .tuple es => decide (es.length ≤ 60)
  | _ => true
def smlB : PyData → Bool
  | .tuple ds => ds.all tlen
  | _ => true
def lowB (d : PyData) : Bool := d.showable && decide (d.depth ≤ 3) && decide (d.shown.length ≤ 60) && tlen d && smlB d
/-- a small thing: at most three deep, at most sixty signs -/
def Low (d : PyData) : Prop := lowB d = true
theorem Low.shq {d : PyData} (h : Low d) : Shq 3 60 d := by
  simp only [Low, lowB, Bool.and_eq_true, decide_eq_true_eq] at h
  exact ⟨h.1.1.1.1, h.1.1.1.2, h.1.1.2⟩
theorem Low.len {d : PyData} (h : Low d) : tlen d = true := by
  simp only [Low, lowB, Bool.and_eq_true, decide_eq_true_eq] at h
  exact h.1.2
theorem low_int {i : Int} (h0 : 0 ≤ i) (h : i < 100) : Low (.int i) := by
  have s := Shw.int (k := 2) h0 (by decide) (by decide) h
  simp only [Low, lowB, Bool.and_eq_true, decide_eq_true_eq]
  exact ⟨⟨⟨⟨s.sh, Nat.le_trans s.dp (by decide)⟩, Nat.le_trans s.ln (by decide)⟩, rfl⟩, rfl⟩
end Pr
namespace Pr
open PySem PySem.Spec PyProof.Rows L2
/-- the exception that the suite holds, of the class D, its dict d -/
def HeldX (D : Addr) (cls : Value) (d : Option Addr) (H : Hp) : Prop := cls = .ref D ∧ ∃ dd fs, d = some dd ∧ H dd = some (.xd fs)
section
variable {X : Cx} {a D : Addr} {oe : Obj} {cls : Value} {d : Option Addr} {pn pins : List (Addr × Obj)} {s : Shared} {σ : L2.St} {H : Hp}
theorem held_inst (hz : Zc cls d oe) (hf : ∃ vs, oe.data = .fields vs) (I : Inv (X.suite a ((a, oe) :: pn)) pins σ H s) (h : HeldX D cls d H) : ∃ od : Obj, PySem.W.InstAt s.heap a oe D (some od) := by
  obtain ⟨rfl, dd, fs, rfl, ea⟩ := h
  obtain ⟨ha, _⟩ := I.pin (a, oe) (List.mem_append_left _ List.mem_cons_self)
  obtain ⟨vs, hd⟩ := hf
  have hx : ObjOk X.prog X.w H s.heap dd (.xd fs) := I.hok dd _ ea
  obtain ⟨mA, hns, hr⟩ := hx
  obtain ⟨od, ho, hl⟩ := lookIn_ns hns
  exact ⟨od, ha, hz.1, by unfold PySem.W.notCls; rw [hd] <;> rfl, by rw [hz.2]; exact ho⟩
theorem kitx_of_exc {x : Addr} {ox : Obj} {od : Option Obj} {K : PySem.W.Frag} (C : ExcC K D) : PySem.W.KitX K (.ref x) (.ref D) (fun h => PySem.W.InstAt h x ox D od) :=
  PySem.W.kitx_exc (by obtain ⟨cd, hc, _⟩ := PySem.W.any_some C.hd; rw [hc]; rfl) C.hg C.hk C.hs C.ha C.hn C.ht C.hm
end
end Pr
namespace Pr
open PySem PySem.Spec PyProof.Rows L2
section
variable {X : Cx}
theorem pmk_own0 {C : Addr} {bmB : List Value} {B newId initId : String} {x : Str} {p pos : Pos} (F : ExcBaseFacts B newId initId bmB) (q : PySem.W.excIn X.K C bmB newId = true) (gC : X.mg x = some (.ref C)) (kC : PySem.W.keepIn X.K (.ref C) = true) (r : Raises X (.ref C)) (hg : Gl X x)
    (hdb : (x == ("__debug__" : Str)) = false := by decide) : PMk X (.Call (.Name x p) [] [] pos) (fun _ H Q => Q (.ref C) none H) := by
  intro pins s σ H Q I h
  refine wpAny_Call_Name_kw (ld_glob I hg gC ?_ hdb)
  refine PySem.W.callWith_K0 I.kIn kC ?_
  show wpAny _ _ (call (.ref C) []) _ _ _
  obtain ⟨bm, N, nm, qn, bs, hdct, sn, sub, ab, col, dd, k0, k1, k2, k3, k5, mN, hC, hN, hni, T⟩ := exc_obj I.kIn q
  refine wpAny_call_exc_subT F T hC hN hni (fun h' e hm => ?_) (by show 0 ≤ sizeLine; omega)
  exact mk_of I hm r h (I.hok.gone hm.new)
/-- what the top says of such a class -/
structure Ex0 (K : PySem.W.Frag) (mg : Str → Option Value) (nm : Str) (C : Addr) : Prop where
  q : PySem.W.excIn K C [.type "ValueError", .type "Exception", .type "BaseException", .type "object"] "ValueError.__new__" = true
  g : mg nm = some (.ref C)
  k : PySem.W.keepIn K (.ref C) = true
  s : PySem.W.subIn K (.ref C) (.type "BaseException") = some true
  t : PySem.W.typeIn K (.ref C) = some (.type "type")
theorem Ex0.made {nm : Str} {C : Addr} {p pos : Pos} (T : Ex0 X.K X.mg nm C) (hg : Gl X nm) (hdb : (nm == ("__debug__" : Str)) = false := by decide) : PMk X (.Call (.Name nm p) [] [] pos) (fun _ H Q => Q (.ref C) none H) :=
  pmk_own0 PySem.F.excBase_ValueError T.q T.g T.k (raises_own T.s T.t) hg hdb
end
def HeldY (D : Addr) (cls : Value) (d : Option Addr) (H : Hp) : Prop := cls = .ref D ∧ (d = none ∨ ∃ dd fs, d = some dd ∧ H dd = some (.xd fs))
def rIsY (K : PySem.W.Frag) (D a : Addr) (cls : Value) (d : Option Addr) : List V → Hp → VK → Prop := fun xs H Q => HeldY D cls d H ∧ ∃ (c : V) (u : Value) (b : Bool), xs = [.ref a, c] ∧ ClsV c u ∧ PySem.W.kitOne K (.ref D) u = some b ∧ Q (.bl b) H
def rIsYT (K : PySem.W.Frag) (D a : Addr) (cls : Value) (d : Option Addr) : List V → Hp → VK → Prop := fun xs H Q => HeldY D cls d H ∧ ∃ (tp : Addr) (cs : List V) (us : List Value) (b : Bool), xs = [.ref a, .ref tp] ∧ H tp = some (.tup cs) ∧ Paired ClsV cs us ∧ PySem.W.kitAny K (.ref D) us = some b ∧ Q (.bl b) H
section
variable {X : Cx} {a D : Addr} {oe : Obj} {cls : Value} {d : Option Addr} {pn pins : List (Addr × Obj)} {s : Shared} {σ : L2.St} {H : Hp}
theorem held_instY (hz : Zc cls d oe) (hf : ∃ vs, oe.data = .fields vs) (I : Inv (X.suite a ((a, oe) :: pn)) pins σ H s) (h : HeldY D cls d H) : ∃ od : Option Obj, PySem.W.InstAt s.heap a oe D od := by
  obtain ⟨rfl, rfl | ⟨dd, fs, rfl, ea⟩⟩ := h
  · obtain ⟨ha, _⟩ := I.pin (a, oe) (List.mem_append_left _ List.mem_cons_self)
    obtain ⟨vs, hd⟩ := hf
    exact ⟨none, ha, hz.1, by unfold PySem.W.notCls; rw [hd] <;> rfl, by rw [hz.2]; trivial⟩
  · obtain ⟨od, h⟩ := held_inst hz hf I ⟨rfl, dd, fs, rfl, ea⟩
    exact ⟨some od, h⟩
theorem call_isY (C : ExcC X.K D) (hz : Zc cls d oe) (hf : ∃ vs, oe.data = .fields vs) : CallR (X.suite a ((a, oe) :: pn)) (.builtin "isinstance") (rIsY X.K D a cls d) := by
  intro pins s σ H xs us Q I r h
  obtain ⟨hh, c, u, b, rfl, k, e, q⟩ := h
  obtain ⟨u1, u2, rfl, r1, r2⟩ := vals2 r
  cases (show u1 = Value.ref a from r1)
  have e2 := k.eq r2
  subst e2
  obtain ⟨od, J⟩ := held_instY hz hf I hh
  exact PySem.W.kia_one (kitx_of_exc C) I.kIn J e (fun z => nomatch z) fun tk => ⟨.bl b, H, I.tok tk, rfl, q⟩
theorem call_isYT (C : ExcC X.K D) (hz : Zc cls d oe) (hf : ∃ vs, oe.data = .fields vs) : CallR (X.suite a ((a, oe) :: pn)) (.builtin "isinstance") (rIsYT X.K D a cls d) := by
  intro pins s σ H xs us Q I r h
  obtain ⟨hh, tp, cs, ws, b, rfl, hT, k, e, q⟩ := h
  obtain ⟨u1, u2, rfl, r1, r2⟩ := vals2 r
  cases (show u1 = Value.ref a from r1)
  cases (show u2 = Value.ref tp from r2)
  obtain ⟨od, J⟩ := held_instY hz hf I hh
  obtain ⟨_, its, rv, o, h1, h2, n, h3⟩ := (show ObjOk X.prog X.w H s.heap tp (.tup cs) from I.hok tp _ hT)
  have e3 := ClsV.all k rv
  subst e3
  obtain ⟨oc, od', dt, sl⟩ := o
  simp only at h2 h3
  subst h2 h3
  exact PySem.W.kia_tup (kitx_of_exc C) I.kIn J h1 e (fun z => nomatch z) fun tk => ⟨.bl b, H, I.tok tk, rfl, q⟩
end
theorem kit_selfY {K : PySem.W.Frag} {C : Addr} : PySem.W.kitOne K (.ref C) (.ref C) = some true := if_pos (beq_self_eq_true _)
theorem passX {X : Cx} : Passes (L2.CX X.prog X.w) X E0 := fun _ _ _ _ _ _ _ h => by
  obtain ⟨_, _, _, _, _, _, _, _, _, _, _, _, z⟩ := h
  exact z.elim
end Pr
namespace Pr
open PySem PySem.Spec PyProof.Rows L2
/-- what the top says of an error class with one field, and of its __init__ -/
structure ExF (K : PySem.W.Frag) (mg : Str → Option Value) (nm fld qn : Str) (sI : Stmt) (C fI : Addr) (fdI : FuncData) : Prop where
  oex : OexC K C
  iC : PySem.W.findIn K (.ref C) "__init__" = some (some (.ref fI))
  tI : PySem.W.typeIn K (.ref fI) = some (.type "function")
  noN : PySem.W.findIn K (.ref C) fld = some none
  g : mg nm = some (.ref C)
  FI : Fun K "__init__" qn sI fI fdI
  bI : Binds K fdI ["self", fld] []
def spI (K : PySem.W.Frag) (C : Addr) (fld : Str) : Sp := fun vs H Q _ => ∃ (e : Addr) (y : V), vs = [.ref e, y] ∧ OexC K C ∧ PySem.W.findIn K (.ref C) fld = some none ∧ H e = some (exo e C none) ∧
  ∀ dx, H dx = none → dx ≠ e → Q .non (upd (upd H dx (exd dx [(fld, y)])) e (exo e C (some dx)))
theorem madeF {H : Hp} {C a dx : Addr} {y : V} {fld : Str} (na : H a = none) (nd : (upd H a (exo a C none)) dx = none) (ne : dx ≠ a) :
    (upd (upd (upd H a (exo a C none)) dx (exd dx [(fld, y)])) a (exo a C (some dx))) a = some (exo a C (some dx)) ∧
    (upd (upd (upd H a (exo a C none)) dx (exd dx [(fld, y)])) a (exo a C (some dx))) dx = some (exd dx [(fld, y)]) ∧ H dx = none ∧
    Same H (upd (del (upd (upd (upd H a (exo a C none)) dx (exd dx [(fld, y)])) a (exo a C (some dx))) a) dx (.xd [(fld, y)])) := by
  have nd' : H dx = none := by rw [upd_ne ne] at nd; exact nd
  refine ⟨upd_same, by rw [upd_ne ne, upd_same], nd', fun b o e => ?_⟩
  rw [upd_ne (ne_of_none e nd'), del_ne (ne_of_none e na), upd_ne (ne_of_none e na), upd_ne (ne_of_none e nd'), upd_ne (ne_of_none e na)]
  exact e
/-- what is left to answer where such an error is made with y -/
theorem rzF {K : PySem.W.Frag} {mg : Str → Option Value} {nm fld qn : Str} {sI : Stmt} {C fI : Addr} {fdI : FuncData} (T : ExF K mg nm fld qn sI C fI fdI) {Hx : Hp} {y : V} {E : XK} (q : ∀ H' dd, Same Hx H' → H' dd = some (.xd [(fld, y)]) → E (.ref C) (some dd) H') :
    [y].length ≤ 1000 ∧ ∀ a, Hx a = none → spI K C fld (.ref a :: ([y] ++ [])) (upd Hx a (exo a C none))
        (fun v H2 => v = .non ∧ ∃ (d : Addr) (fs : List (Str × V)), H2 a = some (exo a C (some d)) ∧ H2 d = some (exd d fs) ∧ Hx d = none ∧ E (.ref C) (some d) (upd (del H2 a) d (.xd fs))) (fun _ _ _ => False) := by
  refine ⟨by show 1 ≤ 1000; decide, fun a na => ⟨a, y, rfl, T.oex, T.noN, upd_same, fun dx nd ne => ⟨rfl, dx, [(fld, y)], ?_⟩⟩⟩
  obtain ⟨m1, m2, m3, m4⟩ := madeF (y := y) (fld := fld) na nd ne
  exact ⟨m1, m2, m3, q _ dx m4 upd_same⟩
end Pr
namespace Pr
open PySem PySem.Spec PyProof.Rows L2
section
variable {K : PySem.W.Frag} {H H' : Hp} {pan : List (List Int)}
theorem panT_dp {v : V} (h : Dp K H v (dPan pan)) : ∃ p, v = .ref p ∧ PanT K H p pan := by
  obtain ⟨p, xs, rfl, hq, hr⟩ := h.tupI
  have : ∀ (xs : List V) (pan : List (List Int)), DpAll K H xs (pan.map dInts) → ∃ qs : List Addr, xs = qs.map V.ref ∧ Paired (fun q l => SqT K H q (l.map V.int)) qs pan := by
    intro xs pan
    induction pan generalizing xs with
    | nil => intro h; cases h; exact ⟨[], rfl, .nil⟩
    | cons l pan ih =>
      intro h
      cases h with
      | cons h1 h2 =>
        obtain ⟨q, rfl, hq⟩ := h1.intsI
        obtain ⟨qs, rfl, hqs⟩ := ih _ h2
        exact ⟨q :: qs, rfl, .cons hq hqs⟩
  obtain ⟨qs, rfl, hqs⟩ := this xs pan hr
  exact ⟨p, rfl, qs, hq, hqs⟩
theorem dq_panT {N : Addr → Prop} {p : Addr} (h : PanT K H p pan) : Dq K N H (.ref p) (dPan pan) := by
  obtain ⟨qs, h1, h2⟩ := h
  refine .tup h1 ?_
  have : ∀ {qs : List Addr} {pan : List (List Int)}, Paired (fun q l => SqT K H q (l.map V.int)) qs pan → DqAll K N H (qs.map V.ref) (pan.map dInts) := fun h => by
    induction h with
    | nil => exact .nil
    | cons a b ih => exact .cons (dq_ints a) ih
  exact this h2
end
theorem asc_from {n : Int} : ∀ {l : List Int} {b : Int}, l.Pairwise (· < ·) → (∀ x ∈ l, b < x ∧ 0 ≤ x ∧ x < n) → ascFrom n b (l.map PyData.int) = true
  | [], _, _, _ => rfl
  | x :: l, b, up, h => by
    rw [List.pairwise_cons] at up
    have hx := h x List.mem_cons_self
    have ih := asc_from (n := n) (b := x) up.2 fun y hy => ⟨up.1 y hy, (h y (List.mem_cons_of_mem _ hy)).2⟩
    show (decide (0 ≤ x) && decide (x < n) && decide (b < x) && ascFrom n x (l.map PyData.int)) = true
    rw [ih, decide_eq_true hx.1, decide_eq_true hx.2.1, decide_eq_true hx.2.2]; rfl
theorem err_from {n : Int} : ∀ (pan : List (List Int)) (k : Nat), (∀ l ∈ pan, l.Pairwise (· < ·) ∧ ∀ x ∈ l, 0 ≤ x ∧ x < n) → (∀ (j : Nat) (l : List Int), pan[j]? = some l → ((k + j : Nat) : Int) ∉ l) → errFrom n k (pan.map dInts) = .none
  | [], _, _, _ => rfl
  | l :: pan, k, h1, h2 => by
    have a := h1 l List.mem_cons_self
    have b := h2 0 l rfl
    have ih := err_from pan (k + 1) (fun m hm => h1 m (List.mem_cons_of_mem _ hm)) fun j m hj => by
      have := h2 (j + 1) m hj
      rw [show k + 1 + j = k + (j + 1) by omega]; exact this
    show (if btnT n (dInts l) then (if hasInt (k : Int) (dInts l) then dErr (.int (k : Int)) "itself" else errFrom n (k + 1) (pan.map dInts)) else dErr (.int (k : Int)) "list") = .none
    have e1 : btnT n (dInts l) = true := asc_from a.1 fun x hx => ⟨by have := a.2 x hx; omega, a.2 x hx⟩
    have e2 : hasInt (k : Int) (dInts l) = false := by
      show ((l.map PyData.int).any fun d => match d with | .int i => decide (i = (k : Int)) | _ => false) = false
      rw [List.any_map, List.any_eq_false]
      intro x hx
      simp only [Function.comp, decide_eq_true_eq]
      rintro rfl
      exact b (by simpa using hx)
    rw [e1, e2, if_pos rfl, if_neg Bool.false_ne_true, ih]
theorem err_good {pan : List (List Int)} (g : Good pan) : errD (dPan pan) = .none := by
  show (if 1 ≤ (pan.map dInts).length ∧ (pan.map dInts).length ≤ 10 then errFrom ((pan.map dInts).length : Int) 0 (pan.map dInts) else dErr .none "panel") = .none
  rw [List.length_map, if_pos ⟨g.pos, g.few⟩]
  exact err_from pan 0 (fun l hl => ⟨g.up l hl, g.rng l hl⟩) fun j l hj => by rw [Nat.zero_add]; exact g.own j l hj
/-- all but the object at g stands as before -/
def ButO (g : Addr) (H H' : Hp) : Prop := ∀ b o, b ≠ g → H b = some o → H' b = some o
theorem ButO.refl (g : Addr) (H : Hp) : ButO g H H := fun _ _ _ e => e
theorem ButO.of {g : Addr} {H H' : Hp} (s : Same H H') : ButO g H H' := fun b o _ e => s b o e
theorem ButO.trans {g : Addr} {H H1 H2 : Hp} (x : ButO g H H1) (y : ButO g H1 H2) : ButO g H H2 := fun b o n e => y b o n (x b o n e)
theorem ButO.upd {g : Addr} {H : Hp} {o : HO} : ButO g H (upd H g o) := fun b o' n e => by rw [upd_ne n]; exact e
theorem ButO.kp {g C dx : Addr} {fs : List (Str × V)} {H H' : Hp} (h : H g = some (.ins C dx fs)) (b : ButO g H H') : Kp H H' :=
  ⟨fun p xs e => b _ _ (ne_of e h (by intro z; cases z)) e, fun p o u e => b _ _ (ne_of e h (by intro z; cases z)) e⟩
theorem ButO.deck {g C dx a c : Addr} {m : Nat} {fs : List (Str × V)} {H H' : Hp} (h : H g = some (.ins C dx fs)) (b : ButO g H H') (D : Deck H a c m) : Deck H' a c m := by
  obtain ⟨cs, k, h1, h2, h3⟩ := D
  exact ⟨cs, k, b _ _ (ne_of h1 h (by intro z; cases z)) h1, b _ _ (ne_of h2 h (by intro z; cases z)) h2, h3⟩
theorem PanT.kp {K : PySem.W.Frag} {H H' : Hp} {p : Addr} {pan : List (List Int)} (k : Kp H H') (h : PanT K H p pan) : PanT K H' p pan := by
  obtain ⟨p', e, h'⟩ := panT_dp (h.dp.kp k (lf_pan _))
  cases e; exact h'
end Pr
namespace K48
open PySem PySem.Spec PyProof.Rows L2 Pr
def wlM (pan : List (List Int)) (b : Int) (l : List Int) : List (List Int) := pan.zipIdx.map fun x => if (x.2 : Int) = b then l else x.1
theorem wl_set (pan : List (List Int)) {b : Int} (l : List Int) (h0 : 0 ≤ b) : wlM pan b l = pan.set b.toNat l := by
  refine List.ext_getElem? fun i => ?_
  unfold wlM
  rw [List.getElem?_map, List.getElem?_zipIdx, List.getElem?_set]
  by_cases hi : i < pan.length
  · rw [List.getElem?_eq_getElem hi]
    by_cases hb : b.toNat = i
    · rw [if_pos hb, if_pos (by omega)]
      simp only [Option.map_some, Nat.zero_add]
      rw [if_pos (by omega)]
    · rw [if_neg hb]
      simp only [Option.map_some, Nat.zero_add]
      rw [if_neg (by omega)]
  · rw [List.getElem?_eq_none (by omega)]
    by_cases hb : b.toNat = i
    · rw [if_pos hb, if_neg (by omega)]; rfl
    · rw [if_neg hb]; rfl
def liM (pan : List (List Int)) (one other : Int) : List (List Int) := if other ∈ pan.getD one.toNat [] then pan else pan.set one.toNat (srt (pan.getD one.toNat [] ++ [other]))
def unM (pan : List (List Int)) (one other : Int) : List (List Int) := if other ∈ pan.getD one.toNat [] then pan.set one.toNat ((pan.getD one.toNat []).filter fun x => !decide (x = other)) else pan
theorem list_few {pan : List (List Int)} (h : ∀ l ∈ pan, l.length ≤ 60) (i : Nat) : (pan.getD i []).length ≤ 60 := by
  rw [List.getD_eq_getElem?_getD]
  cases e : pan[i]? with
  | none => simp
  | some l => exact h l (List.mem_of_getElem? e)
def nWl : List Str := ["panel", "button", "released", "index", "row"]
theorem scWl : FnScope nWl ["panel", "button", "released"] (defScope sWl) := ⟨rfl, rfl, rfl, by decide +kernel, rfl, by decide +kernel, by decide +kernel⟩
section
variable {P : Program} {w : World} {K : PySem.W.Frag} {mg : Str → Option Value} {base : Heap}
def spWl (K : PySem.W.Frag) : Sp := spP K (fun x : List (List Int) × Int × List Int => [dPan x.1, .int x.2.1, dInts x.2.2]) (fun x => x.1.length ≤ 100 ∧ 0 ≤ x.2.1) (fun x => dPan (x.1.set x.2.1.toNat x.2.2))
theorem gv_Wl {σ : L2.St} {H : Hp} {t : TA} {E : XK} {pan : List (List Int)} {b : Int} {l : List Int} (h : GvA K t σ H [dPan pan, .int b, dInts l]) (hc : pan.length ≤ 100 ∧ 0 ≤ b) : Gv K (tCall (spWl K) [] E t) σ H (dPan (pan.set b.toNat l)) := gv_call (K := K) (δ := fun x : List (List Int) × Int × List Int => [dPan x.1, .int x.2.1, dInts x.2.2]) (C := fun x => x.1.length ≤ 100 ∧ 0 ≤ x.2.1) (f := fun x => dPan (x.1.set x.2.1.toNat x.2.2)) (pan, b, l) h hc
theorem ok_Wl  {f : Addr} {fd : FuncData} {k : Nat} (F : Fun K "with_list" "with_list" sWl f fd)
    (m_enumerate : mg "enumerate" = none) (m_tuple : mg "tuple" = none) : FnOk P w K mg base CX0 (k + 1) f fd ["panel", "button", "released"] (spWl K) := by
  refine F.ok scWl (fun vs H Q E h => ?_) (fun cdv A outer s H vs Q E hr h => ?_)
  · obtain ⟨_, hd, _⟩ := h
    exact hd.length
  · obtain ⟨⟨pan, b, l⟩, hd, hc, q⟩ := h
    obtain ⟨v1, v2, v3, rfl, d1, d2, d3⟩ := dpAll3 hd
    try dsimp only at hc
    try dsimp only at q
    try dsimp only at d1 d2 d3
    refine ⟨_, pss_one (ps_ret (pe_callTy (show CallR _ _ (rTupG K) from cr_tupG) (by rfl) m_tuple (by decide +kernel) (pa_cons (pe_lc (own := [("index", 3), ("row", 4)]) (g := gTup K 2 (gCons (gName 3) (gCons (gName 4) gNil))) (tt := tYes) rfl scWl.nd (pi_enumT (by rfl) m_enumerate (pa_cons (pv 0) pa_nil)) (blkOk_by (own := [("index", 3), ("row", 4)]) (N := nWl) (sc := defScope sWl) (by decide +kernel)) (fun _ _ _ _ _ => pg_tup rfl (pgs_cons (pg_name (i := 3) scWl.nd rfl (Or.inl rfl)) (pgs_cons (pg_name (i := 4) scWl.nd rfl (Or.inl rfl)) pgs_nil))) (fun _ _ _ _ _ => pts_nil) (fun _ _ _ _ _ => pe_ifExp (pt_cmpR op_eq (pv 3) (pv 1) (nomark _)) (pv 2) (pv 4))) pa_nil))), ?_⟩
    refine gs_ret ((gv_tupL (gv_lc2 (gvi_enumT (gv_var rfl d1)) (fun a v u H1 ha s dv du => ⟨gvt_yes, fun _ => gv_if (gvt_test (gv_eqI (gv_var rfl dv) (gv_var rfl (d2.sm s)))) (fun _ => gv_var rfl (d3.sm s)) (fun _ => gv_var rfl du)⟩) (fun a _ => ?_) ?_ (by decide))).to ?_) q
    · split
      · exact lf_ints _
      · exact lf_ints _
    · rw [List.length_zipIdx]; omega
    · rw [← wl_set _ _ hc.2]
      unfold dPan wlM
      rw [List.filter_eq_self.mpr (fun _ _ => rfl), List.map_map]
      congr 1
      refine List.map_congr_left fun a _ => ?_
      simp only [Function.comp, decide_eq_true_eq]
      split <;> rfl
end
def nLi : List Str := ["panel", "one", "other"]
theorem scLi : FnScope nLi ["panel", "one", "other"] (defScope sLi) := ⟨rfl, rfl, rfl, by decide +kernel, rfl, by decide +kernel, by decide +kernel⟩
section
variable {P : Program} {w : World} {K : PySem.W.Frag} {mg : Str → Option Value} {base : Heap}
def spLi (K : PySem.W.Frag) : Sp := spP K (fun x : List (List Int) × Int × Int => [dPan x.1, .int x.2.1, .int x.2.2]) (fun x => x.1.length ≤ 100 ∧ (∀ l ∈ x.1, l.length ≤ 60) ∧ 0 ≤ x.2.1 ∧ x.2.1 < (x.1.length : Int)) (fun x => dPan (liM x.1 x.2.1 x.2.2))
theorem gv_Li {σ : L2.St} {H : Hp} {t : TA} {E : XK} {pan : List (List Int)} {one : Int} {other : Int} (h : GvA K t σ H [dPan pan, .int one, .int other]) (hc : pan.length ≤ 100 ∧ (∀ l ∈ pan, l.length ≤ 60) ∧ 0 ≤ one ∧ one < (pan.length : Int)) : Gv K (tCall (spLi K) [] E t) σ H (dPan (liM pan one other)) := gv_call (K := K) (δ := fun x : List (List Int) × Int × Int => [dPan x.1, .int x.2.1, .int x.2.2]) (C := fun x => x.1.length ≤ 100 ∧ (∀ l ∈ x.1, l.length ≤ 60) ∧ 0 ≤ x.2.1 ∧ x.2.1 < (x.1.length : Int)) (f := fun x => dPan (liM x.1 x.2.1 x.2.2)) (pan, one, other) h hc
theorem ok_Li {fWl : Addr} {fdWl : FuncData} {f : Addr} {fd : FuncData} {k : Nat} (F : Fun K "linked" "linked" sLi f fd)
    (FWl : Fun K "with_list" "with_list" sWl fWl fdWl) (bWl : Binds K fdWl ["panel", "button", "released"] []) (gWl : mg "with_list" = some (.ref fWl))
    (m_enumerate : mg "enumerate" = none) (m_sorted : mg "sorted" = none) (m_tuple : mg "tuple" = none) : FnOk P w K mg base CX0 (k + 2) f fd ["panel", "one", "other"] (spLi K) := by
  have GWl : FnOk P w K mg base CX0 (k + 1) fWl fdWl ["panel", "button", "released"] (spWl K) := ok_Wl FWl m_enumerate m_tuple
  refine F.ok scLi (fun vs H Q E h => ?_) (fun cdv A outer s H vs Q E hr h => ?_)
  · obtain ⟨_, hd, _⟩ := h
    exact hd.length
  · obtain ⟨⟨pan, one, other⟩, hd, hc, q⟩ := h
    obtain ⟨v1, v2, v3, rfl, d1, d2, d3⟩ := dpAll3 hd
    try dsimp only at hc
    try dsimp only at q
    try dsimp only at d1 d2 d3
    refine ⟨_, pss_cons (ps_if (pt_cmpR (show OpR _ _ (rIn K false) from op_in_seq) (pv 2) (pe_ix (show IxR _ (rIxT K) from ix_tup) (pv 0) (pv 1) (fun _ _ => rfl)) (by rfl)) (pss_one (ps_ret (pv 0))) pss_nil)
      (pss_one (ps_ret (pe_call GWl (hr.mono (by omega)) (by rfl) gWl FWl.kp bWl .nil pass0 (pa_cons (pv 0) (pa_cons (pv 1) (pa_cons (pe_callTy (show CallR _ _ (rTupG K) from cr_tupG) (by rfl) m_tuple (by decide +kernel) (pa_cons (pe_callB (show CallR _ _ (rSorted K) from cr_sorted) (by rfl) m_sorted (by decide +kernel) (pa_cons (pe_lst (StX.pa_star (pe_ix (show IxR _ (rIxT K) from ix_tup) (pv 0) (pv 1) (fun _ _ => rfl)) (pa_cons (pv 2) pa_nil))) pa_nil)) pa_nil)) pa_nil)))))), ?_⟩
    obtain ⟨c1, c2, c3, c4⟩ := hc
    have hl := list_few c2 one.toNat
    refine gs_if1 (gvt_test (gv_inT (gv_var rfl d3) (gv_pan (gv_var rfl d1) (gv_var rfl d2) c3 c4))) (fun e H' s => ?_) (fun e H' s => ?_)
    · have e' : other ∈ pan.getD one.toNat [] := by simpa using e
      refine gs_ret (gv_var rfl (d1.sm s)) fun v H2 s2 dv => q v H2 (s.trans s2) ?_
      unfold liM; rw [if_pos e']; exact dv
    · have e' : other ∉ pan.getD one.toNat [] := by simpa using e
      refine gs_ret (gv_Wl (l := srt (pan.getD one.toNat [] ++ [other])) (gva_cons (gv_var rfl (d1.sm s)) (gva_cons (gv_var rfl (d2.sm s)) (gva_cons (gv_tupL (gv_sortL (l := pan.getD one.toNat [] ++ [other]) ((gv_lst (gva_starT (gv_pan (gv_var rfl (d1.sm s)) (gv_var rfl (d2.sm s)) c3 c4) (gva_cons (gv_var rfl (d3.sm s)) gva_nil)) ?_).to ?_) ?_)) gva_nil))) ⟨c1, c3⟩) fun v H2 s2 dv => q v H2 (s.trans s2) ?_
      · rw [List.length_append, List.length_map]; exact Nat.le_of_lt (small5 (by show _ + 1 ≤ _; omega))
      · rw [List.map_append]; rfl
      · rw [List.length_append]; show _ + 1 < 64; omega
      · unfold liM; rw [if_neg e']; exact dv
end
def nUn : List Str := ["panel", "one", "other", "button"]
theorem scUn : FnScope nUn ["panel", "one", "other"] (defScope sUn) := ⟨rfl, rfl, rfl, by decide +kernel, rfl, by decide +kernel, by decide +kernel⟩
section
variable {P : Program} {w : World} {K : PySem.W.Frag} {mg : Str → Option Value} {base : Heap}
def spUn (K : PySem.W.Frag) : Sp := spP K (fun x : List (List Int) × Int × Int => [dPan x.1, .int x.2.1, .int x.2.2]) (fun x => x.1.length ≤ 100 ∧ (∀ l ∈ x.1, l.length ≤ 60) ∧ 0 ≤ x.2.1 ∧ x.2.1 < (x.1.length : Int)) (fun x => dPan (unM x.1 x.2.1 x.2.2))
theorem gv_Un {σ : L2.St} {H : Hp} {t : TA} {E : XK} {pan : List (List Int)} {one : Int} {other : Int} (h : GvA K t σ H [dPan pan, .int one, .int other]) (hc : pan.length ≤ 100 ∧ (∀ l ∈ pan, l.length ≤ 60) ∧ 0 ≤ one ∧ one < (pan.length : Int)) : Gv K (tCall (spUn K) [] E t) σ H (dPan (unM pan one other)) := gv_call (K := K) (δ := fun x : List (List Int) × Int × Int => [dPan x.1, .int x.2.1, .int x.2.2]) (C := fun x => x.1.length ≤ 100 ∧ (∀ l ∈ x.1, l.length ≤ 60) ∧ 0 ≤ x.2.1 ∧ x.2.1 < (x.1.length : Int)) (f := fun x => dPan (unM x.1 x.2.1 x.2.2)) (pan, one, other) h hc
theorem ok_Un {fWl : Addr} {fdWl : FuncData} {f : Addr} {fd : FuncData} {k : Nat} (F : Fun K "unlinked" "unlinked" sUn f fd)
    (FWl : Fun K "with_list" "with_list" sWl fWl fdWl) (bWl : Binds K fdWl ["panel", "button", "released"] []) (gWl : mg "with_list" = some (.ref fWl))
    (m_enumerate : mg "enumerate" = none) (m_tuple : mg "tuple" = none) : FnOk P w K mg base CX0 (k + 2) f fd ["panel", "one", "other"] (spUn K) := by
  have GWl : FnOk P w K mg base CX0 (k + 1) fWl fdWl ["panel", "button", "released"] (spWl K) := ok_Wl FWl m_enumerate m_tuple
  refine F.ok scUn (fun vs H Q E h => ?_) (fun cdv A outer s H vs Q E hr h => ?_)
  · obtain ⟨_, hd, _⟩ := h
    exact hd.length
  · obtain ⟨⟨pan, one, other⟩, hd, hc, q⟩ := h
    obtain ⟨v1, v2, v3, rfl, d1, d2, d3⟩ := dpAll3 hd
    try dsimp only at hc
    try dsimp only at q
    try dsimp only at d1 d2 d3
    refine ⟨_, pss_cons (ps_if (pt_cmpR (show OpR _ _ (rIn K true) from op_notIn_seq) (pv 2) (pe_ix (show IxR _ (rIxT K) from ix_tup) (pv 0) (pv 1) (fun _ _ => rfl)) (by rfl)) (pss_one (ps_ret (pv 0))) pss_nil)
      (pss_one (ps_ret (pe_call GWl (hr.mono (by omega)) (by rfl) gWl FWl.kp bWl .nil pass0 (pa_cons (pv 0) (pa_cons (pv 1) (pa_cons (pe_callTy (show CallR _ _ (rTupG K) from cr_tupG) (by rfl) m_tuple (by decide +kernel) (pa_cons (pe_lc (own := [("button", 3)]) (g := gName 3) rfl scUn.nd (show PI _ _ _ (iTup K _) from pi_tup (pe_ix (show IxR _ (rIxT K) from ix_tup) (pv 0) (pv 1) (fun _ _ => rfl))) (blkOk_by (own := [("button", 3)]) (N := nUn) (sc := defScope sUn) (by decide +kernel)) (fun _ _ _ _ _ => pg_name (i := 3) scUn.nd rfl (Or.inl rfl)) (fun _ _ _ _ _ => pts_one (pt_cmpR op_ne (pv 3) (pv 2) (nomark _))) (fun _ _ _ _ _ => pv 3)) pa_nil)) pa_nil)))))), ?_⟩
    obtain ⟨c1, c2, c3, c4⟩ := hc
    have hl := list_few c2 one.toNat
    refine gs_if1 (gvt_test (gv_inT (gv_var rfl d3) (gv_pan (gv_var rfl d1) (gv_var rfl d2) c3 c4))) (fun e H' s => ?_) (fun e H' s => ?_)
    · have e' : other ∉ pan.getD one.toNat [] := by simpa using e
      refine gs_ret (gv_var rfl (d1.sm s)) fun v H2 s2 dv => q v H2 (s.trans s2) ?_
      unfold unM; rw [if_neg e']; exact dv
    · have e' : other ∈ pan.getD one.toNat [] := by simpa using e
      refine gs_ret (gv_Wl (gva_cons (gv_var rfl (d1.sm s)) (gva_cons (gv_var rfl (d2.sm s)) (gva_cons (gv_tupL (gv_lc (gvi_tup (gv_pan (gv_var rfl (d1.sm s)) (gv_var rfl (d2.sm s)) c3 c4))
        (fun a v H1 ha s1 dv => ⟨gvt_test (gv_neI (gv_var rfl dv) (gv_var rfl ((d3.sm s).sm s1))), fun _ => gv_var rfl dv⟩) (fun _ _ => rfl) (by omega))) gva_nil))) ⟨c1, c3⟩) fun v H2 s2 dv => q v H2 (s.trans s2) ?_
      unfold unM; rw [if_pos e']; exact dv
end
def nPress : List Str := ["panel", "state", "button", "released", "kept", "other"]
theorem scPress : FnScope nPress ["panel", "state", "button"] (defScope sPress) := ⟨rfl, rfl, rfl, by decide +kernel, rfl, by decide +kernel, by decide +kernel⟩
section
variable {P : Program} {w : World} {K : PySem.W.Frag} {mg : Str → Option Value} {base : Heap}
def spPress (K : PySem.W.Frag) : Sp := fun vs H Q _ => ∃ (pan : List (List Int)) (st : List Int) (b : Int), DpAll K H vs [dPan pan, dInts st, .int b] ∧ Asc pan.length st ∧ pan.length ≤ 10 ∧ 0 ≤ b ∧ b < (pan.length : Int) ∧
  ∀ H' t, Same H H' → H' t = some (.tup ((pressM pan st b).map V.int)) → Q (.ref t) H'
theorem ok_Press  {f : Addr} {fd : FuncData} {k : Nat} (F : Fun K "press_button" "press_button" sPress f fd)
    (m_sorted : mg "sorted" = none) (m_tuple : mg "tuple" = none) : FnOk P w K mg base CX0 (k + 1) f fd ["panel", "state", "button"] (spPress K) := by
  refine F.ok scPress (fun vs H Q E h => ?_) (fun cdv A outer s H vs Q E hr h => ?_)
  · obtain ⟨_, _, _, hd, _⟩ := h
    exact hd.length
  · obtain ⟨pan, st, b, hd, hst, few, b0, b1, q⟩ := h
    obtain ⟨v1, v2, v3, rfl, d1, d2, d3⟩ := dpAll3 hd
    have stl := hst.len
    refine ⟨_, pss_cons (ps_set (i := 3) scPress.nd rfl (.inr rfl) (pe_ix (show IxR _ (rIxT K) from ix_tup) (pv 0) (pv 2) (fun _ _ => rfl)))
      (pss_cons (ps_setLc (i := 4) (own := [("other", 5)]) (g := gName 5) rfl scPress.nd rfl rfl (sw_true rfl rfl rfl (by decide +kernel)) (show PI _ _ _ (iTup K _) from pi_tup (pv 1)) (blkOk_by (own := [("other", 5)]) (N := nPress) (sc := defScope sPress) (by decide +kernel)) (fun _ _ _ _ _ => pg_name (i := 5) scPress.nd rfl (Or.inl rfl)) (fun _ _ _ _ _ => pts_one (PW.pt (pw_and (pt_cmpR op_ne (pv 5) (pv 2) (nomark _)) (pw_and1 (pt_cmpR (show OpR _ _ (rIn K true) from op_notIn_seq) (pv 5) (pv 3) (by rfl)))))) (fun _ _ _ _ _ => pv 5))
      (pss_one (ps_ret (pe_callTy (show CallR _ _ (rTupG K) from cr_tupG) (by rfl) m_tuple (by decide +kernel) (pa_cons (pe_callB (show CallR _ _ (rSorted K) from cr_sorted) (by rfl) m_sorted (by decide +kernel) (pa_cons (pe_lst (StX.pa_star (pv 4) (pa_cons (pv 2) pa_nil))) pa_nil)) pa_nil))))), ?_⟩
    refine gs_set1 (gv_pan (gv_var rfl d1) (gv_var rfl d3) b0 b1) fun vr H1 s1 dr => ?_
    refine gs_set1 (gv_lc (p := fun x => decide (x ≠ b ∧ x ∉ pan.getD b.toNat [])) (f := PyData.int) (gvi_tup (gv_var rfl (d2.sm s1))) (fun x vx H2 hx s2 dx => ⟨(gvt_and (gvt_test (gv_neI (gv_var rfl dx) (gv_var rfl ((d3.sm s1).sm s2)))) (fun H3 s3 _ => gvt_test (gv_inT (neg := true) (gv_var rfl (dx.sm s3)) (gv_var rfl ((dr.sm s2).sm s3))))).to (by simp), fun _ => gv_var rfl dx⟩) (fun _ _ => rfl) (by omega)) fun vk H2 s2 dk => ?_
    refine (gu_tupL (gv_sortL (l := st.filter (fun x => decide (x ≠ b ∧ x ∉ pan.getD b.toNat [])) ++ [b]) ((gv_lst (gva_starL (gv_var rfl dk) (gva_cons (gv_var rfl ((d3.sm s1).sm s2)) gva_nil)) ?_).to ?_) ?_)).at fun t vs H3 s3 nt et dt => q H3 t ((s1.trans s2).trans s3) ?_
    · rw [List.length_append, List.length_map]
      have := List.length_filter_le (fun x => decide (x ≠ b ∧ x ∉ pan.getD b.toNat [])) st
      exact Nat.le_of_lt (small5 (by show _ + 1 ≤ _; omega))
    · rw [List.map_append]; rfl
    · rw [List.length_append]
      have := List.length_filter_le (fun x => decide (x ≠ b ∧ x ∉ pan.getD b.toNat [])) st
      show _ + 1 < 64; omega
    · rw [et, dpAll_intsV dt, press_sorted hst b0 b1 (srt_perm _) (srt_up _)]
end
theorem scBtn : FnScope ["value", "many"] ["value", "many"] (defScope sBtn) := ⟨rfl, rfl, rfl, by decide +kernel, rfl, by decide +kernel, by decide +kernel⟩
theorem scBtnT : FnScope ["value", "many", "before", "item"] ["value", "many"] (defScope sBtnT) := ⟨rfl, rfl, rfl, by decide +kernel, rfl, by decide +kernel, by decide +kernel⟩
theorem scPErr : FnScope ["value", "index", "item"] ["value"] (defScope sPErr) := ⟨rfl, rfl, rfl, by decide +kernel, rfl, by decide +kernel, by decide +kernel⟩
section
variable {P : Program} {w : World} {K : PySem.W.Frag} {mg : Str → Option Value} {base : Heap}
def spBtn (K : PySem.W.Frag) : Sp := fun vs H Q _ => ∃ (N : Addr → Prop) (v : V) (d : PyData) (n : Int), vs = [v, .int n] ∧ Dq K N H v d ∧ Q (.bl (isBtn n d)) H
theorem ok_btn {f : Addr} {fd : FuncData} {k : Nat} (F : Fun K "is_button" "is_button" sBtn f fd) (mi : mg "isinstance" = none) (mb : mg "bool" = none) (mn : mg "int" = none) : FnOk P w K mg base CX0 (k + 1) f fd ["value", "many"] (spBtn K) := by
  refine F.ok scBtn (fun vs H Q E h => ?_) (fun cdv A outer s H vs Q E hr h => ?_)
  · obtain ⟨N, v, d, n, rfl, _⟩ := h
    rfl
  · obtain ⟨N, v, d, n, rfl, hd, q⟩ := h
    refine ⟨_, pss_cons (ps_if (PW.pt (pw_or (pt_val (pe_callB call_isi (by rfl) mi (by decide +kernel) (pa_cons (pv 0) (pa_cons (pe_bltn (v := .ty "bool") (by rfl) mb (by decide +kernel) rfl) pa_nil))))
        (pw_or1 (pt_not (pt_val (pe_callB call_isi (by rfl) mi (by decide +kernel) (pa_cons (pv 0) (pa_cons (pe_bltn (v := .ty "int") (by rfl) mn (by decide +kernel) rfl) pa_nil))))))))
        (pss_one (ps_ret pe_bl)) pss_nil)
      (pss_one (ps_ret (pe_chain op_le op_lt pe_int (pv 0) (pv 1)))), ?_⟩
    refine ⟨v, rfl, v, .ty "bool", _, _, _, rfl, .ty "bool", hd.ty, isB_kit d, _, rfl, ?_⟩
    by_cases hb : ∃ b, d = .bool b
    · obtain ⟨b, rfl⟩ := hb
      exact iteT (iteT q)
    · have e1 : isB d = false := by
        cases d <;> first | rfl | exact absurd ⟨_, rfl⟩ hb
      rw [e1]
      refine iteF ⟨v, rfl, v, .ty "int", _, _, _, rfl, .ty "int", hd.ty, isI_kit d, _, rfl, ?_⟩
      by_cases hi : ∃ i, d = .int i
      · obtain ⟨i, rfl⟩ := hi
        cases hd
        refine iteF ⟨.int i, rfl, 0, i, rfl, rfl, _, rfl, ite2 (fun e => ?_) (fun e => ?_)⟩
        · refine ⟨.int n, rfl, i, n, rfl, rfl, ?_⟩
          have q' : Q (.bl (decide (0 ≤ i) && decide (i < n))) H := q
          rw [e, Bool.true_and] at q'
          exact q'
        · have q' : Q (.bl (decide (0 ≤ i) && decide (i < n))) H := q
          rw [(Bool.not_eq_true _).mp e, Bool.false_and] at q'
          exact q'
      · have e2 : isI d = false := by
          cases d <;> first | rfl | exact absurd ⟨_, rfl⟩ hi | exact absurd ⟨_, rfl⟩ hb
        rw [e2]
        have q' : Q (.bl false) H := by
          cases d <;> first | exact q | exact absurd ⟨_, rfl⟩ hi
        exact iteT q'
def spBtnT (K : PySem.W.Frag) : Sp := fun vs H Q _ => ∃ (N : Addr → Prop) (v : V) (d : PyData) (n : Int), vs = [v, .int n] ∧ Dq K N H v d ∧ Q (.bl (btnT n d)) H
theorem ok_btnT {f fB : Addr} {fd fdB : FuncData} {k : Nat} (F : Fun K "is_button_tuple" "is_button_tuple" sBtnT f fd) (FB : Fun K "is_button" "is_button" sBtn fB fdB) (bB : Binds K fdB ["value", "many"] []) (gB : mg "is_button" = some (.ref fB))
    (mi : mg "isinstance" = none) (mb : mg "bool" = none) (mn : mg "int" = none) (mt : mg "tuple" = none) : FnOk P w K mg base CX0 (k + 2) f fd ["value", "many"] (spBtnT K) := by
  have GB : FnOk P w K mg base CX0 (k + 1) fB fdB ["value", "many"] (spBtn K) := ok_btn FB mi mb mn
  refine F.ok scBtnT (fun vs H Q E h => ?_) (fun cdv A outer s H vs Q E hr h => ?_)
  · obtain ⟨N, v, d, n, rfl, _⟩ := h
    rfl
  · obtain ⟨N, v, d, n, rfl, hd, q⟩ := h
    refine ⟨_, pss_cons (ps_if (pt_not (pt_val (pe_callB call_isi (by rfl) mi (by decide +kernel) (pa_cons (pv 0) (pa_cons (pe_bltn (v := .ty "tuple") (by rfl) mt (by decide +kernel) rfl) pa_nil))))) (pss_one (ps_ret pe_bl)) pss_nil)
      (pss_cons (ps_set (i := 2) scBtnT.nd rfl (.inl rfl) (pe_un un_neg pe_int))
      (pss_cons (ps_for PassesOwn.never rfl (pi_tup (pv 0)) (pg_name (i := 3) scBtnT.nd rfl (.inl rfl))
        (pss_cons (ps_if (PW.pt (pw_or (pt_not (pt_val (pe_call GB hr (by rfl) gB FB.kp bB .nil pass0 (pa_cons (pv 3) (pa_cons (pv 1) pa_nil))))) (pw_or1 (pt_cmpR op_le (pv 3) (pv 2) (nomark _))))) (pss_one (ps_ret pe_bl)) pss_nil)
        (pss_one (ps_set (i := 2) scBtnT.nd rfl (.inl rfl) (pv 3)))))
      (pss_one (ps_ret pe_bl)))), ?_⟩
    refine ⟨v, rfl, v, .ty "tuple", _, _, _, rfl, .ty "tuple", hd.ty, isT_kit d, _, rfl, ?_⟩
    by_cases ht : ∃ ds, d = .tuple ds
    · obtain ⟨ds, rfl⟩ := ht
      cases hd with
      | @tup l xs _ hs ha =>
        have q' : Q (.bl (ascFrom n (-1) ds)) H := q
        refine iteF ⟨1, rfl, .ref l, rfl, l, rfl, ⟨_, hs⟩, ?_⟩
        refine for_tup (xs := xs) (fun i σ H' => H' = H ∧ ∃ b x3, σ = [some (.ref l), some (.int n), some (.int b), x3] ∧ ascFrom n (-1) ds = ascFrom n b (ds.drop i)) ⟨rfl, -1, none, rfl, rfl⟩ (fun i σ H' _ hP => by rw [hP.1]; exact hs) (fun i x σ H' hx hP => ?_) (fun σ H' hP => ?_)
        · obtain ⟨rfl, b, x3, rfl, ea⟩ := hP
          obtain ⟨di, hdi, hq⟩ := ha.get i x hx
          have hi := (List.getElem?_eq_some_iff.mp hdi).1
          have ed : ds.drop i = di :: ds.drop (i + 1) := by rw [List.drop_eq_getElem_cons hi, (List.getElem?_eq_some_iff.mp hdi).2]
          rw [ed] at ea
          refine ⟨x, rfl, .int n, rfl, N, x, di, n, rfl, hq, _, rfl, ?_⟩
          by_cases hb : isBtn n di = true
          · rw [hb]
            obtain ⟨j, rfl⟩ : ∃ j, di = .int j := by
              cases di <;> first | exact ⟨_, rfl⟩ | (simp [isBtn] at hb)
            cases hq
            have ea' : ascFrom n (-1) ds = (decide (0 ≤ j) && decide (j < n) && decide (b < j) && ascFrom n j (ds.drop (i + 1))) := ea
            have hb' : (decide (0 ≤ j) && decide (j < n)) = true := hb
            rw [hb', Bool.true_and] at ea'
            refine iteF ⟨.int j, rfl, .int b, rfl, j, b, rfl, rfl, _, rfl, ite2 (fun e => ?_) (fun e => ?_)⟩
            · have : ¬ b < j := by have := of_decide_eq_true e; omega
              rw [decide_eq_false this, Bool.false_and] at ea'
              rw [ea'] at q'
              exact q'
            · have : b < j := by
                have : ¬ j ≤ b := fun h => e (decide_eq_true h)
                omega
              rw [decide_eq_true this, Bool.true_and] at ea'
              exact ⟨.int j, rfl, rfl, j, _, rfl, ea'⟩
          · rw [(Bool.not_eq_true _).mp hb]
            have ef : ascFrom n (-1) ds = false := by
              rw [ea]
              cases di with
              | int j =>
                have hb' : (decide (0 ≤ j) && decide (j < n)) = false := (Bool.not_eq_true _).mp hb
                show (decide (0 ≤ j) && decide (j < n) && decide (b < j) && ascFrom n j (ds.drop (i + 1))) = false
                rw [hb', Bool.false_and, Bool.false_and]
              | _ => rfl
            rw [ef] at q'
            exact iteT q'
        · obtain ⟨rfl, b, x3, rfl, ea⟩ := hP
          rw [ha.length, List.drop_length] at ea
          rw [ea] at q'
          exact q'
    · have e1 : isT d = false := by
        cases d <;> first | rfl | exact absurd ⟨_, rfl⟩ ht
      rw [e1]
      have q' : Q (.bl false) H := by
        cases d <;> first | exact q | exact absurd ⟨_, rfl⟩ ht
      exact iteT q'
end
section
variable {P : Program} {w : World} {K : PySem.W.Frag} {mg : Str → Option Value} {base : Heap}
def spPErr (K : PySem.W.Frag) : Sp := fun vs H Q _ => ∃ (N : Addr → Prop) (v : V) (d : PyData), vs = [v] ∧ Dq K N H v d ∧ ∀ H' u, Same H H' → Dp K H' u (errD d) → Q u H'
theorem dp_err {H : Hp} {p : Addr} {v : V} {d : PyData} {x : Str} (hv : Dp K (upd H p (.tup [v, .str x])) v d) : Dp K (upd H p (.tup [v, .str x])) (.ref p) (dErr d x) := .tup (.inl (.inl upd_same)) (.cons hv (.cons (.str x) .nil))
theorem ok_perr {f fB fT : Addr} {fd fdB fdT : FuncData} {k : Nat} {tk : Tok} (F : Fun K "panel_error" "panel_error" sPErr f fd) (FB : Fun K "is_button" "is_button" sBtn fB fdB) (bB : Binds K fdB ["value", "many"] []) (gB : mg "is_button" = some (.ref fB))
    (FT' : Fun K "is_button_tuple" "is_button_tuple" sBtnT fT fdT) (bT : Binds K fdT ["value", "many"] []) (gT : mg "is_button_tuple" = some (.ref fT)) (mM : mg "MAX_BUTTONS" = some (.int 10 tk))
    (mi : mg "isinstance" = none) (mb : mg "bool" = none) (mn : mg "int" = none) (mt : mg "tuple" = none) (ml : mg "len" = none) (me : mg "enumerate" = none) : FnOk P w K mg base CX0 (k + 3) f fd ["value"] (spPErr K) := by
  have GT : FnOk P w K mg base CX0 (k + 2) fT fdT ["value", "many"] (spBtnT K) := ok_btnT FT' FB bB gB mi mb mn mt
  refine F.ok scPErr (fun vs H Q E h => ?_) (fun cdv A outer s H vs Q E hr h => ?_)
  · obtain ⟨N, v, d, rfl, _⟩ := h
    rfl
  · obtain ⟨N, v, d, rfl, hd, q⟩ := h
    refine ⟨_, pss_cons (ps_if (PW.pt (pw_or (pt_not (pt_val (pe_callB call_isi (by rfl) mi (by decide +kernel) (pa_cons (pv 0) (pa_cons (pe_bltn (v := .ty "tuple") (by rfl) mt (by decide +kernel) rfl) pa_nil)))))
        (pw_or1 (pt_not (pt_chain op_le op_le pe_int (pe_callB call_len_seq (by rfl) ml PySem.boot_len (pa_cons (pv 0) pa_nil)) (pe_glob (v := .int 10) rfl mM ⟨_, rfl⟩))))))
        (pss_one (ps_ret (pe_tup (pa_cons pe_non (pa_cons pe_str pa_nil))))) pss_nil)
      (pss_cons (ps_for PassesOwn.never rfl (pi_enumT (by rfl) me (pa_cons (pv 0) pa_nil)) (pg_tup rfl (pgs_cons (pg_name (i := 1) scPErr.nd rfl (.inl rfl)) (pgs_cons (pg_name (i := 2) scPErr.nd rfl (.inl rfl)) pgs_nil)))
        (pss_cons (ps_if (pt_not (pt_val (pe_call GT hr (by rfl) gT FT'.kp bT .nil pass0 (pa_cons (pv 2) (pa_cons (pe_callB call_len_seq (by rfl) ml PySem.boot_len (pa_cons (pv 0) pa_nil)) pa_nil)))))
          (pss_one (ps_ret (pe_tup (pa_cons (pv 1) (pa_cons pe_str pa_nil))))) pss_nil)
        (pss_one (ps_if (pt_cmpR op_in_seq (pv 1) (pv 2) (by rfl)) (pss_one (ps_ret (pe_tup (pa_cons (pv 1) (pa_cons pe_str pa_nil))))) pss_nil))))
      (pss_one (ps_ret pe_non))), ?_⟩
    have bad : errD d = dErr .none "panel" → ∀ p, H p = none → Q (.ref p) (upd H p (.tup [.non, .str "panel"])) := fun e p np => by
      refine q _ _ (same_new np) ?_
      rw [e]
      exact dp_err .non
    refine ⟨v, rfl, v, .ty "tuple", _, _, _, rfl, .ty "tuple", hd.ty, isT_kit d, _, rfl, ?_⟩
    by_cases ht : ∃ ds, d = .tuple ds
    · obtain ⟨ds, rfl⟩ := ht
      cases hd with
      | @tup l xs _ hs ha =>
        have hl := ha.length
        refine iteF ⟨.ref l, rfl, l, xs, rfl, .inr hs, 1, (xs.length : Int), rfl, rfl, _, rfl, ?_⟩
        by_cases h1 : (1 : Int) ≤ (xs.length : Int)
        · rw [decide_eq_true h1]
          refine iteT ⟨(xs.length : Int), 10, rfl, rfl, _, rfl, ?_⟩
          by_cases h2 : (xs.length : Int) ≤ 10
          · rw [decide_eq_true h2]
            refine iteF ⟨.ref l, rfl, l, xs, rfl, hs, ?_⟩
            have ed : errD (.tuple ds) = errFrom (ds.length : Int) 0 ds := if_pos ⟨by omega, by omega⟩
            rw [ed] at q
            refine for_it (walk_enumT (xs := xs)) (fun i σ H' => Same H H' ∧ ∃ x1 x2, σ = [some (.ref l), x1, x2] ∧ errFrom (ds.length : Int) 0 ds = errFrom (ds.length : Int) i (ds.drop i)) ⟨Same.refl _, none, none, rfl, rfl⟩ (fun i σ H' _ hP => same_sqT hP.1 hs) (fun i x σ H3 H4 hi hP hY => ?_) (fun σ H' hP => ?_)
            · obtain ⟨s3, x1, x2, rfl, ea⟩ := hP
              obtain ⟨T, y1, y2, rfl, nT, rfl, e1, e2⟩ := hY
              cases e1
              replace e2 : xs[i]? = some y2 := e2
              have sT : Same H3 (upd H3 T (.tup [.int (i : Nat), y2])) := same_new nT
              obtain ⟨di, hdi, hq⟩ := ha.get i y2 e2
              rw [errFrom_drop hdi] at ea
              have s4 := s3.trans sT
              have hq4 := Dq.same s4 di y2 hq
              refine ⟨T, _, rfl, .inl (.inl upd_same), rfl, _, _, rfl, _, _, rfl, rfl, ?_⟩
              refine ⟨y2, rfl, .ref l, rfl, l, xs, rfl, .inr (same_sqT s4 hs), N, y2, di, (xs.length : Int), rfl, hq4, _, rfl, ?_⟩
              rw [hl]
              by_cases hb : btnT (ds.length : Int) di = true
              · rw [hb] at ea ⊢
                rw [if_pos rfl] at ea
                obtain ⟨es, rfl⟩ : ∃ es, di = .tuple es := by
                  cases di <;> first | exact ⟨_, rfl⟩ | (simp [btnT] at hb)
                obtain ⟨ns, rfl, up, rg⟩ := ascFrom_ints (show ascFrom (ds.length : Int) (-1) es = true from hb)
                rw [hasInt_ints] at ea
                cases hq4 with
                | @tup l2 zs _ hs2 ha2 =>
                  obtain rfl := dqAll_of_ints ha2
                  refine iteF ⟨.int (i : Int), rfl, .ref l2, rfl, l2, _, rfl, .inr hs2, rfl, flat_ints ns, _, rfl, ?_⟩
                  rw [if_neg Bool.false_ne_true, inV_ints]
                  refine ite2 (fun e => ?_) (fun e => ?_)
                  · rw [e, if_pos rfl] at ea
                    refine ⟨.int (i : Int), rfl, by show 2 ≤ sizeLine; decide, fun p np => q _ _ (s4.trans (same_new np)) ?_⟩
                    rw [ea]
                    exact dp_err (.int _)
                  · rw [if_neg e] at ea
                    exact ⟨s4, _, _, rfl, ea⟩
              · rw [(Bool.not_eq_true _).mp hb] at ea ⊢
                rw [if_neg Bool.false_ne_true] at ea
                refine iteT ⟨.int (i : Int), rfl, by show 2 ≤ sizeLine; decide, fun p np => q _ _ (s4.trans (same_new np)) ?_⟩
                rw [ea]
                exact dp_err (.int _)
            · obtain ⟨s3, x1, x2, rfl, ea⟩ := hP
              rw [hl, List.drop_length] at ea
              refine q _ _ s3 ?_
              rw [ea]
              exact .non
          · rw [decide_eq_false h2]
            exact iteT ⟨by show 2 ≤ sizeLine; decide, bad (if_neg (by omega))⟩
        · rw [decide_eq_false h1]
          refine iteF ⟨_, rfl, ?_⟩
          exact iteT ⟨by show 2 ≤ sizeLine; decide, bad (if_neg (by omega))⟩
    · have e1 : isT d = false := by
        cases d <;> first | rfl | exact absurd ⟨_, rfl⟩ ht
      rw [e1]
      refine iteT (iteT ⟨by show 2 ≤ sizeLine; decide, bad ?_⟩)
      cases d <;> first | rfl | exact absurd ⟨_, rfl⟩ ht
end
def nChkP : List Str := ["value", "error"]
theorem scChkP : FnScope nChkP ["value"] (defScope sChkP) := ⟨rfl, rfl, rfl, by decide +kernel, rfl, by decide +kernel, by decide +kernel⟩
section
variable {P : Program} {w : World} {K : PySem.W.Frag} {mg : Str → Option Value} {base : Heap}
def spChkP (K : PySem.W.Frag) : Sp := fun vs H Q _ => ∃ (p : Addr) (pan : List (List Int)), vs = [.ref p] ∧ PanT K H p pan ∧ Good pan ∧ ∀ H', Same H H' → Q .non H'
theorem ok_ChkP {fBtn : Addr} {fdBtn : FuncData} {fBtnT : Addr} {fdBtnT : FuncData} {fPErr : Addr} {fdPErr : FuncData} {f : Addr} {fd : FuncData} {k : Nat} (F : Fun K "check_panel" "check_panel" sChkP f fd)
    (FBtn : Fun K "is_button" "is_button" sBtn fBtn fdBtn) (bBtn : Binds K fdBtn ["value", "many"] []) (gBtn : mg "is_button" = some (.ref fBtn))
    (FBtnT : Fun K "is_button_tuple" "is_button_tuple" sBtnT fBtnT fdBtnT) (bBtnT : Binds K fdBtnT ["value", "many"] []) (gBtnT : mg "is_button_tuple" = some (.ref fBtnT))
    (FPErr : Fun K "panel_error" "panel_error" sPErr fPErr fdPErr) (bPErr : Binds K fdPErr ["value"] []) (gPErr : mg "panel_error" = some (.ref fPErr))
    (m_bool : mg "bool" = none) (m_enumerate : mg "enumerate" = none) (m_int : mg "int" = none) (m_isinstance : mg "isinstance" = none) (m_len : mg "len" = none) (m_tuple : mg "tuple" = none) {tk : Tok} (y_MAX : mg "MAX_BUTTONS" = some (.int 10 tk)) : FnOk P w K mg base CX0 (k + 4) f fd ["value"] (spChkP K) := by
  have GPErr : FnOk P w K mg base CX0 (k + 3) fPErr fdPErr ["value"] (spPErr K) := ok_perr FPErr FBtn bBtn gBtn FBtnT bBtnT gBtnT y_MAX m_isinstance m_bool m_int m_tuple m_len m_enumerate
  refine F.ok scChkP (fun vs H Q E h => ?_) (fun cdv A outer s H vs Q E hr h => ?_)
  · obtain ⟨p, pan, rfl, _⟩ := h
    rfl
  · obtain ⟨p, pan, rfl, hp, hg, q⟩ := h
    refine ⟨_, pss_cons (ps_set (i := 1) scChkP.nd rfl (.inl rfl) (pe_call GPErr (hr.mono (by omega)) (by rfl) gPErr FPErr.kp bPErr .nil pass0 (pa_cons (pv 0) pa_nil)))
      (pss_one (ps_if (pt_cmpR op_notN (pv 1) pe_non (by rfl)) (pss_one ps_never) pss_nil)), ?_⟩
    refine ⟨.ref p, rfl, fun _ => False, .ref p, dPan pan, rfl, dq_panT hp, fun H1 u s1 du => ?_⟩
    rw [err_good hg] at du
    cases du
    refine gs_noN (gvt_test (K := K) (gv_notN (gv_var rfl .non) rfl)) rfl fun H2 s2 => q H2 (s1.trans s2)
end
def nChkS : List Str := ["panel", "value"]
theorem scChkS : FnScope nChkS ["panel", "value"] (defScope sChkS) := ⟨rfl, rfl, rfl, by decide +kernel, rfl, by decide +kernel, by decide +kernel⟩
section
variable {P : Program} {w : World} {K : PySem.W.Frag} {mg : Str → Option Value} {base : Heap}
def spChkS (K : PySem.W.Frag) : Sp := fun vs H Q _ => ∃ (p l : Addr) (pan : List (List Int)) (st : List Int), vs = [.ref p, .ref l] ∧ PanT K H p pan ∧ SqT K H l (st.map V.int) ∧ Asc pan.length st ∧ ∀ H', Same H H' → Q .non H'
theorem ok_ChkS {fBtn : Addr} {fdBtn : FuncData} {fBtnT : Addr} {fdBtnT : FuncData} {f : Addr} {fd : FuncData} {k : Nat} (F : Fun K "check_state" "check_state" sChkS f fd)
    (FBtn : Fun K "is_button" "is_button" sBtn fBtn fdBtn) (bBtn : Binds K fdBtn ["value", "many"] []) (gBtn : mg "is_button" = some (.ref fBtn))
    (FBtnT : Fun K "is_button_tuple" "is_button_tuple" sBtnT fBtnT fdBtnT) (bBtnT : Binds K fdBtnT ["value", "many"] []) (gBtnT : mg "is_button_tuple" = some (.ref fBtnT))
    (m_bool : mg "bool" = none) (m_int : mg "int" = none) (m_isinstance : mg "isinstance" = none) (m_len : mg "len" = none) (m_tuple : mg "tuple" = none) : FnOk P w K mg base CX0 (k + 3) f fd ["panel", "value"] (spChkS K) := by
  have GBtnT : FnOk P w K mg base CX0 (k + 2) fBtnT fdBtnT ["value", "many"] (spBtnT K) := ok_btnT FBtnT FBtn bBtn gBtn m_isinstance m_bool m_int m_tuple
  refine F.ok scChkS (fun vs H Q E h => ?_) (fun cdv A outer s H vs Q E hr h => ?_)
  · obtain ⟨p, l, pan, st, rfl, _⟩ := h
    rfl
  · obtain ⟨p, l, pan, st, rfl, hp, hl, hst, q⟩ := h
    refine ⟨_, pss_one (ps_if (pt_not (pt_val (pe_call GBtnT (hr.mono (by omega)) (by rfl) gBtnT FBtnT.kp bBtnT .nil pass0 (pa_cons (pv 1) (pa_cons (pe_callB (show CallR _ _ (rLenG K) from cr_lenG) (by rfl) m_len PySem.boot_len (pa_cons (pv 0) pa_nil)) pa_nil))))) (pss_one ps_never) pss_nil), ?_⟩
    have hlp : (pan.map dInts).length = pan.length := List.length_map _
    refine ⟨.ref l, rfl, (gv_lenT (K := K) (gv_var rfl hp.dp)).at fun vn H1 s1 dn => ?_⟩
    cases dn
    rw [hlp]
    refine ⟨fun _ => False, .ref l, dInts st, (pan.length : Int), rfl, dq_ints (same_sqT s1 hl), ⟨_, rfl, ?_⟩⟩
    have e : btnT (pan.length : Int) (dInts st) = true := asc_from hst.up fun x hx => ⟨by have := hst.rng x hx; omega, hst.rng x hx⟩
    rw [e]
    exact iteF (q H1 s1)
end
end K48
namespace K48
open PySem PySem.Spec PyProof.Rows L2 Pr
abbrev sInitD : Stmt := inClass (topS 46) 1
abbrev sShow : Stmt := inClass (topS 46) 2
abbrev sFree : Stmt := inClass (topS 46) 3
abbrev sRoom : Stmt := inClass (topS 46) 4
abbrev sLink0 : Stmt := inClass (topS 46) 5
abbrev sAdd : Stmt := inClass (topS 46) 6
abbrev sChg : Stmt := inClass (topS 46) 7
abbrev sPressD : Stmt := inClass (topS 46) 8
abbrev sLink : Stmt := inClass (topS 46) 9
abbrev sUnlink : Stmt := inClass (topS 46) 10
abbrev sState : Stmt := inClass (topS 46) 16
abbrev sEdits : Stmt := inClass (topS 46) 19
abbrev sLenD : Stmt := inClass (topS 46) 21
abbrev sStrD : Stmt := inClass (topS 46) 22
def fD1 (pa : Addr) : List (Str × V) := [("past", V.ref pa), ("watched", V.bl false)]
def fldsD (pa p l h : Addr) : List (Str × V) := [("past", V.ref pa), ("watched", V.bl false), ("panel", V.ref p), ("latched", V.ref l), ("held", V.ref h)]
theorem look_past (pa p l h : Addr) : (fldsD pa p l h).lookup ("past" : Str) = some (.ref pa) := by rfl
theorem look_watched (pa p l h : Addr) : (fldsD pa p l h).lookup ("watched" : Str) = some (.bl false) := by rfl
theorem look_panel (pa p l h : Addr) : (fldsD pa p l h).lookup ("panel" : Str) = some (.ref p) := by rfl
theorem look_latched (pa p l h : Addr) : (fldsD pa p l h).lookup ("latched" : Str) = some (.ref l) := by rfl
theorem look_held (pa p l h : Addr) : (fldsD pa p l h).lookup ("held" : Str) = some (.ref h) := by rfl
end K48
namespace Pr
open PySem PySem.Spec PyProof.Rows L2
theorem seq_hide {t u : TS} {D : Ends} {σ : L2.St} {H : Hp} (h : ∀ u' : TS, (∀ D σ H, u D σ H → u' D σ H) → tSeq t u' D σ H) : tSeq t u D σ H := h u fun _ _ _ z => z
theorem next_of {D : Ends} {σ : L2.St} {H : Hp} (h : D.nx σ H) : tNext D σ H := h
end Pr
namespace K48
open PySem PySem.Spec PyProof.Rows L2 Pr
theorem put_a (pa p l h : Addr) : putF "held" (.ref h) (putF "latched" (.ref l) (putF "panel" (.ref p) (fD1 pa))) = fldsD pa p l h := by rfl
theorem put_b (pa p0 l0 h0 p l h : Addr) : putF "held" (.ref h) (putF "latched" (.ref l) (putF "panel" (.ref p) (fldsD pa p0 l0 h0))) = fldsD pa p l h := by rfl
theorem put_p (pa pa' p l h : Addr) : putF "past" (.ref pa') (fldsD pa p l h) = fldsD pa' p l h := by rfl
theorem put_0 (pa : Addr) : putF "watched" (.bl false) (putF "past" (.ref pa) []) = fD1 pa := by rfl
structure TxtD (K : PySem.W.Frag) (mg : Str → Option Value) (C : Addr) : Prop where
  cl : Cls K C
  nA : NoAttr K C "past"
  nW : NoAttr K C "watched"
  nP : NoAttr K C "panel"
  nL : NoAttr K C "latched"
  nH : NoAttr K C "held"
  con : ∃ u, Con K C "MOST_EDITS" (.int 60) u
  g : mg "Desk" = some (.ref C)
def dEnt (x : PyData × List (List Int) × List Int) : PyData := .tuple [x.1, dPan x.2.1, dInts x.2.2]
def dPast (past : List (PyData × List (List Int) × List Int)) : PyData := .tuple (past.map dEnt)
/-- a part of the past: the edit, and the panel and the state before it -/
def EntAt (K : PySem.W.Frag) (H : Hp) (x : V) (y : PyData × List (List Int) × List Int) : Prop := ∃ (a p l : Addr) (v : V), x = .ref a ∧ SqT K H a [v, .ref p, .ref l] ∧ Dp K H v y.1 ∧ PanT K H p y.2.1 ∧ H l = some (.tup (y.2.2.map V.int))
def PastAt (K : PySem.W.Frag) (H : Hp) (pa : Addr) (past : List (PyData × List (List Int) × List Int)) : Prop := ∃ xs, SqT K H pa xs ∧ Paired (EntAt K H) xs past
section
variable {K : PySem.W.Frag} {H H' : Hp} {pa : Addr} {past : List (PyData × List (List Int) × List Int)}
theorem EntAt.sm {x : V} {y : PyData × List (List Int) × List Int} (h : EntAt K H x y) (s : Same H H') : EntAt K H' x y := by
  obtain ⟨a, p, l, v, rfl, h1, h2, h3, h4⟩ := h
  exact ⟨a, p, l, v, rfl, same_sqT s h1, h2.sm s, h3.same s, s _ _ h4⟩
theorem EntAt.kp {x : V} {y : PyData × List (List Int) × List Int} (h : EntAt K H x y) (k : Kp H H') (hl : lf y.1 = true) : EntAt K H' x y := by
  obtain ⟨a, p, l, v, rfl, h1, h2, h3, h4⟩ := h
  exact ⟨a, p, l, v, rfl, sqT_kp k h1, h2.kp k hl, h3.kp k, k.1 _ _ h4⟩
theorem EntAt.dp {x : V} {y : PyData × List (List Int) × List Int} (h : EntAt K H x y) : Dp K H x (dEnt y) := by
  obtain ⟨a, p, l, v, rfl, h1, h2, h3, h4⟩ := h
  exact .tup h1 (.cons h2 (.cons h3.dp (.cons (dp_ints (.inl (.inl h4))) .nil)))
theorem ents_sm (s : Same H H') : ∀ {xs : List V} {past : List (PyData × List (List Int) × List Int)}, Paired (EntAt K H) xs past → Paired (EntAt K H') xs past
  | _, _, .nil => .nil
  | _, _, .cons h t => .cons (h.sm s) (ents_sm s t)
theorem ents_kp (k : Kp H H') : ∀ {xs : List V} {past : List (PyData × List (List Int) × List Int)}, (∀ x ∈ past, lf x.1 = true ∧ Good x.2.1 ∧ Asc x.2.1.length x.2.2) → Paired (EntAt K H) xs past → Paired (EntAt K H') xs past
  | _, _, _, .nil => .nil
  | _, _, e, .cons h t => .cons (h.kp k (e _ List.mem_cons_self).1) (ents_kp k (fun x hx => e x (List.mem_cons_of_mem _ hx)) t)
theorem ents_dp : ∀ {xs : List V} {past : List (PyData × List (List Int) × List Int)}, Paired (EntAt K H) xs past → DpAll K H xs (past.map dEnt)
  | _, _, .nil => .nil
  | _, _, .cons h t => .cons h.dp (ents_dp t)
theorem prApp {α β : Type} {R : α → β → Prop} : ∀ {xs : List α} {ys : List β} {us : List α} {vs : List β}, Paired R xs ys → Paired R us vs → Paired R (xs ++ us) (ys ++ vs)
  | _, _, _, _, .nil, h => h
  | _, _, _, _, .cons a b, h => .cons a (prApp b h)
theorem prGet {α β : Type} {R : α → β → Prop} : ∀ {xs : List α} {ys : List β} {i : Nat} {y : β}, Paired R xs ys → ys[i]? = some y → ∃ x, xs[i]? = some x ∧ R x y
  | _, _, i, y, .nil, e => by simp at e
  | x :: xs, z :: ys, 0, y, .cons a b, e => by cases e; exact ⟨x, rfl, a⟩
  | x :: xs, z :: ys, i + 1, y, .cons a b, e => prGet (i := i) b e
theorem prSplit {α β : Type} {R : α → β → Prop} : ∀ {xs : List α} {ys : List β} {y : β}, Paired R xs (ys ++ [y]) → ∃ us u, xs = us ++ [u] ∧ Paired R us ys ∧ R u y
  | _, [], y, .cons a .nil => ⟨[], _, rfl, .nil, a⟩
  | _, z :: ys, y, .cons a b => by
    obtain ⟨us, u, rfl, h1, h2⟩ := prSplit b
    exact ⟨_ :: us, u, rfl, .cons a h1, h2⟩
theorem PastAt.sm (h : PastAt K H pa past) (s : Same H H') : PastAt K H' pa past := by
  obtain ⟨xs, h1, h2⟩ := h
  exact ⟨xs, same_sqT s h1, ents_sm s h2⟩
theorem PastAt.kp (h : PastAt K H pa past) (k : Kp H H') (e : ∀ x ∈ past, lf x.1 = true ∧ Good x.2.1 ∧ Asc x.2.1.length x.2.2) : PastAt K H' pa past := by
  obtain ⟨xs, h1, h2⟩ := h
  exact ⟨xs, sqT_kp k h1, ents_kp k e h2⟩
theorem PastAt.dp (h : PastAt K H pa past) : Dp K H (.ref pa) (dPast past) := by
  obtain ⟨xs, h1, h2⟩ := h
  exact .tup h1 (ents_dp h2)
end
theorem cut_last (xs : List V) (x : V) : cutV (xs ++ [x]) none (some (-1)) = xs := by
  unfold cutV
  have e : HT.sIx (xs ++ [x]).length (xs ++ [x]).length (some (-1)) = xs.length := by
    show (if (-1 : Int) < 0 then ((-1 : Int) + ((xs ++ [x]).length : Int)).toNat else min (-1 : Int).toNat (xs ++ [x]).length) = _
    rw [if_pos (by decide), List.length_append]
    show ((-1 : Int) + ((xs.length + 1 : Nat) : Int)).toNat = _
    omega
  rw [e, HT.sIx_none, List.drop_zero, Nat.sub_zero, List.take_left]
theorem at_last {l : List V} {v : V} : atI (l ++ [v]) (-1) = some v := by
  have e : ixN (l ++ [v]).length (-1) = some l.length := by
    unfold ixN
    rw [List.length_append]
    show (if (0 : Int) ≤ -1 then _ else _) = _
    rw [if_neg (by decide)]
    simp
    omega
  unfold atI
  rw [e]
  show (l ++ [v])[l.length]? = some v
  simp
theorem at_nat {l : List V} {v : V} {i : Nat} (h : l[i]? = some v) : atI l (i : Int) = some v := by
  have hi := (List.getElem?_eq_some_iff.mp h).1
  have e : ixN l.length (i : Int) = some i := by
    unfold ixN
    rw [if_pos (by omega), if_pos (by omega), Int.toNat_natCast]
  unfold atI
  rw [e]
  exact h
/-- a desk stands at t -/
structure DeskAt (K : PySem.W.Frag) (C : Addr) (H : Hp) (t : Addr) (pan : List (List Int)) (st : List Int) (past : List (PyData × List (List Int) × List Int)) : Prop where
  ob : ∃ dx pa p l h hs, H t = some (.ins C dx (fldsD pa p l h)) ∧ PastAt K H pa past ∧ PanT K H p pan ∧ H l = some (.tup (st.map V.int)) ∧ SqT K H h (hs.map V.int) ∧ IsHeld pan st hs
  good : Good pan
  asc : Asc pan.length st
  lfe : ∀ x ∈ past, lf x.1 = true ∧ Good x.2.1 ∧ Asc x.2.1.length x.2.2
section
variable {K : PySem.W.Frag} {C : Addr} {H H' : Hp} {t : Addr} {pan : List (List Int)} {st : List Int} {past : List (PyData × List (List Int) × List Int)}
theorem DeskAt.same (h : DeskAt K C H t pan st past) (s : Same H H') : DeskAt K C H' t pan st past := by
  obtain ⟨⟨dx, pa, p, l, hh, hs, h1, h2, h3, h4, h5, h6⟩, g, a, e⟩ := h
  exact ⟨⟨dx, pa, p, l, hh, hs, s _ _ h1, h2.sm s, h3.same s, s _ _ h4, same_sqT s h5, h6⟩, g, a, e⟩
theorem DeskAt.but {a c : Addr} {m : Nat} (h : DeskAt K C H t pan st past) (D : Deck H a c m) (b : But a c H H') : DeskAt K C H' t pan st past := by
  obtain ⟨⟨dx, pa, p, l, hh, hs, h1, h2, h3, h4, h5, h6⟩, g, as, e⟩ := h
  have k := Kp.but D b
  have q := D.apart h1 (fun _ => by intro z; cases z)
  exact ⟨⟨dx, pa, p, l, hh, hs, b _ _ q.1 q.2 h1, h2.kp k e, h3.kp k, k.1 _ _ h4, sqT_kp k h5, h6⟩, g, as, e⟩
end
def nShow : List Str := ["self", "panel", "latched"]
theorem scShow : FnScope nShow ["self", "panel", "latched"] (defScope sShow) := ⟨rfl, rfl, rfl, by decide +kernel, rfl, by decide +kernel, by decide +kernel⟩
section
variable {P : Program} {w : World} {K : PySem.W.Frag} {mg : Str → Option Value} {base : Heap}
def spShow (K : PySem.W.Frag) (C : Addr) : Sp := fun vs H Q _ => ∃ (t p l dx pa : Addr) (fs : List (Str × V)) (pan : List (List Int)) (st : List Int), vs = [.ref t, .ref p, .ref l] ∧ H t = some (.ins C dx fs) ∧ (fs = fD1 pa ∨ ∃ p0 l0 h0, fs = fldsD pa p0 l0 h0) ∧ PanT K H p pan ∧ Good pan ∧ SqT K H l (st.map V.int) ∧ Asc pan.length st ∧
  ∀ H' h hs, ButO t H H' → H' t = some (.ins C dx (fldsD pa p l h)) → SqT K H' h (hs.map V.int) → IsHeld pan st hs → Q .non H'
theorem ok_Show {fAny : Addr} {fdAny : FuncData} {fHeld : Addr} {fdHeld : FuncData} {C f : Addr} {fd : FuncData} {k : Nat} (F : Fun K "show" "Desk.show" sShow f fd) (T : TxtD K mg C)
    (FAny : Fun K "releases_any" "releases_any" sAny fAny fdAny) (bAny : Binds K fdAny ["panel", "button", "others"] []) (gAny : mg "releases_any" = some (.ref fAny))
    (FHeld : Fun K "held_buttons" "held_buttons" sHeld fHeld fdHeld) (bHeld : Binds K fdHeld ["panel", "state"] []) (gHeld : mg "held_buttons" = some (.ref fHeld))
    (m_any : mg "any" = none) (m_len : mg "len" = none) (m_tuple : mg "tuple" = none) : FnOk P w K mg base CX0 (k + 3) f fd ["self", "panel", "latched"] (spShow K C) := by
  have GHeld : FnOk P w K mg base CX0 (k + 2) fHeld fdHeld ["panel", "state"] (spHeld K) := ok_held FHeld FAny bAny gAny m_len m_tuple m_any
  refine F.ok scShow (fun vs H Q E h => ?_) (fun cdv A outer s H vs Q E hr h => ?_)
  · obtain ⟨t, p, l, dx, pa, fs, pan, st, rfl, _⟩ := h
    rfl
  · obtain ⟨t, p, l, dx, pa, fs, pan, st, rfl, ht, hfs, hp, hg, hl, hst, q⟩ := h
    refine ⟨_, pss_cons (ps_fld (pv 0) (pv 1) rfl)
      (pss_cons (ps_fld (pv 0) (pv 2) rfl)
      (pss_one (ps_fld (pv 0) (pe_call GHeld (hr.mono (by omega)) (by rfl) gHeld FHeld.kp bHeld .nil pass0 (pa_cons (pv 1) (pa_cons (pv 2) pa_nil))) rfl))), ?_⟩
    have fl : fs.length ≤ 5 := by
      rcases hfs with rfl | ⟨p0, l0, h0, rfl⟩
      · show 2 ≤ 5; decide
      · exact Nat.le_refl 5
    have pl : ∀ (f : Str) (v : V) (l : List (Str × V)), (putF f v l).length ≤ l.length + 1 := fun f v l => by
      induction l with
      | nil => exact Nat.le_refl _
      | cons x r ih =>
        show (if x.1 = f then (x.1, v) :: r else x :: putF f v r).length ≤ _
        split
        · exact Nat.le_succ _
        · exact Nat.succ_le_succ ih
    refine ⟨.ref p, rfl, .ref t, rfl, t, C, dx, fs, rfl, ht, T.cl, T.nP, by omega, ?_⟩
    have k1 := ButO.upd (g := t) (H := H) (o := .ins C dx (putF "panel" (.ref p) fs))
    refine ⟨.ref l, rfl, .ref t, rfl, t, C, dx, _, rfl, upd_same, T.cl, T.nL, by have := pl "panel" (.ref p) fs; omega, ?_⟩
    have k2 := ButO.upd (g := t) (H := upd H t (.ins C dx (putF "panel" (.ref p) fs))) (o := .ins C dx (putF "latched" (.ref l) (putF "panel" (.ref p) fs)))
    have k12 := k1.trans k2
    refine ⟨.ref p, rfl, .ref l, rfl, p, l, pan, st, rfl, hp.kp (k12.kp ht), hg, sqT_kp (k12.kp ht) hl, hst, fun H3 h hs s3 hh ish => ?_⟩
    have e3 := s3 _ _ (upd_same (a := t) (o := .ins C dx (putF "latched" (.ref l) (putF "panel" (.ref p) fs))))
    refine ⟨.ref t, rfl, t, C, dx, _, rfl, e3, T.cl, T.nH, by have := pl "panel" (.ref p) fs; have := pl "latched" (.ref l) (putF "panel" (.ref p) fs); omega, ?_⟩
    have k4 := ButO.upd (g := t) (H := H3) (o := .ins C dx (putF "held" (.ref h) (putF "latched" (.ref l) (putF "panel" (.ref p) fs))))
    refine q _ h hs ((k12.trans (ButO.of s3)).trans k4) ?_ (sqT_kp (k4.kp e3) hh) ish
    rcases hfs with rfl | ⟨p0, l0, h0, rfl⟩
    · rw [put_a, upd_same]
    · rw [put_b, upd_same]
end
def nInitD : List Str := ["self", "panel", "state"]
theorem scInitD : FnScope nInitD ["self", "panel", "state"] (defScope sInitD) := ⟨rfl, rfl, rfl, by decide +kernel, rfl, by decide +kernel, by decide +kernel⟩
section
variable {P : Program} {w : World} {K : PySem.W.Frag} {mg : Str → Option Value} {base : Heap}
def spInitD (K : PySem.W.Frag) (C : Addr) : Sp := fun vs H Q _ => ∃ (t p l dx : Addr) (pan : List (List Int)) (st : List Int), vs = [.ref t, .ref p, .ref l] ∧ H t = some (.ins C dx []) ∧ PanT K H p pan ∧ Good pan ∧ H l = some (.tup (st.map V.int)) ∧ Asc pan.length st ∧
  ∀ H', ButO t H H' → DeskAt K C H' t pan st [] → Q .non H'
theorem ok_InitD {fBtn : Addr} {fdBtn : FuncData} {fBtnT : Addr} {fdBtnT : FuncData} {fPErr : Addr} {fdPErr : FuncData} {fAny : Addr} {fdAny : FuncData} {fHeld : Addr} {fdHeld : FuncData} {fChkP : Addr} {fdChkP : FuncData} {fChkS : Addr} {fdChkS : FuncData} {C f : Addr} {fd : FuncData} {k : Nat} {tk : Tok} (F : Fun K "__init__" "Desk.__init__" sInitD f fd) (T : TxtD K mg C)
    (FBtn : Fun K "is_button" "is_button" sBtn fBtn fdBtn) (bBtn : Binds K fdBtn ["value", "many"] []) (gBtn : mg "is_button" = some (.ref fBtn))
    (FBtnT : Fun K "is_button_tuple" "is_button_tuple" sBtnT fBtnT fdBtnT) (bBtnT : Binds K fdBtnT ["value", "many"] []) (gBtnT : mg "is_button_tuple" = some (.ref fBtnT))
    (FPErr : Fun K "panel_error" "panel_error" sPErr fPErr fdPErr) (bPErr : Binds K fdPErr ["value"] []) (gPErr : mg "panel_error" = some (.ref fPErr))
    (FAny : Fun K "releases_any" "releases_any" sAny fAny fdAny) (bAny : Binds K fdAny ["panel", "button", "others"] []) (gAny : mg "releases_any" = some (.ref fAny))
    (FHeld : Fun K "held_buttons" "held_buttons" sHeld fHeld fdHeld) (bHeld : Binds K fdHeld ["panel", "state"] []) (gHeld : mg "held_buttons" = some (.ref fHeld))
    (FChkP : Fun K "check_panel" "check_panel" sChkP fChkP fdChkP) (bChkP : Binds K fdChkP ["value"] []) (gChkP : mg "check_panel" = some (.ref fChkP))
    (FChkS : Fun K "check_state" "check_state" sChkS fChkS fdChkS) (bChkS : Binds K fdChkS ["panel", "value"] []) (gChkS : mg "check_state" = some (.ref fChkS))
    {fShow : Addr} {fdShow : FuncData} (FShow : Fun K "show" "Desk.show" sShow fShow fdShow) (bShow : Binds K fdShow ["self", "panel", "latched"] []) (hShow : Meth K C "show" fShow)
    (m_any : mg "any" = none) (m_bool : mg "bool" = none) (m_enumerate : mg "enumerate" = none) (m_int : mg "int" = none) (m_isinstance : mg "isinstance" = none) (m_len : mg "len" = none) (m_tuple : mg "tuple" = none) (y_MAX : mg "MAX_BUTTONS" = some (.int 10 tk)) : FnOk P w K mg base CX0 (k + 5) f fd ["self", "panel", "state"] (spInitD K C) := by
  have GChkP : FnOk P w K mg base CX0 (k + 4) fChkP fdChkP ["value"] (spChkP K) := ok_ChkP FChkP FBtn bBtn gBtn FBtnT bBtnT gBtnT FPErr bPErr gPErr m_bool m_enumerate m_int m_isinstance m_len m_tuple y_MAX
  have GChkS : FnOk P w K mg base CX0 (k + 3) fChkS fdChkS ["panel", "value"] (spChkS K) := ok_ChkS FChkS FBtn bBtn gBtn FBtnT bBtnT gBtnT m_bool m_int m_isinstance m_len m_tuple
  have GShow : FnOk P w K mg base CX0 (k + 3) fShow fdShow ["self", "panel", "latched"] (spShow K C) := ok_Show FShow T FAny bAny gAny FHeld bHeld gHeld  m_any m_len m_tuple
  refine F.ok scInitD (fun vs H Q E h => ?_) (fun cdv A outer s H vs Q E hr h => ?_)
  · obtain ⟨t, p, l, dx, pan, st, rfl, _⟩ := h
    rfl
  · obtain ⟨t, p, l, dx, pan, st, rfl, ht, hp, hg, hl, hst, q⟩ := h
    refine ⟨_, pss_cons (ps_expr (pe_call GChkP (hr.mono (by omega)) (by rfl) gChkP FChkP.kp bChkP .nil pass0 (pa_cons (pv 1) pa_nil)))
      (pss_cons (ps_expr (pe_call GChkS (hr.mono (by omega)) (by rfl) gChkS FChkS.kp bChkS .nil pass0 (pa_cons (pv 1) (pa_cons (pv 2) pa_nil))))
      (pss_cons (ps_fld (pv 0) (pe_tup pa_nil) rfl)
      (pss_cons (ps_fld (pv 0) pe_bl rfl)
      (pss_one (ps_expr (pe_meth (pv 0) T.cl hShow GShow (hr.mono (by omega)) bShow .nil pass0 (pa_cons (pv 1) (pa_cons (pv 2) pa_nil)))))))), ?_⟩
    refine ⟨.ref p, rfl, p, pan, rfl, hp, hg, fun H1 s1 => ?_⟩
    refine ⟨.ref p, rfl, .ref l, rfl, p, l, pan, st, rfl, hp.same s1, .inl (.inl (s1 _ _ hl)), hst, fun H2 s2 => ?_⟩
    have s12 := s1.trans s2
    have e2 := s12 _ _ ht
    refine ⟨Nat.zero_le _, fun pa npa => ?_⟩
    have sp := same_new (o := .tup []) npa
    refine ⟨.ref t, rfl, t, C, dx, _, rfl, sp _ _ e2, T.cl, T.nA, by show 0 < 1000; decide, ?_⟩
    have k3 := ButO.upd (g := t) (H := upd H2 pa (.tup [])) (o := .ins C dx (putF "past" (.ref pa) []))
    refine ⟨.ref t, rfl, t, C, dx, _, rfl, upd_same, T.cl, T.nW, by show 1 < 1000; decide, ?_⟩
    rw [put_0]
    have k4 := ButO.upd (g := t) (H := upd (upd H2 pa (.tup [])) t (.ins C dx (putF "past" (.ref pa) []))) (o := .ins C dx (fD1 pa))
    have kk := (k3.trans k4).kp (sp _ _ e2)
    have sH := s12.trans sp
    have pt : pa ≠ t := fun z => by rw [z, e2] at npa; cases npa
    refine ⟨.ref t, rfl, t, dx, _, rfl, upd_same, by rfl, .ref p, rfl, .ref l, rfl, t, p, l, dx, pa, fD1 pa, pan, st, rfl, upd_same, .inl rfl, (hp.same sH).kp kk, hg, .inl (.inl (kk.1 _ _ (sH _ _ hl))), hst, fun H5 h hs k5 e5 hh ish => ?_⟩
    have kAll := ((ButO.of sH).trans (k3.trans k4)).trans k5
    have kp5 := kk.trans (k5.kp upd_same)
    refine q H5 kAll ⟨⟨dx, pa, p, l, h, hs, e5, ⟨[], .inl (.inl (kp5.1 _ _ upd_same)), .nil⟩, (hp.same sH).kp kp5, kp5.1 _ _ (sH _ _ hl), hh, ish⟩, hg, hst, fun x hx => by cases hx⟩
end
end K48
namespace K48
open PySem PySem.Spec PyProof.Rows L2 Pr
section
variable {K : PySem.W.Frag} {C : Addr} {H H' : Hp} {t : Addr} {pan : List (List Int)} {st : List Int} {past : List (PyData × List (List Int) × List Int)} {σ : L2.St} {mg : Str → Option Value} {i : Nat}
theorem gv_past (T : TxtD K mg C) (hi : σ[i]? = some (some (.ref t))) (h : DeskAt K C H t pan st past) : Gv K (tFld K (tVar i) "past") σ H (dPast past) := fun H1 s Q q => by
  obtain ⟨⟨dx, pa, p, l, hh, hs, h1, h2, _⟩, _⟩ := h.same s
  exact ⟨.ref t, hi, t, C, dx, _, .ref pa, rfl, h1, T.cl, T.nA, look_past _ _ _ _, q _ H1 (Same.refl _) h2.dp⟩
theorem gv_panel (T : TxtD K mg C) (hi : σ[i]? = some (some (.ref t))) (h : DeskAt K C H t pan st past) : Gv K (tFld K (tVar i) "panel") σ H (dPan pan) := fun H1 s Q q => by
  obtain ⟨⟨dx, pa, p, l, hh, hs, h1, h2, h3, _⟩, _⟩ := h.same s
  exact ⟨.ref t, hi, t, C, dx, _, .ref p, rfl, h1, T.cl, T.nP, look_panel _ _ _ _, q _ H1 (Same.refl _) h3.dp⟩
theorem gv_latched (T : TxtD K mg C) (hi : σ[i]? = some (some (.ref t))) (h : DeskAt K C H t pan st past) : Gv K (tFld K (tVar i) "latched") σ H (dInts st) := fun H1 s Q q => by
  obtain ⟨⟨dx, pa, p, l, hh, hs, h1, h2, h3, h4, _⟩, _⟩ := h.same s
  exact ⟨.ref t, hi, t, C, dx, _, .ref l, rfl, h1, T.cl, T.nL, look_latched _ _ _ _, q _ H1 (Same.refl _) (dp_ints (.inl (.inl h4)))⟩
theorem gv_most (T : TxtD K mg C) (hi : σ[i]? = some (some (.ref t))) (h : DeskAt K C H t pan st past) : Gv K (tCon K (tVar i) "MOST_EDITS") σ H (.int 60) := fun H1 s Q q => by
  obtain ⟨⟨dx, pa, p, l, hh, hs, h1, _⟩, _⟩ := h.same s
  obtain ⟨u, hu⟩ := T.con
  exact ⟨.ref t, hi, t, C, dx, _, .int 60, u, rfl, h1, T.cl, hu, by rfl, q _ H1 (Same.refl _) (.int _)⟩
end
def InP2 (pan : List (List Int)) (one other : Int) : Prop := 0 ≤ one ∧ one < (pan.length : Int) ∧ 0 ≤ other ∧ other < (pan.length : Int) ∧ one ≠ other
def nFree : List Str := ["self"]
theorem scFree : FnScope nFree ["self"] (defScope sFree) := ⟨rfl, rfl, rfl, by decide +kernel, rfl, by decide +kernel, by decide +kernel⟩
section
variable {P : Program} {w : World} {K : PySem.W.Frag} {mg : Str → Option Value} {base : Heap}
def spFree (K : PySem.W.Frag) (C : Addr) : Sp := fun vs H Q _ => ∃ (t : Addr) (pan : List (List Int)) (st : List Int) (past : List (PyData × List (List Int) × List Int)), vs = [.ref t] ∧ DeskAt K C H t pan st past ∧ ∀ H', Same H H' → Q .non H'
theorem ok_Free  {C f : Addr} {fd : FuncData} {k : Nat} (F : Fun K "check_free" "Desk.check_free" sFree f fd) (T : TxtD K mg C)
     : FnOk P w K mg base CX0 (k + 1) f fd ["self"] (spFree K C) := by
  refine F.ok scFree (fun vs H Q E h => ?_) (fun cdv A outer s H vs Q E hr h => ?_)
  · obtain ⟨t, pan, st, past, rfl, _⟩ := h
    rfl
  · obtain ⟨t, pan, st, past, rfl, hD, q⟩ := h
    have hD' := hD
    obtain ⟨⟨dx, pa, p, l, hh, hs, h1, h2, h3, h4, h5, h6⟩, hg, hst, lfe⟩ := hD'
    refine ⟨_, pss_one (ps_if (pt_val (pe_fld (pv 0) rfl)) (pss_one ps_never) pss_nil), ?_⟩
    exact ⟨.ref t, rfl, t, C, dx, _, .bl false, rfl, h1, T.cl, T.nW, look_watched _ _ _ _, false, rfl, iteF (q H (Same.refl _))⟩
end
def nRoom : List Str := ["self"]
theorem scRoom : FnScope nRoom ["self"] (defScope sRoom) := ⟨rfl, rfl, rfl, by decide +kernel, rfl, by decide +kernel, by decide +kernel⟩
section
variable {P : Program} {w : World} {K : PySem.W.Frag} {mg : Str → Option Value} {base : Heap}
def spRoom (K : PySem.W.Frag) (C : Addr) : Sp := fun vs H Q _ => ∃ (t : Addr) (pan : List (List Int)) (st : List Int) (past : List (PyData × List (List Int) × List Int)), vs = [.ref t] ∧ DeskAt K C H t pan st past ∧ past.length < 60 ∧ ∀ H', Same H H' → Q .non H'
theorem ok_Room  {C f : Addr} {fd : FuncData} {k : Nat} (F : Fun K "check_room" "Desk.check_room" sRoom f fd) (T : TxtD K mg C)
    {fFree : Addr} {fdFree : FuncData} (FFree : Fun K "check_free" "Desk.check_free" sFree fFree fdFree) (bFree : Binds K fdFree ["self"] []) (hFree : Meth K C "check_free" fFree)
    (m_len : mg "len" = none) : FnOk P w K mg base CX0 (k + 2) f fd ["self"] (spRoom K C) := by
  have GFree : FnOk P w K mg base CX0 (k + 1) fFree fdFree ["self"] (spFree K C) := ok_Free FFree T   
  refine F.ok scRoom (fun vs H Q E h => ?_) (fun cdv A outer s H vs Q E hr h => ?_)
  · obtain ⟨t, pan, st, past, rfl, _⟩ := h
    rfl
  · obtain ⟨t, pan, st, past, rfl, hD, few, q⟩ := h
    have hD' := hD
    obtain ⟨⟨dx, pa, p, l, hh, hs, h1, h2, h3, h4, h5, h6⟩, hg, hst, lfe⟩ := hD'
    refine ⟨_, pss_cons (ps_expr (pe_meth0 (pv 0) T.cl hFree GFree (hr.mono (by omega)) bFree .nil pass0))
      (pss_one (ps_if (pt_cmpR op_ge (pe_callB (show CallR _ _ (rLenG K) from cr_lenG) (by rfl) m_len PySem.boot_len (pa_cons (pe_fld (pv 0) rfl) pa_nil)) (pe_con (pv 0) rfl) (nomark _)) (pss_one ps_never) pss_nil)), ?_⟩
    refine ⟨.ref t, rfl, t, dx, _, rfl, h1, by rfl, t, pan, st, past, rfl, hD, fun H1 s1 => ?_⟩
    refine gs_noN (b := decide ((60 : Int) ≤ ((past.map dEnt).length : Int))) (gvt_test (K := K) (gv_I0 (gv_lenT (gv_past T rfl (hD.same s1))) (gv_most T rfl (hD.same s1)) fun _ => .bl _)) (by rw [List.length_map]; exact decide_eq_false (by omega)) fun H2 s2 => q H2 (s1.trans s2)
end
def nAdd : List Str := ["self", "edit", "panel", "latched"]
theorem scAdd : FnScope nAdd ["self", "edit", "panel", "latched"] (defScope sAdd) := ⟨rfl, rfl, rfl, by decide +kernel, rfl, by decide +kernel, by decide +kernel⟩
section
variable {P : Program} {w : World} {K : PySem.W.Frag} {mg : Str → Option Value} {base : Heap}
def spAdd (K : PySem.W.Frag) (C : Addr) : Sp := fun vs H Q _ => ∃ (t : Addr) (pan : List (List Int)) (st : List Int) (past : List (PyData × List (List Int) × List Int)) (ve : V) (de : PyData) (p' l' : Addr) (pan' : List (List Int)) (st' : List Int), vs = [.ref t, ve, .ref p', .ref l'] ∧ DeskAt K C H t pan st past ∧ past.length ≤ 60 ∧ Dp K H ve de ∧ lf de = true ∧ PanT K H p' pan' ∧ Good pan' ∧ H l' = some (.tup (st'.map V.int)) ∧ Asc pan'.length st' ∧
  ∀ H', ButO t H H' → DeskAt K C H' t pan' st' (past ++ [(de, pan, st)]) → Q (.int ((past.length + 1 : Nat) : Int)) H'
theorem ok_Add {fAny : Addr} {fdAny : FuncData} {fHeld : Addr} {fdHeld : FuncData} {C f : Addr} {fd : FuncData} {k : Nat} (F : Fun K "add_edit" "Desk.add_edit" sAdd f fd) (T : TxtD K mg C)
    (FAny : Fun K "releases_any" "releases_any" sAny fAny fdAny) (bAny : Binds K fdAny ["panel", "button", "others"] []) (gAny : mg "releases_any" = some (.ref fAny))
    (FHeld : Fun K "held_buttons" "held_buttons" sHeld fHeld fdHeld) (bHeld : Binds K fdHeld ["panel", "state"] []) (gHeld : mg "held_buttons" = some (.ref fHeld))
    {fShow : Addr} {fdShow : FuncData} (FShow : Fun K "show" "Desk.show" sShow fShow fdShow) (bShow : Binds K fdShow ["self", "panel", "latched"] []) (hShow : Meth K C "show" fShow)
    (m_any : mg "any" = none) (m_len : mg "len" = none) (m_tuple : mg "tuple" = none) : FnOk P w K mg base CX0 (k + 4) f fd ["self", "edit", "panel", "latched"] (spAdd K C) := by
  have GShow : FnOk P w K mg base CX0 (k + 3) fShow fdShow ["self", "panel", "latched"] (spShow K C) := ok_Show FShow T FAny bAny gAny FHeld bHeld gHeld  m_any m_len m_tuple
  refine F.ok scAdd (fun vs H Q E h => ?_) (fun cdv A outer s H vs Q E hr h => ?_)
  · obtain ⟨t, pan, st, past, ve, de, p', l', pan', st', rfl, _⟩ := h
    rfl
  · obtain ⟨t, pan, st, past, ve, de, p', l', pan', st', rfl, hD, few, dve, lde, hp', hg', hl', hst', q⟩ := h
    have hD' := hD
    obtain ⟨⟨dx, pa, p, l, hh, hs, h1, h2, h3, h4, h5, h6⟩, hg, hst, lfe⟩ := hD'
    refine ⟨_, pss_cons (ps_fld (pv 0) (pe_tup (StX.pa_star (pe_fld (pv 0) rfl) (pa_cons (pe_tup (pa_cons (pv 1) (pa_cons (pe_fld (pv 0) rfl) (pa_cons (pe_fld (pv 0) rfl) pa_nil)))) pa_nil))) rfl)
      (pss_cons (ps_expr (pe_meth (pv 0) T.cl hShow GShow (hr.mono (by omega)) bShow .nil pass0 (pa_cons (pv 2) (pa_cons (pv 3) pa_nil))))
      (pss_one (ps_ret (pe_callB (show CallR _ _ (rLenG K) from cr_lenG) (by rfl) m_len PySem.boot_len (pa_cons (pe_fld (pv 0) rfl) pa_nil))))), ?_⟩
    refine seq_hide fun u1 hu1 => ?_
    obtain ⟨xs, hpa, hxs⟩ := h2
    have xl : xs.length ≤ 60 := by rw [hxs.length]; exact few
    refine ⟨.ref t, rfl, t, C, dx, _, .ref pa, rfl, h1, T.cl, T.nA, look_past _ _ _ _, pa, xs, rfl, .inl hpa, ve, rfl, .ref t, rfl, t, C, dx, _, .ref p, rfl, h1, T.cl, T.nP, look_panel _ _ _ _, .ref t, rfl, t, C, dx, _, .ref l, rfl, h1, T.cl, T.nL, look_latched _ _ _ _, by show 3 ≤ sizeLine; decide, fun Te nTe => ⟨?_, fun pa' npa => ?_⟩⟩
    · rw [List.length_append]; exact Nat.le_of_lt (small5 (by show _ + 1 ≤ _; omega))
    have sTe := same_new (o := .tup [ve, .ref p, .ref l]) nTe
    have spa := same_new (o := .tup (xs ++ [.ref Te])) npa
    have s1 := sTe.trans spa
    have eTe := spa _ _ (upd_same (a := Te) (H := H) (o := .tup [ve, .ref p, .ref l]))
    have epa : (upd (upd H Te (.tup [ve, .ref p, .ref l])) pa' (.tup (xs ++ [.ref Te]))) pa' = some (.tup (xs ++ [.ref Te])) := upd_same
    generalize upd (upd H Te (.tup [ve, .ref p, .ref l])) pa' (.tup (xs ++ [.ref Te])) = H1 at s1 eTe epa ⊢
    have e1 := s1 _ _ h1
    refine ⟨.ref t, rfl, t, C, dx, _, rfl, e1, T.cl, T.nA, by show 5 < 1000; decide, ?_⟩
    refine hu1 _ _ _ (seq_hide fun u2 hu2 => ?_)
    rw [put_p]
    have k2 := ButO.upd (g := t) (H := H1) (o := .ins C dx (fldsD pa' p l hh))
    have kp2 := k2.kp e1
    have hP1 : PastAt K H1 pa' (past ++ [(de, pan, st)]) := ⟨_, .inl (.inl epa), prApp (ents_sm s1 hxs) (.cons ⟨Te, p, l, ve, rfl, .inl (.inl eTe), dve.sm s1, h3.same s1, s1 _ _ h4⟩ .nil)⟩
    refine ⟨.ref t, rfl, t, dx, _, rfl, upd_same, by rfl, .ref p', rfl, .ref l', rfl, t, p', l', dx, pa', fldsD pa' p l hh, pan', st', rfl, upd_same, .inr ⟨_, _, _, rfl⟩, (hp'.same s1).kp kp2, hg', .inl (.inl (kp2.1 _ _ (s1 _ _ hl'))), hst', fun H3 h hs' k3 e3 hh' ish => ?_⟩
    have kp3 := kp2.trans (k3.kp upd_same)
    have lfe' : ∀ x ∈ past ++ [(de, pan, st)], lf x.1 = true ∧ Good x.2.1 ∧ Asc x.2.1.length x.2.2 := fun x hx => by
      rcases List.mem_append.mp hx with h | h
      · exact lfe x h
      · rw [List.mem_singleton.mp h]; exact ⟨lde, hg, hst⟩
    have hN : DeskAt K C H3 t pan' st' (past ++ [(de, pan, st)]) := ⟨⟨dx, pa', p', l', h, hs', e3, hP1.kp kp3 lfe', (hp'.same s1).kp kp3, kp3.1 _ _ (s1 _ _ hl'), hh', ish⟩, hg', hst', lfe'⟩
    refine hu2 _ _ _ ?_
    refine gs_ret (K := K) (gv_lenT (gv_past T rfl hN)) fun v H4 s4 dv4 => ?_
    cases dv4
    rw [List.length_map, List.length_append]
    exact q H4 (((ButO.of s1).trans k2).trans (k3.trans (ButO.of s4))) (hN.same s4)
end
end K48
namespace Pr
open PySem PySem.Spec PyProof.Rows L2
theorem srt_mem {l : List Int} {x : Int} : x ∈ srt l ↔ x ∈ l := (srt_perm l).mem_iff
theorem srt_asc {l : List Int} (nd : l.Nodup) : (srt l).Pairwise (· < ·) := by
  have nd' : (srt l).Nodup := (srt_perm l).nodup_iff.mpr nd
  exact (List.Pairwise.and (srt_up l) nd').imp fun {a b} h => by have := h.1; have := h.2; omega
end Pr
namespace K48
open PySem PySem.Spec PyProof.Rows L2 Pr
theorem set_mem {pan : List (List Int)} {i : Nat} {x l : List Int} (h : l ∈ pan.set i x) : l = x ∨ l ∈ pan := by
  rcases List.mem_or_eq_of_mem_set h with h | h
  · exact .inr h
  · exact .inl h
theorem good_set {pan : List (List Int)} (g : Good pan) {i : Nat} {x : List Int} (hi : i < pan.length) (up : x.Pairwise (· < ·)) (rng : ∀ y ∈ x, 0 ≤ y ∧ y < (pan.length : Int)) (own : (i : Int) ∉ x) : Good (pan.set i x) := by
  have hl : (pan.set i x).length = pan.length := List.length_set
  refine ⟨by rw [hl]; exact g.pos, by rw [hl]; exact g.few, fun l h => ?_, fun l h => ?_, fun j l h => ?_⟩
  · rcases set_mem h with rfl | h
    · exact up
    · exact g.up l h
  · rw [hl]
    rcases set_mem h with rfl | h
    · exact rng
    · exact g.rng l h
  · rw [List.getElem?_set] at h
    by_cases e : i = j
    · rw [if_pos e, if_pos hi] at h
      cases h
      rw [← e]; exact own
    · rw [if_neg e] at h
      exact g.own j l h
theorem rel_mem {pan : List (List Int)} {i : Nat} (hi : i < pan.length) : pan.getD i [] ∈ pan := by
  rw [List.getD_eq_getElem?_getD, List.getElem?_eq_getElem hi]; exact List.getElem_mem hi
theorem good_li {pan : List (List Int)} (g : Good pan) {one other : Int} (h : InP2 pan one other) (hn : other ∉ pan.getD one.toNat []) : Good (liM pan one other) ∧ (liM pan one other).length = pan.length ∧ liM pan one other ≠ pan := by
  obtain ⟨o0, o1, u0, u1, ne⟩ := h
  have hi : one.toNat < pan.length := by omega
  have e : liM pan one other = pan.set one.toNat (srt (pan.getD one.toNat [] ++ [other])) := by unfold liM; rw [if_neg hn]
  have hm := rel_mem hi
  have up := g.up _ hm
  rw [e]
  have nd : (pan.getD one.toNat [] ++ [other]).Nodup := by
    rw [List.nodup_append]
    refine ⟨up.imp fun {a b} h => by omega, by simp, fun x hx y hy z => ?_⟩
    rw [List.mem_singleton.mp hy] at z
    exact hn (z ▸ hx)
  have mem : ∀ x, x ∈ srt (pan.getD one.toNat [] ++ [other]) ↔ x ∈ pan.getD one.toNat [] ∨ x = other := fun x => by rw [srt_mem, List.mem_append, List.mem_singleton]
  refine ⟨good_set g hi (srt_asc nd) (fun y hy => ?_) (fun h => ?_), List.length_set, fun z => ?_⟩
  · rcases (mem y).mp hy with h | rfl
    · exact g.rng _ hm y h
    · exact ⟨u0, u1⟩
  · rcases (mem _).mp h with h | h
    · exact g.own' (b := one) o0 o1 (by rwa [show ((one.toNat : Nat) : Int) = one by omega] at h)
    · omega
  · have : (pan.set one.toNat (srt (pan.getD one.toNat [] ++ [other]))).getD one.toNat [] = pan.getD one.toNat [] := by rw [z]
    rw [List.getD_eq_getElem?_getD, List.getElem?_set, if_pos rfl, if_pos hi] at this
    replace this : srt (pan.getD one.toNat [] ++ [other]) = pan.getD one.toNat [] := this
    exact hn (by rw [← this]; exact (mem other).mpr (.inr rfl))
theorem good_un {pan : List (List Int)} (g : Good pan) {one other : Int} (h : InP2 pan one other) (hn : other ∈ pan.getD one.toNat []) : Good (unM pan one other) ∧ (unM pan one other).length = pan.length ∧ unM pan one other ≠ pan := by
  obtain ⟨o0, o1, u0, u1, ne⟩ := h
  have hi : one.toNat < pan.length := by omega
  have e : unM pan one other = pan.set one.toNat ((pan.getD one.toNat []).filter fun x => !decide (x = other)) := by unfold unM; rw [if_pos hn]
  have hm := rel_mem hi
  rw [e]
  refine ⟨good_set g hi ((g.up _ hm).filter _) (fun y hy => g.rng _ hm y (List.mem_filter.mp hy).1) (fun h => ?_), List.length_set, fun z => ?_⟩
  · exact g.own' (b := one) o0 o1 (by have := (List.mem_filter.mp h).1; rwa [show ((one.toNat : Nat) : Int) = one by omega] at this)
  · have : (pan.set one.toNat ((pan.getD one.toNat []).filter fun x => !decide (x = other))).getD one.toNat [] = pan.getD one.toNat [] := by rw [z]
    rw [List.getD_eq_getElem?_getD, List.getElem?_set, if_pos rfl, if_pos hi] at this
    replace this : (pan.getD one.toNat []).filter (fun x => !decide (x = other)) = pan.getD one.toNat [] := this
    rw [← this] at hn
    simpa using (List.mem_filter.mp hn).2
theorem pan_ok {pan : List (List Int)} (g : Good pan) : pan.length ≤ 100 ∧ ∀ l ∈ pan, l.length ≤ 60 := ⟨by have := g.few; omega, fun l hl => by
  have := pw_length (n := 10) (lo := 0) (g.up l hl) fun x hx => by have := g.rng l hl x hx; have := g.few; omega
  omega⟩
def dLk (w : Str) (one other : Int) : PyData := .tuple [.str w, .int one, .int other]
def nEdits : List Str := ["self", "edit", "panel", "latched"]
theorem scEdits : FnScope nEdits ["self"] (defScope sEdits) := ⟨rfl, rfl, rfl, by decide +kernel, rfl, by decide +kernel, by decide +kernel⟩
section
variable {P : Program} {w : World} {K : PySem.W.Frag} {mg : Str → Option Value} {base : Heap}
def spEdits (K : PySem.W.Frag) (C : Addr) : Sp := fun vs H Q _ => ∃ (t : Addr) (pan : List (List Int)) (st : List Int) (past : List (PyData × List (List Int) × List Int)), vs = [.ref t] ∧ DeskAt K C H t pan st past ∧ past.length ≤ 1000 ∧ ∀ H' v, Same H H' → Dp K H' v (.tuple (past.map (·.1))) → Q v H'
theorem ok_Edits  {C f : Addr} {fd : FuncData} {k : Nat} (F : Fun K "edits" "Desk.edits" sEdits f fd) (T : TxtD K mg C)
    (m_tuple : mg "tuple" = none) : FnOk P w K mg base CX0 (k + 1) f fd ["self"] (spEdits K C) := by
  refine F.ok scEdits (fun vs H Q E h => ?_) (fun cdv A outer s H vs Q E hr h => ?_)
  · obtain ⟨t, pan, st, past, rfl, _⟩ := h
    rfl
  · obtain ⟨t, pan, st, past, rfl, hD, few, q⟩ := h
    have hD' := hD
    obtain ⟨⟨dx, pa, p, l, hh, hs, h1, h2, h3, h4, h5, h6⟩, hg, hst, lfe⟩ := hD'
    refine ⟨_, pss_one (ps_ret (pe_callTy (show CallR _ _ (rTupG K) from cr_tupG) (by rfl) m_tuple (by decide +kernel) (pa_cons (pe_lc (own := [("edit", 1), ("panel", 2), ("latched", 3)]) (g := gTup K 3 (gCons (gName 1) (gCons (gName 2) (gCons (gName 3) gNil)))) (tt := tYes) rfl scEdits.nd (show PI _ _ _ (iTup K _) from pi_tup (pe_fld (pv 0) rfl)) (blkOk_by (own := [("edit", 1), ("panel", 2), ("latched", 3)]) (N := nEdits) (sc := defScope sEdits) (by decide +kernel)) (fun _ _ _ _ _ => pg_tup rfl (pgs_cons (pg_name (i := 1) scEdits.nd rfl (Or.inl rfl)) (pgs_cons (pg_name (i := 2) scEdits.nd rfl (Or.inl rfl)) (pgs_cons (pg_name (i := 3) scEdits.nd rfl (Or.inl rfl)) pgs_nil)))) (fun _ _ _ _ _ => pts_nil) (fun _ _ _ _ _ => pv 1)) pa_nil))), ?_⟩
    refine gs_ret (K := K) (gv_tupL ((gn_lc3 (δ1 := fun x : PyData × List (List Int) × List Int => x.1) (δ2 := fun x => dPan x.2.1) (δ3 := fun x => dInts x.2.2) (as := past) (p := fun _ => true) (f := fun x => x.1) (gvi_tup (gv_past T rfl hD)) (fun x v u w H1 hx s1 dv du dw => ⟨gvt_yes, fun _ => gv_var rfl dv⟩) (fun x hx => (lfe x hx).1) (by omega) (by decide) (by decide) (by decide)).gv)) fun v H1 s1 dv => q H1 v s1 ?_
    rwa [List.filter_eq_self.mpr (fun _ _ => rfl)] at dv
end
def nLenD : List Str := ["self"]
theorem scLenD : FnScope nLenD ["self"] (defScope sLenD) := ⟨rfl, rfl, rfl, by decide +kernel, rfl, by decide +kernel, by decide +kernel⟩
section
variable {P : Program} {w : World} {K : PySem.W.Frag} {mg : Str → Option Value} {base : Heap}
def spLenD (K : PySem.W.Frag) (C : Addr) : Sp := fun vs H Q _ => ∃ (t : Addr) (pan : List (List Int)) (st : List Int) (past : List (PyData × List (List Int) × List Int)), vs = [.ref t] ∧ DeskAt K C H t pan st past ∧ ∀ H', Same H H' → Q (.int (past.length : Nat)) H'
theorem ok_LenD  {C f : Addr} {fd : FuncData} {k : Nat} (F : Fun K "__len__" "Desk.__len__" sLenD f fd) (T : TxtD K mg C)
    (m_len : mg "len" = none) : FnOk P w K mg base CX0 (k + 1) f fd ["self"] (spLenD K C) := by
  refine F.ok scLenD (fun vs H Q E h => ?_) (fun cdv A outer s H vs Q E hr h => ?_)
  · obtain ⟨t, pan, st, past, rfl, _⟩ := h
    rfl
  · obtain ⟨t, pan, st, past, rfl, hD, q⟩ := h
    have hD' := hD
    obtain ⟨⟨dx, pa, p, l, hh, hs, h1, h2, h3, h4, h5, h6⟩, hg, hst, lfe⟩ := hD'
    refine ⟨_, pss_one (ps_ret (pe_callB (show CallR _ _ (rLenG K) from cr_lenG) (by rfl) m_len PySem.boot_len (pa_cons (pe_fld (pv 0) rfl) pa_nil))), ?_⟩
    refine gs_ret (K := K) (gv_lenT (gv_past T rfl hD)) fun v H1 s1 dv => ?_
    cases dv
    rw [List.length_map]
    exact q H1 s1
end
theorem len_num (n : Nat) (h : n ≤ 1000) : ((toString (n : Int) : Str)).length ≤ 10 := by
  have : ∀ n < 1001, ((toString ((n : Nat) : Int) : Str)).length ≤ 10 := by decide +kernel
  exact this n (by omega)
theorem log_num (n : Nat) (h : n ≤ 1000) : ((n : Int)).natAbs.log2 < 1920 := by
  have : ∀ n < 1001, (((n : Nat) : Int)).natAbs.log2 < 1920 := by decide +kernel
  exact this n (by omega)
def txtD (a b c : Nat) : Str := ((((((Str.empty ++ (toString (a : Int) : Str)) ++ (" buttons, " : Str)) ++ (toString (b : Int) : Str)) ++ (" latched, " : Str)) ++ (toString (c : Int) : Str)) ++ (" edits" : Str))
def nStrD : List Str := ["self"]
theorem scStrD : FnScope nStrD ["self"] (defScope sStrD) := ⟨rfl, rfl, rfl, by decide +kernel, rfl, by decide +kernel, by decide +kernel⟩
section
variable {P : Program} {w : World} {K : PySem.W.Frag} {mg : Str → Option Value} {base : Heap}
def spStrD (K : PySem.W.Frag) (C : Addr) : Sp := fun vs H Q _ => ∃ (t : Addr) (pan : List (List Int)) (st : List Int) (past : List (PyData × List (List Int) × List Int)), vs = [.ref t] ∧ DeskAt K C H t pan st past ∧ past.length ≤ 1000 ∧ ∀ H', Same H H' → Q (.str (txtD pan.length st.length past.length)) H'
theorem ok_StrD  {C f : Addr} {fd : FuncData} {k : Nat} (F : Fun K "__str__" "Desk.__str__" sStrD f fd) (T : TxtD K mg C)
    (m_len : mg "len" = none) : FnOk P w K mg base CX0 (k + 1) f fd ["self"] (spStrD K C) := by
  refine F.ok scStrD (fun vs H Q E h => ?_) (fun cdv A outer s H vs Q E hr h => ?_)
  · obtain ⟨t, pan, st, past, rfl, _⟩ := h
    rfl
  · obtain ⟨t, pan, st, past, rfl, hD, few, q⟩ := h
    have hD' := hD
    obtain ⟨⟨dx, pa, p, l, hh, hs, h1, h2, h3, h4, h5, h6⟩, hg, hst, lfe⟩ := hD'
    refine ⟨_, pss_one (ps_ret (pe_joined (.cons (pe_fmt (pe_callB (show CallR _ _ (rLenG K) from cr_lenG) (by rfl) m_len PySem.boot_len (pa_cons (pe_fld (pv 0) rfl) pa_nil))) (.cons pe_str (.cons (pe_fmt (pe_callB (show CallR _ _ (rLenG K) from cr_lenG) (by rfl) m_len PySem.boot_len (pa_cons (pe_fld (pv 0) rfl) pa_nil))) (.cons pe_str (.cons (pe_fmt (pe_callB (show CallR _ _ (rLenG K) from cr_lenG) (by rfl) m_len PySem.boot_len (pa_cons (pe_fld (pv 0) rfl) pa_nil))) (.cons pe_str .nil)))))))), ?_⟩
    have f1 := hg.few
    have f2 := hst.len
    have n1 := len_num pan.length (by omega)
    have n2 := len_num st.length (by omega)
    have n3 := len_num past.length few
    have sz : ∀ {n : Nat}, n ≤ 1000 → n ≤ sizeLine := fun h => Nat.le_of_lt (small1000 h)
    refine (gv_lenT (K := K) (gv_panel (i := 0) T rfl hD)).at fun v1 H1 s1 d1 => ?_
    cases d1
    rw [List.length_map]
    refine .inr ⟨_, rfl, log_num _ (by omega), _, rfl, ?_, _, rfl, ?_, ?_⟩
    · rw [Str.length_append]; exact sz (by show 0 + _ ≤ _; omega)
    · rw [Str.length_append, Str.length_append]; exact sz (by show 0 + _ + 10 ≤ _; omega)
    refine (gv_lenT (K := K) (gv_latched (i := 0) T rfl (hD.same s1))).at fun v2 H2 s2 d2 => ?_
    cases d2
    rw [List.length_map]
    refine .inr ⟨_, rfl, log_num _ (by omega), _, rfl, ?_, _, rfl, ?_, ?_⟩
    · simp only [Str.length_append]; exact sz (by show 0 + _ + 10 + _ ≤ _; omega)
    · simp only [Str.length_append]; exact sz (by show 0 + _ + 10 + _ + 10 ≤ _; omega)
    refine (gv_lenT (K := K) (gv_past (i := 0) T rfl ((hD.same s1).same s2))).at fun v3 H3 s3 d3 => ?_
    cases d3
    rw [List.length_map]
    refine .inr ⟨_, rfl, log_num _ few, _, rfl, ?_, _, rfl, ?_, ?_⟩
    · simp only [Str.length_append]; exact sz (by show 0 + _ + 10 + _ + 10 + _ ≤ _; omega)
    · simp only [Str.length_append]; exact sz (by show 0 + _ + 10 + _ + 10 + _ + 6 ≤ _; omega)
    exact q H3 ((s1.trans s2).trans s3)
end
end K48
namespace Pr
open PySem PySem.Spec PyProof.Rows L2
section
variable {X : Cx} {C f : Addr} {fd : FuncData} {k : Nat} {sp : Sp}
theorem run_in {A' : Around} {pins : List (Addr × Obj)} {σ : L2.St} {H : Hp} {s : Shared} {Q : VK} {a : Addr} {E : XK} (fr : A'.frames = X.A.frames) (F : FnOk X.prog X.w X.K X.mg X.base CX0 k f fd ["self"] sp) (hr : Room k A') (hb : Binds X.K fd ["self"] []) (J : Inv X pins σ H s) (h : sp [.ref a] H Q E) :
    wpAny (model X.prog X.w) A' (call (.ref f) [.ref a]) (EP X pins σ Q) X.xe s := by
  have e := J.env0
  have e0 : Env0 X.prog X.w X.K X.mg X.base A' X.stack s H := ⟨by rw [fr]; exact e.frames, e.mod, e.bs, e.bsz, e.funs, e.frf, e.hok, e.bare⟩
  have bd := hb s [.ref a] J.kIn rfl
  refine wpAny_call (codeAny_mono (F.run A' X.stack s H ⟨[.ref a], []⟩ [.ref a] [.ref a] Q E hr e0 (by simpa using bd) (.cons rfl .nil) h) fun r s' hq => ?_)
  cases r with
  | error er => exact hq.elim
  | ok fl =>
    cases fl with
    | ret u => exact J.after hq
    | next => exact hq.elim
    | brk => exact hq.elim
    | cont => exact hq.elim
def rStrO (C : Addr) (sp : Sp) : List V → Hp → VK → Prop := fun xs H Q => ∃ a dx fs, xs = [.ref a] ∧ H a = some (.ins C dx fs) ∧ sp [.ref a] H (fun v H' => ∃ y, v = .str y ∧ Q (.str y) H') (fun _ _ _ => False)
theorem cr_strO (F : FnOk X.prog X.w X.K X.mg X.base CX0 k f fd ["self"] sp) (hr : Room (k + 2) X.A) (hb : Binds X.K fd ["self"] []) (hs : PySem.W.findIn X.K (.ref C) "__str__" = some (some (.ref f))) (hf : PySem.W.isFn X.K (.ref f) = true) : CallR X (.type "str") (rStrO C sp) := by
  intro pins s σ H xs us Q J r h
  obtain ⟨a, dx, fs, rfl, ha, h⟩ := h
  rw [Vals.ref1 r]
  obtain ⟨mA, O, _⟩ := ins_get J.hok ha
  obtain ⟨od, O, _⟩ := O.look
  refine PySem.W.kso_call (Room.in1 (Room.in1 hr)).units0 J.kIn O hs hf (wpAny_mono (run_in rfl F (Room.in1 (Room.in1 hr)) hb J h) (fun v s' z => ?_) fun _ _ z => z)
  obtain ⟨x, H', J', rx, y, rfl, q⟩ := z
  obtain ⟨t, rfl⟩ := rx
  exact ⟨.str y, H', J', ⟨t, rfl⟩, q⟩
def rLenO (C : Addr) (sp : Sp) : List V → Hp → VK → Prop := fun xs H Q => ∃ a dx fs, xs = [.ref a] ∧ H a = some (.ins C dx fs) ∧ sp [.ref a] H (fun v H' => ∃ n : Int, v = .int n ∧ 0 ≤ n ∧ n < 2 ^ 63 ∧ Q (.int n) H') (fun _ _ _ => False)
theorem cr_lenO (F : FnOk X.prog X.w X.K X.mg X.base CX0 k f fd ["self"] sp) (hr : Room (k + 1) X.A) (hb : Binds X.K fd ["self"] []) (hs : PySem.W.findIn X.K (.ref C) "__len__" = some (some (.ref f))) (hf : PySem.W.isFn X.K (.ref f) = true) : CallR X (.builtin "len") (rLenO C sp) := by
  intro pins s σ H xs us Q J r h
  obtain ⟨a, dx, fs, rfl, ha, h⟩ := h
  rw [Vals.ref1 r]
  obtain ⟨mA, O, _⟩ := ins_get J.hok ha
  obtain ⟨od, O, _⟩ := O.look
  obtain ⟨m, hF⟩ := J.fr
  refine PySem.W.len_K hF J.ok.mod.kin O hs hf (wpAny_mono (run_in rfl F (Room.in1 hr) hb J h) (fun v s' z => ?_) fun _ _ z => z)
  obtain ⟨x, H', J', rx, n, rfl, n0, n1, q⟩ := z
  obtain ⟨t, rfl⟩ := rx
  exact ⟨⟨n0, n1⟩, .int n, H', J'.tok _, ⟨_, rfl⟩, q⟩
end
end Pr
namespace Pr
open PySem PySem.Spec PyProof.Rows L2
/-- o.m(e, .., k = v, ..) of an instance of the class at C -/
def tMethN (C : Addr) (m : Str) (n : Nat) (j : Nat) (sp : Sp) (gV : List V → List V → List V) (E : XK) (ta : TE) (t tk : TA) : TE := fun σ H Q => ta σ H fun x H1 => ∃ a dx fs, x = .ref a ∧ H1 a = some (.ins C dx fs) ∧ fs.lookup m = none ∧
  t σ H1 fun vs H2 => tk σ H2 fun zs H3 => vs.length = n ∧ zs.length = j ∧ sp (gV (x :: vs) zs) H3 Q E
section
variable {X : Cx} {CX : CXT} {k n : Nat} {f C : Addr} {fd : FuncData} {ps ks : List Str} {sp : Sp} {E : XK} {m : Str} {p pos apos : Pos} {e o : Expr} {es : List Expr} {kws : List Keyword} {ta : TE} {t tk : TA} {g : List Value → List Value → List Value} {gV : List V → List V → List V}
theorem pe_methN {pl : Sem Bool} (he : PE X o ta) (c : Cls X.K C) (hm : Meth X.K C m f) (F : FnOk X.prog X.w X.K X.mg X.base CX k f fd ps sp) (hr : Room k X.A) (hb : KBn X.K fd ps (n + 1) ks g gV) (hx : Passes CX X E) (ha : PA X (e :: es) t) (hkw : PK X kws tk)
    (hall : (backToKw pos (keywordEach kws X.env)).all (·.1.isSome) = true := by rfl) (hks : (backToKw pos (keywordEach kws X.env)).filterMap (·.1) = ks := by rfl)
    (hst : starEach (e :: es) X.env = (false, eval e X.env) :: starEach es X.env := by rfl)
    (hpl : ((backTo pos (starEach (e :: es) X.env)).any (·.1) || (backToKw pos (keywordEach kws X.env)).any (·.1.isNone)) = false := by rfl)
    (ht : eval (.Call (.Attribute o m apos) (e :: es) kws pos) X.env = (do
      let ov ← eval o X.env
      standAt apos.atName
      let (f, first) ← holding [ov] (getMethod ov m pl)
      callWith pos f first (backTo pos (starEach (e :: es) X.env)) (backToKw pos (keywordEach kws X.env))) := by rfl) :
    PE X (.Call (.Attribute o m apos) (e :: es) kws pos) (tMethN C m n ks.length sp gV E ta t tk) := by
  refine ⟨fun pins s σ H Q I h => ?_⟩
  refine PySem.W.methodCall_KW (pl := pl) (thn (he.run pins s σ H _ I h) fun u s1 ⟨x, H1, I1, rx, a, dx, fs, ex, ea, l, q⟩ => ?_) ht
  subst ex
  obtain rfl : u = Value.ref a := rx
  refine getmeth_ok I1 ea c hm l ?_
  refine PySem.W.callWith_KW (first := [.ref a]) (h₀ := X.base) I.ok.mod.kin hm.kp hall (thn (ha.run pos pins s1 σ H1 _ I1 q) fun us s2 ⟨vs, H2, I2, r, q2⟩ => ?_) hpl hst
  refine thn (hkw.run pos pins s2 σ H2 _ I2 q2) fun ws s3 ⟨zs, H3, I3, rz, l1, l2, q3⟩ => ⟨I3.kIn, ?_⟩
  rw [hks]
  exact run_fnN (us := .ref a :: us) (vs := .ref a :: vs) F hr hb hx I3 (.cons rfl r) rz (by rw [List.length_cons, l1]) l2 q3
theorem pe_methN0 {pl : Sem Bool} (he : PE X o ta) (c : Cls X.K C) (hm : Meth X.K C m f) (F : FnOk X.prog X.w X.K X.mg X.base CX k f fd ps sp) (hr : Room k X.A) (hb : KBn X.K fd ps 1 ks g gV) (hx : Passes CX X E) (hkw : PK X kws tk)
    (hall : (backToKw pos (keywordEach kws X.env)).all (·.1.isSome) = true := by rfl) (hks : (backToKw pos (keywordEach kws X.env)).filterMap (·.1) = ks := by rfl)
    (hpl : ((backTo pos (starEach [] X.env)).any (·.1) || (backToKw pos (keywordEach kws X.env)).any (·.1.isNone)) = false := by rfl)
    (ht : eval (.Call (.Attribute o m apos) [] kws pos) X.env = (do
      let ov ← eval o X.env
      standAt apos.atName
      let (f, first) ← holding [ov] (getMethod ov m pl)
      callWith pos f first (backTo pos (starEach [] X.env)) (backToKw pos (keywordEach kws X.env))) := by rfl) :
    PE X (.Call (.Attribute o m apos) [] kws pos) (tMethN C m 0 ks.length sp gV E ta tNil tk) := by
  refine ⟨fun pins s σ H Q I h => ?_⟩
  refine PySem.W.methodCall_KW (pl := pl) (thn (he.run pins s σ H _ I h) fun u s1 ⟨x, H1, I1, rx, a, dx, fs, ex, ea, l, q⟩ => ?_) ht
  subst ex
  obtain rfl : u = Value.ref a := rx
  refine getmeth_ok I1 ea c hm l ?_
  refine PySem.W.callWith_KW0 (first := [.ref a]) (h₀ := X.base) I.ok.mod.kin hm.kp hall ?_ hpl
  refine thn (hkw.run pos pins s1 σ H1 _ I1 q) fun ws s3 ⟨zs, H3, I3, rz, l1, l2, q3⟩ => ⟨I3.kIn, ?_⟩
  rw [hks]
  exact run_fnN (us := [.ref a]) (vs := [.ref a]) F hr hb hx I3 (.cons rfl .nil) rz rfl l2 q3
end
/-- a method with one keyword-only parameter (and what stands before it), given by its name -/
theorem kb_one {K : PySem.W.Frag} {x qual : Str} {params : Arguments} {body : List Stmt} {scope : Scope} {kws : List (Str × V)} {f : Addr} {fd : FuncData} {ps : List Str} (F : FunD K x qual params body scope [] kws f fd) (n : Nat) (kw : Str) (hk : kws ≠ [])
    (h : ∀ (D : Addr) (doc pm : Value) (an : Option Addr) (cdv ct : Value) (us : List Value) (v : Value), us.length = n → bindArgs (PySem.W.fnOf x qual params body scope .none (.ref D) doc pm an cdv ct) ⟨us, [(kw, v)]⟩ = pure (ps.zip (us ++ [v]))) :
    KBn K fd ps n [kw] (fun us ws => us ++ ws) (fun vs zs => vs ++ zs) := by
  obtain ⟨mv, hb⟩ := F.kbinds0 n [kw] [] (fun us _ ws => us ++ ws) (ps := ps) hk (fun q hq => by cases hq) (fun r1 _ r3 => r1.append r3) (fun D doc pm an cdv ct us mv ws h1 h2 h3 => by
    match ws, h3 with
    | [v], _ => exact h D doc pm an cdv ct us v h1)
  exact hb
end Pr
namespace Pr
open PySem PySem.Spec PyProof.Rows L2
/-- what the first clause 'except x as n' wishes: the others are not looked at -/
def wFst (K : PySem.W.Frag) (c : Value) (i : Nat) (ts : Addr → Value → Option Addr → TS) (D : Ends) : WX := fun cls dx σ H => PySem.W.exmOne K cls c = some true ∧
  ∀ ad, H ad = none → ts ad cls dx { nx := fun z Hz => D.nx (z.set i none) Hz, rt := D.rt, bk := fun z Hz => D.bk (z.set i none) Hz, ct := fun z Hz => D.ct (z.set i none) Hz } (σ.set i (some (.ref ad))) H
section
variable {X : Cx} {nm n : Str} {c : Value} {i : Nat} {body suite : List Stmt} {st0 : Stmt} {np pos pos' : Pos} {tb : WX → TS} {ts : Addr → Value → Option Addr → TS} {more : List ExceptHandler}
theorem ps_try_first (hst : X.stack = X.env :: X.outer) (hfr : X.env.frame = some X.env.locals) (nd : X.N.Nodup) (ni : X.N[i]? = some n) (lo : X.env.kindOf n = some .local) (hnm : Names X nm c)
    (hbody : ∀ (W : WX) (pn : List (Addr × Obj)) (xe : Value → Shared → Prop), Takes (X.tr pn xe) W → PassesOwn (model X.prog X.w) X.A X.env xe → PSs (X.tr pn xe) body (tb W))
    (hsuite : ∀ (ad : Addr) (oe : Obj) (cls : Value) (dx : Option Addr) (pn : List (Addr × Obj)), Zc cls dx oe → (∃ vs, oe.data = .fields vs) → PSs (X.suite ad ((ad, oe) :: pn)) (st0 :: suite) (ts ad cls dx)) :
    PS X (.Try body (.ExceptHandler (some (.Name nm np)) (some n) (st0 :: suite) pos' :: more) [] [] pos) (fun D σ H => tb (wFst X.K c i ts D) D σ H) := by
  refine ⟨fun pins s σ H D J0 h0 => wpAny_Try_except ?_⟩
  have hok := J0.ok
  have ffr : X.A.frames = some (X.env :: X.outer) := by rw [hok.frames, hst]
  refine wpAny_mono ((hbody (wFst X.K c i ts D) (X.pn ++ pins) (fun e sA => wpAny (model X.prog X.w) X.A (noteFrame e X.env) (fun _ sB => wpAny (model X.prog X.w) X.A (setFlight e none) (fun _ sC => wpAny (model X.prog X.w) X.A (handleBy e X.env (.ExceptHandler (some (.Name nm np)) (some n) (st0 :: suite) pos' :: more)) (SP X pins D) X.xe sC) X.xe sB) X.xe sA) (fun u sR xx => ?_) PassesOwn.looking).run [] s σ H D (J0.toTry _) h0) (fun fl sE hE => ?_) (fun _ _ z => z)
  · obtain ⟨ad, B, sI, pinsI, σI, HI, cls, dx, rfl, JI, nb, up, sky, na, os, ag, hmt, hyes⟩ := xx
    have JX : Inv X pins σI HI sI := JI.ofTry hok
    show wpAny (model X.prog X.w) X.A (noteFrame (.ref ad) X.env) _ _ _
    refine Sky.land Zc.steady ffr hfr (by rw [← hst]; exact sky) fun hp fp upp => ?_
    have JL : Inv X pins σI HI { sR with heap := hp } := JX.landed nb fp.1 (up.trans upp) os ag
    obtain ⟨oe, vs, heq, hz, hdt⟩ := fp.there
    have off : ad ∉ frs (X.env :: X.outer) := fun hm => by
      obtain ⟨_, o', e', hnf⟩ := fp.2.2.1.mem hm
      rw [heq] at e'
      cases e'
      exact hnf _ hdt
    have offL : ad ≠ X.env.locals := fun z => off (List.mem_filterMap.mpr ⟨X.env, List.mem_cons_self, by rw [hfr, z]⟩)
    have offF : ad ∉ X.fs := fun hm => by
      obtain ⟨ev, hev, qe⟩ := List.mem_filterMap.mp hm
      exact off (List.mem_filterMap.mpr ⟨ev, List.mem_cons_of_mem _ hev, qe⟩)
    have SL := JL.suite heq hdt na offL offF
    refine wpAny_handleBy_cons (codeAny_handlers_test ?_) (fun q => by cases q)
    have look : PySem.W.Looks (model X.prog X.w) hp (typeOf (.ref ad)) cls := fun A Q E sX kX qX => wpAny_typeOf_ref (kX _ _ heq) (by rw [hz.1]; exact qX)
    have takes := PySem.W.exm_one (M := model X.prog X.w) JL.kIn look hmt
    have cl : ∀ {Q : Value → Shared → Prop} {E : Value → Shared → Prop}, Q c { sR with heap := hp } → wpAny (model X.prog X.w) (X.A.mark (some (.ref ad))) (eval (.Name nm np) X.env) Q E { sR with heap := hp } := fun {Q E} q => by
      obtain ⟨g1, g2, g3 | ⟨g3, g4, g5⟩⟩ := hnm
      · exact ld_glob (X := X.suite ad ((ad, oe) :: (X.pn ++ pins))) SL g1 g3 q g2
      · exact ld_blt (X := X.suite ad ((ad, oe) :: (X.pn ++ pins))) SL g1 g3 g4 q g5 g2
    refine cl (takes.here (codeAny_handlers_suite_as (HandSPX.lands_againZ fp fun hq fq upq => ?_)))
    have JQ : Inv X pins σI HI { sR with heap := hq } := JX.landed nb fq.1 ((up.trans upp).trans upq) os ag
    obtain ⟨oq, vq, heq', hz', hdt'⟩ := fq.there
    refine store_ok (X := X.suite ad ((ad, oq) :: (X.pn ++ pins))) (v := .ref ad) (JQ.suite heq' hdt' na offL offF) nd ni (.inl lo) rfl (fun sS SS => ?_) (.inr lo)
    refine wpAny_mono ((hsuite ad oq cls dx (X.pn ++ pins) hz' ⟨_, hdt'⟩).run [] sS _ HI _ SS (hyes ad na)) (fun fl sT hT => ?_) (fun _ _ z => z.elim)
    have leave : ∀ {σT : L2.St} {HT : Hp} {R : Shared → Prop}, Inv (X.suite ad ((ad, oq) :: (X.pn ++ pins))) [] σT HT sT → (∀ sU, Inv X pins (σT.set i none) HT sU → R sU) → wpAny (model X.prog X.w) X.A (bindName X.env n .none >>= fun _ => unbindBehindTheSuite X.env n pos') (fun _ sU => R sU) X.xe sT := fun ST hR => gone_ok (ST.unsuite hok) nd ni lo hR
    cases fl with
    | next => obtain ⟨_, _, ST, qT⟩ := hT; exact leave ST fun _ JU => ⟨_, _, JU, qT⟩
    | brk => obtain ⟨_, _, ST, qT⟩ := hT; exact leave ST fun _ JU => ⟨_, _, JU, qT⟩
    | cont => obtain ⟨_, _, ST, qT⟩ := hT; exact leave ST fun _ JU => ⟨_, _, JU, qT⟩
    | ret u => obtain ⟨_, _, _, ST, rT, qT⟩ := hT; exact leave ST fun _ JU => ⟨_, _, _, JU, rT, qT⟩
  · cases fl with
    | next => obtain ⟨_, _, JE, qE⟩ := hE; exact wpAny_execs_nil ⟨_, _, JE.ofTry hok, qE⟩
    | brk => obtain ⟨_, _, JE, qE⟩ := hE; exact ⟨_, _, JE.ofTry hok, qE⟩
    | cont => obtain ⟨_, _, JE, qE⟩ := hE; exact ⟨_, _, JE.ofTry hok, qE⟩
    | ret u => obtain ⟨_, _, _, JE, rE, qE⟩ := hE; exact ⟨_, _, _, JE.ofTry hok, rE, qE⟩
end
/-- o.m(..) that may raise, with a wish for it -/
def tMethS' (C : Addr) (m : Str) (sp : Sp) (E : L2.St → XK) (to : TE) (t : TA) : TE := fun σ H Q => to σ H fun x H1 => ∃ a dx fs, x = .ref a ∧ H1 a = some (.ins C dx fs) ∧ fs.lookup m = none ∧ t σ H1 fun vs H2 => sp (x :: vs) H2 Q (E σ)
section
variable {X : Cx} {CX : CXT} {k : Nat} {f C : Addr} {fd : FuncData} {ps : List Str} {sp : Sp} {E : L2.St → XK} {o e : Expr} {es : List Expr} {m : Str} {apos pos : Pos} {to : TE} {t : TA}
theorem pe_methE {pl : Sem Bool} (ho : PE X o to) (hc : Cls X.K C) (hm : Meth X.K C m f) (F : FnOk X.prog X.w X.K X.mg X.base CX k f fd ps sp) (hr : Room k X.A) (hb : Binds X.K fd ps []) (hx : ∀ σ, PassesAt CX X σ (E σ)) (ha : PA X (e :: es) t)
    (hst : starEach (e :: es) X.env = (false, eval e X.env) :: starEach es X.env := by rfl) (hpl : (backTo pos (starEach es X.env)).any (·.1) = false := by rfl)
    (ht : eval (.Call (.Attribute o m apos) (e :: es) [] pos) X.env = (eval o X.env >>= fun ov => standAt apos.atName >>= fun _ => holding [ov] (getMethod ov m pl) >>= fun p => callWith pos p.1 p.2 (backTo pos (starEach (e :: es) X.env)) (backToKw pos (keywordEach [] X.env))) := by rfl) :
    PE X (.Call (.Attribute o m apos) (e :: es) [] pos) (tMethS' C m sp E to t) := by
  refine ⟨fun pins s σ H Q J h => PySem.W.methodCall_KW (pl := pl) (thn (ho.run pins s σ H _ J h) fun u s1 ⟨x, H1, J1, rx, a, dx, fs, ex, ea, lk, q⟩ => ?_) ht⟩
  cases ex
  obtain rfl : u = Value.ref a := rx
  refine getmeth_ok J1 ea hc hm lk (PySem.W.callWith_K (first := [.ref a]) (h₀ := X.base) J.ok.mod.kin hm.kp (thn (ha.run pos pins s1 σ H1 _ J1 q) fun us s2 ⟨vs, H2, J2, rv, q2⟩ => ⟨J2.kIn, ?_⟩) hst hpl)
  have := run_fnSD (us := .ref a :: us) (vs := .ref a :: vs) (dvs := []) (E := E) F hr hb .nil (hx σ) J2 (.cons rfl rv) (by rw [List.append_nil]; exact q2)
  exact this
end
end Pr
namespace Pr
open PySem PySem.Spec PyProof.Rows L2
def tMethNS (C : Addr) (m : Str) (n : Nat) (j : Nat) (sp : Sp) (gV : List V → List V → List V) (E : L2.St → XK) (ta : TE) (t tk : TA) : TE := fun σ H Q => ta σ H fun x H1 => ∃ a dx fs, x = .ref a ∧ H1 a = some (.ins C dx fs) ∧ fs.lookup m = none ∧
  t σ H1 fun vs H2 => tk σ H2 fun zs H3 => vs.length = n ∧ zs.length = j ∧ sp (gV (x :: vs) zs) H3 Q (E σ)
section
variable {X : Cx} {CX : CXT} {k n : Nat} {f C : Addr} {fd : FuncData} {ps ks : List Str} {sp : Sp} {E : L2.St → XK} {m : Str} {p pos apos : Pos} {e o : Expr} {es : List Expr} {kws : List Keyword} {ta : TE} {t tk : TA} {g : List Value → List Value → List Value} {gV : List V → List V → List V}
theorem run_fnNS {pins : List (Addr × Obj)} {σ : L2.St} {H : Hp} {s : Shared} {Q : VK} {us ws : List Value} {vs zs : List V} (F : FnOk X.prog X.w X.K X.mg X.base CX k f fd ps sp) (hr : Room k X.A) (hb : KBn X.K fd ps n ks g gV) (hx : PassesAt CX X σ (E σ))
    (I : Inv X pins σ H s) (r : Vals vs us) (rz : Vals zs ws) (l1 : vs.length = n) (l2 : zs.length = ks.length) (h : sp (gV vs zs) H Q (E σ)) : wpAny (model X.prog X.w) X.A (call (.ref f) us (ks.zip ws)) (EP X pins σ Q) X.xe s := by
  have r2 := hb.rel r rz
  refine wpAny_call (codeAny_mono (F.run X.A X.stack s H ⟨us, ks.zip ws⟩ (g us ws) (gV vs zs) Q (E σ) hr I.env0 (hb.to s us ws I.kIn (r.length.symm.trans l1) (rz.length.symm.trans l2)) r2 h) fun r s' hq => ?_)
  cases r with
  | error e => exact hx pins H s e s' I hq
  | ok fl =>
    cases fl with
    | ret u => exact I.after hq
    | next => exact False.elim hq
    | brk => exact False.elim hq
    | cont => exact False.elim hq
theorem pe_methNE {pl : Sem Bool} (he : PE X o ta) (c : Cls X.K C) (hm : Meth X.K C m f) (F : FnOk X.prog X.w X.K X.mg X.base CX k f fd ps sp) (hr : Room k X.A) (hb : KBn X.K fd ps (n + 1) ks g gV) (hx : ∀ σ, PassesAt CX X σ (E σ)) (ha : PA X (e :: es) t) (hkw : PK X kws tk)
    (hall : (backToKw pos (keywordEach kws X.env)).all (·.1.isSome) = true := by rfl) (hks : (backToKw pos (keywordEach kws X.env)).filterMap (·.1) = ks := by rfl)
    (hst : starEach (e :: es) X.env = (false, eval e X.env) :: starEach es X.env := by rfl)
    (hpl : ((backTo pos (starEach (e :: es) X.env)).any (·.1) || (backToKw pos (keywordEach kws X.env)).any (·.1.isNone)) = false := by rfl)
    (ht : eval (.Call (.Attribute o m apos) (e :: es) kws pos) X.env = (do
      let ov ← eval o X.env
      standAt apos.atName
      let (f, first) ← holding [ov] (getMethod ov m pl)
      callWith pos f first (backTo pos (starEach (e :: es) X.env)) (backToKw pos (keywordEach kws X.env))) := by rfl) :
    PE X (.Call (.Attribute o m apos) (e :: es) kws pos) (tMethNS C m n ks.length sp gV E ta t tk) := by
  refine ⟨fun pins s σ H Q I h => ?_⟩
  refine PySem.W.methodCall_KW (pl := pl) (thn (he.run pins s σ H _ I h) fun u s1 ⟨x, H1, I1, rx, a, dx, fs, ex, ea, l, q⟩ => ?_) ht
  subst ex
  obtain rfl : u = Value.ref a := rx
  refine getmeth_ok I1 ea c hm l ?_
  refine PySem.W.callWith_KW (first := [.ref a]) (h₀ := X.base) I.ok.mod.kin hm.kp hall (thn (ha.run pos pins s1 σ H1 _ I1 q) fun us s2 ⟨vs, H2, I2, r, q2⟩ => ?_) hpl hst
  refine thn (hkw.run pos pins s2 σ H2 _ I2 q2) fun ws s3 ⟨zs, H3, I3, rz, l1, l2, q3⟩ => ⟨I3.kIn, ?_⟩
  rw [hks]
  exact run_fnNS (us := .ref a :: us) (vs := .ref a :: vs) F hr hb (hx σ) I3 (.cons rfl r) rz (by rw [List.length_cons, l1]) l2 q3
theorem pe_methNE0 {pl : Sem Bool} (he : PE X o ta) (c : Cls X.K C) (hm : Meth X.K C m f) (F : FnOk X.prog X.w X.K X.mg X.base CX k f fd ps sp) (hr : Room k X.A) (hb : KBn X.K fd ps 1 ks g gV) (hx : ∀ σ, PassesAt CX X σ (E σ)) (hkw : PK X kws tk)
    (hall : (backToKw pos (keywordEach kws X.env)).all (·.1.isSome) = true := by rfl) (hks : (backToKw pos (keywordEach kws X.env)).filterMap (·.1) = ks := by rfl)
    (hpl : ((backTo pos (starEach [] X.env)).any (·.1) || (backToKw pos (keywordEach kws X.env)).any (·.1.isNone)) = false := by rfl)
    (ht : eval (.Call (.Attribute o m apos) [] kws pos) X.env = (do
      let ov ← eval o X.env
      standAt apos.atName
      let (f, first) ← holding [ov] (getMethod ov m pl)
      callWith pos f first (backTo pos (starEach [] X.env)) (backToKw pos (keywordEach kws X.env))) := by rfl) :
    PE X (.Call (.Attribute o m apos) [] kws pos) (tMethNS C m 0 ks.length sp gV E ta tNil tk) := by
  refine ⟨fun pins s σ H Q I h => ?_⟩
  refine PySem.W.methodCall_KW (pl := pl) (thn (he.run pins s σ H _ I h) fun u s1 ⟨x, H1, I1, rx, a, dx, fs, ex, ea, l, q⟩ => ?_) ht
  subst ex
  obtain rfl : u = Value.ref a := rx
  refine getmeth_ok I1 ea c hm l ?_
  refine PySem.W.callWith_KW0 (first := [.ref a]) (h₀ := X.base) I.ok.mod.kin hm.kp hall ?_ hpl
  refine thn (hkw.run pos pins s1 σ H1 _ I1 q) fun ws s3 ⟨zs, H3, I3, rz, l1, l2, q3⟩ => ⟨I3.kIn, ?_⟩
  rw [hks]
  exact run_fnNS (us := [.ref a]) (vs := [.ref a]) F hr hb (hx σ) I3 (.cons rfl .nil) rz rfl l2 q3
end
end Pr
namespace Pr
open PySem PySem.Spec PyProof.Rows L2 PySem.Builtin PySem.Builtin.ObjectAttr
abbrev leT : List Value := [.type "LookupError", .type "Exception", .type "BaseException", .type "object"]
theorem le_pass (self : Value) : refuseLoop self "__setattr__" leT = pure () := by kernel_rfl
/-- what the written part says of such a class -/
structure OelC (K : PySem.W.Frag) (C : Addr) : Prop where
  cls : ∃ nm q N bs sn sub ab col dd k0 k1 k2 k3 k5, K.lookup C = some (excClassObj nm q C N bs leT true sn sub ab col dd k0 k1 k2 k3 k5 "LookupError.__new__")
  sa : PySem.W.findIn K (.ref C) "__setattr__" = some (some (.builtin "object.__setattr__"))
  exC : PySem.W.subIn K (.ref C) (.type "BaseException") = some true
  tyC : PySem.W.typeIn K (.ref C) = some (.type "type")
  kC : PySem.W.keepIn K (.ref C) = true
section
variable {prog : Program} {w : World} {A : Around} {R : Result → Shared → Prop} {hp : Heap} {gs : Array GenState} {dn : Drawn} {tc : Nat} {os : OsState}
/-- self.nm = v, the first one, over the machine's heap -/
theorem osaL {K : W.Frag} {nm : Str} {tk : Tok} {v : Value} {x C : Addr} {fv : Array Value} {cd : ClassData} (kin : K.In hp) (at_ : hp.get? x = some { cls := .ref C, data := .fields fv }) (hcd : W.clsIn K C = some cd) (hmro : cd.mro = .ref C :: leT) (hdict : cd.hasDict = true) (free : W.findIn K (.ref C) nm = some none)
    (q : ∀ h' tk' dx, (∀ b o, b ≠ x → hp.get? b = some o → h'.get? b = some o) → hp.objs.size ≤ dx → dx ≠ x → h'.get? x = some { cls := .ref C, dict := some dx, data := .fields fv } → h'.Ns1 dx (fun y => if y = nm then some v else none) → R (.ok (.ret .none)) ⟨h', gs, dn, tk', os⟩) :
    codeAny (model prog w) A (.call (.builtin "object.__setattr__") ⟨[.ref x, .str nm tk, v], []⟩) R ⟨hp, gs, dn, tc, os⟩ := by
  have inst : W.InstAt hp x { cls := .ref C, data := .fields fv } C none := ⟨at_, rfl, rfl, trivial⟩
  have far : x ≠ hp.objs.size := Nat.ne_of_lt (Heap.lt_size at_)
  have isObj : W.Looks (model prog w) hp (isInstance (.ref x) (.type "object")) true := inst.type.andThen (W.looks_mroIn kin (by unfold W.mroIn; rw [hcd, Option.bind_some, hmro]; rfl))
  refine codeAny_call_builtin F.store_object.slot.plain F.store_object.entry (@W.check_slot (model prog w) _ _ ⟨hp, gs, dn, tc, os⟩ "object.__setattr__" "object" "__setattr__" (.ref x) [.str nm tk, v] [] _ F.store_object.kind F.store_object.split isObj (F.store_object.args (.ref x) (.str nm tk) v) ?_)
  have mroL : W.Looks (model prog w) hp (mroOf (.ref C)) cd.mro := (W.looks_clsIn kin hcd).andThen .now
  have clsL : W.Looks (model prog w) hp (classData C) cd := W.looks_clsIn kin hcd
  rw [W.osa_eq, refuse_eq]
  refine wpAny_bind (wpAny_bind (inst.type.at (wpAny_bind (mroL.at ?_))))
  rw [hmro, refuseLoop_ref, le_pass]
  refine wpAny_pure (wpAny_bind (inst.type.at (wpAny_bind ((W.looks_findIn kin free).at (wpAny_bind ((W.Looks.now (M := model prog w) : W.Looks _ hp (storeTaker? none) none).at ?_))))))
  show wpAny _ _ (storeInOwnDict (.ref x) (.ref C) (.str nm tk) nm v false) _ _ _
  obtain ⟨n1, n2, n3, n4, n5, n6, n7, n8, n9, n10, n11⟩ := cd
  dsimp only at hdict
  subst hdict
  unfold storeInOwnDict ownDictForStores
  repeat (first | with_reducible refine PySem.HandSPX.store_in_new ?_ ?_ | with_reducible refine wpAny_loadPart_at at_ ?_ | with_reducible refine clsL.at ?_ | wp_step)
  · refine ⟨_, #[], _, (Heap.get?_update_ne _ _ _ _ far.symm).trans (Heap.get?_push_at rfl rfl), rfl, fun e he => ?_, fun _ => rfl⟩
    exact absurd he (by simp)
  · intro h' tk' hN sm
    refine q h' tk' hp.objs.size (fun b o nb hb => ?_) (Nat.le_refl _) far.symm ?_ hN
    · rw [sm.2 b (Nat.ne_of_lt (Heap.lt_size hb)), Heap.get?_update_ne _ _ _ _ nb]
      exact Heap.get?_push_of_some _ hb
    · rw [sm.2 x far]
      exact Heap.get?_update_self _ (Heap.get?_push_of_some _ at_) rfl
end
section
variable {X : Cx} {pins : List (Addr × Obj)} {σ : L2.St} {H : Hp} {s : Shared} {a C : Addr} {f : Str} {y : V} {u : Value} {Q : Unit → Shared → Prop} {E : Value → Shared → Prop} {A : Around}
theorem ostL (T : OelC X.K C) (J : Inv X pins σ H s) (e : H a = some (exo a C none)) (hno : PySem.W.findIn X.K (.ref C) f = some none) (ry : RelV y u)
    (h : ∀ dx s', H dx = none → dx ≠ a → Inv X pins σ (upd (upd H dx (exd dx [(f, y)])) a (exo a C (some dx))) s' → Q () s') : wpAny (model X.prog X.w) A (setAttr (.ref a) f u) Q E s := by
  obtain ⟨nm, q, N, bs, sn, sub, ab, col, dd, k0, k1, k2, k3, k5, hC⟩ := T.cls
  have hcl : PySem.W.clsIn X.K C = some { name := nm, bases := bs, mro := .ref C :: leT, ns := N, qualname := q, hasDict := true, slotNames := sn, subclasses := sub, abstract := ab, collection := col, hasDel := false } := by
    unfold PySem.W.clsIn
    rw [hC]
  obtain ⟨tA, ho⟩ := exo_at J.hok e
  obtain ⟨hp, g, d, t, os⟩ := s
  refine PySem.W.set_plain J.kIn (ox := { cls := .ref C, dict := none, data := .fields #[.ref tA, .none, .none, .none, .bool false, .none] }) (od := none) ⟨ho, rfl, rfl, trivial⟩ T.sa (osaL J.kIn ho hcl rfl rfl hno fun h' tk' dx kp dn dne hx hn => ?_)
  have hnd : H dx = none := J.hok.fresh dn
  have ofd : ∀ {b : Addr} {o : Obj}, hp.get? b = some o → b ≠ dx := fun {b o} q => Nat.ne_of_lt (Nat.lt_of_lt_of_le (Heap.lt_size q) dn)
  have ofa : ∀ {b : Addr}, H b = none → b ≠ a := fun {b} n z => by rw [z, e] at n; cases n
  have stay : Un X.fs [] H (upd (upd H dx (exd dx [(f, y)])) a (exo a C (some dx))) hp h' :=
    { keep := fun b o q n _ _ => kp b o (ofa n) q
      slot := fun b o q n _ _ => ⟨o.slots, kp b o (ofa n) q⟩
      free := fun b o q n _ => by
        rw [upd_ne (ofa n), upd_ne (ofd q)]
        exact n
      there := fun b o q _ => by
        by_cases hb : b = a
        · rw [hb]; exact ⟨_, hx⟩
        · exact ⟨o, kp b o hb q⟩
      tups := fun b xs q => by
        rw [upd_ne (at_ne e q exo_tup), upd_ne (ne_of_none q hnd)]
        exact q
      frzs := fun b o v q => by
        rw [upd_ne (at_ne e q exo_frz), upd_ne (ne_of_none q hnd)]
        exact q
      tbls := fun b ps q => ⟨#[], by
        rw [upd_ne (at_ne e q exo_tbl), upd_ne (ne_of_none q hnd), q]
        simp⟩ }
  refine h dx _ hnd dne (J.un (t' := tk') stay fun b o q => ?_)
  by_cases hb : b = a
  · cases hb
    rw [upd_same] at q
    cases q; exact exo_ok hx
  · rw [upd_ne hb] at q
    by_cases hd : b = dx
    · cases hd
      rw [upd_same] at q
      cases q; exact exd_ok hn (relO_put (fs := []) ry fun _ => True.intro)
    · rw [upd_ne hd] at q
      refine (J.hok b o q).stay (fun c v hc z => kp c v (fun eq => ?_) z) (fun c hc => ?_) (fun c xs hc => ?_)
      · rcases hc with hc | hc
        · exact hb (hc ▸ eq)
        · exact at_ne e hc exo_own eq
      · rw [upd_ne (at_ne e hc exo_own), upd_ne (ne_of_none hc hnd)]
        exact hc
      · rw [upd_ne (at_ne e hc exo_tup), upd_ne (ne_of_none hc hnd)]
        exact hc
end
/-- self.f = e, the first one -/
def tOstL (K : PySem.W.Frag) (f : Str) (to te : TE) : TS := fun D σ H => te σ H fun y H1 => to σ H1 fun x H2 => ∃ a C : Addr, x = .ref a ∧ OelC K C ∧ PySem.W.findIn K (.ref C) f = some none ∧ H2 a = some (exo a C none) ∧
  ∀ dx, H2 dx = none → dx ≠ a → D.nx σ (upd (upd H2 dx (exd dx [(f, y)])) a (exo a C (some dx)))
section
variable {X : Cx} {o e : Expr} {es : List Expr} {to te : TE} {ta : TA} {f : Str} {p p' pos : Pos}
theorem ps_ostL (ho : PE X o to) (he : PE X e te) (hs : swapsWith e (some (.Attribute o f p')) pos.line X.env = pure false := by rfl) : PS X (.Assign [.Attribute o f p'] e pos) (tOstL X.K f to te) := by
  refine ⟨fun pins s σ H D J h => plainObj_wpAny_Assign_Attribute (thn (he.run pins s σ H _ J h) fun v s1 ⟨y, H1, J1, r1, q1⟩ => thn (ho.run pins s1 σ H1 _ J1 q1) fun u s2 ⟨x, H2, J2, r2, a, C, ex, T, hno, ea, q⟩ => ?_) hs⟩
  cases ex
  obtain rfl : u = Value.ref a := r2
  exact ostL T J2 ea hno r1 fun dx s' n ne J => ⟨σ, _, J, q dx n ne⟩
theorem pmk_oel {CX : CXT} {x : Str} {C fI : Addr} {k : Nat} {fd : FuncData} {ps : List Str} {sp : Sp} (T : OelC X.K C) (iC : PySem.W.findIn X.K (.ref C) "__init__" = some (some (.ref fI))) (tI : PySem.W.typeIn X.K (.ref fI) = some (.type "function"))
    (F1 : FnOk X.prog X.w X.K X.mg X.base CX k fI fd ps sp) (hr : Room (k + 1) X.A) (hb : Binds X.K fd ps []) (hx : Passes CX X (fun _ _ _ => False)) (hg : Gl X x) (hm : X.mg x = some (.ref C)) (ha : PA X (e :: es) ta)
    (hdb : (x == ("__debug__" : Str)) = false := by decide) (hse : starEach (e :: es) X.env = (false, eval e X.env) :: starEach es X.env := by rfl) (hsp : (backTo pos (starEach es X.env)).any (·.1) = false := by rfl) :
    PMk X (.Call (.Name x p) (e :: es) [] pos) (tMkO C sp [] ta) := by
  intro pins s σ H Q J h
  obtain ⟨nm, q, N, bs, sn, sub, ab, col, dd, k0, k1, k2, k3, k5, hC⟩ := T.cls
  refine wpAny_Call_Name_kw (ld_glob J hg hm (PySem.W.callWith_K (h₀ := X.base) J.ok.mod.kin T.kC (thn (ha.run pos pins s σ H _ J h) fun us s1 ⟨vs, H1, J1, r1, hz, q1⟩ => ⟨J1.kIn, ?_⟩) hse hsp) hdb)
  show wpAny _ _ (call (.ref C) us) _ _ _
  obtain ⟨hp, g, dr, tk, os⟩ := s1
  have le1 : hp.objs.size ≤ hp.objs.size + 1 := Nat.le_succ _
  have hq := q1 (hp.objs.size + 1) (J1.hok.fresh le1)
  rw [List.append_nil] at hq
  have old : ∀ b o, hp.get? b = some o → ((hp.push (PySem.W.kdv_tup us)).push (PySem.HandSPX.excO C hp.objs.size)).get? b = some o := fun b o z => Heap.get?_push_of_some _ (Heap.get?_push_of_some _ z)
  have new : ((hp.push (PySem.W.kdv_tup us)).push (PySem.HandSPX.excO C hp.objs.size)).get? (hp.objs.size + 1) = some (PySem.HandSPX.excO C hp.objs.size) := by heap_get
  have J2 : Inv X pins σ (upd H1 (hp.objs.size + 1) (exo (hp.objs.size + 1) C none)) ⟨(hp.push (PySem.W.kdv_tup us)).push (PySem.HandSPX.excO C hp.objs.size), g, dr, tk, os⟩ := J1.laid (t' := tk) old le1 (exo_ok new)
  have r2 : Vals (V.ref (hp.objs.size + 1) :: vs) (Value.ref (hp.objs.size + 1) :: us) := .cons rfl r1
  have hln : (Value.ref (hp.objs.size + 1) :: us).length = ps.length := by rw [← r2.length]; exact F1.len _ _ _ _ hq
  have hus : us.length ≤ sizeLine := by
    have := Paired.length r1
    rw [sizeLine_eq]; omega
  have hbd := hb _ (Value.ref (hp.objs.size + 1) :: us) J2.kIn (by rw [List.append_nil]; exact hln)
  rw [List.append_nil] at hbd
  refine wpAny_call (PySem.HandSPX.call_own F.excBase_LookupError (fun _ => rfl) (J1.kIn _ _ hC) (PySem.W.looks_findIn J1.kIn iC) (fun self => PySem.W.bind_fn J1.kIn self tI) hus (codeAny_mono (F1.run _ X.stack _ _ ⟨Value.ref (hp.objs.size + 1) :: us, []⟩ (Value.ref (hp.objs.size + 1) :: us) _ _ (fun _ _ _ => False) (hr.make C us []) (J2.env0.make C us []) hbd r2 hq) fun rs s' hE => ?_))
  cases rs with
  | error er => exact hx pins σ _ _ er s' J2 hE
  | ok fl =>
    cases fl with
    | ret u =>
      obtain ⟨v, H2, o2, bare, un2, hok2, rv, ev, d, fs, ea, ed, hd1, q2⟩ := hE
      cases ev
      obtain ⟨h2, g2, d2, t2, os'⟩ := s'
      exact ⟨rv, mk_end (raises_own T.exC T.tyC) J1 le1 old un2 hok2 o2 bare ea ed hd1 q2⟩
    | next => exact hE.elim
    | brk => exact hE.elim
    | cont => exact hE.elim
end
/-- what the top says of such a class with one field, and of its __init__ -/
structure ExL (K : PySem.W.Frag) (mg : Str → Option Value) (nm fld qn : Str) (sI : Stmt) (C fI : Addr) (fdI : FuncData) : Prop where
  oex : OelC K C
  iC : PySem.W.findIn K (.ref C) "__init__" = some (some (.ref fI))
  tI : PySem.W.typeIn K (.ref fI) = some (.type "function")
  noN : PySem.W.findIn K (.ref C) fld = some none
  g : mg nm = some (.ref C)
  FI : Fun K "__init__" qn sI fI fdI
  bI : Binds K fdI ["self", fld] []
def spIL (K : PySem.W.Frag) (C : Addr) (fld : Str) : Sp := fun vs H Q _ => ∃ (e : Addr) (y : V), vs = [.ref e, y] ∧ OelC K C ∧ PySem.W.findIn K (.ref C) fld = some none ∧ H e = some (exo e C none) ∧
  ∀ dx, H dx = none → dx ≠ e → Q .non (upd (upd H dx (exd dx [(fld, y)])) e (exo e C (some dx)))
theorem rzL {K : PySem.W.Frag} {mg : Str → Option Value} {nm fld qn : Str} {sI : Stmt} {C fI : Addr} {fdI : FuncData} (T : ExL K mg nm fld qn sI C fI fdI) {Hx : Hp} {y : V} {E : XK} (q : ∀ H' dd, Same Hx H' → H' dd = some (.xd [(fld, y)]) → E (.ref C) (some dd) H') :
    [y].length ≤ 1000 ∧ ∀ a, Hx a = none → spIL K C fld (.ref a :: ([y] ++ [])) (upd Hx a (exo a C none))
        (fun v H2 => v = .non ∧ ∃ (d : Addr) (fs : List (Str × V)), H2 a = some (exo a C (some d)) ∧ H2 d = some (exd d fs) ∧ Hx d = none ∧ E (.ref C) (some d) (upd (del H2 a) d (.xd fs))) (fun _ _ _ => False) := by
  refine ⟨by show 1 ≤ 1000; decide, fun a na => ⟨a, y, rfl, T.oex, T.noN, upd_same, fun dx nd ne => ⟨rfl, dx, [(fld, y)], ?_⟩⟩⟩
  obtain ⟨m1, m2, m3, m4⟩ := madeF (y := y) (fld := fld) na nd ne
  exact ⟨m1, m2, m3, q _ dx m4 upd_same⟩
end Pr
namespace K48
open PySem PySem.Spec PyProof.Rows L2 Pr
theorem DeskAt.kpAt {K : PySem.W.Frag} {C : Addr} {H H' : Hp} {t : Addr} {pan : List (List Int)} {st : List Int} {past : List (PyData × List (List Int) × List Int)} (h : DeskAt K C H t pan st past) (k : Kp H H') (e : H' t = H t) : DeskAt K C H' t pan st past := by
  obtain ⟨⟨dx, pa, p, l, hh, hs, h1, h2, h3, h4, h5, h6⟩, g, as, e'⟩ := h
  exact ⟨⟨dx, pa, p, l, hh, hs, e.trans h1, h2.kp k e', h3.kp k, k.1 _ _ h4, sqT_kp k h5, h6⟩, g, as, e'⟩
abbrev sInitV : Stmt := inClass (topS 17) 0
theorem scInitV : FnScope ["self", "value"] ["self", "value"] (defScope sInitV) := ⟨rfl, rfl, rfl, by decide +kernel, rfl, by decide +kernel, by decide +kernel⟩
section
variable {P : Program} {w : World} {K : PySem.W.Frag} {mg : Str → Option Value} {base : Heap}
theorem ok_initV {f C : Addr} {fd : FuncData} {k : Nat} (F : Fun K "__init__" "NoVersion.__init__" sInitV f fd) : FnOk P w K mg base CX0 (k + 1) f fd ["self", "value"] (spIL K C "value") := by
  refine F.ok scInitV (fun vs H Q E h => ?_) (fun cdv A outer s H vs Q E hr h => ?_)
  · obtain ⟨e, y, rfl, _⟩ := h
    rfl
  · obtain ⟨e, y, rfl, T, hno, he, q⟩ := h
    refine ⟨_, pss_one (ps_ostL (pv 0) (pv 1)), ?_⟩
    exact ⟨y, rfl, .ref e, rfl, e, C, rfl, T, hno, he, q⟩
end
abbrev sUndo : Stmt := inClass (topS 46) 11
def nUndo : List Str := ["self", "edit", "panel", "latched"]
theorem scUndo : FnScope nUndo ["self"] (defScope sUndo) := ⟨rfl, rfl, rfl, by decide +kernel, rfl, by decide +kernel, by decide +kernel⟩
section
variable {P : Program} {w : World} {K : PySem.W.Frag} {mg : Str → Option Value} {base : Heap}
def spUndo (K : PySem.W.Frag) (C CU : Addr) : Sp := fun vs H Q E => ∃ (t : Addr) (pan : List (List Int)) (st : List Int) (past : List (PyData × List (List Int) × List Int)), vs = [.ref t] ∧ DeskAt K C H t pan st past ∧
  (∀ past' y, past = past' ++ [y] → ∀ H', ButO t H H' → DeskAt K C H' t y.2.1 y.2.2 past' → Q (.int (past'.length : Nat)) H') ∧ (past = [] → ∀ H', Same H H' → E (.ref CU) none H')
theorem ok_Undo {fAny : Addr} {fdAny : FuncData} {fHeld : Addr} {fdHeld : FuncData} {C CU f : Addr} {fd : FuncData} {k : Nat} (F : Fun K "undo" "Desk.undo" sUndo f fd) (T : TxtD K mg C) (T_NothingToUndo : Ex0 K mg "NothingToUndo" CU)
    (FAny : Fun K "releases_any" "releases_any" sAny fAny fdAny) (bAny : Binds K fdAny ["panel", "button", "others"] []) (gAny : mg "releases_any" = some (.ref fAny))
    (FHeld : Fun K "held_buttons" "held_buttons" sHeld fHeld fdHeld) (bHeld : Binds K fdHeld ["panel", "state"] []) (gHeld : mg "held_buttons" = some (.ref fHeld))
    {fFree : Addr} {fdFree : FuncData} (FFree : Fun K "check_free" "Desk.check_free" sFree fFree fdFree) (bFree : Binds K fdFree ["self"] []) (hFree : Meth K C "check_free" fFree)
    {fShow : Addr} {fdShow : FuncData} (FShow : Fun K "show" "Desk.show" sShow fShow fdShow) (bShow : Binds K fdShow ["self", "panel", "latched"] []) (hShow : Meth K C "show" fShow)
    (m_any : mg "any" = none) (m_len : mg "len" = none) (m_tuple : mg "tuple" = none) : FnOk P w K mg base (L2.CX P w) (k + 4) f fd ["self"] (spUndo K C CU) := by
  have GFree : FnOk P w K mg base CX0 (k + 1) fFree fdFree ["self"] (spFree K C) := ok_Free FFree T   
  have GShow : FnOk P w K mg base CX0 (k + 3) fShow fdShow ["self", "panel", "latched"] (spShow K C) := ok_Show FShow T FAny bAny gAny FHeld bHeld gHeld  m_any m_len m_tuple
  refine F.okX scUndo (fun vs H Q E h => ?_) (fun cdv A outer s H vs Q E hr h => ?_)
  · obtain ⟨t, pan, st, past, rfl, _⟩ := h
    rfl
  · obtain ⟨t, pan, st, past, rfl, hD, q1, q2⟩ := h
    refine ⟨_, pss_cons (ps_expr (pe_meth0 (pv 0) T.cl hFree GFree (hr.mono (by omega)) bFree .nil pass0))
      (pss_cons (ps_if (pt_not (pt_truth (pe_fld (pv 0) rfl) (fun _ => rfl))) (pss_one (ps_raise rfl (takes_of rfl rfl rfl rfl) (T_NothingToUndo.made (by rfl)))) pss_nil)
      (pss_cons (ps_asg (pe_ix (show IxR _ (rIxT K) from ix_tup) (pe_fld (pv 0) rfl) (pe_un un_neg pe_int) (fun _ _ => rfl)) (pg_tup rfl (pgs_cons (pg_name (i := 1) scUndo.nd rfl (Or.inl rfl)) (pgs_cons (pg_name (i := 2) scUndo.nd rfl (Or.inl rfl)) (pgs_cons (pg_name (i := 3) scUndo.nd rfl (Or.inl rfl)) pgs_nil)))))
      (pss_cons (ps_fld (pv 0) (pe_slice (show SlR _ (rSlS K) from sl_tupS) (pe_fld (pv 0) rfl) po_none (po_some (pe_un un_neg pe_int))) rfl)
      (pss_cons (ps_expr (pe_meth (pv 0) T.cl hShow GShow (hr.mono (by omega)) bShow .nil pass0 (pa_cons (pv 2) (pa_cons (pv 3) pa_nil))))
      (pss_one (ps_ret (pe_callB (show CallR _ _ (rLenG K) from cr_lenG) (by rfl) m_len PySem.boot_len (pa_cons (pe_fld (pv 0) rfl) pa_nil)))))))), ?_⟩
    refine seq_hide fun u1 hu1 => ?_
    have hD' := hD
    obtain ⟨⟨dx, pa, p, l, hh, hs, h1, h2, h3, h4, h5, h6⟩, hg, hst, lfe⟩ := hD'
    refine ⟨.ref t, rfl, t, dx, _, rfl, h1, by rfl, t, pan, st, past, rfl, hD, fun H1 s1 => ?_⟩
    refine hu1 _ _ _ (seq_hide fun u2 hu2 => ?_)
    have e1 := s1 _ _ h1
    obtain ⟨xs, hpa, hxs⟩ := h2.sm s1
    refine ⟨.ref t, rfl, t, C, dx, _, .ref pa, rfl, e1, T.cl, T.nA, look_past _ _ _ _, _, .inr (.inl ⟨xs, hpa, rfl⟩), ?_⟩
    rcases List.eq_nil_or_concat past with rfl | ⟨past', y, rfl⟩
    · cases hxs
      exact iteT (q2 rfl H1 s1)
    · rw [List.concat_eq_append] at *
      obtain ⟨us, u, rfl, hus, ⟨au, pu, lu, vu, rfl, hau, dvu, hpu, elu⟩⟩ := prSplit hxs
      have nz : (!(!(us ++ [V.ref au]).isEmpty)) = false := by cases us <;> rfl
      rw [nz]
      refine iteF (next_of ?_)
      dsimp only
      refine hu2 _ _ _ (seq_hide fun u3 hu3 => ?_)
      refine ⟨.ref t, rfl, t, C, dx, _, .ref pa, rfl, e1, T.cl, T.nA, look_past _ _ _ _, 1, rfl, pa, _, _, .ref au, rfl, rfl, hpa, at_last, ?_⟩
      refine ⟨au, _, rfl, hau, rfl, vu, [.ref pu, .ref lu], rfl, .ref pu, [.ref lu], rfl, .ref lu, [], rfl, rfl, ?_⟩
      refine hu3 _ _ _ (seq_hide fun u4 hu4 => ?_)
      refine ⟨.ref t, rfl, t, C, dx, _, .ref pa, rfl, e1, T.cl, T.nA, look_past _ _ _ _, 1, rfl, -1, rfl, pa, _, rfl, hpa, fun pb H2 s2 hpb => ?_⟩
      rw [cut_last] at hpb
      have e2 := s2 _ _ e1
      refine ⟨.ref t, rfl, t, C, dx, _, rfl, e2, T.cl, T.nA, by show 5 < 1000; decide, ?_⟩
      refine hu4 _ _ _ (seq_hide fun u5 hu5 => ?_)
      rw [put_p]
      have k3 := ButO.upd (g := t) (H := H2) (o := .ins C dx (fldsD pb p l hh))
      have kp3 := k3.kp e2
      have hy := lfe y (List.mem_append_right _ List.mem_cons_self)
      refine ⟨.ref t, rfl, t, dx, _, rfl, upd_same, by rfl, .ref pu, rfl, .ref lu, rfl, t, pu, lu, dx, pb, fldsD pb p l hh, y.2.1, y.2.2, rfl, upd_same, .inr ⟨_, _, _, rfl⟩, (hpu.same s2).kp kp3, hy.2.1, .inl (.inl (kp3.1 _ _ (s2 _ _ elu))), hy.2.2, fun H4 h' hs' k4 e4 hh' ish => ?_⟩
      have kp4 := kp3.trans (k4.kp upd_same)
      have lfe' : ∀ x ∈ past', lf x.1 = true ∧ Good x.2.1 ∧ Asc x.2.1.length x.2.2 := fun x hx => lfe x (List.mem_append_left _ hx)
      have hN : DeskAt K C H4 t y.2.1 y.2.2 past' := ⟨⟨dx, pb, pu, lu, h', hs', e4, PastAt.kp ⟨us, hpb, ents_sm s2 hus⟩ kp4 lfe', (hpu.same s2).kp kp4, kp4.1 _ _ (s2 _ _ elu), hh', ish⟩, hy.2.1, hy.2.2, lfe'⟩
      refine hu5 _ _ _ ?_
      refine gs_ret (K := K) (gv_lenT (gv_past T rfl hN)) fun v H5 s5 dv5 => ?_
      cases dv5
      rw [List.length_map]
      exact q1 past' y rfl H5 (((ButO.of (s1.trans s2)).trans k3).trans (k4.trans (ButO.of s5))) (hN.same s5)
end
/-- what a version is: the present state, one before an edit, or none -/
def verM (pan : List (List Int)) (st : List Int) (past : List (PyData × List (List Int) × List Int)) : PyData → Option (List (List Int) × List Int)
  | .none => some (pan, st)
  | .int i => if 0 ≤ i ∧ i ≤ (past.length : Int) then (past.map (·.2) ++ [(pan, st)])[i.toNat]? else none
  | _ => none
theorem verM_int (pan : List (List Int)) (st : List Int) (past : List (PyData × List (List Int) × List Int)) (i : Int) : verM pan st past (.int i) = if 0 ≤ i ∧ i ≤ (past.length : Int) then (past.map (·.2) ++ [(pan, st)])[i.toNat]? else none := rfl
theorem verM_now {pan : List (List Int)} {st : List Int} {past : List (PyData × List (List Int) × List Int)} : verM pan st past (.int (past.length : Int)) = some (pan, st) := by
  rw [verM_int, if_pos ⟨by omega, by omega⟩, Int.toNat_natCast, List.getElem?_append_right (by rw [List.length_map]; omega), List.length_map, Nat.sub_self]; rfl
theorem verM_at {pan : List (List Int)} {st : List Int} {past : List (PyData × List (List Int) × List Int)} {j : Nat} {y : PyData × List (List Int) × List Int} (h : past[j]? = some y) : verM pan st past (.int (j : Int)) = some y.2 := by
  have hj := (List.getElem?_eq_some_iff.mp h).1
  rw [verM_int, if_pos ⟨by omega, by omega⟩, Int.toNat_natCast, List.getElem?_append_left (by rw [List.length_map]; exact hj), List.getElem?_map, h]; rfl
theorem verM_no {pan : List (List Int)} {st : List Int} {past : List (PyData × List (List Int) × List Int)} {d : PyData} (hn : d ≠ .none) : isBtn ((past.length : Int) + 1) d = false → verM pan st past d = none := by
  cases d with
  | none => exact absurd rfl hn
  | int i =>
    intro h
    rw [verM_int, if_neg]
    rintro ⟨h1, h2⟩
    have : isBtn ((past.length : Int) + 1) (.int i) = true := by simp [isBtn, h1]; omega
    rw [this] at h; cases h
  | _ => intro _; rfl
theorem btn_int {n : Int} {d : PyData} (h : isBtn n d = true) : ∃ i : Int, d = .int i ∧ 0 ≤ i ∧ i < n := by
  cases d with
  | int i => exact ⟨i, rfl, by simpa [isBtn] using h⟩
  | _ => cases h
theorem dq_non {K : PySem.W.Frag} {N : Addr → Prop} {H : Hp} {v : V} {d : PyData} (h : Dq K N H v d) : decide (v = .non) = true ↔ d = .none := by
  cases h <;> simp
def nIsV : List Str := ["value", "latest"]
theorem scIsV : FnScope nIsV ["value", "latest"] (defScope sIsV) := ⟨rfl, rfl, rfl, by decide +kernel, rfl, by decide +kernel, by decide +kernel⟩
section
variable {P : Program} {w : World} {K : PySem.W.Frag} {mg : Str → Option Value} {base : Heap}
def spIsV (K : PySem.W.Frag) : Sp := fun vs H Q _ => ∃ (N : Addr → Prop) (v : V) (d : PyData) (n : Int), vs = [v, .int n] ∧ Dq K N H v d ∧ Q (.bl (isBtn (n + 1) d)) H
theorem ok_IsV {fBtn : Addr} {fdBtn : FuncData} {f : Addr} {fd : FuncData} {k : Nat} (F : Fun K "is_version" "is_version" sIsV f fd)
    (FBtn : Fun K "is_button" "is_button" sBtn fBtn fdBtn) (bBtn : Binds K fdBtn ["value", "many"] []) (gBtn : mg "is_button" = some (.ref fBtn))
    (m_bool : mg "bool" = none) (m_int : mg "int" = none) (m_isinstance : mg "isinstance" = none) : FnOk P w K mg base CX0 (k + 2) f fd ["value", "latest"] (spIsV K) := by
  have GBtn : FnOk P w K mg base CX0 (k + 1) fBtn fdBtn ["value", "many"] (spBtn K) := ok_btn FBtn m_isinstance m_bool m_int
  refine F.ok scIsV (fun vs H Q E h => ?_) (fun cdv A outer s H vs Q E hr h => ?_)
  · obtain ⟨N, v, d, n, rfl, _⟩ := h
    rfl
  · obtain ⟨N, v, d, n, rfl, hd, q⟩ := h
    refine ⟨_, pss_one (ps_ret (pe_call GBtn (hr.mono (by omega)) (by rfl) gBtn FBtn.kp bBtn .nil pass0 (pa_cons (pv 0) (pa_cons (pe_op op_add (pv 1) pe_int) pa_nil)))), ?_⟩
    exact ⟨v, rfl, .int n, rfl, n, 1, rfl, rfl, N, v, d, n + 1, rfl, hd, q⟩
end
def nState : List Str := ["self", "version", "edit", "panel", "latched"]
theorem scState : FnScope nState ["self", "version"] (defScope sState) := ⟨rfl, rfl, rfl, by decide +kernel, rfl, by decide +kernel, by decide +kernel⟩
section
variable {P : Program} {w : World} {K : PySem.W.Frag} {mg : Str → Option Value} {base : Heap}
def spState (K : PySem.W.Frag) (C CV : Addr) : Sp := fun vs H Q E => ∃ (N : Addr → Prop) (t : Addr) (v : V) (d : PyData) (pan : List (List Int)) (st : List Int) (past : List (PyData × List (List Int) × List Int)), vs = [.ref t, v] ∧ DeskAt K C H t pan st past ∧ Dq K N H v d ∧
  (∀ y, verM pan st past d = some y → ∀ H' u p l, Same H H' → H' u = some (.tup [.ref p, .ref l]) → PanT K H' p y.1 → H' l = some (.tup (y.2.map V.int)) → Good y.1 → Asc y.1.length y.2 → Q (.ref u) H') ∧
  (verM pan st past d = none → ∀ H' dd, Same H H' → H' dd = some (.xd [("value", v)]) → E (.ref CV) (some dd) H')
theorem ok_State {fBtn : Addr} {fdBtn : FuncData} {fIsV : Addr} {fdIsV : FuncData} {C CV f fIV : Addr} {fd fdIV : FuncData} {k : Nat} (F : FunD K "state" "Desk.state" (defArgs sState) (defBody sState) (defScope sState) [] [("version", .non)] f fd) (T : TxtD K mg C) (TV : ExL K mg "NoVersion" "value" "NoVersion.__init__" sInitV CV fIV fdIV)
    (FBtn : Fun K "is_button" "is_button" sBtn fBtn fdBtn) (bBtn : Binds K fdBtn ["value", "many"] []) (gBtn : mg "is_button" = some (.ref fBtn))
    (FIsV : Fun K "is_version" "is_version" sIsV fIsV fdIsV) (bIsV : Binds K fdIsV ["value", "latest"] []) (gIsV : mg "is_version" = some (.ref fIsV))
    (m_bool : mg "bool" = none) (m_int : mg "int" = none) (m_isinstance : mg "isinstance" = none) (m_len : mg "len" = none) : FnOk P w K mg base (L2.CX P w) (k + 3) f fd ["self", "version"] (spState K C CV) := by
  have GIsV : FnOk P w K mg base CX0 (k + 2) fIsV fdIsV ["value", "latest"] (spIsV K) := ok_IsV FIsV FBtn bBtn gBtn m_bool m_int m_isinstance
  have GV : FnOk P w K mg base CX0 (k + 1) fIV fdIV ["self", "value"] (spIL K CV "value") := ok_initV TV.FI
  refine F.ok (CX := L2.CX P w) scState (fun vs H Q E h => ?_) (fun cdv A outer s H vs Q E hr h => ?_)
  · obtain ⟨N, t, v, d, pan, st, past, rfl, _⟩ := h
    rfl
  · obtain ⟨N, t, v, d, pan, st, past, rfl, hD, hd, q1, q2⟩ := h
    refine ⟨_, pss_cons (ps_if (pt_cmpR op_isN (pv 1) pe_non (by rfl)) (pss_one (ps_ret (pe_tup (pa_cons (pe_fld (pv 0) rfl) (pa_cons (pe_fld (pv 0) rfl) pa_nil))))) pss_nil)
      (pss_cons (ps_if (pt_not (pt_val (pe_call GIsV (hr.mono (by omega)) (by rfl) gIsV FIsV.kp bIsV .nil pass0 (pa_cons (pv 1) (pa_cons (pe_callB (show CallR _ _ (rLenG K) from cr_lenG) (by rfl) m_len PySem.boot_len (pa_cons (pe_fld (pv 0) rfl) pa_nil)) pa_nil))))) (pss_one (ps_raise rfl (takes_of rfl rfl rfl rfl) (pmk_oel TV.oex TV.iC TV.tI GV (hr.mono (by omega)) TV.bI pass0 (by rfl) TV.g (pa_cons (pv 1) pa_nil)))) pss_nil)
      (pss_cons (ps_if (pt_cmpR op_eq (pv 1) (pe_callB (show CallR _ _ (rLenG K) from cr_lenG) (by rfl) m_len PySem.boot_len (pa_cons (pe_fld (pv 0) rfl) pa_nil)) (nomark _)) (pss_one (ps_ret (pe_tup (pa_cons (pe_fld (pv 0) rfl) (pa_cons (pe_fld (pv 0) rfl) pa_nil))))) pss_nil)
      (pss_cons (ps_asg (pe_ix (show IxR _ (rIxT K) from ix_tup) (pe_fld (pv 0) rfl) (pv 1) (fun _ _ => rfl)) (pg_tup rfl (pgs_cons (pg_name (i := 2) scState.nd rfl (Or.inl rfl)) (pgs_cons (pg_name (i := 3) scState.nd rfl (Or.inl rfl)) (pgs_cons (pg_name (i := 4) scState.nd rfl (Or.inl rfl)) pgs_nil)))))
      (pss_one (ps_ret (pe_tup (pa_cons (pv 3) (pa_cons (pv 4) pa_nil)))))))), ?_⟩
    refine seq_hide fun u1 hu1 => ?_
    have hD0 := hD
    obtain ⟨⟨dx, pa, p, l, hh, hs, h1, h2, h3, h4, h5, h6⟩, hg, hst, lfe⟩ := hD0
    have now : ∀ {D : Ends} (H1 : Hp) (x2 x3 x4 : Option V), Same H H1 → D.rt = Q → verM pan st past d = some (pan, st) → tRet (tTup (tCons (tFld K (tVar 0) "panel") (tCons (tFld K (tVar 0) "latched") tNil))) D [some (.ref t), some v, x2, x3, x4] H1 := fun {D} H1 x2 x3 x4 s1 eD ev => by
      refine ⟨.ref t, rfl, t, C, dx, _, .ref p, rfl, s1 _ _ h1, T.cl, T.nP, look_panel _ _ _ _, .ref t, rfl, t, C, dx, _, .ref l, rfl, s1 _ _ h1, T.cl, T.nL, look_latched _ _ _ _, by show 2 ≤ sizeLine; decide, fun u nu => ?_⟩
      have su := same_new (o := .tup [.ref p, .ref l]) nu
      have sA := s1.trans su
      rw [eD]
      exact q1 (pan, st) ev _ u p l sA upd_same (h3.same sA) (sA _ _ h4) hg hst
    refine ⟨v, rfl, rfl, _, rfl, ?_⟩
    by_cases dn : d = .none
    · rw [(dq_non hd).mpr dn]
      subst dn
      exact iteT (now H none none none (Same.refl _) rfl rfl)
    · rw [show decide (v = .non) = false from by cases e : decide (v = .non) with | false => rfl | true => exact absurd ((dq_non hd).mp e) dn]
      refine iteF (next_of ?_)
      dsimp only
      refine hu1 _ _ _ (seq_hide fun u2 hu2 => ?_)
      refine ⟨v, rfl, (gv_lenT (K := K) (gv_past (i := 0) T rfl hD)).at fun vn H1 s1 dv => ?_⟩
      cases dv
      rw [List.length_map]
      refine ⟨N, v, d, (past.length : Int), rfl, Dq.same s1 _ _ hd, ⟨_, rfl, ?_⟩⟩
      cases eb : isBtn ((past.length : Int) + 1) d with
      | false => exact iteT ⟨v, rfl, rzL TV fun H2 dd s2 ed => q2 (verM_no dn eb) H2 dd (s1.trans s2) ed⟩
      | true =>
        refine iteF (next_of ?_)
        dsimp only
        refine hu2 _ _ _ (seq_hide fun u3 hu3 => ?_)
        obtain ⟨i, rfl, i0, i1⟩ := btn_int eb
        cases hd
        obtain ⟨j, rfl⟩ : ∃ j : Nat, i = (j : Int) := ⟨i.toNat, by omega⟩
        refine gs_if1 (gvt_test (K := K) (gv_eqI (gv_var rfl (.int (j : Int))) ((gv_lenT (gv_past (i := 0) T rfl (hD.same s1))).to (by rw [List.length_map])))) (fun e H2 s2 => ?_) (fun e H2 s2 => ?_)
        · have ej : (j : Int) = (past.length : Int) := of_decide_eq_true e
          have s12 := s1.trans s2
          exact now H2 none none none s12 rfl (by rw [ej]; exact verM_now)
        · refine hu3 _ _ _ ?_
          have ej : ¬ (j : Int) = (past.length : Int) := of_decide_eq_false e
          have s12 := s1.trans s2
          have e2 := s12 _ _ h1
          obtain ⟨xs, hpa, hxs⟩ := h2.sm s12
          obtain ⟨y, hy⟩ : ∃ y, past[j]? = some y := ⟨_, List.getElem?_eq_getElem (by omega)⟩
          obtain ⟨x, hx, ⟨au, pu, lu, vu, rfl, hau, dvu, hpu, elu⟩⟩ := prGet hxs hy
          refine ⟨.ref t, rfl, t, C, dx, _, .ref pa, rfl, e2, T.cl, T.nA, look_past _ _ _ _, .int (j : Int), rfl, pa, _, _, .ref au, rfl, rfl, hpa, at_nat hx, ?_⟩
          refine ⟨au, _, rfl, hau, rfl, vu, [.ref pu, .ref lu], rfl, .ref pu, [.ref lu], rfl, .ref lu, [], rfl, rfl, ?_⟩
          refine ⟨.ref pu, rfl, .ref lu, rfl, by show 2 ≤ sizeLine; decide, fun u nu => ?_⟩
          have su := same_new (o := .tup [.ref pu, .ref lu]) nu
          have hyy := lfe y (List.mem_of_getElem? hy)
          exact q1 y.2 (verM_at hy) _ u pu lu (s12.trans su) upd_same (hpu.same su) (su _ _ elu) hyy.2.1 hyy.2.2
end
end K48
namespace K48
open PySem PySem.Spec PyProof.Rows L2 Pr
def rStrI : List V → Hp → VK → Prop := fun xs H Q => ∃ i, xs = [.int i] ∧ i.natAbs.log2 < 1920 ∧ Q (.str (toString i)) H
section
variable {K : PySem.W.Frag} {C : Addr} {H H' : Hp} {t : Addr} {pan : List (List Int)} {st : List Int} {past : List (PyData × List (List Int) × List Int)} {σ : L2.St} {i : Nat} {E : XK} {te : TE}
theorem DeskAt.at {P : Prop} (h : DeskAt K C H t pan st past) (q : ∀ dx fs, H t = some (.ins C dx fs) → (∀ m : Str, m ∉ (["past", "watched", "panel", "latched", "held"] : List Str) → fs.lookup m = none) → P) : P := by
  obtain ⟨⟨dx, pa, p, l, hh, hs, h1, h2, h3, h4, _⟩, _⟩ := h
  refine q dx _ h1 fun m hm => ?_
  simp only [List.mem_cons, List.mem_nil_iff, or_false, not_or] at hm
  obtain ⟨n1, n2, n3, n4, n5⟩ := hm
  unfold fldsD
  simp only [List.lookup_cons, List.lookup_nil]
  have : ∀ {a b : Str}, a ≠ b → (a == b) = false := fun h => by simpa using h
  rw [this n1, this n2, this n3, this n4, this n5]
theorem gva_at {ta : TA} {ds : List PyData} {Q : List V → Hp → Prop} (h : GvA K ta σ H ds) (q : ∀ ws H', Same H H' → DpAll K H' ws ds → Q ws H') : ta σ H Q := h H (Same.refl _) Q q
theorem gv_StateD {CV : Addr} (hi : σ[i]? = some (some (.ref t))) (h : DeskAt K C H t pan st past) : Gv K (tMeth C "state" (spState K C CV) [.non] E (tVar i) tNil) σ H (.tuple [dPan pan, dInts st]) := fun H1 s Q q => by
  have hD := h.same s
  exact hD.at fun dx fs e l => ⟨.ref t, hi, t, dx, fs, rfl, e, l _ (by decide +kernel), fun _ => False, t, .non, .none, pan, st, past, rfl, hD, .non, fun y ey H2 u p l s2 eu hp el _ _ => by
    cases ey
    exact q _ H2 s2 (.tup (.inl (.inl eu)) (.cons hp.dp (.cons (dp_ints (.inl (.inl el))) .nil))), (fun z => by cases z)⟩
theorem gv_EditsD (hi : σ[i]? = some (some (.ref t))) (h : DeskAt K C H t pan st past) (few : past.length ≤ 1000) : Gv K (tMeth C "edits" (spEdits K C) [] E (tVar i) tNil) σ H (.tuple (past.map (·.1))) := fun H1 s Q q => by
  have hD := h.same s
  exact hD.at fun dx fs e l => ⟨.ref t, hi, t, dx, fs, rfl, e, l _ (by decide +kernel), t, pan, st, past, rfl, hD, few, fun H2 v s2 dv => q v H2 s2 dv⟩
theorem gv_lenD (hi : σ[i]? = some (some (.ref t))) (h : DeskAt K C H t pan st past) (few : past.length ≤ 1000) : Gv K (tCB (rLenO C (spLenD K C)) (tCons (tVar i) tNil)) σ H (.int (past.length : Nat)) := fun H1 s Q q => by
  have hD := h.same s
  exact hD.at fun dx fs e l => ⟨.ref t, hi, t, dx, fs, rfl, e, t, pan, st, past, rfl, hD, fun H2 s2 => ⟨_, rfl, by omega, by omega, q _ H2 s2 (.int _)⟩⟩
theorem gv_strD (hi : σ[i]? = some (some (.ref t))) (h : DeskAt K C H t pan st past) (few : past.length ≤ 1000) : Gv K (tCB (rStrO C (spStrD K C)) (tCons (tVar i) tNil)) σ H (.str (txtD pan.length st.length past.length)) := fun H1 s Q q => by
  have hD := h.same s
  exact hD.at fun dx fs e l => ⟨.ref t, hi, t, dx, fs, rfl, e, t, pan, st, past, rfl, hD, few, fun H2 s2 => ⟨_, rfl, q _ H2 s2 (.str _)⟩⟩
theorem gv_strI {n : Nat} (h : Gv K te σ H (.int (n : Int))) (hn : n ≤ 1000) : Gv K (tCB rStrI (tCons te tNil)) σ H (.str (toString (n : Int))) := gv_cb (gva_cons h gva_nil) fun vs H1 Q s hd' q => by
  obtain ⟨v, rfl, hv⟩ := dpAll1 hd'
  cases hv
  exact ⟨_, rfl, log_num n hn, q _ _ (Same.refl _) (.str _)⟩
theorem dpAll_strI : ∀ {vs : List V} {l : List Str}, DpAll K H vs (l.map PyData.str) → vs = l.map V.str
  | [], [], _ => rfl
  | _, _ :: _, h => by
    cases h with
    | cons h1 h2 =>
      cases h1
      rw [dpAll_strI h2]; rfl
theorem gv_join1 {td tl : TE} {a : Str} {ys : List Str} (h1 : Gv K td σ H (.str a)) (h2 : Gv K tl σ H (.list (ys.map PyData.str))) (hl : (ys.map (·.length)).sum + ys.length * a.length ≤ 16777216) :
    Gv K (tM1 (fun x xs H Q => ∃ a p, ∃ ys : List Str, x = .str a ∧ xs = [.ref p] ∧ (SqL K H p (ys.map V.str) ∨ SqT K H p (ys.map V.str)) ∧
      (ys.map (·.length)).sum + ys.length * a.length ≤ 16777216 ∧ Q (.str (Txt.join a ys)) H) td tl) σ H (.str (Txt.join a ys)) := fun H1 s Q q => h1 H1 s _ fun v H2 s2 d2 => by
  cases d2
  refine ⟨⟨_, rfl⟩, h2 H2 (s.trans s2) _ fun w H3 s3 d3 => ?_⟩
  obtain ⟨p, xs, rfl, hp, hr⟩ := d3.lstI
  rw [dpAll_strI hr] at hp
  exact ⟨_, p, ys, rfl, rfl, .inl hp, hl, q _ H3 (s2.trans s3) (.str _)⟩
end
theorem txt_is (a b c : Nat) : txtD a b c = Txt.join (" " : Str) [(toString (a : Int) : Str), "buttons,", (toString (b : Int) : Str), "latched,", (toString (c : Int) : Str), "edits"] := by
  have e1 : (" buttons, " : Str) = (" " : Str) ++ (("buttons," : Str) ++ (" " : Str)) := by decide +kernel
  have e2 : (" latched, " : Str) = (" " : Str) ++ (("latched," : Str) ++ (" " : Str)) := by decide +kernel
  have e3 : (" edits" : Str) = (" " : Str) ++ ("edits" : Str) := by decide +kernel
  have j : Txt.join (" " : Str) [(toString (a : Int) : Str), "buttons,", (toString (b : Int) : Str), "latched,", (toString (c : Int) : Str), "edits"] = (toString (a : Int) : Str) ++ " " ++ (("buttons," : Str) ++ " " ++ ((toString (b : Int) : Str) ++ " " ++ (("latched," : Str) ++ " " ++ ((toString (c : Int) : Str) ++ " " ++ ("edits" : Str))))) := (TL.join_eq _ _).trans rfl
  rw [j]
  unfold txtD
  rw [e1, e2, e3]
  simp only [Str.empty_append, Str.append_assoc]
def nState0 : List Str := ["_law_deck_here", "_law_n", "_law_way_here", "_law_one"]
theorem scState0 : FnScope nState0 ["_law_deck_here", "_law_n"] (defScope sState0) := ⟨rfl, rfl, rfl, by decide +kernel, rfl, by decide +kernel, by decide +kernel⟩
section
variable {P : Program} {w : World} {K : PySem.W.Frag} {mg : Str → Option Value} {base : Heap}
def spState0 (K : PySem.W.Frag) : Sp := fun vs H Q _ => ∃ (a c : Addr) (m n : Nat), vs = [.ref a, .int (n : Int)] ∧ Deck H a c (m + 20) ∧ n ≤ 10 ∧ ∀ H' t st, But a c H H' → Deck H' a c m → H' t = some (.tup (st.map V.int)) → Asc n st → Q (.ref t) H'
theorem ok_State0 {fDraw : Addr} {fdDraw : FuncData} {f : Addr} {fd : FuncData} {k : Nat} (F : Fun K "_law_state" "_law_state" sState0 f fd)
    (FDraw : Fun K "_law_draw" "_law_draw" sDraw fDraw fdDraw) (bDraw : Binds K fdDraw ["_law_deck_here", "_law_many"] []) (gDraw : mg "_law_draw" = some (.ref fDraw))
    (m_len : mg "len" = none) (m_range : mg "range" = none) (m_tuple : mg "tuple" = none) : FnOk P w K mg base CX0 (k + 2) f fd ["_law_deck_here", "_law_n"] (spState0 K) := by
  have GDraw : FnOk P w K mg base CX0 (k + 1) fDraw fdDraw ["_law_deck_here", "_law_many"] spDraw := ok_draw FDraw m_len
  refine F.ok scState0 (fun vs H Q E h => ?_) (fun cdv A outer s H vs Q E hr h => ?_)
  · obtain ⟨a, c, m, n, rfl, _⟩ := h
    rfl
  · obtain ⟨a, c, m, n, rfl, hD, hn, q⟩ := h
    refine ⟨_, pss_cons (ps_set (i := 2) scState0.nd rfl (.inl rfl) (pe_call GDraw (hr.mono (by omega)) (by rfl) gDraw FDraw.kp bDraw .nil pass0 (pa_cons (pv 0) (pa_cons pe_int pa_nil))))
      (pss_cons (ps_if (pt_cmpR op_lt (pv 2) pe_int (nomark _)) (pss_one (ps_ret (pe_ix (show IxR _ (rIxL K) from ix_list) (pe_lst (pa_cons (pe_tup pa_nil) (pa_cons (pe_tupRg rfl (by rfl) m_tuple (prg_1 (by rfl) m_range (pv 1))) pa_nil))) (pv 2) (fun _ _ => rfl)))) pss_nil)
      (pss_one (ps_ret (pe_callTy (show CallR _ _ (rTupG K) from cr_tupG) (by rfl) m_tuple (by decide +kernel) (pa_cons (pe_lc (own := [("_law_one", 3)]) (g := gName 3) rfl scState0.nd (pi_range1 (by rfl) m_range (pa_cons (pv 1) pa_nil)) (blkOk_by (own := [("_law_one", 3)]) (N := nState0) (sc := defScope sState0) (by decide +kernel)) (fun _ _ _ _ _ => pg_name (i := 3) scState0.nd rfl (Or.inl rfl)) (fun _ _ _ _ _ => pts_one (pt_cmpR op_eq (pe_call GDraw (hr.mono (by omega)) (by rfl) gDraw FDraw.kp bDraw .nil pass0 (pa_cons (pv 0) (pa_cons pe_int pa_nil))) pe_int (nomark _))) (fun _ _ _ _ _ => pv 3)) pa_nil))))), ?_⟩
    refine ⟨.ref a, rfl, a, c, m + 19, 5, rfl, hD.less (by omega), by decide, by decide, fun H1 r b1 D1 r0 r1 => ?_⟩
    refine gs_if1 (gvt_test (K := K) (gv_I0 (f := .bool (decide (r < 2))) (gv_var rfl (.int r)) gv_int fun _ => .bl _)) (fun e H2 s2 => ?_) (fun e H2 s2 => ?_)
    · have hr2 : r < 2 := of_decide_eq_true e
      refine ⟨Nat.zero_le _, fun t0 nt0 => ?_⟩
      have s3 := same_new (o := .tup []) nt0
      refine (gu_tupRg (K := K) (n := n) (gv_var rfl (.int (n : Int))) (by omega)).at fun t1 vs1 H4 s4 nt1 e1 dv1 => ?_
      rw [dpAll_intsV dv1] at e1
      refine ⟨by show 2 ≤ sizeLine; decide, fun L nL => ?_⟩
      have s5 := same_new (o := .lst [.ref t0, .ref t1]) nL
      have sA := (s2.trans (s3.trans s4)).trans s5
      obtain rfl | rfl : r = 0 ∨ r = 1 := by omega
      · exact ⟨_, rfl, L, _, _, .ref t0, rfl, rfl, .inl (.inl upd_same), rfl, q _ t0 [] (b1.trans (But.of sA)) ((D1.same sA).less (by omega)) (s5 _ _ (s4 _ _ upd_same)) (Asc.nil _)⟩
      · exact ⟨_, rfl, L, _, _, .ref t1, rfl, rfl, .inl (.inl upd_same), rfl, q _ t1 (intL n) (b1.trans (But.of sA)) ((D1.same sA).less (by omega)) (s5 _ _ e1) (by have := Asc.filter n (fun _ => true); rwa [List.filter_eq_self.mpr (fun _ _ => rfl)] at this)⟩
    · refine ⟨.int (n : Int), rfl, (n : Int), rfl, by omega, by omega, fun O nO => ?_⟩
      have D2 := D1.same s2
      have oO := D2.fresh nO
      refine lc_range (n := n) (fun k H7 => But a c H2 H7 ∧ Deck H7 a c (m + 19 - k) ∧ ∃ acc : List Int, H7 O = some (.lst (acc.map V.int)) ∧ Asc k acc)
        ⟨But.of (same_new nO), (D2.same (same_new nO)).less (by omega), [], upd_same, Asc.nil _⟩ (fun k H8 hk' hP => ?_) (fun H8 hP => ?_)
      · obtain ⟨b8, D8, acc, eO, hacc⟩ := hP
        have al := hacc.len
        rw [Int.zero_add]
        refine ⟨rfl, .ref a, rfl, a, c, m + 19 - (k + 1), 2, rfl, D8.less (by omega), by decide, by decide, fun H9 r9 b9 D9 r9a r9b => ⟨rfl, _, rfl, ite2 (fun e => ?_) (fun e => ?_)⟩⟩
        · refine ⟨.int (k : Int), rfl, _, b9 _ _ oO.1 oO.2 eO, by rw [List.length_map]; exact small1000 (by omega), fun b o h1 h2 e => ?_, Deck.upd' D9 oO, acc ++ [(k : Int)], by rw [upd_same, List.map_append]; rfl, ?_⟩
          · rw [upd_ne (ne_of_none e nO)]
            exact b9 _ _ h1 h2 (b8 _ _ h1 h2 e)
          · refine ⟨List.pairwise_append.mpr ⟨hacc.up, List.pairwise_singleton _ _, fun x hx y hy => ?_⟩, fun x hx => ?_⟩
            · rw [List.mem_singleton.mp hy]; exact (hacc.rng x hx).2
            · rcases List.mem_append.mp hx with h | h
              · have := hacc.rng x h; omega
              · rw [List.mem_singleton.mp h]; omega
        · exact ⟨b8.trans b9, D9, acc, b9 _ _ oO.1 oO.2 eO, hacc.up, fun x hx => by have := hacc.rng x hx; omega⟩
      · obtain ⟨b8, D8, acc, eO, hacc⟩ := hP
        refine (gu_tupL (K := K) (t := fun _ H Q => Q (.ref O) H) (σ := []) (H := H8) (ds := acc.map PyData.int) (fun H9 s9 Q q => q _ H9 (Same.refl _) (.lst (.inl (.inl (s9 _ _ eO))) (dpAll_ints acc)))).at fun t vs H9 s9 nt et dt => q H9 t acc (((b1.trans (But.of s2)).trans b8).trans (But.of s9)) ((D8.same s9).less (by omega)) (by rw [et, dpAll_intsV dt]) hacc
end
def nPressed : List Str := ["_law_panel_here", "_law_state_here", "_law_button", "_law_left", "_law_one"]
theorem scPressed : FnScope nPressed ["_law_panel_here", "_law_state_here", "_law_button"] (defScope sPressed) := ⟨rfl, rfl, rfl, by decide +kernel, rfl, by decide +kernel, by decide +kernel⟩
section
variable {P : Program} {w : World} {K : PySem.W.Frag} {mg : Str → Option Value} {base : Heap}
def spPressed (K : PySem.W.Frag) : Sp := fun vs H Q _ => ∃ (pan : List (List Int)) (st : List Int) (b : Int), DpAll K H vs [dPan pan, dInts st, .int b] ∧ Asc pan.length st ∧ pan.length ≤ 10 ∧ 0 ≤ b ∧ b < (pan.length : Int) ∧
  ∀ H' t, Same H H' → H' t = some (.tup ((pressM pan st b).map V.int)) → Q (.ref t) H'
theorem ok_Pressed  {f : Addr} {fd : FuncData} {k : Nat} (F : Fun K "_law_pressed" "_law_pressed" sPressed f fd)
    (m_sorted : mg "sorted" = none) (m_tuple : mg "tuple" = none) : FnOk P w K mg base CX0 (k + 1) f fd ["_law_panel_here", "_law_state_here", "_law_button"] (spPressed K) := by
  refine F.ok scPressed (fun vs H Q E h => ?_) (fun cdv A outer s H vs Q E hr h => ?_)
  · obtain ⟨_, _, _, hd, _⟩ := h
    exact hd.length
  · obtain ⟨pan, st, b, hd, hst, few, b0, b1, q⟩ := h
    obtain ⟨v1, v2, v3, rfl, d1, d2, d3⟩ := dpAll3 hd
    have stl := hst.len
    refine ⟨_, pss_cons (ps_setLc (i := 3) (own := [("_law_one", 4)]) (g := gName 4) rfl scPressed.nd rfl rfl (sw_true rfl rfl rfl (by decide +kernel)) (show PI _ _ _ (iTup K _) from pi_tup (pv 1)) (blkOk_by (own := [("_law_one", 4)]) (N := nPressed) (sc := defScope sPressed) (by decide +kernel)) (fun _ _ _ _ _ => pg_name (i := 4) scPressed.nd rfl (Or.inl rfl)) (fun _ _ _ _ _ => pts_one (PW.pt (pw_and (pt_cmpR (show OpR _ _ (rIn K true) from op_notIn_seq) (pv 4) (pe_ix (show IxR _ (rIxT K) from ix_tup) (pv 0) (pv 2) (fun _ _ => rfl)) (by rfl)) (pw_and1 (pt_cmpR op_ne (pv 4) (pv 2) (nomark _)))))) (fun _ _ _ _ _ => pv 4))
      (pss_one (ps_ret (pe_callTy (show CallR _ _ (rTupG K) from cr_tupG) (by rfl) m_tuple (by decide +kernel) (pa_cons (pe_callB (show CallR _ _ (rSorted K) from cr_sorted) (by rfl) m_sorted (by decide +kernel) (pa_cons (pe_op op_cat (pv 3) (pe_lst (pa_cons (pv 2) pa_nil))) pa_nil)) pa_nil)))), ?_⟩
    refine gs_setL (K := K) (gl_lc (δ := PyData.int) (as := st) (p := fun x => !decide (x ∈ pan.getD b.toNat []) && !decide (x = b)) (f := PyData.int) (gvi_tup (gv_var rfl d2)) (fun x vx H2 hx s2 dx => ⟨gvt_and (gvt_test (gv_inT (neg := true) (gv_var rfl dx) (gv_pan (gv_var rfl (d1.sm s2)) (gv_var rfl (d3.sm s2)) b0 b1))) (fun H3 s3 _ => gvt_test (gv_neI (gv_var rfl (dx.sm s3)) (gv_var rfl ((d3.sm s2).sm s3)))), fun _ => gv_var rfl dx⟩) (fun _ _ => rfl) (by omega)) fun a vs H1 s1 ea da => ?_
    have fl := List.length_filter_le (fun x => !decide (x ∈ pan.getD b.toNat []) && !decide (x = b)) st
    refine (gu_tupL (K := K) (gv_sortL (l := st.filter (fun x => !decide (x ∈ pan.getD b.toNat []) && !decide (x = b)) ++ [b]) ((gn_cat (gl_var rfl ea da) (gl_lst (gva_cons (gv_var rfl (d3.sm s1)) gva_nil)) ?_).gv.to ?_) ?_)).at fun t vs2 H2 s2 nt et dt => q H2 t (s1.trans s2) ?_
    · rw [List.length_map]; show _ + 1 ≤ _; omega
    · rw [List.map_append]; rfl
    · rw [List.length_append]; show _ + 1 < 64; omega
    · rw [et, dpAll_intsV dt, press_sorted hst b0 b1 ?_ (srt_up _)]
      refine (srt_perm _).trans ?_
      refine List.Perm.append_right _ (List.Perm.of_eq (List.filter_congr fun x _ => ?_))
      by_cases h1 : x ∈ pan.getD b.toNat [] <;> by_cases h2 : x = b <;> simp [h1, h2]
end
def nChanged : List Str := ["_law_panel_here", "_law_one", "_law_other", "_law_is_link", "_law_own", "_law_at"]
theorem scChanged : FnScope nChanged ["_law_panel_here", "_law_one", "_law_other", "_law_is_link"] (defScope sChanged) := ⟨rfl, rfl, rfl, by decide +kernel, rfl, by decide +kernel, by decide +kernel⟩
section
variable {P : Program} {w : World} {K : PySem.W.Frag} {mg : Str → Option Value} {base : Heap}
def spChanged (K : PySem.W.Frag) : Sp := spP K (fun x : List (List Int) × Int × Int × Bool => [dPan x.1, .int x.2.1, .int x.2.2.1, .bool x.2.2.2]) (fun x => Good x.1 ∧ InP2 x.1 x.2.1 x.2.2.1 ∧ (x.2.2.2 = true → x.2.2.1 ∉ x.1.getD x.2.1.toNat []) ∧ (x.2.2.2 = false → x.2.2.1 ∈ x.1.getD x.2.1.toNat [])) (fun x => dPan (if x.2.2.2 then liM x.1 x.2.1 x.2.2.1 else unM x.1 x.2.1 x.2.2.1))
theorem gv_Changed {σ : L2.St} {H : Hp} {t : TA} {E : XK} {pan : List (List Int)} {one : Int} {other : Int} {fl : Bool} (h : GvA K t σ H [dPan pan, .int one, .int other, .bool fl]) (hc : Good pan ∧ InP2 pan one other ∧ (fl = true → other ∉ pan.getD one.toNat []) ∧ (fl = false → other ∈ pan.getD one.toNat [])) : Gv K (tCall (spChanged K) [] E t) σ H (dPan (if fl then liM pan one other else unM pan one other)) := gv_call (K := K) (δ := fun x : List (List Int) × Int × Int × Bool => [dPan x.1, .int x.2.1, .int x.2.2.1, .bool x.2.2.2]) (C := fun x => Good x.1 ∧ InP2 x.1 x.2.1 x.2.2.1 ∧ (x.2.2.2 = true → x.2.2.1 ∉ x.1.getD x.2.1.toNat []) ∧ (x.2.2.2 = false → x.2.2.1 ∈ x.1.getD x.2.1.toNat [])) (f := fun x => dPan (if x.2.2.2 then liM x.1 x.2.1 x.2.2.1 else unM x.1 x.2.1 x.2.2.1)) (pan, one, other, fl) h hc
theorem ok_Changed  {f : Addr} {fd : FuncData} {k : Nat} (F : Fun K "_law_changed" "_law_changed" sChanged f fd)
    (m_int : mg "int" = none) (m_sorted : mg "sorted" = none) (m_tuple : mg "tuple" = none) : FnOk P w K mg base CX0 (k + 1) f fd ["_law_panel_here", "_law_one", "_law_other", "_law_is_link"] (spChanged K) := by
  refine F.ok scChanged (fun vs H Q E h => ?_) (fun cdv A outer s H vs Q E hr h => ?_)
  · obtain ⟨_, hd, _⟩ := h
    exact hd.length
  · obtain ⟨⟨pan, one, other, fl⟩, hd, hc, q⟩ := h
    obtain ⟨v1, v2, v3, v4, rfl, d1, d2, d3, d4⟩ := dpAll4 hd
    try dsimp only at hc
    try dsimp only at q
    try dsimp only at d1 d2 d3 d4
    refine ⟨_, pss_cons (ps_set (i := 4) scChanged.nd rfl (.inl rfl) (pe_op op_cat (pe_lc (own := [("_law_at", 5)]) (g := gName 5) rfl scChanged.nd (show PI _ _ _ (iTup K _) from pi_tup (pe_ix (show IxR _ (rIxT K) from ix_tup) (pv 0) (pv 1) (fun _ _ => rfl))) (blkOk_by (own := [("_law_at", 5)]) (N := nChanged) (sc := defScope sChanged) (by decide +kernel)) (fun _ _ _ _ _ => pg_name (i := 5) scChanged.nd rfl (Or.inl rfl)) (fun _ _ _ _ _ => pts_one (pt_cmpR op_ne (pv 5) (pv 2) (nomark _))) (fun _ _ _ _ _ => pv 5)) (pe_op op_rep (pe_lst (pa_cons (pv 2) pa_nil)) (pe_callTy call_int1 (by rfl) m_int (by decide +kernel) (pa_cons (pv 3) pa_nil)))))
      (pss_one (ps_ret (pe_op (show OpR _ _ (rCatS K) from op_catS) (pe_op (show OpR _ _ (rCatS K) from op_catS) (pe_slice (show SlR _ (rSlS K) from sl_tupS) (pv 0) po_none (po_some (pv 1))) (pe_tup (pa_cons (pe_callTy (show CallR _ _ (rTupG K) from cr_tupG) (by rfl) m_tuple (by decide +kernel) (pa_cons (pe_callB (show CallR _ _ (rSorted K) from cr_sorted) (by rfl) m_sorted (by decide +kernel) (pa_cons (pv 4) pa_nil)) pa_nil)) pa_nil))) (pe_slice (show SlR _ (rSlS K) from sl_tupS) (pv 0) (po_some (pe_op op_add (pv 1) pe_int)) po_none)))), ?_⟩
    obtain ⟨hg, hI, hf1, hf2⟩ := hc
    obtain ⟨o0, o1, u0, u1, ne⟩ := hI
    have hi : one.toNat < pan.length := by omega
    have ok := pan_ok hg
    have hrl := ok.2 _ (rel_mem hi)
    have gone : one = ((one.toNat : Nat) : Int) := by omega
    have hlp : (pan.map dInts).length = pan.length := List.length_map _
    have fl60 := List.length_filter_le (fun x => !decide (x = other)) (pan.getD one.toNat [])
    refine gs_setN (K := K) (gn_cat (gl_lc (δ := PyData.int) (as := pan.getD one.toNat []) (p := fun x => !decide (x = other)) (f := PyData.int) (gvi_tup (gv_pan (gv_var rfl d1) (gv_var rfl d2) o0 o1)) (fun x vx H2 hx s2 dx => ⟨gvt_test (gv_neI (gv_var rfl dx) (gv_var rfl (d3.sm s2))), fun _ => gv_var rfl dx⟩) (fun _ _ => rfl) (by omega)) (gn_repL1 (k := if fl then 1 else 0) (gl_lst (gva_cons (gv_var rfl d3) gva_nil)) ((gv_intB rfl (gv_var rfl d4)).to (by cases fl <;> rfl)) (by split <;> omega)).gl (by rw [List.length_map, List.length_replicate]; split <;> omega)) fun a vs H1 s1 na ea da => ?_
    have eown : ((pan.getD one.toNat []).filter fun x => !decide (x = other)).map PyData.int ++ List.replicate (if fl then 1 else 0) (.int other) = (((pan.getD one.toNat []).filter fun x => !decide (x = other)) ++ (if fl then [other] else [])).map PyData.int := by
      rw [List.map_append]; cases fl <;> rfl
    rw [eown] at da
    have e2 : (if fl then liM pan one other else unM pan one other) = pan.take one.toNat ++ ([srt (((pan.getD one.toNat []).filter fun x => !decide (x = other)) ++ (if fl then [other] else []))] ++ pan.drop (one.toNat + 1)) := by
      have hset : ∀ x, pan.take one.toNat ++ ([x] ++ pan.drop (one.toNat + 1)) = pan.set one.toNat x := fun x => by rw [List.set_eq_take_append_cons_drop, if_pos hi]; rfl
      rw [hset]
      cases fl with
      | true =>
        have hn := hf1 rfl
        rw [if_pos rfl, if_pos rfl]
        unfold liM
        rw [if_neg hn, List.filter_eq_self.mpr fun x hx => by simp; rintro rfl; exact hn hx]
      | false =>
        have hn := hf2 rfl
        rw [if_neg Bool.false_ne_true, if_neg Bool.false_ne_true]
        unfold unM
        rw [if_pos hn, List.append_nil, srt_self ((hg.up _ (rel_mem hi)).filter _)]
    refine gs_ret (K := K) ((gv_catT (gv_catT (gv_cutToG (k := one.toNat) (gv_var rfl (d1.sm s1)) ((gv_var rfl (d2.sm s1)).to (by rw [← gone])) (by rw [hlp]; omega)) (gv_tup (gva_cons (gv_tupL (gv_sortL (l := ((pan.getD one.toNat []).filter fun x => !decide (x = other)) ++ (if fl then [other] else [])) (gv_var rfl (.lst (.inl (.inl ea)) da)) (by rw [List.length_append]; have hk : (if fl = true then [other] else ([] : List Int)).length ≤ 1 := (by cases fl <;> simp); omega))) gva_nil)) (by rw [List.length_take, hlp]; show _ + 1 ≤ _; omega)) (gv_cutFromG (k := one.toNat + 1) (gv_var rfl (d1.sm s1)) ((gv_add (gv_var rfl (d2.sm s1)) gv_int).to (by rw [gone]; rfl)) (by rw [hlp]; omega)) (by rw [List.length_append, List.length_take, List.length_drop, hlp]; show _ + 1 + _ ≤ _; omega)).to ?_) fun v H2 s2 dv => q v H2 (s1.trans s2) dv
    rw [e2]
    unfold dPan
    rw [List.map_append, List.map_append, ← List.map_take, ← List.map_drop, List.append_assoc]
    rfl
end
end K48
namespace K48
open PySem PySem.Spec PyProof.Rows L2 Pr
/-- an edit that can be done -/
inductive Ed (pan : List (List Int)) : PyData → List (List Int) → (List Int → List Int) → Prop
  | press {b : Int} (h0 : 0 ≤ b) (h1 : b < (pan.length : Int)) : Ed pan (.tuple [.str "press", .int b]) pan (fun st => pressM pan st b)
  | link {one other : Int} (h : InP2 pan one other) (hn : other ∉ pan.getD one.toNat []) : Ed pan (dLk "link" one other) (liM pan one other) (fun st => st)
  | unlink {one other : Int} (h : InP2 pan one other) (hn : other ∈ pan.getD one.toNat []) : Ed pan (dLk "unlink" one other) (unM pan one other) (fun st => st)
theorem Ed.lf {pan pan' : List (List Int)} {d : PyData} {f : List Int → List Int} (h : Ed pan d pan' f) : lf d = true := by cases h <;> rfl
theorem Ed.good {pan pan' : List (List Int)} {d : PyData} {f : List Int → List Int} (h : Ed pan d pan' f) (g : Good pan) : Good pan' ∧ pan'.length = pan.length := by
  cases h with
  | press _ _ => exact ⟨g, rfl⟩
  | link h hn => exact ⟨(good_li g h hn).1, (good_li g h hn).2.1⟩
  | unlink h hn => exact ⟨(good_un g h hn).1, (good_un g h hn).2.1⟩
theorem Ed.asc {pan pan' : List (List Int)} {d : PyData} {f : List Int → List Int} (h : Ed pan d pan' f) (g : Good pan) {st : List Int} (hst : Asc pan.length st) : Asc pan'.length (f st) := by
  cases h with
  | press _ _ => exact pressM_asc _ _ _
  | link h hn => rw [(good_li g h hn).2.1]; exact hst
  | unlink h hn => rw [(good_un g h hn).2.1]; exact hst
/-- what the law keeps: a list of the panel and the state -/
def dPS (pan : List (List Int)) (st : List Int) : PyData := .list [dPan pan, dInts st]
def nAfter : List Str := ["_law_state_here", "_law_edit_here", "_law_panel_here", "_law_latched"]
theorem scAfter : FnScope nAfter ["_law_state_here", "_law_edit_here"] (defScope sAfter) := ⟨rfl, rfl, rfl, by decide +kernel, rfl, by decide +kernel, by decide +kernel⟩
section
variable {P : Program} {w : World} {K : PySem.W.Frag} {mg : Str → Option Value} {base : Heap}
def spAfter (K : PySem.W.Frag) : Sp := fun vs H Q _ => ∃ (a l : Addr) (vp e : V) (pan pan' : List (List Int)) (st : List Int) (d : PyData) (f : List Int → List Int), vs = [.ref a, e] ∧ H a = some (.lst [vp, .ref l]) ∧ Dp K H vp (dPan pan) ∧ H l = some (.tup (st.map V.int)) ∧ Dp K H e d ∧ Good pan ∧ Asc pan.length st ∧ Ed pan d pan' f ∧
  ∀ H' a p l', Same H H' → H a = none → H' a = some (.lst [p, .ref l']) → Dp K H' p (dPan pan') → H' l' = some (.tup ((f st).map V.int)) → Q (.ref a) H'
theorem ok_After {fPressed : Addr} {fdPressed : FuncData} {fChanged : Addr} {fdChanged : FuncData} {f : Addr} {fd : FuncData} {k : Nat} (F : Fun K "_law_after" "_law_after" sAfter f fd)
    (FPressed : Fun K "_law_pressed" "_law_pressed" sPressed fPressed fdPressed) (bPressed : Binds K fdPressed ["_law_panel_here", "_law_state_here", "_law_button"] []) (gPressed : mg "_law_pressed" = some (.ref fPressed))
    (FChanged : Fun K "_law_changed" "_law_changed" sChanged fChanged fdChanged) (bChanged : Binds K fdChanged ["_law_panel_here", "_law_one", "_law_other", "_law_is_link"] []) (gChanged : mg "_law_changed" = some (.ref fChanged))
    (m_int : mg "int" = none) (m_sorted : mg "sorted" = none) (m_tuple : mg "tuple" = none) : FnOk P w K mg base CX0 (k + 2) f fd ["_law_state_here", "_law_edit_here"] (spAfter K) := by
  have GPressed : FnOk P w K mg base CX0 (k + 1) fPressed fdPressed ["_law_panel_here", "_law_state_here", "_law_button"] (spPressed K) := ok_Pressed FPressed m_sorted m_tuple
  have GChanged : FnOk P w K mg base CX0 (k + 1) fChanged fdChanged ["_law_panel_here", "_law_one", "_law_other", "_law_is_link"] (spChanged K) := ok_Changed FChanged m_int m_sorted m_tuple
  refine F.ok scAfter (fun vs H Q E h => ?_) (fun cdv A outer s H vs Q E hr h => ?_)
  · obtain ⟨a, l, vp, e, pan, pan', st, d, f, rfl, _⟩ := h
    rfl
  · obtain ⟨a, l, vp, e, pan, pan', st, d, f, rfl, ea, dp, el, de, hg, hst, hE, q⟩ := h
    refine ⟨_, pss_cons (ps_asg (pv 0) (pg_unl rfl (pgs_cons (pg_name (i := 2) scAfter.nd rfl (Or.inl rfl)) (pgs_cons (pg_name (i := 3) scAfter.nd rfl (Or.inl rfl)) pgs_nil))))
      (pss_cons (ps_if (pt_cmpR op_eq (pe_ix (show IxR _ (rIxT K) from ix_tup) (pv 1) pe_int (fun _ _ => rfl)) pe_str (nomark _)) (pss_one (ps_ret (pe_lst (pa_cons (pv 2) (pa_cons (pe_call GPressed (hr.mono (by omega)) (by rfl) gPressed FPressed.kp bPressed .nil pass0 (pa_cons (pv 2) (pa_cons (pv 3) (pa_cons (pe_ix (show IxR _ (rIxT K) from ix_tup) (pv 1) pe_int (fun _ _ => rfl)) pa_nil)))) pa_nil))))) pss_nil)
      (pss_one (ps_ret (pe_lst (pa_cons (pe_call GChanged (hr.mono (by omega)) (by rfl) gChanged FChanged.kp bChanged .nil pass0 (pa_cons (pv 2) (pa_cons (pe_ix (show IxR _ (rIxT K) from ix_tup) (pv 1) pe_int (fun _ _ => rfl)) (pa_cons (pe_ix (show IxR _ (rIxT K) from ix_tup) (pv 1) pe_int (fun _ _ => rfl)) (pa_cons (pe_cmpR op_eq (pe_ix (show IxR _ (rIxT K) from ix_tup) (pv 1) pe_int (fun _ _ => rfl)) pe_str (nomark _)) pa_nil))))) (pa_cons (pv 3) pa_nil)))))), ?_⟩
    have dl : Dp K H (.ref l) (dInts st) := dp_ints (.inl (.inl el))
    refine ⟨.ref a, rfl, a, _, rfl, .inl (.inl ea), rfl, vp, [.ref l], rfl, .ref l, [], rfl, rfl, ?_⟩
    cases hE with
    | press h0 h1 =>
      refine gs_if1 (gvt_test (K := K) (gv_eqS (gv_ixT (j := 0) (gv_var rfl de) gv_int rfl rfl) gv_str)) (fun _ H1 s1 => ?_) (fun z => by simp at z)
      refine ⟨vp, rfl, vp, rfl, .ref l, rfl, (gv_ixT (K := K) (j := 1) (d := .int _) (gv_var rfl (de.sm s1)) gv_int rfl rfl).at fun w H2 s2 dw => ?_⟩
      cases dw
      have s12 := s1.trans s2
      refine ⟨pan, st, _, .cons (dp.sm s12) (.cons (dl.sm s12) (.cons (.int _) .nil)), hst, hg.few, h0, h1, fun H3 t s3 et => ⟨by show 2 ≤ sizeLine; decide, fun b nb => ?_⟩⟩
      have s4 := same_new (o := .lst [vp, .ref t]) nb
      have sA := (s12.trans s3).trans s4
      exact q _ b vp t sA ((s12.trans s3).free nb) upd_same (dp.sm sA) (s4 _ _ et)
    | link h hn =>
      refine gs_no (gvt_test (K := K) (gv_eqS (gv_ixT (j := 0) (gv_var rfl de) gv_int rfl rfl) gv_str)) (by decide +kernel) fun H1 s1 => ?_
      refine (gv_Changed (K := K) (fl := true) (gva_cons (gv_var rfl (dp.sm s1)) (gva_cons (gv_ixT (j := 1) (gv_var rfl (de.sm s1)) gv_int rfl rfl) (gva_cons (gv_ixT (j := 2) (gv_var rfl (de.sm s1)) gv_int rfl rfl) (gva_cons ((gv_eqS (gv_ixT (j := 0) (gv_var rfl (de.sm s1)) gv_int rfl rfl) gv_str).to (by rw [decide_eq_true rfl])) gva_nil)))) ⟨hg, h, fun _ => hn, (fun z => by cases z)⟩).at fun vq H2 s2 dq => ⟨.ref l, rfl, by show 2 ≤ sizeLine; decide, fun b nb => ?_⟩
      have s4 := same_new (o := .lst [vq, .ref l]) nb
      have sA := (s1.trans s2).trans s4
      exact q _ b vq l sA ((s1.trans s2).free nb) upd_same (dq.sm s4) (sA _ _ el)
    | unlink h hn =>
      refine gs_no (gvt_test (K := K) (gv_eqS (gv_ixT (j := 0) (gv_var rfl de) gv_int rfl rfl) gv_str)) (by decide +kernel) fun H1 s1 => ?_
      refine (gv_Changed (K := K) (fl := false) (gva_cons (gv_var rfl (dp.sm s1)) (gva_cons (gv_ixT (j := 1) (gv_var rfl (de.sm s1)) gv_int rfl rfl) (gva_cons (gv_ixT (j := 2) (gv_var rfl (de.sm s1)) gv_int rfl rfl) (gva_cons ((gv_eqS (gv_ixT (j := 0) (gv_var rfl (de.sm s1)) gv_int rfl rfl) gv_str).to (by rw [decide_eq_false (by decide +kernel)])) gva_nil)))) ⟨hg, h, (fun z => by cases z), fun _ => hn⟩).at fun vq H2 s2 dq => ⟨.ref l, rfl, by show 2 ≤ sizeLine; decide, fun b nb => ?_⟩
      have s4 := same_new (o := .lst [vq, .ref l]) nb
      have sA := (s1.trans s2).trans s4
      exact q _ b vq l sA ((s1.trans s2).free nb) upd_same (dq.sm s4) (sA _ _ el)
end
def nEdit : List Str := ["_law_deck_here", "_law_state_here", "_law_panel_here", "_law_latched", "_law_n", "_law_one", "_law_other"]
theorem scEdit : FnScope nEdit ["_law_deck_here", "_law_state_here"] (defScope sEdit) := ⟨rfl, rfl, rfl, by decide +kernel, rfl, by decide +kernel, by decide +kernel⟩
section
variable {P : Program} {w : World} {K : PySem.W.Frag} {mg : Str → Option Value} {base : Heap}
def spEdit (K : PySem.W.Frag) : Sp := fun vs H Q _ => ∃ (a c b : Addr) (m : Nat) (pan : List (List Int)) (st : List Int) (ws : List V), vs = [.ref a, .ref b] ∧ Deck H a c (m + 10) ∧ b ≠ a ∧ b ≠ c ∧ H b = some (.lst ws) ∧ DpAll K H ws [dPan pan, dInts st] ∧ Good pan ∧
  ∀ H' v d pan' f, But a c H H' → Deck H' a c m → Dp K H' v d → Ed pan d pan' f → Q v H'
theorem ok_Edit {fDraw : Addr} {fdDraw : FuncData} {f : Addr} {fd : FuncData} {k : Nat} (F : Fun K "_law_edit" "_law_edit" sEdit f fd)
    (FDraw : Fun K "_law_draw" "_law_draw" sDraw fDraw fdDraw) (bDraw : Binds K fdDraw ["_law_deck_here", "_law_many"] []) (gDraw : mg "_law_draw" = some (.ref fDraw))
    (m_int : mg "int" = none) (m_len : mg "len" = none) : FnOk P w K mg base CX0 (k + 2) f fd ["_law_deck_here", "_law_state_here"] (spEdit K) := by
  have GDraw : FnOk P w K mg base CX0 (k + 1) fDraw fdDraw ["_law_deck_here", "_law_many"] spDraw := ok_draw FDraw m_len
  refine F.ok scEdit (fun vs H Q E h => ?_) (fun cdv A outer s H vs Q E hr h => ?_)
  · obtain ⟨a, c, b, m, pan, st, ws, rfl, _⟩ := h
    rfl
  · obtain ⟨a, c, b, m, pan, st, ws, rfl, hD, ba, bc, eb, dw, hg, q⟩ := h
    refine ⟨_, pss_cons (ps_asg (pv 1) (pg_unl rfl (pgs_cons (pg_name (i := 2) scEdit.nd rfl (Or.inl rfl)) (pgs_cons (pg_name (i := 3) scEdit.nd rfl (Or.inl rfl)) pgs_nil))))
      (pss_cons (ps_set (i := 4) scEdit.nd rfl (.inl rfl) (pe_callB (show CallR _ _ (rLenG K) from cr_lenG) (by rfl) m_len PySem.boot_len (pa_cons (pv 2) pa_nil)))
      (pss_cons (ps_par (i := 5) (j := 6) rfl scEdit.nd rfl rfl (by decide) rfl rfl (pa_cons (pe_call GDraw (hr.mono (by omega)) (by rfl) gDraw FDraw.kp bDraw .nil pass0 (pa_cons (pv 0) (pa_cons (pv 4) pa_nil))) (pa_cons (pe_call GDraw (hr.mono (by omega)) (by rfl) gDraw FDraw.kp bDraw .nil pass0 (pa_cons (pv 0) (pa_cons (pv 4) pa_nil))) pa_nil)) (by rfl))
      (pss_cons (ps_if (PW.pt (pw_or (pt_cmpR op_gt (pe_call GDraw (hr.mono (by omega)) (by rfl) gDraw FDraw.kp bDraw .nil pass0 (pa_cons (pv 0) (pa_cons pe_int pa_nil))) pe_int (nomark _)) (pw_or1 (pt_cmpR op_eq (pv 5) (pv 6) (nomark _))))) (pss_one (ps_ret (pe_tup (pa_cons pe_str (pa_cons (pv 5) pa_nil))))) pss_nil)
      (pss_one (ps_ret (pe_tup (pa_cons (pe_ix (show IxR _ (rIxL K) from ix_list) (pe_lst (pa_cons pe_str (pa_cons pe_str pa_nil))) (pe_callTy call_int1 (by rfl) m_int (by decide +kernel) (pa_cons (pe_cmpR (show OpR _ _ (rIn K false) from op_in_seq) (pv 6) (pe_ix (show IxR _ (rIxT K) from ix_tup) (pv 2) (pv 5) (fun _ _ => rfl)) (by rfl)) pa_nil)) (fun _ _ => rfl)) (pa_cons (pv 5) (pa_cons (pv 6) pa_nil))))))))), ?_⟩
    obtain ⟨vp, vl, rfl, dp, dl⟩ := dpAll2 dw
    have few := hg.few
    have pos := hg.pos
    have hlp : (pan.map dInts).length = pan.length := List.length_map _
    refine ⟨.ref b, rfl, b, _, rfl, .inl (.inl eb), rfl, vp, [vl], rfl, vl, [], rfl, rfl, ?_⟩
    refine gs_set1 (K := K) (gv_lenT (gv_var rfl dp)) fun vn H1 s1 dn => ?_
    cases dn
    rw [hlp]
    refine ⟨.ref a, rfl, .int (pan.length : Int), rfl, a, c, m + 9, (pan.length : Int), rfl, (hD.same s1).less (by omega), by omega, by omega, fun H2 one b2 D2 o0 o1 => ?_⟩
    refine ⟨.ref a, rfl, .int (pan.length : Int), rfl, a, c, m + 8, (pan.length : Int), rfl, D2.less (by omega), by omega, by omega, fun H3 other b3 D3 u0 u1 => ⟨_, _, rfl, ?_⟩⟩
    have B3 : But a c H H3 := ((But.of s1).trans b2).trans b3
    have k3 : Kp H H3 := ((Kp.of s1).trans (Kp.but (hD.same s1) b2)).trans (Kp.but D2 b3)
    refine ⟨.ref a, rfl, a, c, m + 7, 3, rfl, D3.less (by omega), by decide, by decide, fun H4 r b4 D4 r0 r1 => ?_⟩
    have B4 := B3.trans b4
    have k4 := k3.trans (Kp.but D3 b4)
    have dp4 := dp.kp k4 (lf_pan _)
    have pr : Q = Q → ∀ H', Same H4 H' → tRet (tTup (tCons (tC (.str "press")) (tCons (tVar 5) tNil))) { nx := fun _ H' => Q .non H', rt := Q } [some (.ref a), some (.ref b), some vp, some vl, some (.int (pan.length : Int)), some (.int one), some (.int other)] H' := fun _ H' s' => gs_ret (K := K) (gv_tup (gva_cons gv_str (gva_cons (gv_var rfl (.int one)) gva_nil))) fun v H5 s5 dv => q H5 v _ _ _ (B4.trans (But.of (s'.trans s5))) ((D4.same (s'.trans s5)).less (by omega)) dv (.press o0 o1)
    refine ⟨_, _, rfl, rfl, _, rfl, ite2 (fun e => ?_) (fun e => ?_)⟩
    · exact iteT (pr rfl H4 (Same.refl _))
    · refine (gvt_test (K := K) (gv_eqI (gv_var rfl (.int one)) (gv_var rfl (.int other)))).at fun H5 s5 => ?_
      by_cases eq : one = other
      · rw [decide_eq_true eq]
        exact iteT (pr rfl H5 s5)
      · rw [decide_eq_false eq]
        refine iteF ?_
        have dp5 := dp4.sm s5
        have hI : InP2 pan one other := ⟨o0, o1, u0, u1, eq⟩
        by_cases hm : other ∈ pan.getD one.toNat []
        · refine gs_ret (K := K) (gv_tup (gva_cons (gv_ixL (j := 1) (d := .str "unlink") (gv_lst (gva_cons gv_str (gva_cons gv_str gva_nil))) ((gv_intB rfl (gv_inT (neg := false) (gv_var rfl (.int other)) (gv_pan (gv_var rfl dp5) (gv_var rfl (.int one)) o0 o1))).to (by rw [if_neg Bool.false_ne_true, decide_eq_true hm]; rfl)) rfl rfl) (gva_cons (gv_var rfl (.int one)) (gva_cons (gv_var rfl (.int other)) gva_nil)))) fun v H6 s6 dv => q H6 v _ _ _ (B4.trans (But.of (s5.trans s6))) ((D4.same (s5.trans s6)).less (by omega)) dv (.unlink hI hm)
        · refine gs_ret (K := K) (gv_tup (gva_cons (gv_ixL (j := 0) (d := .str "link") (gv_lst (gva_cons gv_str (gva_cons gv_str gva_nil))) ((gv_intB rfl (gv_inT (neg := false) (gv_var rfl (.int other)) (gv_pan (gv_var rfl dp5) (gv_var rfl (.int one)) o0 o1))).to (by rw [if_neg Bool.false_ne_true, decide_eq_false hm]; rfl)) rfl rfl) (gva_cons (gv_var rfl (.int one)) (gva_cons (gv_var rfl (.int other)) gva_nil)))) fun v H6 s6 dv => q H6 v _ _ _ (B4.trans (But.of (s5.trans s6))) ((D4.same (s5.trans s6)).less (by omega)) dv (.link hI hm)
end
end K48
namespace Pr
open PySem PySem.Spec PyProof.Rows L2
def tFin (t tf : TS) : TS := fun D σ H => t { nx := fun σ1 H1 => tf D σ1 H1, rt := fun _ _ => False } σ H
section
variable {X : Cx} {body : List Stmt} {f₀ : Stmt} {fs : List Stmt} {pos : Pos} {t tf tfs : TS} {tb : WX → TS} {Wout : WX}
theorem fin_next {D : Ends} {pins : List (Addr × Obj)} {s : Shared} {σ : L2.St} {H : Hp} {E : Value → Shared → Prop} (hf : PSs X.nox (f₀ :: fs) tf) (I : Inv X pins σ H s) (h : tf D σ H) :
    wpAny (model X.prog X.w) X.A (execs (f₀ :: fs) X.env) (fun g s' => match g with
      | .next => SP X pins D .next s'
      | g => SP X pins D g s') E s := by
  refine wpAny_mono (hf.run pins s σ H D (I.wish _) h) (fun g s1 q => ?_) fun _ _ z => False.elim z
  have q' : SP X pins D g s1 := q.unwish
  cases g <;> exact q'
end
end Pr
namespace Pr
open PySem PySem.Spec PyProof.Rows L2 PySem.Builtin PySem.Builtin.ObjectAttr
section
variable {X : Cx} {e : Expr} {es : List Expr} {ta : TA} {p pos : Pos}
/-- what such a making leaves behind -/
theorem made_endN {pins : List (Addr × Obj)} {σ : L2.St} {H1 H2 : Hp} {Q : XK} {hp hp2 h2 : Heap} {g1 g2 : Array GenState} {d1 d2 : Drawn} {t1 t2 : Nat} {os1 os2 : OsState} {a C d : Addr} {fs : List (Str × V)} (T : Raises X (.ref C)) (J : Inv X pins σ H1 ⟨hp, g1, d1, t1, os1⟩)
    (ha : hp.objs.size ≤ a) (old : ∀ b o, hp.get? b = some o → hp2.get? b = some o) (un : Un (frs X.stack) [] (upd H1 a (exo a C none)) H2 hp2 h2) (hok : HOk X.prog X.w H2 h2) (ho : os2 = os1) (hb : AllBare g2)
    (ea : H2 a = some (exo a C (some d))) (ed : H2 d = some (exd d fs)) (nd : H1 d = none) (q : Q (.ref C) (some d) (upd (del H2 a) d (.xd fs))) : L2N.MkP X pins σ Q (.ref a) ⟨h2, g2, d2, t2, os2⟩ := by
  obtain ⟨tA, G, JG, kG, fresh, there, gone⟩ := mk_end0 (d2 := d2) (t2 := t2) J ha old un hok ho hb ea ed nd
  exact ⟨a, _, _, ⟨G, g2, d2, t2, os2⟩, _, .ref C, some d, rfl, JG, kG, fresh, there, ⟨rfl, rfl, fun vs z => by cases z; rfl⟩, rfl, rfl, gone, rfl, hb, T, q⟩
theorem pmkN_oel {CX : CXT} {x : Str} {C fI : Addr} {k : Nat} {fd : FuncData} {ps : List Str} {sp : Sp} (T : OelC X.K C) (iC : PySem.W.findIn X.K (.ref C) "__init__" = some (some (.ref fI))) (tI : PySem.W.typeIn X.K (.ref fI) = some (.type "function"))
    (F1 : FnOk X.prog X.w X.K X.mg X.base CX k fI fd ps sp) (hr : Room (k + 1) X.A) (hb : Binds X.K fd ps []) (hx : Passes CX X (fun _ _ _ => False)) (hg : Gl X x) (hm : X.mg x = some (.ref C)) (ha : PA X (e :: es) ta)
    (hdb : (x == ("__debug__" : Str)) = false := by decide) (hse : starEach (e :: es) X.env = (false, eval e X.env) :: starEach es X.env := by rfl) (hsp : (backTo pos (starEach es X.env)).any (·.1) = false := by rfl) :
    L2N.PMk X (.Call (.Name x p) (e :: es) [] pos) (tMkO C sp [] ta) := by
  intro pins s σ H Q J h
  obtain ⟨nm, q, N, bs, sn, sub, ab, col, dd, k0, k1, k2, k3, k5, hC⟩ := T.cls
  refine wpAny_Call_Name_kw (ld_glob J hg hm (PySem.W.callWith_K (h₀ := X.base) J.ok.mod.kin T.kC (thn (ha.run pos pins s σ H _ J h) fun us s1 ⟨vs, H1, J1, r1, hz, q1⟩ => ⟨J1.kIn, ?_⟩) hse hsp) hdb)
  show wpAny _ _ (call (.ref C) us) _ _ _
  obtain ⟨hp, g, dr, tk, os⟩ := s1
  have le1 : hp.objs.size ≤ hp.objs.size + 1 := Nat.le_succ _
  have hq := q1 (hp.objs.size + 1) (J1.hok.fresh le1)
  rw [List.append_nil] at hq
  have old : ∀ b o, hp.get? b = some o → ((hp.push (PySem.W.kdv_tup us)).push (PySem.HandSPX.excO C hp.objs.size)).get? b = some o := fun b o z => Heap.get?_push_of_some _ (Heap.get?_push_of_some _ z)
  have new : ((hp.push (PySem.W.kdv_tup us)).push (PySem.HandSPX.excO C hp.objs.size)).get? (hp.objs.size + 1) = some (PySem.HandSPX.excO C hp.objs.size) := by heap_get
  have J2 : Inv X pins σ (upd H1 (hp.objs.size + 1) (exo (hp.objs.size + 1) C none)) ⟨(hp.push (PySem.W.kdv_tup us)).push (PySem.HandSPX.excO C hp.objs.size), g, dr, tk, os⟩ := J1.laid (t' := tk) old le1 (exo_ok new)
  have r2 : Vals (V.ref (hp.objs.size + 1) :: vs) (Value.ref (hp.objs.size + 1) :: us) := .cons rfl r1
  have hln : (Value.ref (hp.objs.size + 1) :: us).length = ps.length := by rw [← r2.length]; exact F1.len _ _ _ _ hq
  have hus : us.length ≤ sizeLine := by
    have := Paired.length r1
    rw [sizeLine_eq]; omega
  have hbd := hb _ (Value.ref (hp.objs.size + 1) :: us) J2.kIn (by rw [List.append_nil]; exact hln)
  rw [List.append_nil] at hbd
  refine wpAny_call (PySem.HandSPX.call_own F.excBase_LookupError (fun _ => rfl) (J1.kIn _ _ hC) (PySem.W.looks_findIn J1.kIn iC) (fun self => PySem.W.bind_fn J1.kIn self tI) hus (codeAny_mono (F1.run _ X.stack _ _ ⟨Value.ref (hp.objs.size + 1) :: us, []⟩ (Value.ref (hp.objs.size + 1) :: us) _ _ (fun _ _ _ => False) (hr.make C us []) (J2.env0.make C us []) hbd r2 hq) fun rs s' hE => ?_))
  cases rs with
  | error er => exact hx pins σ _ _ er s' J2 hE
  | ok fl =>
    cases fl with
    | ret u =>
      obtain ⟨v, H2, o2, bare, un2, hok2, rv, ev, d, fs, ea, ed, hd1, q2⟩ := hE
      cases ev
      obtain ⟨h2, g2, d2, t2, os'⟩ := s'
      exact ⟨rv, made_endN (raises_own T.exC T.tyC) J1 le1 old un2 hok2 o2 bare ea ed hd1 q2⟩
    | next => exact hE.elim
    | brk => exact hE.elim
    | cont => exact hE.elim
theorem pmkN_oex {CX : CXT} {x : Str} {C fI : Addr} {k : Nat} {fd : FuncData} {ps : List Str} {sp : Sp} (T : OexC X.K C) (iC : PySem.W.findIn X.K (.ref C) "__init__" = some (some (.ref fI))) (tI : PySem.W.typeIn X.K (.ref fI) = some (.type "function"))
    (F1 : FnOk X.prog X.w X.K X.mg X.base CX k fI fd ps sp) (hr : Room (k + 1) X.A) (hb : Binds X.K fd ps []) (hx : Passes CX X (fun _ _ _ => False)) (hg : Gl X x) (hm : X.mg x = some (.ref C)) (ha : PA X (e :: es) ta)
    (hdb : (x == ("__debug__" : Str)) = false := by decide) (hse : starEach (e :: es) X.env = (false, eval e X.env) :: starEach es X.env := by rfl) (hsp : (backTo pos (starEach es X.env)).any (·.1) = false := by rfl) :
    L2N.PMk X (.Call (.Name x p) (e :: es) [] pos) (tMkO C sp [] ta) := by
  intro pins s σ H Q J h
  obtain ⟨nm, q, N, bs, bm, sn, sub, ab, col, dd, k0, k1, k2, k3, k5, hC, hbm⟩ := T.cls
  refine wpAny_Call_Name_kw (ld_glob J hg hm (PySem.W.callWith_K (h₀ := X.base) J.ok.mod.kin T.kC (thn (ha.run pos pins s σ H _ J h) fun us s1 ⟨vs, H1, J1, r1, hz, q1⟩ => ⟨J1.kIn, ?_⟩) hse hsp) hdb)
  show wpAny _ _ (call (.ref C) us) _ _ _
  obtain ⟨hp, g, dr, tk, os⟩ := s1
  have le1 : hp.objs.size ≤ hp.objs.size + 1 := Nat.le_succ _
  have hq := q1 (hp.objs.size + 1) (J1.hok.fresh le1)
  rw [List.append_nil] at hq
  have old : ∀ b o, hp.get? b = some o → ((hp.push (PySem.W.kdv_tup us)).push (PySem.HandSPX.excO C hp.objs.size)).get? b = some o := fun b o z => Heap.get?_push_of_some _ (Heap.get?_push_of_some _ z)
  have new : ((hp.push (PySem.W.kdv_tup us)).push (PySem.HandSPX.excO C hp.objs.size)).get? (hp.objs.size + 1) = some (PySem.HandSPX.excO C hp.objs.size) := by heap_get
  have J2 : Inv X pins σ (upd H1 (hp.objs.size + 1) (exo (hp.objs.size + 1) C none)) ⟨(hp.push (PySem.W.kdv_tup us)).push (PySem.HandSPX.excO C hp.objs.size), g, dr, tk, os⟩ := J1.laid (t' := tk) old le1 (exo_ok new)
  have r2 : Vals (V.ref (hp.objs.size + 1) :: vs) (Value.ref (hp.objs.size + 1) :: us) := .cons rfl r1
  have hln : (Value.ref (hp.objs.size + 1) :: us).length = ps.length := by rw [← r2.length]; exact F1.len _ _ _ _ hq
  have hus : us.length ≤ sizeLine := by
    have := Paired.length r1
    rw [sizeLine_eq]; omega
  have hbd := hb _ (Value.ref (hp.objs.size + 1) :: us) J2.kIn (by rw [List.append_nil]; exact hln)
  rw [List.append_nil] at hbd
  refine wpAny_call (PySem.HandSPX.call_own F.excBase_ValueError (fun Y => PySem.HandSPX.refsVE_contains Y bm hbm) (J1.kIn _ _ hC) (PySem.W.looks_findIn J1.kIn iC) (fun self => PySem.W.bind_fn J1.kIn self tI) hus (codeAny_mono (F1.run _ X.stack _ _ ⟨Value.ref (hp.objs.size + 1) :: us, []⟩ (Value.ref (hp.objs.size + 1) :: us) _ _ (fun _ _ _ => False) (hr.make C us []) (J2.env0.make C us []) hbd r2 hq) fun rs s' hE => ?_))
  cases rs with
  | error er => exact hx pins σ _ _ er s' J2 hE
  | ok fl =>
    cases fl with
    | ret u =>
      obtain ⟨v, H2, o2, bare, un2, hok2, rv, ev, d, fs, ea, ed, hd1, q2⟩ := hE
      cases ev
      obtain ⟨h2, g2, d2, t2, os'⟩ := s'
      exact ⟨rv, made_endN (raises_own T.exC T.tyC) J1 le1 old un2 hok2 o2 bare ea ed hd1 q2⟩
    | next => exact hE.elim
    | brk => exact hE.elim
    | cont => exact hE.elim
theorem pmkN_own0 {C : Addr} {bmB : List Value} {B newId initId : String} {x : Str} (F : ExcBaseFacts B newId initId bmB) (q : PySem.W.excIn X.K C bmB newId = true) (gC : X.mg x = some (.ref C)) (kC : PySem.W.keepIn X.K (.ref C) = true) (r : Raises X (.ref C)) (hg : Gl X x)
    (hdb : (x == ("__debug__" : Str)) = false := by decide) : L2N.PMk X (.Call (.Name x p) [] [] pos) (fun _ H Q => Q (.ref C) none H) := by
  intro pins s σ H Q I h
  refine wpAny_Call_Name_kw (ld_glob I hg gC ?_ hdb)
  refine PySem.W.callWith_K0 I.kIn kC ?_
  show wpAny _ _ (call (.ref C) []) _ _ _
  obtain ⟨bm, N, nm, qn, bs, hdct, sn, sub, ab, col, dd, k0, k1, k2, k3, k5, mN, hC, hN, hni, T⟩ := exc_obj I.kIn q
  refine wpAny_call_exc_subT F T hC hN hni (fun h' e hm => ?_) (by show 0 ≤ sizeLine; omega)
  exact L2N.mk_of I hm r h (I.hok.gone hm.new)
theorem Ex0.madeN {nm : Str} {C : Addr} (T : Ex0 X.K X.mg nm C) (hg : Gl X nm) (hdb : (nm == ("__debug__" : Str)) = false := by decide) : L2N.PMk X (.Call (.Name nm p) [] [] pos) (fun _ H Q => Q (.ref C) none H) :=
  pmkN_own0 PySem.F.excBase_ValueError T.q T.g T.k (raises_own T.s T.t) hg hdb
end
section
variable {P : Program} {w : World} {K : PySem.W.Frag} {mg : Str → Option Value} {base : Heap}
theorem Fun.okN {x qual : Str} {st : Stmt} {f : Addr} {fd : FuncData} {N ps : List Str} {k : Nat} {sp : Sp} (F : Fun K x qual st f fd) (S : FnScope N ps (defScope st)) (len : ∀ vs H Q E, sp vs H Q E → vs.length = ps.length)
    (hbody : ∀ (cdv : Value) (A : Around) (outer : List Env) (s : Shared) (H : Hp) (vs : List V) (Q : VK) (E : XK), Room k (A.deeper (envOfC qual (defScope st) s.heap.objs.size f cdv)) → sp vs H Q E →
      ∃ t, PSs (cxOf (L2N.CX P w) P w K mg base N qual (defScope st) f cdv A outer s H E) (defBody st) t ∧ t { nx := fun _ H' => Q .non H', rt := Q } (start N vs) H) : FnOk P w K mg base (L2N.CX P w) (k + 1) f fd ps sp := by
  obtain ⟨oc, od, kV, doc, pm, an, cdv, ct, osl, e, lk, hcd⟩ := F.ex
  subst e
  exact fn_of lk hcd S len (hbody cdv)
/-- a def called while an error is handled -/
theorem Fun.okH {x qual : Str} {st : Stmt} {f : Addr} {fd : FuncData} {N ps : List Str} {k : Nat} {sp : Sp} {CX : CXT} (F : Fun K x qual st f fd) (S : FnScope N ps (defScope st)) (len : ∀ vs H Q E, sp vs H Q E → vs.length = ps.length)
    (hbody : ∀ (cdv : Value) (A : Around) (outer : List Env) (s : Shared) (H : Hp) (vs : List V) (Q : VK) (E : XK) (q : Addr × Obj), L2H.Hot1 A q → L2H.RoomH k (A.deeper (envOfC qual (defScope st) s.heap.objs.size f cdv)) → sp vs H Q E →
      ∃ t, PSs (L2H.cxH CX P w K mg base N qual (defScope st) f cdv A outer s H E q) (defBody st) t ∧ t { nx := fun _ H' => Q .non H', rt := Q } (start N vs) H) : L2H.FnH P w K mg base CX (k + 1) f fd ps sp := by
  obtain ⟨oc, od, kV, doc, pm, an, cdv, ct, osl, e, lk, hcd⟩ := F.ex
  subst e
  exact L2H.fn_ofH lk hcd S len (hbody cdv)
end
end Pr
namespace Pr
open PySem PySem.Spec PyProof.Rows L2
abbrev ClsN := List (Value × Nat × (Addr → Value → Option Addr → TS))
def wNm (K : PySem.W.Frag) (D : Ends) : ClsN → WX
  | [] => fun _ _ _ _ => False
  | (c, i, ts) :: more => fun cls dx σ H => ∃ yes, PySem.W.exmOne K cls c = some yes ∧
      (yes = true → ∀ ad, H ad = none → ts ad cls dx { nx := fun z Hz => D.nx (z.set i none) Hz, rt := D.rt, bk := fun z Hz => D.bk (z.set i none) Hz, ct := fun z Hz => D.ct (z.set i none) Hz } (σ.set i (some (.ref ad))) H) ∧
      (yes = false → wNm K D more cls dx σ H)
/-- the clauses and what they are read as -/
inductive HdN (X : Cx) : List ExceptHandler → ClsN → Prop
  | none : HdN X [] []
  | one {nm n : Str} {c : Value} {i : Nat} {ts : Addr → Value → Option Addr → TS} {st0 : Stmt} {suite : List Stmt} {np pos' : Pos} {more : List ExceptHandler} {l : ClsN} (ni : X.N[i]? = some n) (lo : X.env.kindOf n = some .local) (hnm : Names X nm c)
      (hsuite : ∀ (ad : Addr) (oe : Obj) (cls : Value) (dx : Option Addr) (pn : List (Addr × Obj)), Zc cls dx oe → (∃ vs, oe.data = .fields vs) → PSs (X.suite ad ((ad, oe) :: pn)) (st0 :: suite) (ts ad cls dx)) (rest : HdN X more l) :
      HdN X (.ExceptHandler (some (.Name nm np)) (some n) (st0 :: suite) pos' :: more) ((c, i, ts) :: l)
section
variable {X : Cx} {body : List Stmt} {pos : Pos} {tb : WX → TS} {h0 : ExceptHandler} {more : List ExceptHandler} {cs : ClsN}
theorem ps_try_nm (hst : X.stack = X.env :: X.outer) (hfr : X.env.frame = some X.env.locals) (nd : X.N.Nodup)
    (hbody : ∀ (W : WX) (pn : List (Addr × Obj)) (xe : Value → Shared → Prop), Takes (X.tr pn xe) W → PassesOwn (model X.prog X.w) X.A X.env xe → PSs (X.tr pn xe) body (tb W))
    (hcs : HdN X (h0 :: more) cs) : PS X (.Try body (h0 :: more) [] [] pos) (fun D σ H => tb (wNm X.K D cs) D σ H) := by
  refine ⟨fun pins s σ H D J0 h0' => wpAny_Try_except ?_⟩
  have hok := J0.ok
  have ffr : X.A.frames = some (X.env :: X.outer) := by rw [hok.frames, hst]
  refine wpAny_mono ((hbody (wNm X.K D cs) (X.pn ++ pins) (fun e sA => wpAny (model X.prog X.w) X.A (noteFrame e X.env) (fun _ sB => wpAny (model X.prog X.w) X.A (setFlight e none) (fun _ sC => wpAny (model X.prog X.w) X.A (handleBy e X.env (h0 :: more)) (SP X pins D) X.xe sC) X.xe sB) X.xe sA) (fun u sR xx => ?_) PassesOwn.looking).run [] s σ H D (J0.toTry _) h0') (fun fl sE hE => ?_) (fun _ _ z => z)
  · obtain ⟨ad, B, sI, pinsI, σI, HI, cls, dx, rfl, JI, nb, up, sky, na, os, ag, hwish⟩ := xx
    have JX : Inv X pins σI HI sI := JI.ofTry hok
    show wpAny (model X.prog X.w) X.A (noteFrame (.ref ad) X.env) _ _ _
    refine Sky.land Zc.steady ffr hfr (by rw [← hst]; exact sky) fun hp fp upp => ?_
    have JL : Inv X pins σI HI { sR with heap := hp } := JX.landed nb fp.1 (up.trans upp) os ag
    obtain ⟨oe, vs, heq, hz, hdt⟩ := fp.there
    have off : ad ∉ frs (X.env :: X.outer) := fun hm => by
      obtain ⟨_, o', e', hnf⟩ := fp.2.2.1.mem hm
      rw [heq] at e'
      cases e'
      exact hnf _ hdt
    have offL : ad ≠ X.env.locals := fun z => off (List.mem_filterMap.mpr ⟨X.env, List.mem_cons_self, by rw [hfr, z]⟩)
    have offF : ad ∉ X.fs := fun hm => by
      obtain ⟨ev, hev, qe⟩ := List.mem_filterMap.mp hm
      exact off (List.mem_filterMap.mpr ⟨ev, List.mem_cons_of_mem _ hev, qe⟩)
    have SL := JL.suite heq hdt na offL offF
    have look : PySem.W.Looks (model X.prog X.w) hp (typeOf (.ref ad)) cls := fun A Q E sX kX qX => wpAny_typeOf_ref (kX _ _ heq) (by rw [hz.1]; exact qX)
    have each : ∀ {hds : List ExceptHandler} {l : ClsN}, HdN X hds l → wNm X.K D l cls dx σI HI → wpAny (model X.prog X.w) X.A (handleBy (.ref ad) X.env hds) (SP X pins D) X.xe { sR with heap := hp } := by
      intro hds l hk
      induction hk with
      | none => intro z; exact False.elim z
      | @one nm n c i ts st0 suite np pos' more' l' ni lo hnm hsuite rest ih =>
        intro z
        obtain ⟨yes, hmt, hyes, hno⟩ := z
        refine wpAny_handleBy_cons (codeAny_handlers_test ?_) (fun q => by cases q)
        have takes := PySem.W.exm_one (M := model X.prog X.w) JL.kIn look hmt
        have cl : ∀ {Q : Value → Shared → Prop} {E : Value → Shared → Prop}, Q c { sR with heap := hp } → wpAny (model X.prog X.w) (X.A.mark (some (.ref ad))) (eval (.Name nm np) X.env) Q E { sR with heap := hp } := fun {Q E} q => by
          obtain ⟨g1, g2, g3 | ⟨g3, g4, g5⟩⟩ := hnm
          · exact ld_glob (X := X.suite ad ((ad, oe) :: (X.pn ++ pins))) SL g1 g3 q g2
          · exact ld_blt (X := X.suite ad ((ad, oe) :: (X.pn ++ pins))) SL g1 g3 g4 q g5 g2
        refine cl (takes.here ?_)
        cases yes with
        | false =>
          show wpAny _ X.A (handleBy (.ref ad) X.env more') _ _ _
          exact ih (hno rfl)
        | true =>
          refine codeAny_handlers_suite_as (HandSPX.lands_againZ fp fun hq fq upq => ?_)
          have JQ : Inv X pins σI HI { sR with heap := hq } := JX.landed nb fq.1 ((up.trans upp).trans upq) os ag
          obtain ⟨oq, vq, heq', hz', hdt'⟩ := fq.there
          refine store_ok (X := X.suite ad ((ad, oq) :: (X.pn ++ pins))) (v := .ref ad) (JQ.suite heq' hdt' na offL offF) nd ni (.inl lo) rfl (fun sS SS => ?_) (.inr lo)
          refine wpAny_mono ((hsuite ad oq cls dx (X.pn ++ pins) hz' ⟨_, hdt'⟩).run [] sS _ HI _ SS (hyes rfl ad na)) (fun fl sT hT => ?_) (fun _ _ z => z.elim)
          have leave : ∀ {σT : L2.St} {HT : Hp} {R : Shared → Prop}, Inv (X.suite ad ((ad, oq) :: (X.pn ++ pins))) [] σT HT sT → (∀ sU, Inv X pins (σT.set i none) HT sU → R sU) → wpAny (model X.prog X.w) X.A (bindName X.env n .none >>= fun _ => unbindBehindTheSuite X.env n pos') (fun _ sU => R sU) X.xe sT := fun ST hR => gone_ok (ST.unsuite hok) nd ni lo hR
          cases fl with
          | next => obtain ⟨_, _, ST, qT⟩ := hT; exact leave ST fun _ JU => ⟨_, _, JU, qT⟩
          | brk => obtain ⟨_, _, ST, qT⟩ := hT; exact leave ST fun _ JU => ⟨_, _, JU, qT⟩
          | cont => obtain ⟨_, _, ST, qT⟩ := hT; exact leave ST fun _ JU => ⟨_, _, JU, qT⟩
          | ret u => obtain ⟨_, _, _, ST, rT, qT⟩ := hT; exact leave ST fun _ JU => ⟨_, _, _, JU, rT, qT⟩
    exact each hcs hwish
  · cases fl with
    | next => obtain ⟨_, _, JE, qE⟩ := hE; exact wpAny_execs_nil ⟨_, _, JE.ofTry hok, qE⟩
    | brk => obtain ⟨_, _, JE, qE⟩ := hE; exact ⟨_, _, JE.ofTry hok, qE⟩
    | cont => obtain ⟨_, _, JE, qE⟩ := hE; exact ⟨_, _, JE.ofTry hok, qE⟩
    | ret u => obtain ⟨_, _, _, JE, rE, qE⟩ := hE; exact ⟨_, _, _, JE.ofTry hok, rE, qE⟩
end
end Pr
namespace Pr
open PySem PySem.Spec PyProof.Rows L2
/-- more is laid: what flies still flies -/
theorem fly_kept {B h h' : Heap} {l : List Env} {a : Addr} {Z : Obj → Prop} (x : HandSPX.FlyingZ B l a Z h) (k : ∀ b o, h.get? b = some o → h'.get? b = some o) : HandSPX.FlyingZ B l a Z h' := by
  obtain ⟨k1, k2, k3, oe, vs, T, oT, ts, he, hz, hd, h1, hnT, hTe, hT, hdT, h3⟩ := x
  exact ⟨fun b o e => k b o (k1 b o e), k2, k3.of_keeps fun b o e _ => ⟨o, k b o e, rfl⟩, oe, vs, T, oT, ts, k _ _ he, hz, hd, h1, hnT, hTe, k _ _ hT, hdT, h3⟩
/-- what the clause wishes: what the body raises is of one of the classes -/
def wFrom (K : PySem.W.Frag) (cs : List Value) (i : Nat) (ts : Addr → Value → Option Addr → TS) (D : Ends) : WX := fun cls d σ H =>
  PySem.W.exmAny K cls cs = some true ∧ PySem.W.subIn K cls (.type "BaseException") = some true ∧
    ∀ a, H a = none → ts a cls d { nx := fun z Hz => D.nx (z.set i none) Hz, rt := D.rt, bk := fun z Hz => D.bk (z.set i none) Hz, ct := fun z Hz => D.ct (z.set i none) Hz } (σ.set i (some (.ref a))) H
/-- the context of a suite that may raise -/
abbrev suiteY (X : Cx) (a : Addr) (pn : List (Addr × Obj)) (xe : Value → Shared → Prop) : Cx := { X with A := X.A.mark (some (.ref a)), calm := false, pn := pn, xe := xe }
end Pr
namespace Pr
open PySem PySem.Spec PyProof.Rows L2 HotX L2H
/-- the heap behind «from x»: the cause is x, and the context is not shown -/
def causeFrom (h : Heap) (a x : Addr) : Heap := (h.update a (Obj.mapFields (·.setIfInBounds 3 (.ref x)))).update a (Obj.mapFields (·.setIfInBounds 4 (.bool true)))
theorem causeFrom_at {h : Heap} {a x : Addr} {oe : Obj} {vs : Array Value} (ha : h.get? a = some oe) (hd : oe.data = .fields vs) :
    (causeFrom h a x).get? a = some ((oe.mapFields (·.setIfInBounds 3 (.ref x))).mapFields (·.setIfInBounds 4 (.bool true))) ∧ ((oe.mapFields (·.setIfInBounds 3 (.ref x))).mapFields (·.setIfInBounds 4 (.bool true))).data = .fields ((vs.setIfInBounds 3 (.ref x)).setIfInBounds 4 (.bool true)) := by
  have d1 := Obj.data_mapFields hd (·.setIfInBounds 3 (.ref x))
  have e1 := Heap.get?_update_self (Obj.mapFields (·.setIfInBounds 3 (.ref x))) ha (Obj.isFreed_of_fields d1)
  have d2 := Obj.data_mapFields d1 (·.setIfInBounds 4 (.bool true))
  exact ⟨Heap.get?_update_self (Obj.mapFields (·.setIfInBounds 4 (.bool true))) e1 (Obj.isFreed_of_fields d2), d2⟩
theorem causeFrom_other {h : Heap} {a b x : Addr} (hne : a ≠ b) : (causeFrom h a x).get? b = h.get? b := by
  unfold causeFrom
  rw [Heap.get?_update_other _ _ hne, Heap.get?_update_other _ _ hne]
/-- the raise itself -/
theorem raise_hot_from {prog : Program} {w : World} {A : Around} {E : Value → Shared → Prop} {env : Env} {s : Shared} {x c : Sem Value} {Q : Flow → Shared → Prop} {x1 : Addr}
    (h : wpAny (model prog w) A x (fun v s₁ => ∃ a oe vs cls ox vx clx, v = .ref a ∧ s₁.heap.get? a = some oe ∧ oe.cls = cls ∧ oe.data = .fields vs ∧ vs[1]? = some .none ∧ 4 < vs.size ∧ x1 ≠ a ∧ HotAt A x1 s₁.heap ∧
      (∀ (Q' : Value → Shared → Prop), Q' (.ref x1) s₁ → wpAny (model prog w) A c Q' E s₁) ∧ s₁.heap.get? x1 = some ox ∧ ox.data = .fields vx ∧ ox.cls = clx ∧ PySem.W.Looks (model prog w) s₁.heap (isSubtype clx (.type "BaseException")) true ∧
      PySem.W.Looks (model prog w) s₁.heap (isSubtype cls (.type "BaseException")) true ∧ PySem.W.Looks (model prog w) (causeFrom s₁.heap a x1) (typeOf cls) (.type "type") ∧
      E (.ref a) { s₁ with heap := (causeFrom s₁.heap a x1).update a (Obj.mapFields (·.setIfInBounds 2 (.ref x1))) }) E s) :
    wpAny (model prog w) A (raiseStmt env (some x) (some c)) Q E s := by
  unfold raiseStmt
  dsimp only
  refine wpAny_bind (wpAny_mono h (fun v s₁ h₁ => ?_) fun _ _ z => z)
  obtain ⟨a, oe, vs, cls, ox, vx, clx, rfl, ha, hcls, hd, h1, hi, hne, hot, hc, hx, hdx, hclx, LB, L1, L3, hE⟩ := h₁
  have lookA : PySem.W.Looks (model prog w) s₁.heap (typeOf (.ref a)) cls := fun A Q E s k q => wpAny_typeOf_ref (k _ _ ha) (by rw [hcls]; exact q)
  have isExc : PySem.W.Looks (model prog w) s₁.heap (isInstance (.ref a) (.type "BaseException")) true := lookA.andThen L1
  have lookX : PySem.W.Looks (model prog w) s₁.heap (typeOf (.ref x1)) clx := fun A Q E s k q => wpAny_typeOf_ref (k _ _ hx) (by rw [hclx]; exact q)
  have isExcX : PySem.W.Looks (model prog w) s₁.heap (isInstance (.ref x1) (.type "BaseException")) true := lookX.andThen LB
  have noType : ∀ {Q' : Bool → Shared → Prop}, Q' false s₁ → wpAny (model prog w) A (isType (.ref a)) Q' E s₁ := by
    intro Q' hq
    simp only [isType, loadHead]
    refine wpAny_bind (wpAny_loadPart ha ?_)
    rw [hd]; exact wpAny_pure hq
  have noTypeX : ∀ {Q' : Bool → Shared → Prop}, Q' false s₁ → wpAny (model prog w) A (isType (.ref x1)) Q' E s₁ := by
    intro Q' hq
    simp only [isType, loadHead]
    refine wpAny_bind (wpAny_loadPart hx ?_)
    rw [hdx]; exact wpAny_pure hq
  have d3 := Obj.data_mapFields hd (·.setIfInBounds 3 (.ref x1))
  have a3 := Heap.get?_update_self (Obj.mapFields (·.setIfInBounds 3 (.ref x1))) ha (Obj.isFreed_of_fields d3)
  obtain ⟨a4, d4⟩ := causeFrom_at (x := x1) ha hd
  have s3 : 3 < vs.size := by omega
  have s4 : 4 < (vs.setIfInBounds 3 (Value.ref x1)).size := by rw [set_size]; exact hi
  have s2 : 2 < ((vs.setIfInBounds 3 (Value.ref x1)).setIfInBounds 4 (Value.bool true)).size := by rw [set_size, set_size]; omega
  have f1 : ((vs.setIfInBounds 3 (Value.ref x1)).setIfInBounds 4 (Value.bool true))[1]? = some Value.none := set_other (by decide) (set_other (by decide) h1)
  have cls4 : ((oe.mapFields (·.setIfInBounds 3 (.ref x1))).mapFields (·.setIfInBounds 4 (.bool true))).cls = cls := by rw [Obj.cls_mapFields, Obj.cls_mapFields]; exact hcls
  have look4 : PySem.W.Looks (model prog w) (causeFrom s₁.heap a x1) (typeOf (.ref a)) cls := fun A Q E s k q => wpAny_typeOf_ref (k _ _ a4) (by rw [cls4]; exact q)
  have noType4 : ∀ {Q' : Bool → Shared → Prop}, Q' false { s₁ with heap := causeFrom s₁.heap a x1 } → wpAny (model prog w) A (isType (.ref a)) Q' E { s₁ with heap := causeFrom s₁.heap a x1 } := by
    intro Q' hq
    simp only [isType, loadHead]
    refine wpAny_bind (wpAny_loadPart a4 ?_)
    rw [d4]; exact wpAny_pure hq
  have hot4 : HotAt A x1 (causeFrom s₁.heap a x1) := by
    obtain ⟨q1, o, vs', q2, q3, q4⟩ := hot
    exact ⟨q1, o, vs', by rw [causeFrom_other (Ne.symm hne)]; exact q2, q3, q4⟩
  have rest : wpAny (model prog w) A (do
      let b ← isType (.ref a)
      if b = true then do
        let e ← holding [.ref a] (raisedFor (.ref a) (.ref a))
        setFlight e none
        raiseNew e
      else do
        let e ← raisedInstance (.ref a)
        setFlight e none
        raiseNew e : Sem Flow) Q E { s₁ with heap := causeFrom s₁.heap a x1 } := by
    refine wpAny_bind (noType4 ?_)
    simp only [Bool.false_eq_true, if_false]
    unfold raisedInstance
    refine wpAny_bind (wpAny_bind (look4.here (wpAny_bind (L3.here ?_))))
    rw [if_pos (beq_self_eq_true _)]
    refine wpAny_pure ?_
    unfold setFlight
    refine wpAny_bind (wpAny_bind (wpAny_field a4 d4 f1 ?_))
    rw [if_neg (by decide)]
    refine wpAny_pure ?_
    exact raiseNew_hot hot4 hne a4 d4 s2 hE
  refine wpAny_bind (wpAny_holding (hc _ (wpAny_bind (wpAny_pure ?_))))
  dsimp only
  refine wpAny_bind (wpAny_holding ?_)
  unfold excFromValue isExcClass
  refine wpAny_bind (wpAny_bind (noType ?_))
  simp only [Bool.false_eq_true, if_false]
  refine wpAny_pure ?_
  simp only [Bool.false_eq_true, if_false]
  refine wpAny_bind (isExc.here ?_)
  simp only [if_true]
  refine wpAny_pure ?_
  have cNo : ¬ ((Value.ref x1 == Value.none) = true) := by simp
  first
  | rw [if_neg cNo]
  | (show wpAny _ _ (if (Value.ref x1 == Value.none) = true then _ else _) _ _ _; rw [if_neg cNo])
  | simp only [if_neg cNo]
  refine wpAny_bind (wpAny_holding (wpAny_bind (wpAny_bind (noTypeX ?_))))
  simp only [Bool.false_eq_true, if_false]
  refine wpAny_pure ?_
  simp only [Bool.false_eq_true, if_false]
  refine wpAny_bind (isExcX.here ?_)
  simp only [if_true]
  refine wpAny_pure ?_
  refine wpAny_bind (wpAny_setField ha hd s3 (wpAny_bind (wpAny_setField a3 d3 s4 ?_)))
  exact rest
end Pr
namespace Pr
open PySem PySem.Spec PyProof.Rows L2 HotX
theorem plain_unchain : plainId "proto.unchain" = true := by kernel_rfl
section
variable {prog : Program} {w : World} {A : Around} {E : Value → Shared → Prop} {s : Shared}
theorem unchained_two {x1 x2 a : Addr} {o1 o2 : Obj} {v1 v2 : Array Value} {Q : Value → Shared → Prop} (h1 : s.heap.get? x1 = some o1) (d1 : o1.data = .fields v1) (c1 : v1[2]? = some (.ref x2)) (n21 : x2 ≠ x1) (n2a : x2 ≠ a)
    (h2 : s.heap.get? x2 = some o2) (d2 : o2.data = .fields v2) (c2 : v2[2]? = some .none) (q : Q .none s) :
    wpAny (model prog w) A (holding [Value.ref a] (runValue (.builtin "proto.unchain" ⟨[.ref a, .ref x1, .ref x1, .bool false], []⟩))) Q E s := by
  refine wpAny_holding (wpAny_runValue (codeAny_builtin HotX.entry_unchain ?_))
  show wpAny _ _ (field (.ref x1) 2 >>= _) _ _ s
  refine wpAny_bind (wpAny_field h1 d1 c1 ?_)
  rw [if_neg (show ¬ ((Value.ref x2 == Value.none) = true) from by simp), if_neg (show ¬ ((Value.ref x2 == Value.ref a) = true) from by simp [n2a]), if_neg (show ¬ ((Value.ref x2 == Value.ref x1) = true) from by simp [n21])]
  dsimp only
  rw [if_neg Bool.false_ne_true]
  refine wpAny_bind (wpAny_pure (wpAny_pure ⟨plainId_quiet plain_unchain _, codeAny_builtin HotX.entry_unchain ?_⟩))
  show wpAny _ _ (field (.ref x2) 2 >>= _) _ _ s
  refine wpAny_bind (wpAny_field h2 d2 c2 ?_)
  rw [if_pos (show (Value.none == Value.none) = true from rfl)]
  first
  | exact wpAny_bind (wpAny_pure (wpAny_pure q))
  | exact wpAny_pure q
/-- the error that is handled: its context is None, or an error without a context -/
def Hot2At (A : Around) (x1 : Addr) (h : Heap) : Prop := A.handled = some (.ref x1) ∧ ∃ (o : Obj) (vs : Array Value), h.get? x1 = some o ∧ o.data = .fields vs ∧
  (vs[2]? = some .none ∨ ∃ (x2 : Addr) (o2 : Obj) (v2 : Array Value), vs[2]? = some (.ref x2) ∧ x2 ≠ x1 ∧ h.get? x2 = some o2 ∧ o2.data = .fields v2 ∧ v2[2]? = some .none)
theorem raiseNew_hot2 {α : Type} {a x1 : Addr} {oe : Obj} {vs : Array Value} {Q : α → Shared → Prop} {h0 : Heap} (hot : Hot2At A x1 h0) (k : ∀ b o, h0.get? b = some o → s.heap.get? b = some o) (hn : h0.get? a = none) (ha : s.heap.get? a = some oe) (da : oe.data = .fields vs) (hi : 2 < vs.size)
    (hE : E (.ref a) { s with heap := s.heap.update a (Obj.mapFields (·.setIfInBounds 2 (.ref x1))) }) : wpAny (model prog w) A (raiseNew (.ref a) : Sem α) Q E s := by
  obtain ⟨hh, o1, vs1, h1, d1, c⟩ := hot
  have ne : ∀ {b : Addr} {o : Obj}, h0.get? b = some o → b ≠ a := fun {b o} e z => by rw [z, hn] at e; cases e
  unfold raiseNew
  refine wpAny_bind (wpAny_handled ?_)
  rw [hh]
  have hb : (Value.ref x1 != Value.ref a) = true := ref_bne (ne h1)
  have un : ∀ {Q' : Value → Shared → Prop}, Q' .none s → wpAny (model prog w) A (holding [Value.ref a] (runValue (.builtin "proto.unchain" ⟨[.ref a, .ref x1, .ref x1, .bool false], []⟩))) Q' E s := fun {Q'} q' => by
    rcases c with c | ⟨x2, o2, v2, c, n21, h2, d2, c2⟩
    · exact unchained (k _ _ h1) d1 c q'
    · exact unchained_two (k _ _ h1) d1 c n21 (ne h2) (k _ _ h2) d2 c2 q'
  first
  | (show wpAny _ _ (if (Value.ref x1 != Value.ref a) = true then _ else _) _ _ _
     rw [if_pos hb]
     first
     | exact wpAny_bind (un (wpAny_bind (chained ha da hi (wpAny_throw hE))))
     | exact wpAny_bind (wpAny_bind (un (chained ha da hi (wpAny_throw hE)))))
  | (refine wpAny_bind ?_
     show wpAny _ _ (if (Value.ref x1 != Value.ref a) = true then _ else _) _ _ _
     rw [if_pos hb]
     exact wpAny_bind (un (chained ha da hi (wpAny_throw hE))))
theorem next_tup_end_hot {it t x1 : Addr} {i : Nat} {items : Array Value} {Q : Option Value → Shared → Prop} {h0 : Heap} (hot : Hot2At A x1 h0) (k : ∀ b o, h0.get? b = some o → s.heap.get? b = some o) (hnew : h0.get? it = none)
    (hit : IsTupIter s.heap it t i) (ht : IsTup s.heap t items) (hx : items[i]? = none)
    (hQ : ∀ h', Heap.ExtBut it s.heap h' → Q none { s with heap := h' }) : wpAny (model prog w) A (pyNext (.ref it)) Q E s := by
  obtain ⟨o, ho, hc, hd⟩ := id hit
  obtain ⟨ol, hol, _, nl, hdl⟩ := ht
  unfold pyNext
  refine wpAny_bind (wpAny_attempt (wpAny_callSpecial?_slot (name := Str.ofString "__next__") hit.typeIs slot_tupleiter_next
    (wpAny_call_entry slot_tupleiter_next hit.typeIs entry_tupleiter_next ?_ (args_tupleiter_next _))))
  show wpAny _ _ (field (.ref it) 0 >>= _) _ _ s
  refine wpAny_bind (wpAny_field ho hd (x := .ref t) rfl ?_)
  show wpAny _ _ (if (Value.ref t == Value.none) = true then _ else _) _ _ s
  rw [if_neg (show ¬ ((Value.ref t == Value.none) = true) from Bool.false_ne_true)]
  show wpAny _ _ (field (.ref it) 1 >>= _) _ _ s
  refine wpAny_bind (wpAny_field ho hd (x := .int i 0) rfl ?_)
  show wpAny _ _ (seqItems? (.ref t) >>= _) _ _ s
  refine wpAny_bind (wpAny_seqItems hol hdl ?_)
  simp only [Int.toNat_natCast, hx]
  refine wpAny_bind (wpAny_rule (wpAny_bind (wpAny_setField ho hd (by simp) ?_)))
  show wpAny _ _ (newExc (.type "StopIteration") [] >>= _) _ _ _
  refine wpAny_bind ?_
  simp only [newExc, newTuple]
  refine wpAny_bind (wpAny_newObj_type ?_ (by size_fits))
  refine wpAny_bind (m := firstArgMember _ _) (wpAny_of_eq (a := Value.none) (by first | rfl | (simp only [firstArgMember]; rfl)) ?_)
  refine wpAny_newObj_type ?_ (by size_fits)
  have up : ∀ b o, h0.get? b = some o → (s.heap.update it (Obj.mapFields (·.setIfInBounds 0 .none))).get? b = some o := fun b o e => by
    rw [Heap.get?_update_other _ _ (fun z => by rw [← z, hnew] at e; cases e)]
    exact k b o e
  have lt : ∀ {b : Addr} {o : Obj}, h0.get? b = some o → b < s.heap.objs.size := fun {b o} e => Heap.lt_size (k b o e)
  refine raiseNew_hot2 (h0 := h0) (show Hot2At _ x1 h0 from hot) (fun b o e => Heap.get?_push_of_some _ (Heap.get?_push_of_some _ (up b o e))) ?_ (Heap.get?_push_size _ rfl) rfl (by first | (simp; done) | (simp; omega) | (simp only [Array.size_append]; simp; omega)) ?_
  · cases q : h0.get? _ with
    | none => rfl
    | some o =>
      have z := Heap.lt_size (Heap.get?_push_of_some (h := s.heap.update it (Obj.mapFields (·.setIfInBounds 0 .none))) ({ cls := .type "tuple", data := .seq #[] } : Obj) (up _ o q))
      exact absurd z (Nat.lt_irrefl _)
  · refine wpAny_bind (wpAny_isInstance (T := "StopIteration") (b := true) ⟨_, Heap.get?_update_self _ (Heap.get?_push_size _ rfl) rfl, rfl⟩ isSubtype_stop ?_)
    refine wpAny_pure (hQ _ ?_)
    intro b o hb e
    have e1 : (s.heap.update it (Obj.mapFields (·.setIfInBounds 0 .none))).get? b = some o := by
      rw [Heap.get?_update_other _ _ (Ne.symm hb)]
      exact e
    have e2 := Heap.get?_push_of_some (h := s.heap.update it (Obj.mapFields (·.setIfInBounds 0 .none))) ({ cls := .type "tuple", data := .seq #[] } : Obj) e1
    rw [Heap.get?_update_other _ _ (Nat.ne_of_gt (Heap.lt_size e2))]
    exact Heap.get?_push_of_some _ e2
end
section
variable {prog : Program} {w : World} {A : Around} {E : Value → Shared → Prop} {s : Shared}
theorem unpack_items_hot {t x1 : Addr} {items : Array Value} {Q : List Value → Shared → Prop} (hot : Hot2At A x1 s.heap) (ht : IsTup s.heap t items)
    (hQ : ∀ h', Heap.ExtBut s.heap.objs.size s.heap h' → Q items.toList { s with heap := h' }) : wpAny (model prog w) A (unpackItems (.ref t) items.size none) Q E s := by
  have far : t ≠ s.heap.objs.size := by obtain ⟨o, ho, _⟩ := ht; exact Nat.ne_of_lt (Heap.lt_size ho)
  have fresh : s.heap.get? s.heap.objs.size = none := by
    cases q : s.heap.get? s.heap.objs.size with
    | none => rfl
    | some o => exact absurd (Heap.lt_size q) (Nat.lt_irrefl _)
  unfold unpackItems
  refine wpAny_bind ?_
  unfold notIterableAtAll
  refine wpAny_bind (wpAny_specialOf ht.typeIs slot_tuple_iter.lookup ?_)
  refine wpAny_pure ?_
  simp only [Bool.false_eq_true, if_false]
  refine wpAny_bind (wpAny_holding (iter_tuple ht ?_))
  refine wpAny_bind (wpAny_holding (draw_tuple far items.size 0 _ _ ⟨_, Heap.get?_push_size _ rfl, rfl, rfl⟩ (ht.push _) (by omega) fun h1 hit1 same1 => ?_))
  have all : List.take items.size (List.drop 0 items.toList) = items.toList := by
    rw [List.drop_zero]; exact List.take_of_length_le (by simp)
  rw [all, if_neg (by simp)]
  have ht1 : IsTup h1 t items := (ht.push _).extBut same1.extBut far
  have k1 : ∀ b o, s.heap.get? b = some o → h1.get? b = some o := fun b o e => same1.extBut b o (Nat.ne_of_lt (Heap.lt_size e)) (Heap.get?_push_of_some _ e)
  refine wpAny_bind (wpAny_holding (next_tup_end_hot hot k1 fresh hit1 ht1 (by simp) fun h2 ext2 => ?_))
  simp only [Option.isSome_none, Bool.false_eq_true, if_false]
  exact wpAny_pure (hQ h2 fun b o hb e => ext2 b o hb (same1.extBut b o hb (Heap.get?_push_of_some _ e)))
end
/-- the pinned error that is handled, and its context -/
def HotC2 (X : Cx) : Prop := ∃ q : Addr × Obj, X.A.handled = some (.ref q.1) ∧ q ∈ X.pn ∧ ∃ vs : Array Value, q.2.data = .fields vs ∧
  (vs[2]? = some .none ∨ ∃ (q2 : Addr × Obj) (v2 : Array Value), q2 ∈ X.pn ∧ vs[2]? = some (.ref q2.1) ∧ q2.1 ≠ q.1 ∧ q2.2.data = .fields v2 ∧ v2[2]? = some .none)
section
variable {X : Cx} {pos apos : Pos} {o : Expr} {f : Str} {to : TE}
theorem HotC2.at {pins : List (Addr × Obj)} {σ : L2.St} {H : Hp} {s : Shared} (c : HotC2 X) (I : Inv X pins σ H s) : ∃ x1, Hot2At X.A x1 s.heap := by
  obtain ⟨q, hh, hq, vs, hd, c⟩ := c
  refine ⟨q.1, hh, q.2, vs, (I.pin q (List.mem_append_left _ hq)).1, hd, ?_⟩
  rcases c with c | ⟨q2, v2, h2, c, ne, d2, c2⟩
  · exact .inl c
  · exact .inr ⟨q2.1, q2.2, v2, c, ne, (I.pin q2 (List.mem_append_left _ h2)).1, d2, c2⟩
/-- .. , .. = a tuple, while an error is handled -/
theorem pg_tup_hot {es : List Expr} {k : Nat} {t : TGs} {n : Nat} (hot : HotC2 X) (h : PGs X es t)
    (hn : (assignEach es X.env).length = n := by rfl) (hst : (assignEach es X.env).findIdx? (·.1) = none := by rfl) : PG X (.Tuple es k pos) (gTup X.K n t) := by
  refine ⟨fun pins s σ H v u Q I r hw => ?_⟩
  obtain ⟨a, xs, e1, hq, hl, hw⟩ := hw
  subst e1
  cases r
  obtain ⟨its, rv, ht, hz⟩ := I.tuple hq
  obtain ⟨x1, hx1⟩ := hot.at I
  have len : (assignEach es X.env).length = its.toArray.size := by simp [hn, ← hl, rv.length]
  rw [PyProof.Rows.assign_Tuple]
  refine wpAny_bind (wpAny_standAt ?_)
  unfold unpack
  rw [len, hst]
  refine wpAny_bind (wpAny_holding (unpack_items_hot hx1 ht fun h' hx => ?_))
  have I1 : Inv X pins σ H { s with heap := h' } := I.kept (t' := s.toks) fun b o e => hx b o (Nat.ne_of_lt (Heap.lt_size e)) e
  exact h.run pins _ σ H xs _ Q I1 (by simpa using rv) hw
/-- o.f as a target -/
def gFld (K : PySem.W.Frag) (to : TE) (f : Str) : TG := fun v σ H Q => to σ H fun x H2 => ∃ a C dx fs, x = .ref a ∧ H2 a = some (.ins C dx fs) ∧ Cls K C ∧ NoAttr K C f ∧ fs.length < 1000 ∧ Q σ (upd H2 a (.ins C dx (putF f v fs)))
theorem pg_fld (ho : PE X o to) : PG X (.Attribute o f apos) (gFld X.K to f) := by
  refine ⟨fun pins s σ H v u Q I r h => ?_⟩
  rw [PySem.assign_Attribute]
  refine wpAny_bind (wpAny_holding (thn (ho.run pins s σ H _ I h) fun ov s2 ⟨x, H2, I2, rx, a, C, dx, fs, ex, ea, c, n, l, q⟩ => ?_))
  subst ex
  obtain rfl : ov = Value.ref a := rx
  refine wpAny_bind (wpAny_standAt (wpAny_bind (wpAny_holding (setattr_ok I2 ea c n l r fun s3 I3 => ?_))))
  exact PySem.wpAny_release ⟨σ, _, I3, q⟩
end
end Pr
namespace L2K
open PySem PySem.Spec PyProof.Rows L2
def ctxV : Option Addr → Value
  | none => .none
  | some x => .ref x
def Ctx (cx : Option Addr) (o : Obj) : Prop := ∀ vs : Array Value, o.data = .fields vs → vs[2]? = some (ctxV cx)
theorem Ctx.steady {cx : Option Addr} : PXN.Steady1 (Ctx cx) := fun o v h => by
  obtain ⟨c, d, dt, sl⟩ := o
  cases dt with
  | fields vs0 =>
    intro vs e
    have e2 : vs0.setIfInBounds 1 v = vs := Data.fields.inj e
    have e3 : (vs0.setIfInBounds 1 v)[2]? = vs0[2]? := by
      first
      | exact Array.getElem?_setIfInBounds_ne (by decide)
      | simp [Array.getElem?_setIfInBounds]
    rw [← e2, e3]
    exact h vs0 rfl
  | _ =>
    intro vs e
    first
    | exact Data.noConfusion e
    | cases e
def Zk (cls : Value) (d cx : Option Addr) : Obj → Prop := fun o => o.cls = cls ∧ o.dict = d ∧ Ctx cx o
theorem Zk.steady {cls : Value} {d cx : Option Addr} : PXN.Steady1 (Zk cls d cx) := fun o v h => ⟨PXN.steady_cls o v h.1, PXN.steady_dict o v h.2.1, Ctx.steady o v h.2.2⟩
theorem Zk.zc {cls : Value} {d cx : Option Addr} {o : Obj} (h : Zk cls d cx o) : Zc cls d o := ⟨h.1, h.2.1⟩
/-- the context lies in the ground -/
def Low (B : Heap) (H : Hp) (cx : Option Addr) : Prop := ∀ x, cx = some x → H x = none ∧ ∃ (ox : Obj) (vx : Array Value), B.get? x = some ox ∧ ox.data = .fields vx ∧ vx[2]? = some .none
/-- such an error in the air of X -/
def XE (X : Cx) (W : WX) (u : Value) (s' : Shared) : Prop :=
  ∃ (a : Addr) (B : Heap) (sI : Shared) (pins : List (Addr × Obj)) (σ : L2.St) (H : Hp) (cls : Value) (d cx : Option Addr),
    u = .ref a ∧ Inv X pins σ H sI ∧ (∀ b o, sI.heap.get? b = some o → b ∉ frs X.stack → B.get? b = some o) ∧ sI.heap.UpToSlots s'.heap ∧
      Sky B X.stack a (Zk cls d cx) X.env.locals s'.heap ∧ H a = none ∧ Low B H cx ∧ s'.os = sI.os ∧ AllBare s'.gens ∧ W cls d σ H
def Takes (X : Cx) (W : WX) : Prop := ∀ u s', XE X W u s' → X.xe u s'
theorem Takes.imp {X : Cx} {W W' : WX} (t : Takes X W) (h : ∀ c d σ H, W' c d σ H → W c d σ H) : Takes X W' := fun u s' ⟨a, B, sI, pins, σ, H, cls, d, cx, e, I, nb, up, sky, na, lo, os, ag, w⟩ =>
  t u s' ⟨a, B, sI, pins, σ, H, cls, d, cx, e, I, nb, up, sky, na, lo, os, ag, h _ _ _ _ w⟩
/-- behind a call that let one out -/
def CX (P : Program) (w : World) (outer : List Env) (H : Hp) (s : Shared) (E : XK) (u : Value) (s' : Shared) : Prop :=
  ∃ (a : Addr) (B : Heap) (H' : Hp) (cls : Value) (d cx : Option Addr), u = .ref a ∧ HandSPX.FlyingZ B outer a (Zk cls d cx) s'.heap ∧ HOk P w H' B ∧ UB (frs outer) H H' s.heap B s'.heap ∧ H' a = none ∧ Low B H' cx ∧ s'.os = s.os ∧ AllBare s'.gens ∧ E cls d H'
section
variable {X : Cx} {pins : List (Addr × Obj)} {σ : L2.St} {H : Hp} {sI s s' : Shared} {B : Heap} {W : WX} {E : XK}
theorem XE.of_call (I : Inv X pins σ H s) (hW : ∀ cls d H', E cls d H' → W cls d σ H') {u : Value} (c : CX X.prog X.w X.stack H s E u s') : XE X W u s' := by
  obtain ⟨a, B, H', cls, d, cx, eu, fl, hok, ub, na, lo, os, ag, hE⟩ := c
  obtain ⟨G, gy, gn⟩ := restrict s'.heap fun b => (B.get? b).isSome || decide (b ∈ frs X.stack)
  have keepB : ∀ b o, B.get? b = some o → G.get? b = some o := fun b o e => by
    rw [gy b (by simp [e])]
    exact fl.1 b o e
  have atF : ∀ b, b ∈ frs X.stack → G.get? b = s'.heap.get? b := fun b hb => gy b (by simp [hb])
  have ofG : ∀ b o, G.get? b = some o → s'.heap.get? b = some o ∧ ((B.get? b).isSome = true ∨ b ∈ frs X.stack) := fun b o e => by
    cases q : ((B.get? b).isSome || decide (b ∈ frs X.stack)) with
    | false =>
      rw [gn b q] at e
      cases e
    | true =>
      rw [gy b q] at e
      exact ⟨e, by simpa [Bool.or_eq_true] using q⟩
  have un : Un (frs X.stack) [] H H' s.heap G := by
    refine ⟨fun b o e n hb _ => keepB b o (ub.keep b o e n hb), fun b o e n hb _ => ?_, fun b o e n _ => ub.free b o e n, fun b o e _ => ?_, ub.tups, ub.frzs, ub.tbls⟩
    · obtain ⟨sl, q⟩ := ub.slot b o e hb
      exact ⟨sl, (atF b hb).trans q⟩
    · by_cases hb : b ∈ frs X.stack
      · obtain ⟨sl, q⟩ := ub.slot b o e hb
        exact ⟨_, (atF b hb).trans q⟩
      · obtain ⟨o', q⟩ := ub.there b o e hb
        exact ⟨o', keepB b o' q⟩
  refine ⟨a, B, { s with heap := G, gens := s'.gens, drawn := s'.drawn, toks := s'.toks }, pins, σ, H', cls, d, cx, eu, I.call (ch := []) un (hok.kept keepB) ag (fun _ z => nomatch z), fun b o e hb => ?_, Heap.UpToSlots.of_keeps fun b o e => (ofG b o e).1, .inr (.inl fl), na, lo, os, ag, hW _ _ _ hE⟩
  obtain ⟨e', h⟩ := ofG b o e
  rcases h with h | h
  · obtain ⟨o', q⟩ := Option.isSome_iff_exists.mp h
    have z := fl.1 b o' q
    rw [e'] at z
    cases z
    exact q
  · exact absurd h hb
theorem XE.leave (hst : X.stack = X.env :: X.outer) (hfr : X.env.frame = some X.env.locals) (hex : X.ex = []) {E₁ : Value → Shared → Prop} (hW : ∀ cls d σ H, W cls d σ H → E cls d H) {u : Value} (x : XE X W u s') :
    wpAny (model X.prog X.w) X.A (leaving X.env u) (fun _ s'' => CX X.prog X.w X.outer X.H_0 X.s_0 E u s'') E₁ s' := by
  obtain ⟨a, B, sI, pins, σ, H, cls, d, cx, rfl, I, nb, up, sky, na, lo, os, ag, w⟩ := x
  have frA : X.A.frames = some (X.env :: X.outer) := by rw [I.ok.frames, hst]
  have offS : ∀ b o, X.s_0.heap.get? b = some o → b ∉ X.fs → b ∉ frs X.stack := fun b o e hb hm => by
    rcases List.mem_cons.mp (I.stkSub b hm) with z | z
    · have h1 := Heap.lt_size e
      rw [z] at h1
      exact absurd (Nat.lt_of_lt_of_le h1 I.ok.above) (Nat.lt_irrefl _)
    · exact hb z
  have noEx : ∀ b, b ∉ X.ex := fun b hb => by rw [hex] at hb; cases hb
  have land : ∀ h', HandSPX.FlyingZ B X.outer a (Zk cls d cx) h' → s'.heap.UpToSlots h' → CX X.prog X.w X.outer X.H_0 X.s_0 E (.ref a) { s' with heap := h' } := fun h' fl up' => by
    refine ⟨a, B, H, cls, d, cx, rfl, fl, I.inGround nb, ⟨fun b o e n hb => nb b o (I.base.keep b o e n hb (noEx b)) (offS b o e hb), fun b o e hb => ?_, fun b o e n => I.base.free b o e n (noEx b), fun b o e hb => ?_, I.base.tups, I.base.frzs, I.base.tbls⟩, na, lo, os.trans I.os, ag, hW _ _ _ _ w⟩
    · obtain ⟨_, o₀, e₀, hnf⟩ := I.ok.funs.mem hb
      rw [e] at e₀
      cases e₀
      obtain ⟨l1, e1⟩ := I.base.slot b o e (I.ok.frf b hb) hb (noEx b)
      obtain ⟨l2, e2⟩ := up b _ e1 hnf
      obtain ⟨l3, e3⟩ := up' b _ e2 hnf
      exact ⟨l3, e3⟩
    · obtain ⟨o', e1⟩ := I.base.there b o e (noEx b)
      exact ⟨o', nb b o' e1 (offS b o e hb)⟩
  rw [hst] at sky
  rcases sky with ⟨hB, hn, hl, oe, vs, he, hz, hd, h1⟩ | fl | hd
  · exact PXN.leaving_firstZ Zk.steady frA hl hfr he hB hn hd h1 hz land
  · exact PXN.leaves_onZ Zk.steady frA hfr fl land
  · exact HandSPX.leaves_heldZ hfr hd land
theorem takes_of (hst : X.stack = X.env :: X.outer) (hfr : X.env.frame = some X.env.locals) (hex : X.ex = []) {E₁ : Value → Shared → Prop}
    (hx : X.xe = fun e s' => wpAny (model X.prog X.w) X.A (leaving X.env e) (fun _ s'' => CX X.prog X.w X.outer X.H_0 X.s_0 E e s'') E₁ s') : Takes X (fun cls d _ H => E cls d H) := fun u s' x => by
  rw [hx]
  exact XE.leave (W := fun cls d _ H => E cls d H) (E := E) hst hfr hex (fun _ _ _ _ h => h) x
theorem passAt (tk : Takes X W) (σ : L2.St) : PassesAt (CX X.prog X.w) X σ (WE W σ) := fun _ _ _ e s' I c => tk e s' (XE.of_call I (fun _ _ _ h => h) c)
/-- an error just made, whose context is the pinned x -/
theorem XE.newX {a x : Addr} {oe ox : Obj} {vs vx : Array Value} {cls : Value} {d : Option Addr} (I : Inv X pins σ H sI) (k : ∀ b o, sI.heap.get? b = some o → s'.heap.get? b = some o) (hne : sI.heap.get? a = none) (he : s'.heap.get? a = some oe)
    (hz : Zk cls d (some x) oe) (hd : oe.data = .fields vs) (h1 : vs[1]? = some .none) (na : H a = none) (px : (x, ox) ∈ X.pn ++ pins) (dx : ox.data = .fields vx) (cx2 : vx[2]? = some .none) (os : s'.os = sI.os) (ag : AllBare s'.gens) (w : W cls d σ H) : XE X W (.ref a) s' := by
  obtain ⟨ex, nx, neL, nF, _⟩ := I.pin (x, ox) px
  have off : x ∉ frs X.stack := fun hm => (List.mem_cons.mp (I.stkSub x hm)).elim neL nF
  refine ⟨a, PySem.W.hideAll sI.heap (frs X.stack), sI, pins, σ, H, cls, d, some x, rfl, I, fun b o e hb => PySem.W.hideAll_get _ e hb, Heap.UpToSlots.of_keeps k,
    .inl ⟨fun b o e => k b o (PySem.W.of_hideAll _ e), ?_, ?_, oe, vs, he, hz, hd, h1⟩, na, fun y ey => ?_, os, ag, w⟩
  · cases q : (PySem.W.hideAll sI.heap (frs X.stack)).get? a with
    | none => rfl
    | some o =>
      have z := PySem.W.of_hideAll _ q
      rw [hne] at z
      cases z
  · exact Heap.FunFrames.of_keeps (fun b o e _ => ⟨o, k b o e, rfl⟩) (funFrames_none I.stack fun b hb => PySem.W.hideAll_none _ hb)
  · cases ey
    exact ⟨nx, ox, vx, PySem.W.hideAll_get _ ex off, dx, cx2⟩
end
end L2K
namespace Pr
open PySem PySem.Spec PyProof.Rows L2 HotX L2H
/-- the context, to be pinned -/
theorem ctxPins {B h1 : Heap} {H : Hp} {cx : Option Addr} {l : List Env} {fs : List Addr} (k1 : B.StaysIn h1) (k3 : h1.FunFrames B l) (low : L2K.Low B H cx) (efs : fs = frs l := by rfl) :
    ∃ px : List (Addr × Obj), (∀ p ∈ px, h1.get? p.1 = some p.2 ∧ H p.1 = none ∧ p.1 ∉ fs ∧ ∀ v, p.2.data ≠ .cell v) ∧ ∀ x, cx = some x → ∃ (ox : Obj) (vx : Array Value), (x, ox) ∈ px ∧ ox.data = .fields vx ∧ vx[2]? = some .none := by
  cases cx with
  | none => exact ⟨[], (fun p hp => absurd hp List.not_mem_nil), (fun x e => nomatch e)⟩
  | some x =>
    obtain ⟨hx, ox, vx, eb, dx, c2⟩ := low x rfl
    refine ⟨[(x, ox)], fun p hp => ?_, fun y ey => ?_⟩
    · rw [List.mem_singleton.mp hp]
      refine ⟨k1 _ _ eb, hx, fun hm => ?_, fun v z => ?_⟩
      · rw [efs] at hm
        have z := (k3.mem hm).1
        rw [show B.get? x = some ox from eb] at z
        cases z
      · have z' : ox.data = .cell v := z
        rw [dx] at z'
        cases z'
    · cases ey
      exact ⟨ox, vx, List.mem_singleton.mpr rfl, dx, c2⟩
section
variable {Y : Cx} {W : WX} {i : Nat} {n : Str} {pos' : Pos} {N : Value → Shared → Prop}
/-- an error leaves a suite whose clause has a name: noted, the name goes, on it flies -/
theorem gone_excK (hst : Y.stack = Y.env :: Y.outer) (hfr : Y.env.frame = some Y.env.locals) (hex : Y.ex = []) (nd : Y.N.Nodup) (ni : Y.N[i]? = some n) (lo : Y.env.kindOf n = some .local) (hN : ∀ u s', L2K.XE Y W u s' → N u s') {u : Value} {s' : Shared}
    (xx : L2K.XE Y (fun cls d σ H => W cls d (σ.set i none) H) u s') : AsSuiteRaised (model Y.prog Y.w) Y.A Y.env n pos' N u s' := by
  obtain ⟨a, B, sI, pins, σ, H, cls, d, cx, rfl, J, nb, up, sky, na, low, os, ag, hw⟩ := xx
  have ok := J.ok
  have frA : Y.A.frames = some (Y.env :: Y.outer) := by rw [ok.frames, hst]
  have sky' : Sky B (Y.env :: Y.outer) a (L2K.Zk cls d cx) Y.env.locals s'.heap := by rw [← hst]; exact sky
  have main : ∀ h1, HandSPX.HeldZ B (Y.env :: Y.outer) a (L2K.Zk cls d cx) Y.env.locals h1 → s'.heap.UpToSlots h1 →
      wpAny (model Y.prog Y.w) Y.A (do bindName Y.env n .none; unbindBehindTheSuite Y.env n pos') (fun _ s₂ => wpAny (model Y.prog Y.w) Y.A (passOn "try.except-as" (.ref a) Y.env : Sem Flow) (fun _ _ => False) N s₂)
        (fun y s₂ => wpAny (model Y.prog Y.w) Y.A (setFlight (.ref a) none) (fun _ s₃ => N y s₃) N s₂) { s' with heap := h1 } := fun h1 hh1 up1 => by
    have J1 : Inv Y pins σ H { s' with heap := h1 } := J.landed nb hh1.1 (up.trans up1) os ag
    obtain ⟨k1, k2, k3, oe, vs, T, oT, ts, he, hz, hd, hv1, hnT, hTe, hT, hdT, ht3⟩ := id hh1
    have nT : H T = none := (J.inGround nb).gone hnT
    have off : ∀ (b : Addr) (o : Obj) (fv : Array Value), h1.get? b = some o → o.data = .fields fv → b ∉ frs (Y.env :: Y.outer) := fun b o fv e dd hm => by
      obtain ⟨_, o', e', hnf⟩ := k3.mem hm
      rw [e] at e'
      cases e'
      exact hnf _ dd
    have inL : Y.env.locals ∈ frs (Y.env :: Y.outer) := List.mem_filterMap.mpr ⟨Y.env, List.mem_cons_self, hfr⟩
    have inF : ∀ b, b ∈ Y.fs → b ∈ frs (Y.env :: Y.outer) := fun b hm => by
      obtain ⟨ev, hev, q⟩ := List.mem_filterMap.mp hm
      exact List.mem_filterMap.mpr ⟨ev, List.mem_cons_of_mem _ hev, q⟩
    have fa := off a oe vs he hd
    have fT := off T oT ts hT hdT
    obtain ⟨px, hpx, hcx⟩ := ctxPins (h1 := h1) (fs := frs (Y.env :: Y.outer)) k1 k3 low
    have S1 : Inv (Y.tr ((a, oe) :: (T, oT) :: (px ++ (Y.pn ++ pins))) Y.xe) [] σ H { s' with heap := h1 } :=
      ⟨J1.ok.toTry _ _, J1.os, J1.bare, J1.base, J1.loc, J1.cell, J1.free, J1.freeC, fun p hp => by
        rw [List.append_nil] at hp
        rcases List.mem_cons.mp hp with z | hp
        · rw [z]
          exact ⟨he, na, fun z2 => fa (by rw [show a = Y.env.locals from z2]; exact inL), fun z2 => fa (inF _ z2), fun v z2 => by
            have z3 : oe.data = .cell v := z2
            rw [hd] at z3
            cases z3⟩
        · rcases List.mem_cons.mp hp with z | hp
          · rw [z]
            exact ⟨hT, nT, fun z2 => fT (by rw [show T = Y.env.locals from z2]; exact inL), fun z2 => fT (inF _ z2), fun v z2 => by
              have z3 : oT.data = .cell v := z2
              rw [hdT] at z3
              cases z3⟩
          · rcases List.mem_append.mp hp with hp | hp
            · obtain ⟨p1, p2, p3, p4⟩ := hpx p hp
              exact ⟨p1, p2, fun z2 => p3 (by rw [show p.1 = Y.env.locals from z2]; exact inL), fun z2 => p3 (inF _ z2), p4⟩
            · exact J1.pin p hp, J1.hok, J1.len⟩
    refine gone_ok (X := Y.tr ((a, oe) :: (T, oT) :: (px ++ (Y.pn ++ pins))) Y.xe) S1 nd ni lo fun s6 S6 => ?_
    have J6 : Inv Y pins (σ.set i none) H s6 := ⟨ok, S6.os, S6.bare, S6.base, S6.loc, S6.cell, S6.free, S6.freeC, fun p hp => S6.pin p (List.mem_append_left _ (List.mem_cons_of_mem _ (List.mem_cons_of_mem _ (List.mem_append_right _ hp)))), S6.hok, S6.len⟩
    have ga : s6.heap.get? a = some oe := (S6.pin (a, oe) (List.mem_append_left _ List.mem_cons_self)).1
    have gT : s6.heap.get? T = some oT := (S6.pin (T, oT) (List.mem_append_left _ (List.mem_cons_of_mem _ List.mem_cons_self))).1
    have far : ∀ b o, sI.heap.get? b = some o → b ≠ a ∧ b ≠ T := fun b o e => by
      by_cases hb : b ∈ frs Y.stack
      · rw [hst] at hb
        exact ⟨fun z => fa (z ▸ hb), fun z => fT (z ▸ hb)⟩
      · have q := nb b o e hb
        refine ⟨fun z => ?_, fun z => ?_⟩
        · rw [z, k2] at q; cases q
        · rw [z, hnT] at q; cases q
    have far0 : ∀ b o, Y.s_0.heap.get? b = some o → b ≠ a ∧ b ≠ T := fun b o e => by
      obtain ⟨o', q⟩ := J.base.there b o e (by rw [hex]; simp)
      exact far b o' q
    obtain ⟨G, g1, g2⟩ := restrict s6.heap fun b => !(decide (b = a) || decide (b = T))
    have gIn : ∀ b o, G.get? b = some o → s6.heap.get? b = some o ∧ b ≠ a ∧ b ≠ T := fun b o e => by
      cases q : (!(decide (b = a) || decide (b = T))) with
      | false =>
        rw [g2 b q] at e
        cases e
      | true =>
        rw [g1 b q] at e
        simp only [Bool.not_eq_true', Bool.or_eq_false_iff, decide_eq_false_iff_not] at q
        exact ⟨e, q.1, q.2⟩
    have gOf : ∀ b o, b ≠ a → b ≠ T → s6.heap.get? b = some o → G.get? b = some o := fun b o n1 n2 e => by
      rw [g1 b (by simp [n1, n2])]
      exact e
    have IG : Inv Y pins (σ.set i none) H { s6 with heap := G } := J6.less (fun b o e => (gIn b o e).1) gOf ⟨oe, vs, ga, hd⟩ ⟨oT, ts, gT, hdT⟩ na nT far0 fun p hp => far p.1 p.2 (J.pin p hp).1
    have noG : ∀ b, (b = a ∨ b = T) → (PySem.W.hideAll G (frs Y.stack)).get? b = none := fun b hb => by
      cases q : (PySem.W.hideAll G (frs Y.stack)).get? b with
      | none => rfl
      | some o =>
        obtain ⟨_, n1, n2⟩ := gIn b o (PySem.W.of_hideAll _ q)
        rcases hb with z | z
        · exact absurd z n1
        · exact absurd z n2
    have low6 : L2K.Low (PySem.W.hideAll G (frs Y.stack)) H cx := fun x ex => by
      obtain ⟨ox, vx, hm, dx, c2⟩ := hcx x ex
      have px6 := (S6.pin (x, ox) (List.mem_append_left _ (List.mem_cons_of_mem _ (List.mem_cons_of_mem _ (List.mem_append_left _ hm))))).1
      obtain ⟨_, p2, p3, _⟩ := hpx _ hm
      obtain ⟨_, ob, _, eb, _, _⟩ := low x ex
      exact ⟨p2, ox, vx, PySem.W.hideAll_get _ (gOf x ox (fun z => by rw [z, k2] at eb; cases eb) (fun z => by rw [z, hnT] at eb; cases eb) px6) (by rw [hst]; exact p3), dx, c2⟩
    have ff : s6.heap.FunFrames (PySem.W.hideAll G (frs Y.stack)) (Y.env :: Y.outer) := by
      have z := funFrames_none (B := PySem.W.hideAll G (frs Y.stack)) J6.stack fun b hb => PySem.W.hideAll_none _ hb
      rw [← hst]
      exact z
    have tr6 : HandSPX.TracedZ s6.heap (PySem.W.hideAll G (frs Y.stack)) a (L2K.Zk cls d cx) (rawInt Y.env.locals) := ⟨oe, vs, T, oT, ts, ga, hz, hd, hv1, noG T (.inr rfl), hTe, gT, hdT, ht3⟩
    unfold PySem.passOn
    refine wpAny_bind (wpAny_field ga hd hv1 ?_)
    rw [if_neg (show ¬ ((Value.ref T == Value.none) = true) from by simp)]
    have goOn : wpAny (model Y.prog Y.w) Y.A (setFlight (.ref a) Y.env.frame) (fun _ s7 => wpAny (model Y.prog Y.w) Y.A (throw (.ref a) : Sem Flow) (fun _ _ => False) N s7) N s6 := by
      rw [hfr]
      refine HandSPX.setFlight_anyZ (fun b o e => (gIn b o (PySem.W.of_hideAll _ e)).1) ff tr6 fun h7 m1 m2 m3 up7 => wpAny_throw (hN _ _ ?_)
      refine ⟨a, PySem.W.hideAll G (frs Y.stack), { s6 with heap := G }, pins, σ.set i none, H, cls, d, cx, rfl, IG, fun b o e hb => PySem.W.hideAll_get _ e hb, ?_, .inr (.inr ?_), na, low6, rfl, J6.bare, hw⟩
      · exact Heap.UpToSlots.trans (Heap.UpToSlots.of_keeps fun b o e => (gIn b o e).1) up7
      · have held : HandSPX.HeldZ (PySem.W.hideAll G (frs Y.stack)) (Y.env :: Y.outer) a (L2K.Zk cls d cx) Y.env.locals h7 := ⟨m1, noG a (.inl rfl), m2, m3⟩
        rw [← hst] at held
        exact held
    first
      | exact wpAny_bind (wpAny_pure (wpAny_bind goOn))
      | exact wpAny_bind goOn
  show wpAny (model Y.prog Y.w) Y.A (noteFrame (.ref a) Y.env) _ _ _
  rcases sky' with ⟨hB, hn, hl, oe, vs, he0, hz, hd, hv1⟩ | fl | hh
  · exact PXN.look_newZ L2K.Zk.steady frA hl hfr he0 hB hn hd hv1 hz main
  · exact PXN.looks_onZ L2K.Zk.steady frA hfr fl main
  · exact HandSPX.againZ hfr hh.2.2.2 (main s'.heap hh (Heap.UpToSlots.refl _))
end
section
variable {X : Cx} {body : List Stmt} {pos pos' tpos : Pos} {tb : WX → TS} {ts : Addr → Value → Option Addr → TS} {Wout : WX} {n : Str} {i kk : Nat} {b₀ : Stmt} {suite : List Stmt} {x1 x2 x3 x4 : Str} {c1 c2 c3 c4 : Value} {p1 p2 p3 p4 : Pos}
theorem ps_try_fromK (hst : X.stack = X.env :: X.outer) (hfr : X.env.frame = some X.env.locals) (hex : X.ex = []) (nd : X.N.Nodup) (ni : X.N[i]? = some n) (lo : X.env.kindOf n = some .local) (n1 : Names X x1 c1) (n2 : Names X x2 c2) (n3 : Names X x3 c3) (n4 : Names X x4 c4)
    (hpa : ∀ hd : Option Value, PassesOwnAt (model X.prog X.w) (X.A.mark hd) X.A X.env X.xe) (tk : L2K.Takes X Wout)
    (hbody : ∀ (W : WX) (pn : List (Addr × Obj)) (xe : Value → Shared → Prop), L2N.Takes (X.tr pn xe) W → PassesOwn (model X.prog X.w) X.A X.env xe → PSs (X.tr pn xe) body (tb W))
    (hsuite : ∀ (a : Addr) (oe : Obj) (cls : Value) (d : Option Addr) (pn : List (Addr × Obj)) (xe : Value → Shared → Prop), L2N.Zn cls d oe → PySem.W.subIn X.K cls (.type "BaseException") = some true → (∃ vs, oe.data = .fields vs) → L2K.Takes (suiteY X a ((a, oe) :: pn) xe) (fun cls d σ H => Wout cls d (σ.set i none) H) → L2H.HotC (suiteY X a ((a, oe) :: pn) xe) →
      PSs (suiteY X a ((a, oe) :: pn) xe) (b₀ :: suite) (ts a cls d)) :
    PS X (.Try body [.ExceptHandler (some (.Tuple [.Name x1 p1, .Name x2 p2, .Name x3 p3, .Name x4 p4] kk tpos)) (some n) (b₀ :: suite) pos'] [] [] pos) (fun D σ H => tb (wFrom X.K [c1, c2, c3, c4] i ts D) D σ H) := by
  refine ⟨fun pins s σ H D J0 h0' => wpAny_Try_except ?_⟩
  have hok := J0.ok
  have ffr : X.A.frames = some (X.env :: X.outer) := by rw [hok.frames, hst]
  refine wpAny_mono ((hbody (wFrom X.K [c1, c2, c3, c4] i ts D) (X.pn ++ pins) (fun e sA => wpAny (model X.prog X.w) X.A (noteFrame e X.env) (fun _ sB => wpAny (model X.prog X.w) X.A (setFlight e none) (fun _ sC => wpAny (model X.prog X.w) X.A (handleBy e X.env [.ExceptHandler (some (.Tuple [.Name x1 p1, .Name x2 p2, .Name x3 p3, .Name x4 p4] kk tpos)) (some n) (b₀ :: suite) pos']) (SP X pins D) X.xe sC) X.xe sB) X.xe sA) (fun u sR xx => ?_) PassesOwn.looking).run [] s σ H D (J0.toTry _) h0') (fun fl sE hE => ?_) (fun _ _ z => z)
  · obtain ⟨ad, B, sI, pinsI, σI, HI, cls, dx, rfl, JI, nb, up, sky, na, os, ag, hmt, hbe, hyes⟩ := xx
    have JX : Inv X pins σI HI sI := JI.ofTry hok
    have sky' : Sky B (X.env :: X.outer) ad (L2N.Zn cls dx) X.env.locals sR.heap := by rw [← hst]; exact sky
    show wpAny (model X.prog X.w) X.A (noteFrame (.ref ad) X.env) _ _ _
    refine L2N.Sky.land L2N.Zn.steady ffr hfr sky' fun hp fp upp => ?_
    have JL : Inv X pins σI HI { sR with heap := hp } := JX.landed nb fp.1 (up.trans upp) os ag
    obtain ⟨oe, vs, heq, hz, hdt⟩ := fp.there
    have off : ad ∉ frs (X.env :: X.outer) := fun hm => by
      obtain ⟨_, o', e', hnf⟩ := fp.2.2.1.mem hm
      rw [heq] at e'
      cases e'
      exact hnf _ hdt
    have offL : ad ≠ X.env.locals := fun z => off (List.mem_filterMap.mpr ⟨X.env, List.mem_cons_self, by rw [hfr, z]⟩)
    have offF : ad ∉ X.fs := fun hm => by
      obtain ⟨ev, hev, qe⟩ := List.mem_filterMap.mp hm
      exact off (List.mem_filterMap.mpr ⟨ev, List.mem_cons_of_mem _ hev, qe⟩)
    have SL := JL.suite heq hdt na offL offF
    have look : PySem.W.Looks (model X.prog X.w) hp (typeOf (.ref ad)) cls := fun A Q E sX kX qX => wpAny_typeOf_ref (kX _ _ heq) (by rw [hz.1]; exact qX)
    refine wpAny_handleBy_cons (codeAny_handlers_test ?_) (fun q => by cases q)
    have cl : ∀ {nm : Str} {np : Pos} {c : Value} {Q : Value → Shared → Prop} {E : Value → Shared → Prop}, Names X nm c → Q c { sR with heap := hp } → wpAny (model X.prog X.w) (X.A.mark (some (.ref ad))) (eval (.Name nm np) X.env) Q E { sR with heap := hp } := fun {nm np c Q E} hnm q => by
      obtain ⟨g1, g2, g3 | ⟨g3, g4, g5⟩⟩ := hnm
      · exact ld_glob (X := X.suite ad ((ad, oe) :: (X.pn ++ pins))) SL g1 g3 q g2
      · exact ld_blt (X := X.suite ad ((ad, oe) :: (X.pn ++ pins))) SL g1 g3 g4 q g5 g2
    refine wpAny_Tuple ?_
    refine wpAny_items_cons (cl n1 ?_)
    refine wpAny_items_cons (cl n2 ?_)
    refine wpAny_items_cons (cl n3 ?_)
    refine wpAny_items_cons (cl n4 ?_)
    refine wpAny_items_nil ⟨by size_fits, ?_⟩
    have kp : ∀ q o, hp.get? q = some o → (hp.push { cls := .type "tuple", data := .seq [c1, c2, c3, c4].toArray }).get? q = some o := fun _ _ z => Heap.get?_push_of_some _ z
    refine (PySem.W.exm_tup4 (JL.kIn.keeps kp) (look.keeps kp) (Heap.get?_push_size hp rfl) hmt).here ?_
    refine codeAny_handlers_suite_as (HandSPX.lands_againZ (fly_kept fp kp) fun hq fq upq => ?_)
    have JQ : Inv X pins σI HI { sR with heap := hq } := JX.landed nb fq.1 ((up.trans upp).trans ((Heap.UpToSlots.of_keeps kp).trans upq)) os ag
    obtain ⟨oq, vq, heq', hz', hdt'⟩ := fq.there
    refine store_ok (X := X.suite ad ((ad, oq) :: (X.pn ++ pins))) (v := .ref ad) (JQ.suite heq' hdt' na offL offF) nd ni (.inl lo) rfl (fun sS SS => ?_) (.inr lo)
    obtain ⟨xe3, hxe3⟩ : ∃ xe3 : Value → Shared → Prop, xe3 = fun x s' => AsSuiteRaised (model X.prog X.w) (X.A.mark (some (.ref ad))) X.env n pos' (notedBy (model X.prog X.w) (X.A.mark (some (.ref ad))) X.env (cameBackBy (model X.prog X.w) X.A X.env X.xe)) x s' := ⟨_, rfl⟩
    have SY : Inv (suiteY X ad ((ad, oq) :: (X.pn ++ pins)) xe3) [] (σI.set i (some (.ref ad))) HI sS := Inv.unwish (X := suiteY X ad ((ad, oq) :: (X.pn ++ pins)) xe3) (E := fun _ _ => False) SS
    have backY : ∀ {pn' : List (Addr × Obj)} {σ6 : L2.St} {H6 : Hp} {s6 : Shared}, Inv (suiteY X ad ((ad, oq) :: (X.pn ++ pins)) xe3) pn' σ6 H6 s6 → Inv X pins σ6 H6 s6 := fun {pn' σ6 H6 s6} I6 =>
      Inv.unsuite (X := X) (a := ad) (q := (ad, oq)) (pn' := pn') (show Inv (X.suite ad ((ad, oq) :: (X.pn ++ pins))) pn' σ6 H6 s6 from I6.wish fun _ _ => False) hok
    have tkY : L2K.Takes (suiteY X ad ((ad, oq) :: (X.pn ++ pins)) xe3) (fun cls d σ H => Wout cls d (σ.set i none) H) := fun u sU xU => by
      show xe3 u sU
      rw [hxe3]
      refine gone_excK (Y := suiteY X ad ((ad, oq) :: (X.pn ++ pins)) xe3) (W := Wout) (i := i) hst hfr hex nd ni lo (fun u2 s2 x2 => ?_) xU
      obtain ⟨a2, B2, sI2, pn2, σ2, H2, cls2, d2, cx2, e2, I2, nb2, up2, sky2, na2, lo2, os2, ag2, w2⟩ := x2
      exact hpa (some (.ref ad)) u2 s2 (tk u2 s2 ⟨a2, B2, sI2, pins, σ2, H2, cls2, d2, cx2, e2, backY I2, nb2, up2, sky2, na2, lo2, os2, ag2, w2⟩)
    have hot : L2H.HotC (suiteY X ad ((ad, oq) :: (X.pn ++ pins)) xe3) := ⟨(ad, oq), ⟨rfl, vq, hdt', hz'.2.2 vq hdt'⟩, List.mem_cons_self⟩
    refine wpAny_mono ((hsuite ad oq cls dx (X.pn ++ pins) xe3 hz' hbe ⟨_, hdt'⟩ tkY hot).run [] sS _ HI _ SY (hyes ad na)) (fun fl sT hT => ?_) (fun eT sT z => by
      have z' : xe3 eT sT := z
      rw [hxe3] at z'
      exact z')
    have leave : ∀ {σT : L2.St} {HT : Hp} {R : Shared → Prop}, Inv (suiteY X ad ((ad, oq) :: (X.pn ++ pins)) xe3) [] σT HT sT → (∀ sU, Inv X pins (σT.set i none) HT sU → R sU) → wpAny (model X.prog X.w) X.A (bindName X.env n .none >>= fun _ => unbindBehindTheSuite X.env n pos') (fun _ sU => R sU) X.xe sT := fun ST hR => gone_ok (backY ST) nd ni lo hR
    cases fl with
    | next => obtain ⟨_, _, ST, qT⟩ := hT; exact leave ST fun _ JU => ⟨_, _, JU, qT⟩
    | brk => obtain ⟨_, _, ST, qT⟩ := hT; exact leave ST fun _ JU => ⟨_, _, JU, qT⟩
    | cont => obtain ⟨_, _, ST, qT⟩ := hT; exact leave ST fun _ JU => ⟨_, _, JU, qT⟩
    | ret u => obtain ⟨_, _, _, ST, rT, qT⟩ := hT; exact leave ST fun _ JU => ⟨_, _, _, JU, rT, qT⟩
  · cases fl with
    | next => obtain ⟨_, _, JE, qE⟩ := hE; exact wpAny_execs_nil ⟨_, _, JE.ofTry hok, qE⟩
    | brk => obtain ⟨_, _, JE, qE⟩ := hE; exact ⟨_, _, JE.ofTry hok, qE⟩
    | cont => obtain ⟨_, _, JE, qE⟩ := hE; exact ⟨_, _, JE.ofTry hok, qE⟩
    | ret u => obtain ⟨_, _, _, JE, rE, qE⟩ := hE; exact ⟨_, _, _, JE.ofTry hok, rE, qE⟩
end
section
variable {X : Cx} {W : WX} {e : Expr} {t : L2.St → Hp → XK → Prop} {i : Nat} {n : Str} {cpos pos : Pos}
/-- raise X(..) from n, in the suite of «as n» -/
theorem ps_raiseHK {a0 : Addr} {o0 : Obj} {cls0 : Value} {pn : List (Addr × Obj)} {vx : Array Value} (hh : X.A.handled = some (.ref a0)) (hpn : X.pn = (a0, o0) :: pn) (hcl : o0.cls = cls0) (hdx : o0.data = .fields vx) (hctx : vx[2]? = some .none) (hsub : PySem.W.subIn X.K cls0 (.type "BaseException") = some true)
    (hN : X.N[i]? = some n) (hv : Vis X.env.scope n) (tk : L2K.Takes X W) (he : PMk5 X e t) (hd : (n == ("__debug__" : Str)) = false := by decide) (hcd : (n == ("__classdict__" : Str)) = false := by decide) :
    PS X (.Raise (some e) (some (.Name n cpos)) pos) (fun _ σ H => σ[i]? = some (some (.ref a0)) ∧ t σ H fun cls d H' => W cls d σ H') := by
  refine ⟨fun pins s σ H D I h => ?_⟩
  obtain ⟨hσ, h⟩ := h
  show wpAny _ _ (do standAt pos; raiseStmt X.env (some (do let v ← eval e X.env; standAt pos; pure v)) (some (do let v ← eval (.Name n cpos) X.env; standAt pos; pure v))) _ _ _
  refine wpAny_bind (wpAny_standAt (raise_hot_from (x1 := a0) (wpAny_bind (wpAny_mono (he pins s σ H _ I h) (fun u s1 hu => wpAny_bind (wpAny_standAt (wpAny_pure ?_))) fun _ _ x => x))))
  obtain ⟨⟨a, oe, vs, sI, H', cls, d, rfl, J, k, hne, ha, hz, hdat, h1, na, os, ag, r, q⟩, h5⟩ := hu
  have hi : 4 < vs.size := h5 a oe vs rfl ha hdat
  have P0 : sI.heap.get? a0 = some o0 := (J.pin (a0, o0) (List.mem_append_left _ (by rw [hpn]; exact List.mem_cons_self))).1
  have P1 : s1.heap.get? a0 = some o0 := k _ _ P0
  have nap : a0 ≠ a := fun z => by
    rw [z, hne] at P0
    cases P0
  have k4 : ∀ b u, sI.heap.get? b = some u → (causeFrom s1.heap a a0).get? b = some u := fun b u z => by
    have nab : a ≠ b := fun y => by
      rw [← y, hne] at z
      cases z
    rw [causeFrom_other nab]
    exact k b u z
  have J1 : Inv X pins σ H' s1 := J.landed (B := sI.heap) (fun _ _ z _ => z) k (Heap.UpToSlots.of_keeps k) os ag
  have name : ∀ (Q' : Value → Shared → Prop), Q' (.ref a0) s1 → wpAny (model X.prog X.w) X.A (do let v ← eval (.Name n cpos) X.env; standAt pos; pure v) Q' X.xe s1 := fun Q' q' => by
    obtain ⟨m, hn, hl⟩ := J1.loc
    obtain ⟨u, ru, l⟩ := hl i n (.ref a0) hN hσ hv
    cases ru
    refine wpAny_bind ?_
    have fin : wpAny (model X.prog X.w) X.A (do standAt pos; pure (Value.ref a0)) Q' X.xe s1 := wpAny_bind (wpAny_standAt (wpAny_pure q'))
    rcases l with ⟨hk, hm⟩ | ⟨hk, c, hc, hcell⟩
    · exact wpAny_Name (wpAny_loadName_local J1.ok.kind hk hn hm fin) hd
    · rcases hk with hk | hk
      · exact wpAny_Name (wpAny_loadName_cell J1.ok.kind hk hc hcell fin) hd
      · exact wpAny_Name (wpAny_loadName_free J1.ok.kind hk hc hcell fin hcd) hd
  obtain ⟨r1, _⟩ := r (model X.prog X.w) s1.heap (J.kIn.keeps k)
  obtain ⟨_, r2⟩ := r (model X.prog X.w) (causeFrom s1.heap a a0) (J.kIn.keeps k4)
  obtain ⟨a4, d4⟩ := causeFrom_at (x := a0) ha hdat
  have f1 : (((vs.setIfInBounds 3 (Value.ref a0)).setIfInBounds 4 (Value.bool true)).setIfInBounds 2 (Value.ref a0))[1]? = some Value.none := set_other (by decide) (set_other (by decide) (set_other (by decide) h1))
  have f2 : (((vs.setIfInBounds 3 (Value.ref a0)).setIfInBounds 4 (Value.bool true)).setIfInBounds 2 (Value.ref a0))[2]? = some (L2K.ctxV (some a0)) := by
    have hlt : 2 < ((vs.setIfInBounds 3 (Value.ref a0)).setIfInBounds 4 (Value.bool true)).size := by rw [set_size, set_size]; omega
    show _ = some (Value.ref a0)
    first
    | exact Array.getElem?_setIfInBounds_self_of_lt hlt
    | rw [Array.getElem?_setIfInBounds, if_pos rfl, if_pos hlt]
    | (rw [Array.getElem?_setIfInBounds]; simp only [if_true, if_pos hlt])
  refine ⟨a, oe, vs, cls, o0, vx, cls0, rfl, ha, hz.1, hdat, h1, hi, nap, ⟨hh, o0, vx, P1, hdx, hctx⟩, name, P1, hdx, hcl, PySem.W.looks_subIn (J.kIn.keeps k) hsub, r1, r2, tk _ _ (L2K.XE.newX (x := a0) (ox := o0) J (fun b u z => ?_) hne (Heap.get?_update_self _ a4 (Obj.isFreed_of_fields (Obj.data_mapFields d4 _)))
    ⟨by rw [Obj.cls_mapFields, Obj.cls_mapFields, Obj.cls_mapFields]; exact hz.1, by rw [HandSPX.dict_mapFields, HandSPX.dict_mapFields, HandSPX.dict_mapFields]; exact hz.2.1, fun ws ew => by
      have z := (Obj.data_mapFields d4 (·.setIfInBounds 2 (.ref a0))).symm.trans ew
      cases z
      exact f2⟩ (Obj.data_mapFields d4 _) f1 na (List.mem_append_left _ (by rw [hpn]; exact List.mem_cons_self)) hdx hctx os ag q)⟩
  have nab : a ≠ b := fun y => by
    rw [← y, hne] at z
    cases z
  show ((causeFrom s1.heap a a0).update a (Obj.mapFields (·.setIfInBounds 2 (.ref a0)))).get? b = some u
  rw [Heap.get?_update_other _ _ nab]
  exact k4 b u z
end
end Pr
namespace Pr
open PySem PySem.Spec PyProof.Rows L2 HotX L2H
section
variable {X : Cx} {body : List Stmt} {f₀ : Stmt} {fs : List Stmt} {pos : Pos} {tf tfs : TS} {tb : WX → TS} {Wout : WX}
theorem fin_excK {pins : List (Addr × Obj)} {D : Ends} {u : Value} {s' : Shared} (hst : X.stack = X.env :: X.outer) (hfr : X.env.frame = some X.env.locals) (hex : X.ex = []) (ok : X.Ok) (tk : L2K.Takes X Wout)
    (hsu : ∀ (a : Addr) (pn : List (Addr × Obj)), HotC2 (X.suite a pn) → PSs (X.suite a pn) (f₀ :: fs) tfs) {xe : Value → Shared → Prop} (xx : L2K.XE (X.tr (X.pn ++ pins) xe) (wFin tfs Wout) u s') :
    wpAny (model X.prog X.w) X.A (noteFrame u X.env) (fun _ s₂ => FinallyRaised X.prog X.w X.A X.xe X.env (f₀ :: fs) (SP X pins D) u s₂) (FinallyRaised X.prog X.w X.A X.xe X.env (f₀ :: fs) (SP X pins D)) s' := by
  have frA : X.A.frames = some (X.env :: X.outer) := by rw [ok.frames, hst]
  obtain ⟨a, B, sI, pins', σ, H, cls, d, cx, rfl, J', nb, up, sky, na, low, os, ag, hw⟩ := xx
  have J : Inv X pins σ H sI := J'.ofTry ok
  have sky' : Sky B (X.env :: X.outer) a (L2K.Zk cls d cx) X.env.locals s'.heap := by rw [← hst]; exact sky
  have main : ∀ h0, HandSPX.HeldZ B (X.env :: X.outer) a (L2K.Zk cls d cx) X.env.locals h0 → s'.heap.UpToSlots h0 → FinallyRaised X.prog X.w X.A X.xe X.env (f₀ :: fs) (SP X pins D) (.ref a) { s' with heap := h0 } := fun h0 hh0 up0 => by
    refine ⟨ref_ne_byPass a, HandSPX.againZ hfr hh0.2.2.2 (HandSPX.landsZ hh0 fun h1 fl1 up1 => ?_)⟩
    have J1 : Inv X pins σ H { s' with heap := h1 } := J.landed nb fl1.1 ((up.trans up0).trans up1) os ag
    obtain ⟨k1, k2, k3, oe, vs, T, oT, ts, he, hz, hd, hv1, hnT, hTe, hT, hdT, ht3⟩ := id fl1
    have nT : H T = none := (J.inGround nb).gone hnT
    have off : ∀ (b : Addr) (o : Obj) (fv : Array Value), h1.get? b = some o → o.data = .fields fv → b ∉ frs (X.env :: X.outer) := fun b o fv e dd hm => by
      obtain ⟨_, o', e', hnf⟩ := k3.mem hm
      rw [e] at e'
      cases e'
      exact hnf _ dd
    have inL : X.env.locals ∈ frs (X.env :: X.outer) := List.mem_filterMap.mpr ⟨X.env, List.mem_cons_self, hfr⟩
    have inF : ∀ b, b ∈ X.fs → b ∈ frs (X.env :: X.outer) := fun b hm => by
      obtain ⟨ev, hev, q⟩ := List.mem_filterMap.mp hm
      exact List.mem_filterMap.mpr ⟨ev, List.mem_cons_of_mem _ hev, q⟩
    have fa := off a oe vs he hd
    have fT := off T oT ts hT hdT
    obtain ⟨px, hpx, hcx⟩ := ctxPins (h1 := h1) (fs := frs (X.env :: X.outer)) k1 k3 low
    have S1 : Inv (X.suite a ((a, oe) :: (T, oT) :: (px ++ (X.pn ++ pins)))) [] σ H { s' with heap := h1 } :=
      ⟨J1.ok.suite _ _, J1.os, J1.bare, J1.base, J1.loc, J1.cell, J1.free, J1.freeC, fun p hp => by
        rw [List.append_nil] at hp
        rcases List.mem_cons.mp hp with z | hp
        · rw [z]
          exact ⟨he, na, fun z2 => fa (by rw [show a = X.env.locals from z2]; exact inL), fun z2 => fa (inF _ z2), fun v z2 => by
            have z3 : oe.data = .cell v := z2
            rw [hd] at z3
            cases z3⟩
        · rcases List.mem_cons.mp hp with z | hp
          · rw [z]
            exact ⟨hT, nT, fun z2 => fT (by rw [show T = X.env.locals from z2]; exact inL), fun z2 => fT (inF _ z2), fun v z2 => by
              have z3 : oT.data = .cell v := z2
              rw [hdT] at z3
              cases z3⟩
          · rcases List.mem_append.mp hp with hp | hp
            · obtain ⟨p1, p2, p3, p4⟩ := hpx p hp
              exact ⟨p1, p2, fun z2 => p3 (by rw [show p.1 = X.env.locals from z2]; exact inL), fun z2 => p3 (inF _ z2), p4⟩
            · exact J1.pin p hp, J1.hok, J1.len⟩
    have hot : HotC2 (X.suite a ((a, oe) :: (T, oT) :: (px ++ (X.pn ++ pins)))) := by
      refine ⟨(a, oe), rfl, List.mem_cons_self, vs, hd, ?_⟩
      have c := hz.2.2 vs hd
      cases cx with
      | none => exact .inl c
      | some x =>
        obtain ⟨ox, vx, hm, dx, c2⟩ := hcx x rfl
        obtain ⟨_, ob, _, eb, _, _⟩ := low x rfl
        have nxa : x ≠ a := fun z => by
          rw [z, k2] at eb
          cases eb
        exact .inr ⟨(x, ox), vx, List.mem_cons_of_mem _ (List.mem_cons_of_mem _ (List.mem_append_left _ hm)), c, nxa, dx, c2⟩
    refine wpAny_mono ((hsu a ((a, oe) :: (T, oT) :: (px ++ (X.pn ++ pins))) hot).run [] { s' with heap := h1 } σ H { nx := fun σ2 H2 => Wout cls d σ2 H2, rt := fun _ _ => False } S1 hw) (fun g s6 hsp => ?_) fun _ _ z => False.elim z
    cases g with
    | ret u =>
      obtain ⟨_, _, _, _, _, q⟩ := hsp
      exact False.elim q
    | brk =>
      obtain ⟨_, _, _, q⟩ := hsp
      exact False.elim q
    | cont =>
      obtain ⟨_, _, _, q⟩ := hsp
      exact False.elim q
    | next =>
    obtain ⟨σ6, H6, S6, q6⟩ := hsp
    have J6 : Inv X pins σ6 H6 s6 := ⟨ok, S6.os, S6.bare, S6.base, S6.loc, S6.cell, S6.free, S6.freeC, fun p hp => S6.pin p (List.mem_append_left _ (List.mem_cons_of_mem _ (List.mem_cons_of_mem _ (List.mem_append_right _ hp)))), S6.hok, S6.len⟩
    have pa := S6.pin (a, oe) (List.mem_append_left _ List.mem_cons_self)
    have pT := S6.pin (T, oT) (List.mem_append_left _ (List.mem_cons_of_mem _ List.mem_cons_self))
    have ga : s6.heap.get? a = some oe := pa.1
    have gT : s6.heap.get? T = some oT := pT.1
    have na6 : H6 a = none := pa.2.1
    have nT6 : H6 T = none := pT.2.1
    have far : ∀ b o, sI.heap.get? b = some o → b ≠ a ∧ b ≠ T := fun b o e => by
      by_cases hb : b ∈ frs X.stack
      · rw [hst] at hb
        exact ⟨fun z => fa (z ▸ hb), fun z => fT (z ▸ hb)⟩
      · have q := nb b o e hb
        refine ⟨fun z => ?_, fun z => ?_⟩
        · rw [z, k2] at q; cases q
        · rw [z, hnT] at q; cases q
    have far0 : ∀ b o, X.s_0.heap.get? b = some o → b ≠ a ∧ b ≠ T := fun b o e => by
      obtain ⟨o', q⟩ := J.base.there b o e (by rw [hex]; simp)
      exact far b o' q
    obtain ⟨G, g1, g2⟩ := restrict s6.heap fun b => !(decide (b = a) || decide (b = T))
    have gIn : ∀ b o, G.get? b = some o → s6.heap.get? b = some o ∧ b ≠ a ∧ b ≠ T := fun b o e => by
      cases q : (!(decide (b = a) || decide (b = T))) with
      | false =>
        rw [g2 b q] at e
        cases e
      | true =>
        rw [g1 b q] at e
        simp only [Bool.not_eq_true', Bool.or_eq_false_iff, decide_eq_false_iff_not] at q
        exact ⟨e, q.1, q.2⟩
    have gOf : ∀ b o, b ≠ a → b ≠ T → s6.heap.get? b = some o → G.get? b = some o := fun b o n1 n2 e => by
      rw [g1 b (by simp [n1, n2])]
      exact e
    have IG : Inv X pins σ6 H6 { s6 with heap := G } := J6.less (fun b o e => (gIn b o e).1) gOf ⟨oe, vs, ga, hd⟩ ⟨oT, ts, gT, hdT⟩ na6 nT6 far0 fun p hp => far p.1 p.2 (J.pin p hp).1
    have noG : ∀ b, (b = a ∨ b = T) → (PySem.W.hideAll G (frs X.stack)).get? b = none := fun b hb => by
      cases q : (PySem.W.hideAll G (frs X.stack)).get? b with
      | none => rfl
      | some o =>
        obtain ⟨_, n1, n2⟩ := gIn b o (PySem.W.of_hideAll _ q)
        rcases hb with z | z
        · exact absurd z n1
        · exact absurd z n2
    have low6 : L2K.Low (PySem.W.hideAll G (frs X.stack)) H6 cx := fun x ex => by
      obtain ⟨ox, vx, hm, dx, c2⟩ := hcx x ex
      have px6 := S6.pin (x, ox) (List.mem_append_left _ (List.mem_cons_of_mem _ (List.mem_cons_of_mem _ (List.mem_append_left _ hm))))
      obtain ⟨_, _, p3, _⟩ := hpx _ hm
      obtain ⟨_, ob, _, eb, _, _⟩ := low x ex
      exact ⟨px6.2.1, ox, vx, PySem.W.hideAll_get _ (gOf x ox (fun z => by rw [z, k2] at eb; cases eb) (fun z => by rw [z, hnT] at eb; cases eb) px6.1) (by rw [hst]; exact p3), dx, c2⟩
    have ff : s6.heap.FunFrames (PySem.W.hideAll G (frs X.stack)) (X.env :: X.outer) := by
      have z := funFrames_none (B := PySem.W.hideAll G (frs X.stack)) J6.stack fun b hb => PySem.W.hideAll_none _ hb
      rw [← hst]
      exact z
    have tr6 : HandSPX.TracedZ s6.heap (PySem.W.hideAll G (frs X.stack)) a (L2K.Zk cls d cx) .none := ⟨oe, vs, T, oT, ts, ga, hz, hd, hv1, noG T (.inr rfl), hTe, gT, hdT, ht3⟩
    show wpAny (model X.prog X.w) X.A (PySem.passOn "try.finally" (.ref a) X.env) (SP X pins D) X.xe s6
    unfold PySem.passOn
    refine wpAny_bind (wpAny_field ga hd hv1 ?_)
    rw [if_neg (show ¬ ((Value.ref T == Value.none) = true) from by simp)]
    have goOn : wpAny (model X.prog X.w) X.A (setFlight (.ref a) X.env.frame) (fun _ s7 => wpAny (model X.prog X.w) X.A (throw (.ref a) : Sem Flow) (SP X pins D) X.xe s7) X.xe s6 := by
      rw [hfr]
      refine HandSPX.setFlight_anyZ (fun b o e => (gIn b o (PySem.W.of_hideAll _ e)).1) ff tr6 fun h7 m1 m2 m3 up7 => wpAny_throw (tk _ _ ?_)
      refine ⟨a, PySem.W.hideAll G (frs X.stack), { s6 with heap := G }, pins, σ6, H6, cls, d, cx, rfl, IG, fun b o e hb => PySem.W.hideAll_get _ e hb, ?_, .inr (.inr ?_), na6, low6, rfl, J6.bare, q6⟩
      · exact Heap.UpToSlots.trans (Heap.UpToSlots.of_keeps fun b o e => (gIn b o e).1) up7
      · have held : HandSPX.HeldZ (PySem.W.hideAll G (frs X.stack)) (X.env :: X.outer) a (L2K.Zk cls d cx) X.env.locals h7 := ⟨m1, noG a (.inl rfl), m2, m3⟩
        rw [← hst] at held
        exact held
    first
      | exact wpAny_bind (wpAny_pure (wpAny_bind goOn))
      | exact wpAny_bind goOn
  show wpAny (model X.prog X.w) X.A (noteFrame (.ref a) X.env) _ _ _
  rcases sky' with ⟨hB, hn, hl, oe, vs, he0, hz, hd, hv1⟩ | fl | hh
  · exact PXN.look_newZ L2K.Zk.steady frA hl hfr he0 hB hn hd hv1 hz main
  · exact PXN.looks_onZ L2K.Zk.steady frA hfr fl main
  · exact HandSPX.againZ hfr hh.2.2.2 (main s'.heap hh (Heap.UpToSlots.refl _))
theorem ps_finXK (hst : X.stack = X.env :: X.outer) (hfr : X.env.frame = some X.env.locals) (hex : X.ex = []) (tk : L2K.Takes X Wout)
    (hb : ∀ (W : WX) (pn : List (Addr × Obj)) (xe : Value → Shared → Prop), L2K.Takes (X.tr pn xe) W → PassesOwn (model X.prog X.w) X.A X.env xe → PSs (X.tr pn xe) body (tb W))
    (hf : PSs X.nox (f₀ :: fs) tf) (hsu : ∀ (a : Addr) (pn : List (Addr × Obj)), HotC2 (X.suite a pn) → PSs (X.suite a pn) (f₀ :: fs) tfs) : PS X (.Try body [] [] (f₀ :: fs) pos) (fun D σ H => tFin (tb (wFin tfs Wout)) tf D σ H) := by
  refine ⟨fun pins s σ H D I h => ?_⟩
  have ok := I.ok
  refine wpAny_Try_finally ?_
  refine wpAny_mono ((hb (wFin tfs Wout) (X.pn ++ pins) (fun x s₁ => wpAny (model X.prog X.w) X.A (noteFrame x X.env) (fun _ s₂ => FinallyRaised X.prog X.w X.A X.xe X.env (f₀ :: fs) (SP X pins D) x s₂) (FinallyRaised X.prog X.w X.A X.xe X.env (f₀ :: fs) (SP X pins D)) s₁)
    (fun u s' xx => ?_) PassesOwn.looking).run [] s σ H _ (I.toTry _) h) (fun g s1 q => ?_) (fun x s1 hx => hx)
  · exact fin_excK hst hfr hex ok tk hsu xx
  · cases g with
    | next =>
      obtain ⟨σ1, H1, I1, q1⟩ := q
      exact wpAny_execs_nil (fin_next hf (I1.ofTry ok) q1)
    | ret u => obtain ⟨_, _, _, _, _, z⟩ := q; exact False.elim z
    | brk => obtain ⟨_, _, _, z⟩ := q; exact False.elim z
    | cont => obtain ⟨_, _, _, z⟩ := q; exact False.elim z
end
section
variable {P : Program} {w : World} {K : PySem.W.Frag} {mg : Str → Option Value} {base : Heap}
theorem Fun.okK {x qual : Str} {st : Stmt} {f : Addr} {fd : FuncData} {N ps : List Str} {k : Nat} {sp : Sp} (F : Fun K x qual st f fd) (S : FnScope N ps (defScope st)) (len : ∀ vs H Q E, sp vs H Q E → vs.length = ps.length)
    (hbody : ∀ (cdv : Value) (A : Around) (outer : List Env) (s : Shared) (H : Hp) (vs : List V) (Q : VK) (E : XK), Room k (A.deeper (envOfC qual (defScope st) s.heap.objs.size f cdv)) → sp vs H Q E →
      ∃ t, PSs (cxOf (L2K.CX P w) P w K mg base N qual (defScope st) f cdv A outer s H E) (defBody st) t ∧ t { nx := fun _ H' => Q .non H', rt := Q } (start N vs) H) : FnOk P w K mg base (L2K.CX P w) (k + 1) f fd ps sp := by
  obtain ⟨oc, od, kV, doc, pm, an, cdv, ct, osl, e, lk, hcd⟩ := F.ex
  subst e
  exact fn_of lk hcd S len (hbody cdv)
end
end Pr
namespace Pr
open PySem PySem.Spec PyProof.Rows L2
theorem FnOk.or {CX : CXT} {P : Program} {w : World} {K : PySem.W.Frag} {mg : Str → Option Value} {base : Heap} {k : Nat} {f : Addr} {fd : FuncData} {ps : List Str} {sp sp2 : Sp} (F : FnOk P w K mg base CX k f fd ps sp) (G : FnOk P w K mg base CX k f fd ps sp2) :
    FnOk P w K mg base CX k f fd ps (fun vs H Q E => sp vs H Q E ∨ sp2 vs H Q E) :=
  ⟨fun vs H Q E h => h.elim (F.len _ _ _ _) (G.len _ _ _ _), fun A outer s H args us vs Q E hr e0 hb r h => h.elim (F.run A outer s H args us vs Q E hr e0 hb r) (G.run A outer s H args us vs Q E hr e0 hb r)⟩
theorem heldZ_imp {B h : Heap} {l : List Env} {a L : Addr} {Z Z' : Obj → Prop} (f : ∀ o, Z o → Z' o) (x : HandSPX.HeldZ B l a Z L h) : HandSPX.HeldZ B l a Z' L h := by
  obtain ⟨k1, k2, k3, oe, vs, T, oT, ts, he, hz, rest⟩ := x
  exact ⟨k1, k2, k3, oe, vs, T, oT, ts, he, f _ hz, rest⟩
theorem sky_imp {B h : Heap} {l : List Env} {a L : Addr} {Z Z' : Obj → Prop} (f : ∀ o, Z o → Z' o) (x : Sky B l a Z L h) : Sky B l a Z' L h := by
  rcases x with ⟨h1, h2, h3, oe, vs, he, hz, rest⟩ | x | x
  · exact .inl ⟨h1, h2, h3, oe, vs, he, f _ hz, rest⟩
  · exact .inr (.inl (L2H.flyingZ_imp f x))
  · exact .inr (.inr (heldZ_imp f x))
theorem takesK_of {X : Cx} {W : WX} (tk : L2.Takes X W) : L2K.Takes X W := fun u s' ⟨a, B, sI, pins, σ, H, cls, d, cx, e, I, nb, up, sky, na, lo, os, ag, w⟩ =>
  tk u s' ⟨a, B, sI, pins, σ, H, cls, d, e, I, nb, up, sky_imp (fun o z => z.zc) sky, na, os, ag, w⟩
section
variable {K : PySem.W.Frag} {N : Addr → Prop} {H H' : Hp}
mutual
theorem dq_dp : ∀ (d : PyData) (v : V), lf d = true → Dq K N H v d → Dp K H v d
  | .none, _, _, h => by cases h; exact .non
  | .bool b, _, _, h => by cases h; exact .bl b
  | .int i, _, _, h => by cases h; exact .int i
  | .str x, _, _, h => by cases h; exact .str x
  | .tuple ds, _, l, h => by
    cases h with
    | tup e q => exact .tup e (dq_dpAll ds _ l q)
  | .list ds, _, l, _ => by cases l
  | .dict ds, _, l, _ => by cases l
theorem dq_dpAll : ∀ (ds : List PyData) (vs : List V), lfAll ds = true → DqAll K N H vs ds → DpAll K H vs ds
  | [], _, _, h => by cases h; exact .nil
  | d :: ds, _, l, h => by
    have l2 : lf d = true ∧ lfAll ds = true := by simpa [lfAll] using l
    cases h with
    | cons a b => exact .cons (dq_dp d _ l2.1 a) (dq_dpAll ds _ l2.2 b)
end
mutual
theorem dp_dqL : ∀ (d : PyData) (v : V), lf d = true → Dp K H v d → Dq K N H v d
  | .none, _, _, h => by cases h; exact .non
  | .bool b, _, _, h => by cases h; exact .bl b
  | .int i, _, _, h => by cases h; exact .int i
  | .str x, _, _, h => by cases h; exact .str x
  | .tuple ds, _, l, h => by
    cases h with
    | tup e q => exact .tup e (dp_dqAll ds _ l q)
  | .list ds, _, l, _ => by cases l
  | .dict ds, _, l, _ => by cases l
theorem dp_dqAll : ∀ (ds : List PyData) (vs : List V), lfAll ds = true → DpAll K H vs ds → DqAll K N H vs ds
  | [], _, _, h => by cases h; exact .nil
  | d :: ds, _, l, h => by
    have l2 : lf d = true ∧ lfAll ds = true := by simpa [lfAll] using l
    cases h with
    | cons a b => exact .cons (dp_dqL d _ l2.1 a) (dp_dqAll ds _ l2.2 b)
end
mutual
theorem Dq.keepL (hs : ∀ l xs, ¬ N l → H l = some (.lst xs) → H' l = some (.lst xs)) (ht : ∀ l xs, SqT K H l xs → SqT K H' l xs) (hk : ∀ l kvs, H l = some (.dK kvs) → H' l = some (.dK kvs)) : ∀ (d : PyData) (v : V), Dq K N H v d → Dq K N H' v d
  | .none, _, h => by cases h; exact .non
  | .bool b, _, h => by cases h; exact .bl b
  | .int i, _, h => by cases h; exact .int i
  | .str x, _, h => by cases h; exact .str x
  | .list ds, _, h => by
    cases h with
    | lst h1 h2 e q => exact .lst h1 h2 (hs _ _ h2 e) (Dq.keepLAll hs ht hk ds _ q)
  | .tuple ds, _, h => by
    cases h with
    | tup e q => exact .tup (ht _ _ e) (Dq.keepLAll hs ht hk ds _ q)
  | .dict kvs, _, h => by
    cases h with
    | dct0 e => exact .dct0 (hk _ _ e)
    | dct1 e => exact .dct1 (hk _ _ e)
    | dctN e => exact .dctN (hk _ _ e)
    | dct2 e => exact .dct2 (hk _ _ e)
theorem Dq.keepLAll (hs : ∀ l xs, ¬ N l → H l = some (.lst xs) → H' l = some (.lst xs)) (ht : ∀ l xs, SqT K H l xs → SqT K H' l xs) (hk : ∀ l kvs, H l = some (.dK kvs) → H' l = some (.dK kvs)) : ∀ (ds : List PyData) (vs : List V), DqAll K N H vs ds → DqAll K N H' vs ds
  | [], _, h => by cases h; exact .nil
  | d :: ds, _, h => by
    cases h with
    | cons r t => exact .cons (Dq.keepL hs ht hk d _ r) (Dq.keepLAll hs ht hk ds _ t)
end
theorem Dq.butO {g C dx : Addr} {fs : List (Str × V)} (e : H g = some (.ins C dx fs)) (b : ButO g H H') {v : V} {d : PyData} (h : Dq K N H v d) : Dq K N H' v d :=
  Dq.keepL (fun l xs _ eo => b l _ (ne_of eo e (by intro z; cases z)) eo) (fun _ _ q => sqT_kp (b.kp e) q) (fun l kvs q => b _ _ (ne_of q e (by intro z; cases z)) q) d v h
theorem DqAll.butO {g C dx : Addr} {fs : List (Str × V)} (e : H g = some (.ins C dx fs)) (b : ButO g H H') {v : List V} {d : List PyData} (h : DqAll K N H v d) : DqAll K N H' v d :=
  Dq.keepLAll (fun l xs _ eo => b l _ (ne_of eo e (by intro z; cases z)) eo) (fun _ _ q => sqT_kp (b.kp e) q) (fun l kvs q => b _ _ (ne_of q e (by intro z; cases z)) q) d v h
theorem DqAll.get2 : ∀ {vs : List V} {ds : List PyData}, DqAll K N H vs ds → ∀ (i : Nat) (d : PyData), ds[i]? = some d → ∃ v, vs[i]? = some v ∧ Dq K N H v d
  | _, _, .nil, i, d, h => by simp at h
  | _, _, .cons r t, 0, d, h => by simp at h; subst h; exact ⟨_, rfl, r⟩
  | _, _, .cons r t, i + 1, d, h => by
    obtain ⟨v, h1, h2⟩ := t.get2 i d (by simpa using h)
    exact ⟨v, by simpa using h1, h2⟩
end
end Pr
namespace K48
open PySem PySem.Spec PyProof.Rows L2 Pr
abbrev sDoEdit : Stmt := inClass (topS 46) 14
abbrev sDoBatch : Stmt := inClass (topS 46) 13
abbrev sAttempt : Stmt := inClass (topS 46) 12
/-- edits that can be done one after another: what they lead to, and what they add to the past -/
inductive Eds : List (List Int) → List Int → List PyData → List (List Int) → List Int → List (PyData × List (List Int) × List Int) → Prop
  | nil {pan : List (List Int)} {st : List Int} : Eds pan st [] pan st []
  | cons {pan pan1 pan' : List (List Int)} {st st' : List Int} {d : PyData} {ds : List PyData} {f : List Int → List Int} {xs : List (PyData × List (List Int) × List Int)} (h : Ed pan d pan1 f) (t : Eds pan1 (f st) ds pan' st' xs) : Eds pan st (d :: ds) pan' st' ((d, pan, st) :: xs)
theorem Eds.lf {pan pan' : List (List Int)} {st st' : List Int} {ds : List PyData} {xs : List (PyData × List (List Int) × List Int)} (h : Eds pan st ds pan' st' xs) : ∀ d ∈ ds, Pr.lf d = true := by
  induction h with
  | nil => intro d hd; cases hd
  | cons h t ih =>
    intro d hd
    rcases List.mem_cons.mp hd with rfl | hd
    · exact h.lf
    · exact ih d hd
theorem Eds.len {pan pan' : List (List Int)} {st st' : List Int} {ds : List PyData} {xs : List (PyData × List (List Int) × List Int)} (h : Eds pan st ds pan' st' xs) : xs.length = ds.length := by
  induction h with
  | nil => rfl
  | cons h t ih => rw [List.length_cons, List.length_cons, ih]
theorem Eds.ed {pan pan' : List (List Int)} {st st' : List Int} {ds : List PyData} {xs : List (PyData × List (List Int) × List Int)} (h : Eds pan st ds pan' st' xs) : ∀ d ∈ ds, ∃ p p' f, Ed p d p' f := by
  induction h with
  | nil => intro d hd; cases hd
  | cons h t ih =>
    intro d hd
    rcases List.mem_cons.mp hd with rfl | hd
    · exact ⟨_, _, _, h⟩
    · exact ih d hd
theorem at_zero {v : V} {xs : List V} : atI (v :: xs) 0 = some v := atI_nat (xs := v :: xs) (j := 0) rfl
/-- the dict of the module: how many values each edit takes -/
structure KVal (K : PySem.W.Frag) (w : World) (mg : Str → Option Value) (dV : Addr) : Prop where
  g : mg "VALUES" = some (.ref dV)
  kd : ∃ es n, KDict K w dV es n
  v1 : ∃ t, PySem.W.nsIn K dV "press" = some (some (.int 1 t))
  v2 : ∃ t, PySem.W.nsIn K dV "link" = some (some (.int 2 t))
  v3 : ∃ t, PySem.W.nsIn K dV "unlink" = some (some (.int 2 t))
theorem KVal.at {K : PySem.W.Frag} {w : World} {mg : Str → Option Value} {dV : Addr} (V : KVal K w mg dV) {x : Str} {n : Nat} (h : (x = "press" ∧ n = 1) ∨ (x = "link" ∧ n = 2) ∨ (x = "unlink" ∧ n = 2)) : ∃ t, PySem.W.nsIn K dV x = some (some (.int (n : Int) t)) := by
  rcases h with ⟨rfl, rfl⟩ | ⟨rfl, rfl⟩ | ⟨rfl, rfl⟩
  · exact V.v1
  · exact V.v2
  · exact V.v3
def isStrD : PyData → Bool
  | .str _ => true
  | _ => false
theorem kit_str (d : PyData) : kitB (tyD d) "str" = some (isStrD d) := by
  cases d with
  | none => show kitB "NoneType" "str" = some false; decide +kernel
  | bool _ => show kitB "bool" "str" = some false; decide +kernel
  | int _ => show kitB "int" "str" = some false; decide +kernel
  | str _ => show kitB "str" "str" = some true; decide +kernel
  | list _ => show kitB "list" "str" = some false; decide +kernel
  | tuple _ => show kitB "tuple" "str" = some false; decide +kernel
  | dict _ => show kitB "dict" "str" = some false; decide +kernel
def isTupD : PyData → Bool
  | .tuple _ => true
  | _ => false
theorem kit_tup (d : PyData) : kitB (tyD d) "tuple" = some (isTupD d) := by
  cases d with
  | none => show kitB "NoneType" "tuple" = some false; decide +kernel
  | bool _ => show kitB "bool" "tuple" = some false; decide +kernel
  | int _ => show kitB "int" "tuple" = some false; decide +kernel
  | str _ => show kitB "str" "tuple" = some false; decide +kernel
  | list _ => show kitB "list" "tuple" = some false; decide +kernel
  | tuple _ => show kitB "tuple" "tuple" = some true; decide +kernel
  | dict _ => show kitB "dict" "tuple" = some false; decide +kernel
/-- what is_edit answers -/
def isEdB : PyData → Bool
  | .tuple (.str w :: ds) => (decide (w = "press") && decide (ds.length = 1)) || ((decide (w = "link") || decide (w = "unlink")) && decide (ds.length = 2))
  | _ => false
theorem isEdB_tup (w : Str) (ds : List PyData) : isEdB (.tuple (.str w :: ds)) = ((decide (w = "press") && decide (ds.length = 1)) || ((decide (w = "link") || decide (w = "unlink")) && decide (ds.length = 2))) := rfl
/-- a word that VALUES knows, or that it is known not to know -/
def VWd (K : PySem.W.Frag) (dV : Addr) (w : Str) : Prop := (w = "press" ∨ w = "link" ∨ w = "unlink") ∨ PySem.W.nsIn K dV w = some none
def WdOk (K : PySem.W.Frag) (dV : Addr) (d : PyData) : Prop := ∀ w r, d = .tuple (.str w :: r) → VWd K dV w
theorem isEdB_ed {pan pan' : List (List Int)} {d : PyData} {f : List Int → List Int} (h : Ed pan d pan' f) : isEdB d = true := by
  cases h with
  | press _ _ => rfl
  | link _ _ => rfl
  | unlink _ _ => rfl
theorem wdOk_ed {K : PySem.W.Frag} {dV : Addr} {pan pan' : List (List Int)} {d : PyData} {f : List Int → List Int} (h : Ed pan d pan' f) : WdOk K dV d := fun w r e => by
  cases h with
  | press _ _ => cases e; exact .inl (.inl rfl)
  | link _ _ => cases e; exact .inl (.inr (.inl rfl))
  | unlink _ _ => cases e; exact .inl (.inr (.inr rfl))
def nIsE : List Str := ["value"]
theorem scIsE : FnScope nIsE ["value"] (defScope sIsE) := ⟨rfl, rfl, rfl, by decide +kernel, rfl, by decide +kernel, by decide +kernel⟩
section
variable {P : Program} {w : World} {K : PySem.W.Frag} {mg : Str → Option Value} {base : Heap}
def spIsE (K : PySem.W.Frag) (dV : Addr) : Sp := fun vs H Q _ => ∃ (N : Addr → Prop) (v : V) (d : PyData), vs = [v] ∧ Dq K N H v d ∧ WdOk K dV d ∧ Q (.bl (isEdB d)) H
theorem ok_IsE {f dV : Addr} {fd : FuncData} {k : Nat} (F : Fun K "is_edit" "is_edit" sIsE f fd) (m_isinstance : mg "isinstance" = none) (m_len : mg "len" = none) (m_str : mg "str" = none) (m_tuple : mg "tuple" = none) (VA : KVal K w mg dV) : FnOk P w K mg base CX0 (k + 1) f fd ["value"] (spIsE K dV) := by
  obtain ⟨es, n, KD_VALUES⟩ := VA.kd
  have y_VALUES := VA.g
  refine F.ok scIsE (fun vs H Q E h => ?_) (fun cdv A outer s H vs Q E hr h => ?_)
  · obtain ⟨N, v, d, rfl, _⟩ := h
    rfl
  · obtain ⟨N, v, d, rfl, dv, hw, q⟩ := h
    refine ⟨_, pss_cons (ps_if (PW.pt (pw_or (pt_not (pt_val (pe_callB (show CallR _ _ (rIsi K) from call_isi) (by rfl) m_isinstance (by decide +kernel) (pa_cons (pv 0) (pa_cons (pe_bltn (v := .ty "tuple") (by rfl) m_tuple (by decide +kernel) rfl) pa_nil))))) (pw_or (pt_cmpR op_eq (pe_callB (show CallR _ _ (rLenG K) from cr_lenG) (by rfl) m_len PySem.boot_len (pa_cons (pv 0) pa_nil)) pe_int (nomark _)) (pw_or1 (pt_not (pt_val (pe_callB (show CallR _ _ (rIsi K) from call_isi) (by rfl) m_isinstance (by decide +kernel) (pa_cons (pe_ix (show IxR _ (rIxT K) from ix_tup) (pv 0) pe_int (fun _ _ => rfl)) (pa_cons (pe_bltn (v := .ty "str") (by rfl) m_str (by decide +kernel) rfl) pa_nil))))))))) (pss_one (ps_ret pe_bl)) pss_nil)
      (pss_one (ps_ret (pe_and (pe_cmpR (op_in_kd KD_VALUES) (pe_ix (show IxR _ (rIxT K) from ix_tup) (pv 0) pe_int (fun _ _ => rfl)) (pe_glob (v := .ref dV) (by rfl) y_VALUES rfl) (by rfl)) (pe_one (pe_cmpR op_eq (pe_callB (show CallR _ _ (rLenG K) from cr_lenG) (by rfl) m_len PySem.boot_len (pa_cons (pv 0) pa_nil)) (pe_op op_add pe_int (pe_ix ix_kdict (pe_glob (v := .ref dV) (by rfl) y_VALUES rfl) (pe_ix (show IxR _ (rIxT K) from ix_tup) (pv 0) pe_int (fun _ _ => rfl)) (fun _ _ => rfl))) (nomark _)))))), ?_⟩
    have ty : TyX K H v (.type (tyD d)) := Dq.ty dv
    cases d with
    | tuple ds =>
      cases dv with
      | @tup a xs _ hq ha =>
      refine ⟨.ref a, rfl, .ref a, .ty "tuple", _, _, _, rfl, .ty "tuple", ty, kit_ty (a := "tuple") (b := "tuple") (r := true) (by decide +kernel), _, rfl, iteF ?_⟩
      refine ⟨.ref a, rfl, a, _, rfl, .inr hq, rfl, _, rfl, ?_⟩
      cases ha with
      | nil => exact iteT (iteT q)
      | @cons x xs d0 ds hx hxs =>
        rw [show decide (V.int ((x :: xs).length : Nat) = V.int 0) = false from decide_eq_false (by rw [List.length_cons]; intro z; injection z with z; omega)]
        refine iteF ?_
        have hl : xs.length = ds.length := hxs.length
        have ty0 : TyX K H x (.type (tyD d0)) := Dq.ty hx
        refine ⟨.ref a, rfl, a, _, 0, x, rfl, rfl, hq, at_zero, x, .ty "str", _, _, _, rfl, .ty "str", ty0, kit_ty (kit_str d0), _, rfl, ?_⟩
        cases d0 with
        | str w0 =>
          cases hx
          refine iteF ?_
          have fin : ∀ n : Int, VWd K dV w0 → True := fun _ _ => trivial
          rcases hw w0 ds rfl with hk | hn
          · have hk2 : ∃ n : Nat, n ≤ 2 ∧ ((w0 = "press" ∧ n = 1) ∨ (w0 = "link" ∧ n = 2) ∨ (w0 = "unlink" ∧ n = 2)) := by
              rcases hk with h | h | h
              · exact ⟨1, by decide, .inl ⟨h, rfl⟩⟩
              · exact ⟨2, by decide, .inr (.inl ⟨h, rfl⟩)⟩
              · exact ⟨2, by decide, .inr (.inr ⟨h, rfl⟩)⟩
            obtain ⟨n, _, hn2⟩ := hk2
            obtain ⟨tk, hns⟩ := VA.at (x := w0) (n := n) hn2
            refine ⟨.ref a, rfl, a, _, 0, .str w0, rfl, rfl, hq, at_zero, w0, _, rfl, rfl, hns, true, rfl, iteT ?_⟩
            refine ⟨.ref a, rfl, a, _, rfl, .inr hq, .ref a, rfl, a, _, 0, .str w0, rfl, rfl, hq, at_zero, dV, w0, .int (n : Int), rfl, rfl, ⟨_, _, _, KD_VALUES.at_, KD_VALUES.lit, hns, ⟨tk, rfl⟩⟩, 1, _, rfl, rfl, rfl, ?_⟩
            have e : isEdB (.tuple (.str w0 :: ds)) = decide (V.int ((V.str w0 :: xs).length : Nat) = V.int (1 + (n : Int))) := by
              have e2 : decide (V.int ((V.str w0 :: xs).length : Nat) = V.int (1 + (n : Int))) = decide (ds.length = n) := by
                by_cases z : ds.length = n
                · rw [decide_eq_true z, decide_eq_true (by rw [List.length_cons, hl]; congr 1; omega)]
                · rw [decide_eq_false z, decide_eq_false (by rw [List.length_cons, hl]; intro y; injection y with y; omega)]
              rw [e2]
              rcases hn2 with ⟨rfl, rfl⟩ | ⟨rfl, rfl⟩ | ⟨rfl, rfl⟩
              · rw [isEdB_tup]
                rw [show decide (("press" : Str) = "press") = true from decide_eq_true rfl, show decide (("press" : Str) = "link") = false by decide +kernel, show decide (("press" : Str) = "unlink") = false by decide +kernel]
                simp
              · rw [isEdB_tup]
                rw [show decide (("link" : Str) = "press") = false by decide +kernel, show decide (("link" : Str) = "link") = true from decide_eq_true rfl]
                simp
              · rw [isEdB_tup]
                rw [show decide (("unlink" : Str) = "press") = false by decide +kernel, show decide (("unlink" : Str) = "link") = false by decide +kernel, show decide (("unlink" : Str) = "unlink") = true from decide_eq_true rfl]
                simp
            rw [← e]
            exact q
          · refine ⟨.ref a, rfl, a, _, 0, .str w0, rfl, rfl, hq, at_zero, w0, _, rfl, rfl, hn, false, rfl, iteF ?_⟩
            have np : ∀ {m : Nat} {y : Str}, (y = "press" ∧ m = 1) ∨ (y = "link" ∧ m = 2) ∨ (y = "unlink" ∧ m = 2) → w0 ≠ y := fun h z => by
              obtain ⟨tk, hns⟩ := VA.at h
              rw [← z, hn] at hns
              cases hns
            have e : isEdB (.tuple (.str w0 :: ds)) = false := by
              rw [isEdB_tup]
              rw [decide_eq_false (np (.inl ⟨rfl, rfl⟩)), decide_eq_false (np (.inr (.inl ⟨rfl, rfl⟩))), decide_eq_false (np (.inr (.inr ⟨rfl, rfl⟩)))]
              rfl
            rw [e] at q
            exact q
        | _ => exact iteT q
    | _ =>
      refine ⟨v, rfl, v, .ty "tuple", _, _, _, rfl, .ty "tuple", ty, kit_ty (kit_tup _), _, rfl, iteT (iteT q)⟩
end
end K48
namespace Pr
open PySem PySem.Spec PyProof.Rows L2
/-- a value, or a list of values that may be any list -/
def DqO (K : PySem.W.Frag) (N : Addr → Prop) (H : Hp) (v : V) (d : PyData) : Prop := Dq K N H v d ∨ ∃ a ws ds, v = .ref a ∧ d = .list ds ∧ H a = some (.lst ws) ∧ DqAll K N H ws ds
theorem DqO.same {K : PySem.W.Frag} {N : Addr → Prop} {H H' : Hp} {v : V} {d : PyData} (h : DqO K N H v d) (s : Same H H') : DqO K N H' v d := by
  rcases h with h | ⟨a, ws, ds, h1, h2, h3, h4⟩
  · exact .inl (Dq.same s _ _ h)
  · exact .inr ⟨a, ws, ds, h1, h2, s _ _ h3, Dq.sameAll s _ _ h4⟩
theorem DqO.ty {K : PySem.W.Frag} {N : Addr → Prop} {H : Hp} {v : V} {d : PyData} (h : DqO K N H v d) : TyX K H v (.type (tyD d)) := by
  rcases h with h | ⟨a, ws, ds, rfl, rfl, h3, h4⟩
  · exact h.ty
  · exact .base (.lst h3)
theorem DqO.lst {K : PySem.W.Frag} {N : Addr → Prop} {H : Hp} {v : V} {ds : List PyData} (h : DqO K N H v (.list ds)) : ∃ a ws, v = .ref a ∧ SqL K H a ws ∧ DqAll K N H ws ds := by
  rcases h with h | ⟨a, ws, ds', rfl, e, h3, h4⟩
  · cases h with
    | @lst a ws _ h1 h2 h3 h4 => exact ⟨a, ws, rfl, .inl (.inl h3), h4⟩
  · cases e
    exact ⟨a, ws, rfl, .inl (.inl h3), h4⟩
theorem DqO.tup {K : PySem.W.Frag} {N : Addr → Prop} {H : Hp} {v : V} {ds : List PyData} (h : DqO K N H v (.tuple ds)) : ∃ a ws, v = .ref a ∧ SqT K H a ws ∧ DqAll K N H ws ds := by
  rcases h with h | ⟨a, ws, ds', rfl, e, h3, h4⟩
  · cases h with
    | @tup a ws _ h3 h4 => exact ⟨a, ws, rfl, h3, h4⟩
  · cases e
/-- nothing new is in N -/
def FrN (N : Addr → Prop) (H : Hp) : Prop := ∀ H', Same H H' → ∀ l, H' l = none → ¬ N l
abbrev NAC (a c : Addr) : Addr → Prop := fun x => x = a ∨ x = c
theorem FrN.sm {N : Addr → Prop} {H H' : Hp} (f : FrN N H) (s : Same H H') : FrN N H' := fun H2 s2 => f H2 (s.trans s2)
theorem frN_deck {H : Hp} {a c : Addr} {m : Nat} (D : Deck H a c m) : FrN (NAC a c) H := fun H' s l n z => by
  have f := (D.same s).fresh n
  exact z.elim f.1 f.2
/-- two lists joined: what comes of it is new, and not sys.modules -/
def rCatG : R2 := fun x y H Q => ∃ p b us zs, x = .ref p ∧ y = .ref b ∧ (H p = some (.lst us) ∧ H b = some (.lst zs)) ∧ us.length + zs.length ≤ sizeLine ∧ ∀ r, H r = none → r ≠ sysModules → Q (.ref r) (upd H r (.lst (us ++ zs)))
theorem op_catG {X : Cx} : OpR X (binaryOp .Add) rCatG := fun pins s σ H x y v u Q I rx ry h => by
  obtain ⟨p, b, us, zs, ex, ey, ⟨hp, hb⟩, few, q⟩ := h
  subst ex ey
  cases rx; cases ry
  obtain ⟨_, is1, n1, r1, l1, g1⟩ := I.lstM hp
  obtain ⟨_, is2, n2, r2, l2, g2⟩ := I.lstM hb
  have few2 : is1.length + is2.length ≤ sizeLine := by omega
  refine PySem.P.add_list g1 g2 (?_) (by simpa using few2)
  rw [show is1.toArray ++ is2.toArray = (is1 ++ is2).toArray from by simp]
  have new := I.lnew (t' := s.toks) (r1.append r2) (by rw [List.length_append]; exact few)
  exact ⟨.ref _, _, new, rfl, q _ I.fresh fun z => Nat.ne_of_gt I.big z⟩
/-- gives a value of this kind -/
def GvQ (K : PySem.W.Frag) (N : Addr → Prop) (te : TE) (σ : L2.St) (H : Hp) (d : PyData) : Prop := ∀ H1, Same H H1 → ∀ Q : VK, (∀ v H', Same H1 H' → Dq K N H' v d → Q v H') → te σ H1 Q
def GvQA (K : PySem.W.Frag) (N : Addr → Prop) (ta : TA) (σ : L2.St) (H : Hp) (ds : List PyData) : Prop := ∀ H1, Same H H1 → ∀ Q : List V → Hp → Prop, (∀ vs H', Same H1 H' → DqAll K N H' vs ds → Q vs H') → ta σ H1 Q
/-- gives a list, not to be kept as a value -/
def GvQL (K : PySem.W.Frag) (N : Addr → Prop) (te : TE) (σ : L2.St) (H : Hp) (ds : List PyData) : Prop := ∀ H1, Same H H1 → ∀ Q : VK, (∀ a vs H', Same H1 H' → H' a = some (.lst vs) → DqAll K N H' vs ds → Q (.ref a) H') → te σ H1 Q
/-- gives a new list -/
def GvQN (K : PySem.W.Frag) (N : Addr → Prop) (te : TE) (σ : L2.St) (H : Hp) (ds : List PyData) : Prop := ∀ H1, Same H H1 → ∀ Q : VK, (∀ a vs H', Same H1 H' → H1 a = none → H' a = some (.lst vs) → DqAll K N H' vs ds → Q (.ref a) H') → te σ H1 Q
section
variable {K : PySem.W.Frag} {N : Addr → Prop} {σ : L2.St} {H H' : Hp} {t ta tb : TE} {ta' : TA} {d e : PyData} {ds es : List PyData}
theorem GvQ.at (h : GvQ K N t σ H d) {Q : VK} (q : ∀ v H', Same H H' → Dq K N H' v d → Q v H') : t σ H Q := h H (Same.refl _) Q q
theorem GvQL.at (h : GvQL K N t σ H ds) {Q : VK} (q : ∀ a vs H', Same H H' → H' a = some (.lst vs) → DqAll K N H' vs ds → Q (.ref a) H') : t σ H Q := h H (Same.refl _) Q q
theorem gq_var {i : Nat} {v : V} (h : σ[i]? = some (some v)) (hd : Dq K N H v d) : GvQ K N (tVar i) σ H d := fun H1 s Q q => ⟨v, h, q v H1 (Same.refl _) (Dq.same s _ _ hd)⟩
theorem gq_of (h : Gv K t σ H d) (l : lf d = true) : GvQ K N t σ H d := fun H1 s Q q => h H1 s Q fun v H2 s2 dv => q v H2 s2 (dp_dqL d v l dv)
theorem gq_int {i : Int} : GvQ K N (tC (.int i)) σ H (.int i) := fun H1 _ Q q => q _ H1 (Same.refl _) (.int i)
theorem gq_str {x : Str} : GvQ K N (tC (.str x)) σ H (.str x) := fun H1 _ Q q => q _ H1 (Same.refl _) (.str x)
theorem gq_bl {x : Bool} : GvQ K N (tC (.bl x)) σ H (.bool x) := fun H1 _ Q q => q _ H1 (Same.refl _) (.bl x)
theorem gq_non : GvQ K N (tC .non) σ H .none := fun H1 _ Q q => q _ H1 (Same.refl _) .non
theorem gqa_nil : GvQA K N tNil σ H [] := fun H1 _ Q q => q [] H1 (Same.refl _) .nil
theorem gqa_cons (h : GvQ K N t σ H d) (g : GvQA K N ta' σ H ds) : GvQA K N (tCons t ta') σ H (d :: ds) := fun H1 s Q q => h H1 s _ fun v H2 s2 dv => g H2 (s.trans s2) _ fun vs H3 s3 dvs => q _ H3 (s2.trans s3) (.cons (Dq.same s3 _ _ dv) dvs)
theorem gq_tup (h : GvQA K N ta' σ H ds) (hl : ds.length ≤ sizeLine := by first | decide | exact Nat.le_of_lt (small5 (by simp only [List.length_cons, List.length_nil]; decide))) : GvQ K N (tTup ta') σ H (.tuple ds) := fun H1 s Q q => h H1 s _ fun vs H2 s2 dvs =>
  ⟨by rw [dvs.length]; exact hl, fun p np => q _ _ (s2.trans (same_new np)) (.tup (.inl (.inl upd_same)) (Dq.sameAll (same_new np) _ _ dvs))⟩
theorem gq_lst (h : GvQA K N ta' σ H ds) (fr : FrN N H) (hl : ds.length ≤ sizeLine := by first | decide | exact Nat.le_of_lt (small5 (by simp only [List.length_cons, List.length_nil]; decide))) : GvQ K N (tLstG ta') σ H (.list ds) := fun H1 s Q q => h H1 s _ fun vs H2 s2 dvs =>
  ⟨by rw [dvs.length]; exact hl, fun p np sp => q _ _ (s2.trans (same_new np)) (.lst sp (fr H2 (s.trans s2) p np) upd_same (Dq.sameAll (same_new np) _ _ dvs))⟩
theorem gql_lst (h : GvQA K N ta' σ H ds) (hl : ds.length ≤ sizeLine := by first | decide | exact Nat.le_of_lt (small5 (by simp only [List.length_cons, List.length_nil]; decide))) : GvQL K N (tLst ta') σ H ds := fun H1 s Q q => h H1 s _ fun vs H2 s2 dvs =>
  ⟨by rw [dvs.length]; exact hl, fun p np => q _ _ _ (s2.trans (same_new np)) upd_same (Dq.sameAll (same_new np) _ _ dvs)⟩
theorem GvQN.at (h : GvQN K N t σ H ds) {Q : VK} (q : ∀ a vs H', Same H H' → H a = none → H' a = some (.lst vs) → DqAll K N H' vs ds → Q (.ref a) H') : t σ H Q := h H (Same.refl _) Q q
theorem gqn_lst (h : GvQA K N ta' σ H ds) (hl : ds.length ≤ sizeLine := by first | decide | exact Nat.le_of_lt (small5 (by simp only [List.length_cons, List.length_nil]; decide))) : GvQN K N (tLst ta') σ H ds := fun H1 s Q q => h H1 s _ fun vs H2 s2 dvs =>
  ⟨by rw [dvs.length]; exact hl, fun p np => q _ _ _ (s2.trans (same_new np)) (s2.free np) upd_same (Dq.sameAll (same_new np) _ _ dvs)⟩
theorem gqn_cat (ha : GvQL K N ta σ H ds) (hb : GvQL K N tb σ H es) (hn : ds.length + es.length ≤ 100000) : GvQN K N (tOp rCat ta tb) σ H (ds ++ es) := fun H1 s Q q =>
  ha H1 s _ fun a xs H2 s2 ea da => hb H2 (s.trans s2) _ fun b ys H3 s3 eb db =>
    ⟨a, b, xs, ys, rfl, rfl, s3 _ _ ea, eb, by rw [da.length, db.length]; exact Nat.le_of_lt (small5 hn), fun p np => q _ _ _ ((s2.trans s3).trans (same_new np)) ((s2.trans s3).free np) upd_same (DqAll.append (Dq.sameAll (s3.trans (same_new np)) _ _ da) (Dq.sameAll (same_new np) _ _ db))⟩
theorem gs_setQN {i : Nat} {u : TS} {D : Ends} (h : GvQN K N t σ H ds) (q : ∀ a vs H', Same H H' → H a = none → H' a = some (.lst vs) → DqAll K N H' vs ds → u D (σ.set i (some (.ref a))) H') : tSeq (tAsg t (gName i)) u D σ H := h.at fun a vs H' s n e dv => q a vs H' s n e dv
theorem gq_dct : GvQ K N tDNewK σ H (.dict []) := fun H1 s Q q p np => q _ _ (same_new np) (.dct0 upd_same)
theorem gql_of (h : GvL K t σ H ds) (l : lfAll ds = true) : GvQL K N t σ H ds := fun H1 s Q q => h H1 s Q fun a vs H2 s2 e dv => q a vs H2 s2 e (dp_dqAll ds vs l dv)
theorem gql_var {i : Nat} {a : Addr} {vs : List V} (h : σ[i]? = some (some (.ref a))) (e : H a = some (.lst vs)) (hd : DqAll K N H vs ds) : GvQL K N (tVar i) σ H ds := fun H1 s Q q => ⟨_, h, q a vs H1 (Same.refl _) (s _ _ e) (Dq.sameAll s _ _ hd)⟩
theorem gql_cat (ha : GvQL K N ta σ H ds) (hb : GvQL K N tb σ H es) (hn : ds.length + es.length ≤ 100000) : GvQL K N (tOp rCat ta tb) σ H (ds ++ es) := fun H1 s Q q =>
  ha H1 s _ fun a xs H2 s2 ea da => hb H2 (s.trans s2) _ fun b ys H3 s3 eb db =>
    ⟨a, b, xs, ys, rfl, rfl, s3 _ _ ea, eb, by rw [da.length, db.length]; exact Nat.le_of_lt (small5 hn), fun p np => q _ _ _ ((s2.trans s3).trans (same_new np)) upd_same (DqAll.append (Dq.sameAll (s3.trans (same_new np)) _ _ da) (Dq.sameAll (same_new np) _ _ db))⟩
theorem seq_asg {g : TG} {u : TS} {D : Ends} (h : t σ H fun x H1 => g x σ H1 fun σ' H' => u D σ' H') : tSeq (tAsg t g) u D σ H := h
theorem op_go {r : R2} {Q : VK} (h : ta σ H fun x H1 => tb σ H1 fun y H2 => r x y H2 Q) : tOp r ta tb σ H Q := h
/-- xs[..][k] behind a number that is drawn -/
theorem dq_pick {vs : List V} {r : Int} {n : Nat} (hd : DqAll K N H vs ds) (hn : ds.length = n) (h0 : 0 ≤ r) (h1 : r < (n : Int)) : ∃ v d, atI vs r = some v ∧ ds[r.toNat]? = some d ∧ d ∈ ds ∧ Dq K N H v d := by
  have hl : r.toNat < ds.length := by omega
  obtain ⟨v, hv, dv⟩ := hd.get2 r.toNat _ (List.getElem?_eq_getElem hl)
  refine ⟨v, _, ?_, List.getElem?_eq_getElem hl, List.getElem_mem hl, dv⟩
  have := atI_nat hv
  rwa [Int.toNat_of_nonneg h0] at this
end
end Pr
namespace K48
open PySem PySem.Spec PyProof.Rows L2 Pr
abbrev sInitE : Stmt := inClass (topS 13) 0
theorem scInitE : FnScope ["self", "index"] ["self", "index"] (defScope sInitE) := ⟨rfl, rfl, rfl, by decide +kernel, rfl, by decide +kernel, by decide +kernel⟩
section
variable {P : Program} {w : World} {K : PySem.W.Frag} {mg : Str → Option Value} {base : Heap}
theorem ok_initE {f C : Addr} {fd : FuncData} {k : Nat} (F : Fun K "__init__" "BadEdit.__init__" sInitE f fd) : FnOk P w K mg base CX0 (k + 1) f fd ["self", "index"] (spI K C "index") := by
  refine F.ok scInitE (fun vs H Q E h => ?_) (fun cdv A outer s H vs Q E hr h => ?_)
  · obtain ⟨e, y, rfl, _⟩ := h
    rfl
  · obtain ⟨e, y, rfl, T, hno, he, q⟩ := h
    refine ⟨_, pss_one (ps_ost (pv 0) (pv 1)), ?_⟩
    exact ⟨y, rfl, .ref e, rfl, e, C, rfl, T, hno, .inl ⟨he, q⟩⟩
end
def seqD : PyData → Option (List PyData)
  | .list ds => some ds
  | .tuple ds => some ds
  | _ => none
def isSeqD (d : PyData) : Bool := (seqD d).isSome
theorem kit_seq {K : PySem.W.Frag} (d : PyData) : PySem.W.kitAny K (.type (tyD d)) [.type "list", .type "tuple"] = some (isSeqD d) := by
  have no : ∀ a : String, kitB a "list" = some false → kitB a "tuple" = some false → PySem.W.kitAny K (.type a) [.type "list", .type "tuple"] = some false := fun a h1 h2 =>
    kitAny_cons (kit_ty h1) (fun _ => kitAny_cons (kit_ty h2) (fun _ => rfl) (fun z => by cases z)) (fun z => by cases z)
  cases d with
  | none => exact no "NoneType" (by decide +kernel) (by decide +kernel)
  | bool _ => exact no "bool" (by decide +kernel) (by decide +kernel)
  | int _ => exact no "int" (by decide +kernel) (by decide +kernel)
  | str _ => exact no "str" (by decide +kernel) (by decide +kernel)
  | list _ => exact kitAny_cons (b := true) (kit_ty (show kitB "list" "list" = some true by decide +kernel)) (fun z => by cases z) (fun _ => rfl)
  | tuple _ => exact kitAny_cons (b := false) (kit_ty (show kitB "tuple" "list" = some false by decide +kernel)) (fun _ => kitAny_cons (b := true) (kit_ty (show kitB "tuple" "tuple" = some true by decide +kernel)) (fun z => by cases z) (fun _ => rfl)) (fun z => by cases z)
  | dict _ => exact no "dict" (by decide +kernel) (by decide +kernel)
theorem dqA_sm {K : PySem.W.Frag} {N : Addr → Prop} {H H' : Hp} {vs : List V} {ds : List PyData} (s : Same H H') (h : DqAll K N H vs ds) : DqAll K N H' vs ds := Dq.sameAll s ds vs h
def nCopy : List Str := ["value", "index", "item"]
theorem scCopy : FnScope nCopy ["value"] (defScope sCopy) := ⟨rfl, rfl, rfl, by decide +kernel, rfl, by decide +kernel, by decide +kernel⟩
section
variable {P : Program} {w : World} {K : PySem.W.Frag} {mg : Str → Option Value} {base : Heap}
def spCopy (K : PySem.W.Frag) (dV CBs CBe : Addr) : Sp := fun vs H Q E => ∃ (N : Addr → Prop) (v : V) (d : PyData), vs = [v] ∧ isTupD d = false ∧ DqO K N H v d ∧ (∀ ds, seqD d = some ds → ∀ x ∈ ds, WdOk K dV x) ∧
  ((∀ ds, seqD d = some ds → 20 < ds.length) → ∀ H', Same H H' → E (.ref CBs) none H') ∧
  (∀ ds, seqD d = some ds → ds.length ≤ 20 → (∀ i x, ds[i]? = some x → isEdB x = false → (∀ j y, j < i → ds[j]? = some y → isEdB y = true) → ∀ H' dd, Same H H' → H' dd = some (.xd [("index", .int (i : Nat))]) → E (.ref CBe) (some dd) H') ∧
    ((∀ x ∈ ds, isEdB x = true) → ∀ H' u ws, Same H H' → SqT K H' u ws → DqAll K N H' ws ds → Q (.ref u) H'))
theorem ok_Copy {fIsE : Addr} {fdIsE : FuncData} {f CBs CBe fIE dV : Addr} {fd fdIE : FuncData} {k : Nat} {tkB : Tok} (F : Fun K "copied_batch" "copied_batch" sCopy f fd) (T_BadEdits : Ex0 K mg "BadEdits" CBs) (TBE : ExF K mg "BadEdit" "index" "BadEdit.__init__" sInitE CBe fIE fdIE)
    (FIsE : Fun K "is_edit" "is_edit" sIsE fIsE fdIsE) (bIsE : Binds K fdIsE ["value"] []) (gIsE : mg "is_edit" = some (.ref fIsE)) (m_enumerate : mg "enumerate" = none) (m_isinstance : mg "isinstance" = none) (m_len : mg "len" = none) (m_list : mg "list" = none) (m_str : mg "str" = none) (m_tuple : mg "tuple" = none) (VA : KVal K w mg dV) (y_BATCH : mg "BATCH" = some (.int 20 tkB)) : FnOk P w K mg base (L2.CX P w) (k + 3) f fd ["value"] (spCopy K dV CBs CBe) := by
  have GIsE : FnOk P w K mg base CX0 (k + 1) fIsE fdIsE ["value"] (spIsE K dV) := ok_IsE FIsE m_isinstance m_len m_str m_tuple VA
  have GBE : FnOk P w K mg base CX0 (k + 1) fIE fdIE ["self", "index"] (spI K CBe "index") := ok_initE TBE.FI
  refine F.okX scCopy (fun vs H Q E h => ?_) (fun cdv A outer s H vs Q E hr h => ?_)
  · obtain ⟨N, v, d, rfl, _⟩ := h
    rfl
  · obtain ⟨N, v, d, rfl, hT, hd, hw, q1, q2⟩ := h
    refine ⟨_, pss_cons (ps_if (PW.pt (pw_or (pt_not (pt_val (pe_callB call_isiT (by rfl) m_isinstance (by decide +kernel) (pa_cons (pv 0) (pa_cons (pe_tup (pa_cons (pe_bltn (v := .ty "list") (by rfl) m_list (by decide +kernel) rfl) (pa_cons (pe_bltn (v := .ty "tuple") (by rfl) m_tuple (by decide +kernel) rfl) pa_nil))) pa_nil))))) (pw_or1 (pt_cmpR op_gt (pe_callB (show CallR _ _ (rLenG K) from cr_lenG) (by rfl) m_len PySem.boot_len (pa_cons (pv 0) pa_nil)) (pe_glob (v := .int 20) (by rfl) y_BATCH ⟨_, rfl⟩) (nomark _))))) (pss_one (ps_raise rfl (takes_of rfl rfl rfl rfl) (T_BadEdits.made (by rfl)))) pss_nil)
      (pss_cons (ps_for (passes_of rfl) rfl (pi_enum (by rfl) m_enumerate (pa_cons (pv 0) pa_nil)) (pg_tup rfl (pgs_cons (pg_name (i := 1) scCopy.nd rfl (Or.inl rfl)) (pgs_cons (pg_name (i := 2) scCopy.nd rfl (Or.inl rfl)) pgs_nil))) (pss_one (ps_if (pt_not (pt_val (pe_call GIsE (hr.mono (by omega)) (by rfl) gIsE FIsE.kp bIsE .nil pass0 (pa_cons (pv 2) pa_nil)))) (pss_one (ps_raise rfl (takes_of rfl rfl rfl rfl) (pmk_oex TBE.oex TBE.iC TBE.tI GBE (hr.mono (by omega)) TBE.bI .nil pass0 (by rfl) TBE.g (pa_cons (pv 1) pa_nil)))) pss_nil)))
      (pss_one (ps_ret (pe_callTy (show CallR _ _ (rTupG K) from cr_tupG) (by rfl) m_tuple (by decide +kernel) (pa_cons (pv 0) pa_nil))))), ?_⟩
    have ty : TyX K H v (.type (tyD d)) := hd.ty
    refine ⟨v, rfl, by show 2 ≤ sizeLine; decide, fun tp ntp => ?_⟩
    have s1 := same_new (o := .tup [.ty "list", .ty "tuple"]) ntp
    have hd1 : DqO K N _ v d := hd.same s1
    have e1 : upd H tp (.tup [.ty "list", .ty "tuple"]) tp = some (.tup [.ty "list", .ty "tuple"]) := upd_same
    generalize upd H tp (.tup [.ty "list", .ty "tuple"]) = H1 at s1 hd1 e1 ⊢
    refine ⟨v, tp, _, _, [.type "list", .type "tuple"], isSeqD d, rfl, e1, .cons (.ty _) (.cons (.ty _) .nil), hd1.ty, kit_seq d, isSeqD d, rfl, ?_⟩
    cases d with
    | list ds =>
      refine iteF ?_
      obtain ⟨a, ws, rfl, hq, hws⟩ : ∃ (a : Addr) (ws : List V), v = .ref a ∧ SqL K H1 a ws ∧ DqAll K N H1 ws ds := by
        exact hd1.lst
      have wl : ws.length = ds.length := hws.length
      refine ⟨.ref a, rfl, a, _, rfl, .inl hq, (ws.length : Int), 20, rfl, rfl, _, rfl, ?_⟩
      by_cases few : ds.length ≤ 20
      · rw [show decide ((20 : Int) < (ws.length : Int)) = false from decide_eq_false (by omega)]
        refine iteF ?_
        obtain ⟨q3, q4⟩ := q2 ds rfl few
        refine ⟨.ref a, rfl, a, ws, rfl, hq, ?_⟩
        refine for_it walk_enum (fun k σ' H' => Same H1 H' ∧ (∀ j y, j < k → ds[j]? = some y → isEdB y = true) ∧ ∃ x1 x2, σ' = [some (.ref a), x1, x2]) ⟨Same.refl _, (fun j y z => absurd z (Nat.not_lt_zero _)), none, none, rfl⟩ (fun k σ' H' _ hP => Same.seq hP.1 hq) (fun k x σ' H' H'' hk hP y => ?_) (fun σ' H' hP => ?_)
        · obtain ⟨T, x1, x2, rfl, nT, rfl, e1, e2⟩ := y
          cases e1
          obtain ⟨s3, al, y1, y2, rfl⟩ := hP
          have sT := same_new (o := .tup [.int (k : Nat), x2]) nT
          obtain ⟨d2, hd2, dx⟩ := hws.get k x2 e2
          refine ⟨T, [_, x2], rfl, .inl (.inl upd_same), rfl, _, [x2], rfl, x2, [], rfl, rfl, ?_⟩
          refine ⟨x2, rfl, N, x2, d2, rfl, Dq.same (s3.trans sT) _ _ dx, hw ds rfl d2 (List.mem_of_getElem? hd2), isEdB d2, rfl, ?_⟩
          cases e : isEdB d2 with
          | true =>
            refine iteF ⟨s3.trans sT, fun j y hj hy => ?_, _, _, rfl⟩
            rcases Nat.lt_or_ge j k with h | h
            · exact al j y h hy
            · obtain rfl : j = k := by omega
              rw [hd2] at hy
              cases hy
              exact e
          | false =>
            refine iteT ⟨.int (k : Nat), rfl, rzF TBE fun H5 dd s5 ed => ?_⟩
            exact q3 k d2 hd2 e (fun j y hj hy => al j y hj hy) H5 dd (((s1.trans s3).trans sT).trans s5) ed
        · obtain ⟨s3, al, y1, y2, rfl⟩ := hP
          have all : ∀ x ∈ ds, isEdB x = true := fun x hx => by
            obtain ⟨i, hi, e⟩ := List.mem_iff_getElem.mp hx
            exact al i x (by omega) (e ▸ List.getElem?_eq_getElem hi)
          exact ⟨.ref a, rfl, a, ws, rfl, .inl ⟨s3.seq hq, fun l nl => q4 all _ l ws ((s1.trans s3).trans (same_new nl)) (.inl (.inl upd_same)) (dqA_sm (s3.trans (same_new nl)) hws)⟩⟩
      · rw [show decide ((20 : Int) < (ws.length : Int)) = true from decide_eq_true (by omega)]
        exact iteT (q1 (fun ds' e => by cases e; omega) H1 s1)
    | tuple _ => cases hT
    | _ => exact iteT (iteT (q1 (fun ds' e => by cases e) H1 s1))
end
abbrev sCopyT := sCopy
def nCopyT : List Str := ["value", "index", "item"]
theorem scCopyT : FnScope nCopyT ["value"] (defScope sCopyT) := ⟨rfl, rfl, rfl, by decide +kernel, rfl, by decide +kernel, by decide +kernel⟩
section
variable {P : Program} {w : World} {K : PySem.W.Frag} {mg : Str → Option Value} {base : Heap}
def spCopyT (K : PySem.W.Frag) (dV CBs CBe : Addr) : Sp := fun vs H Q E => ∃ (N : Addr → Prop) (v : V) (d : PyData), vs = [v] ∧ isTupD d = true ∧ DqO K N H v d ∧ (∀ ds, seqD d = some ds → ∀ x ∈ ds, WdOk K dV x) ∧
  ((∀ ds, seqD d = some ds → 20 < ds.length) → ∀ H', Same H H' → E (.ref CBs) none H') ∧
  (∀ ds, seqD d = some ds → ds.length ≤ 20 → (∀ i x, ds[i]? = some x → isEdB x = false → (∀ j y, j < i → ds[j]? = some y → isEdB y = true) → ∀ H' dd, Same H H' → H' dd = some (.xd [("index", .int (i : Nat))]) → E (.ref CBe) (some dd) H') ∧
    ((∀ x ∈ ds, isEdB x = true) → ∀ H' u ws, Same H H' → SqT K H' u ws → DqAll K N H' ws ds → Q (.ref u) H'))
theorem ok_CopyT {fIsE : Addr} {fdIsE : FuncData} {f CBs CBe fIE dV : Addr} {fd fdIE : FuncData} {k : Nat} {tkB : Tok} (F : Fun K "copied_batch" "copied_batch" sCopy f fd) (T_BadEdits : Ex0 K mg "BadEdits" CBs) (TBE : ExF K mg "BadEdit" "index" "BadEdit.__init__" sInitE CBe fIE fdIE)
    (FIsE : Fun K "is_edit" "is_edit" sIsE fIsE fdIsE) (bIsE : Binds K fdIsE ["value"] []) (gIsE : mg "is_edit" = some (.ref fIsE)) (m_enumerate : mg "enumerate" = none) (m_isinstance : mg "isinstance" = none) (m_len : mg "len" = none) (m_list : mg "list" = none) (m_str : mg "str" = none) (m_tuple : mg "tuple" = none) (VA : KVal K w mg dV) (y_BATCH : mg "BATCH" = some (.int 20 tkB)) : FnOk P w K mg base (L2.CX P w) (k + 3) f fd ["value"] (spCopyT K dV CBs CBe) := by
  have GIsE : FnOk P w K mg base CX0 (k + 1) fIsE fdIsE ["value"] (spIsE K dV) := ok_IsE FIsE m_isinstance m_len m_str m_tuple VA
  have GBE : FnOk P w K mg base CX0 (k + 1) fIE fdIE ["self", "index"] (spI K CBe "index") := ok_initE TBE.FI
  refine F.okX scCopyT (fun vs H Q E h => ?_) (fun cdv A outer s H vs Q E hr h => ?_)
  · obtain ⟨N, v, d, rfl, _⟩ := h
    rfl
  · obtain ⟨N, v, d, rfl, hT, hd, hw, q1, q2⟩ := h
    refine ⟨_, pss_cons (ps_if (PW.pt (pw_or (pt_not (pt_val (pe_callB call_isiT (by rfl) m_isinstance (by decide +kernel) (pa_cons (pv 0) (pa_cons (pe_tup (pa_cons (pe_bltn (v := .ty "list") (by rfl) m_list (by decide +kernel) rfl) (pa_cons (pe_bltn (v := .ty "tuple") (by rfl) m_tuple (by decide +kernel) rfl) pa_nil))) pa_nil))))) (pw_or1 (pt_cmpR op_gt (pe_callB (show CallR _ _ (rLenG K) from cr_lenG) (by rfl) m_len PySem.boot_len (pa_cons (pv 0) pa_nil)) (pe_glob (v := .int 20) (by rfl) y_BATCH ⟨_, rfl⟩) (nomark _))))) (pss_one (ps_raise rfl (takes_of rfl rfl rfl rfl) (T_BadEdits.made (by rfl)))) pss_nil)
      (pss_cons (ps_for (passes_of rfl) rfl (pi_enumT (by rfl) m_enumerate (pa_cons (pv 0) pa_nil)) (pg_tup rfl (pgs_cons (pg_name (i := 1) scCopyT.nd rfl (Or.inl rfl)) (pgs_cons (pg_name (i := 2) scCopyT.nd rfl (Or.inl rfl)) pgs_nil))) (pss_one (ps_if (pt_not (pt_val (pe_call GIsE (hr.mono (by omega)) (by rfl) gIsE FIsE.kp bIsE .nil pass0 (pa_cons (pv 2) pa_nil)))) (pss_one (ps_raise rfl (takes_of rfl rfl rfl rfl) (pmk_oex TBE.oex TBE.iC TBE.tI GBE (hr.mono (by omega)) TBE.bI .nil pass0 (by rfl) TBE.g (pa_cons (pv 1) pa_nil)))) pss_nil)))
      (pss_one (ps_ret (pe_callTy (show CallR _ _ (rTupG K) from cr_tupG) (by rfl) m_tuple (by decide +kernel) (pa_cons (pv 0) pa_nil))))), ?_⟩
    have ty : TyX K H v (.type (tyD d)) := hd.ty
    refine ⟨v, rfl, by show 2 ≤ sizeLine; decide, fun tp ntp => ?_⟩
    have s1 := same_new (o := .tup [.ty "list", .ty "tuple"]) ntp
    have hd1 : DqO K N _ v d := hd.same s1
    have e1 : upd H tp (.tup [.ty "list", .ty "tuple"]) tp = some (.tup [.ty "list", .ty "tuple"]) := upd_same
    generalize upd H tp (.tup [.ty "list", .ty "tuple"]) = H1 at s1 hd1 e1 ⊢
    refine ⟨v, tp, _, _, [.type "list", .type "tuple"], isSeqD d, rfl, e1, .cons (.ty _) (.cons (.ty _) .nil), hd1.ty, kit_seq d, isSeqD d, rfl, ?_⟩
    cases d with
    | tuple ds =>
      refine iteF ?_
      obtain ⟨a, ws, rfl, hq, hws⟩ : ∃ (a : Addr) (ws : List V), v = .ref a ∧ SqT K H1 a ws ∧ DqAll K N H1 ws ds := by
        exact hd1.tup
      have wl : ws.length = ds.length := hws.length
      refine ⟨.ref a, rfl, a, _, rfl, .inr hq, (ws.length : Int), 20, rfl, rfl, _, rfl, ?_⟩
      by_cases few : ds.length ≤ 20
      · rw [show decide ((20 : Int) < (ws.length : Int)) = false from decide_eq_false (by omega)]
        refine iteF ?_
        obtain ⟨q3, q4⟩ := q2 ds rfl few
        refine ⟨.ref a, rfl, a, ws, rfl, hq, ?_⟩
        refine for_it walk_enumT (fun k σ' H' => Same H1 H' ∧ (∀ j y, j < k → ds[j]? = some y → isEdB y = true) ∧ ∃ x1 x2, σ' = [some (.ref a), x1, x2]) ⟨Same.refl _, (fun j y z => absurd z (Nat.not_lt_zero _)), none, none, rfl⟩ (fun k σ' H' _ hP => same_sqT hP.1 hq) (fun k x σ' H' H'' hk hP y => ?_) (fun σ' H' hP => ?_)
        · obtain ⟨T, x1, x2, rfl, nT, rfl, e1, e2⟩ := y
          cases e1
          obtain ⟨s3, al, y1, y2, rfl⟩ := hP
          have sT := same_new (o := .tup [.int (k : Nat), x2]) nT
          obtain ⟨d2, hd2, dx⟩ := hws.get k x2 e2
          refine ⟨T, [_, x2], rfl, .inl (.inl upd_same), rfl, _, [x2], rfl, x2, [], rfl, rfl, ?_⟩
          refine ⟨x2, rfl, N, x2, d2, rfl, Dq.same (s3.trans sT) _ _ dx, hw ds rfl d2 (List.mem_of_getElem? hd2), isEdB d2, rfl, ?_⟩
          cases e : isEdB d2 with
          | true =>
            refine iteF ⟨s3.trans sT, fun j y hj hy => ?_, _, _, rfl⟩
            rcases Nat.lt_or_ge j k with h | h
            · exact al j y h hy
            · obtain rfl : j = k := by omega
              rw [hd2] at hy
              cases hy
              exact e
          | false =>
            refine iteT ⟨.int (k : Nat), rfl, rzF TBE fun H5 dd s5 ed => ?_⟩
            exact q3 k d2 hd2 e (fun j y hj hy => al j y hj hy) H5 dd (((s1.trans s3).trans sT).trans s5) ed
        · obtain ⟨s3, al, y1, y2, rfl⟩ := hP
          have all : ∀ x ∈ ds, isEdB x = true := fun x hx => by
            obtain ⟨i, hi, e⟩ := List.mem_iff_getElem.mp hx
            exact al i x (by omega) (e ▸ List.getElem?_eq_getElem hi)
          exact ⟨.ref a, rfl, a, ws, rfl, .inr ⟨same_sqT s3 hq, q4 all _ a ws (s1.trans s3) (same_sqT s3 hq) (dqA_sm s3 hws)⟩⟩
      · rw [show decide ((20 : Int) < (ws.length : Int)) = true from decide_eq_true (by omega)]
        exact iteT (q1 (fun ds' e => by cases e; omega) H1 s1)
    | list _ => cases hT
    | _ => exact iteT (iteT (q1 (fun ds' e => by cases e) H1 s1))
end
end K48
namespace K48
open PySem PySem.Spec PyProof.Rows L2 Pr
abbrev sInitN : Stmt := inClass (topS 16) 0
theorem scInitN : FnScope ["self", "value"] ["self", "value"] (defScope sInitN) := ⟨rfl, rfl, rfl, by decide +kernel, rfl, by decide +kernel, by decide +kernel⟩
section
variable {P : Program} {w : World} {K : PySem.W.Frag} {mg : Str → Option Value} {base : Heap}
theorem ok_initN {f C : Addr} {fd : FuncData} {k : Nat} (F : Fun K "__init__" "NoButton.__init__" sInitN f fd) : FnOk P w K mg base CX0 (k + 1) f fd ["self", "value"] (spIL K C "value") := by
  refine F.ok scInitN (fun vs H Q E h => ?_) (fun cdv A outer s H vs Q E hr h => ?_)
  · obtain ⟨e, y, rfl, _⟩ := h
    rfl
  · obtain ⟨e, y, rfl, T, hno, he, q⟩ := h
    refine ⟨_, pss_one (ps_ostL (pv 0) (pv 1)), ?_⟩
    exact ⟨y, rfl, .ref e, rfl, e, C, rfl, T, hno, he, q⟩
end
abbrev sInitS : Stmt := inClass (topS 9) 0
theorem scInitS : FnScope ["self", "value"] ["self", "value"] (defScope sInitS) := ⟨rfl, rfl, rfl, by decide +kernel, rfl, by decide +kernel, by decide +kernel⟩
section
variable {P : Program} {w : World} {K : PySem.W.Frag} {mg : Str → Option Value} {base : Heap}
theorem ok_initS {f C : Addr} {fd : FuncData} {k : Nat} (F : Fun K "__init__" "SameButton.__init__" sInitS f fd) : FnOk P w K mg base CX0 (k + 1) f fd ["self", "value"] (spI K C "value") := by
  refine F.ok scInitS (fun vs H Q E h => ?_) (fun cdv A outer s H vs Q E hr h => ?_)
  · obtain ⟨e, y, rfl, _⟩ := h
    rfl
  · obtain ⟨e, y, rfl, T, hno, he, q⟩ := h
    refine ⟨_, pss_one (ps_ost (pv 0) (pv 1)), ?_⟩
    exact ⟨y, rfl, .ref e, rfl, e, C, rfl, T, hno, .inl ⟨he, q⟩⟩
end
abbrev sChkBX := sChkB
def nChkBX : List Str := ["panel", "value"]
theorem scChkBX : FnScope nChkBX ["panel", "value"] (defScope sChkBX) := ⟨rfl, rfl, rfl, by decide +kernel, rfl, by decide +kernel, by decide +kernel⟩
section
variable {P : Program} {w : World} {K : PySem.W.Frag} {mg : Str → Option Value} {base : Heap}
def spChkBX (K : PySem.W.Frag) (CN : Addr) : Sp := fun vs H Q E => ∃ (N : Addr → Prop) (p : Addr) (v : V) (d : PyData) (pan : List (List Int)), vs = [.ref p, v] ∧ PanT K H p pan ∧ Dq K N H v d ∧
  (isBtn (pan.length : Int) d = true → ∀ H', Same H H' → Q .non H') ∧ (isBtn (pan.length : Int) d = false → ∀ H' dd, Same H H' → H' dd = some (.xd [("value", v)]) → E (.ref CN) (some dd) H')
theorem ok_ChkBX {f fBtn CN fIN : Addr} {fd fdBtn fdIN : FuncData} {k : Nat} (F : Fun K "check_button" "check_button" sChkB f fd) (TN : ExL K mg "NoButton" "value" "NoButton.__init__" sInitN CN fIN fdIN)
    (FBtn : Fun K "is_button" "is_button" sBtn fBtn fdBtn) (bBtn : Binds K fdBtn ["value", "many"] []) (gBtn : mg "is_button" = some (.ref fBtn)) (m_bool : mg "bool" = none) (m_int : mg "int" = none) (m_isinstance : mg "isinstance" = none) (m_len : mg "len" = none) :
    FnOk P w K mg base (L2N.CX P w) (k + 3) f fd ["panel", "value"] (spChkBX K CN) := by
  have GBtn : FnOk P w K mg base CX0 (k + 1) fBtn fdBtn ["value", "many"] (spBtn K) := ok_btn FBtn m_isinstance m_bool m_int
  have GN : FnOk P w K mg base CX0 (k + 1) fIN fdIN ["self", "value"] (spIL K CN "value") := ok_initN TN.FI
  refine Pr.Fun.okN F scChkBX (fun vs H Q E h => ?_) (fun cdv A outer s H vs Q E hr h => ?_)
  · obtain ⟨N, p, v, d, pan, rfl, _⟩ := h
    rfl
  · obtain ⟨N, p, v, d, pan, rfl, hp, hd, q1, q2⟩ := h
    refine ⟨_, pss_one (ps_if (pt_not (pt_val (pe_call GBtn (hr.mono (by omega)) (by rfl) gBtn FBtn.kp bBtn .nil pass0 (pa_cons (pv 1) (pa_cons (pe_callB (show CallR _ _ (rLenG K) from cr_lenG) (by rfl) m_len PySem.boot_len (pa_cons (pv 0) pa_nil)) pa_nil))))) (pss_one (L2N.ps_raise rfl (L2N.takes_of rfl rfl rfl rfl) (pmkN_oel TN.oex TN.iC TN.tI GN (hr.mono (by omega)) TN.bI pass0 (by rfl) TN.g (pa_cons (pv 1) pa_nil)))) pss_nil), ?_⟩
    have hlp : (pan.map dInts).length = pan.length := List.length_map _
    refine ⟨v, rfl, (gv_lenT (K := K) (gv_var rfl hp.dp)).at fun vn H1 s1 dn => ?_⟩
    cases dn
    rw [hlp]
    refine ⟨N, v, d, (pan.length : Int), rfl, Dq.same s1 _ _ hd, ⟨_, rfl, ?_⟩⟩
    cases e : isBtn (pan.length : Int) d with
    | true => exact iteF (q1 e H1 s1)
    | false => exact iteT ⟨v, rfl, rzL TN fun H2 dd s2 ed => q2 e H2 dd (s1.trans s2) ed⟩
end
abbrev sLink0X := sLink0
def nLink0X : List Str := ["self", "one", "other"]
theorem scLink0X : FnScope nLink0X ["self", "one", "other"] (defScope sLink0X) := ⟨rfl, rfl, rfl, by decide +kernel, rfl, by decide +kernel, by decide +kernel⟩
section
variable {P : Program} {w : World} {K : PySem.W.Frag} {mg : Str → Option Value} {base : Heap}
def spLink0X (K : PySem.W.Frag) (C CN CS CC : Addr) : Sp := fun vs H Q E => ∃ (N : Addr → Prop) (t : Addr) (pan : List (List Int)) (st : List Int) (past : List (PyData × List (List Int) × List Int)) (v1 v2 : V) (d1 d2 : PyData), vs = [.ref t, v1, v2] ∧ DeskAt K C H t pan st past ∧ past.length < 60 ∧ Dq K N H v1 d1 ∧ Dq K N H v2 d2 ∧
  (isBtn (pan.length : Int) d1 = false → ∀ H' dd, Same H H' → H' dd = some (.xd [("value", v1)]) → E (.ref CN) (some dd) H') ∧
  (isBtn (pan.length : Int) d1 = true → isBtn (pan.length : Int) d2 = false → ∀ H' dd, Same H H' → H' dd = some (.xd [("value", v2)]) → E (.ref CN) (some dd) H') ∧
  (∀ a : Int, d1 = .int a → d2 = .int a → 0 ≤ a → a < (pan.length : Int) → ∀ H' dd, Same H H' → H' dd = some (.xd [("value", v1)]) → E (.ref CS) (some dd) H') ∧
  (∀ a b : Int, d1 = .int a → d2 = .int b → InP2 pan a b → ∀ H', Same H H' → Q .non H')
theorem ok_Link0X {fBtn : Addr} {fdBtn : FuncData} {fChkB : Addr} {fdChkB : FuncData} {C f : Addr} {fd : FuncData} {k : Nat} {CN CS CC fIN fIS : Addr} {fdIN fdIS : FuncData} (F : Fun K "check_link" "Desk.check_link" sLink0X f fd) (T : TxtD K mg C) (TN : ExL K mg "NoButton" "value" "NoButton.__init__" sInitN CN fIN fdIN) (TS : ExF K mg "SameButton" "value" "SameButton.__init__" sInitS CS fIS fdIS) (T_NoChange : Ex0 K mg "NoChange" CC)
    (FBtn : Fun K "is_button" "is_button" sBtn fBtn fdBtn) (bBtn : Binds K fdBtn ["value", "many"] []) (gBtn : mg "is_button" = some (.ref fBtn))
    (FChkB : Fun K "check_button" "check_button" sChkB fChkB fdChkB) (bChkB : Binds K fdChkB ["panel", "value"] []) (gChkB : mg "check_button" = some (.ref fChkB))
    {fFree : Addr} {fdFree : FuncData} (FFree : Fun K "check_free" "Desk.check_free" sFree fFree fdFree) (bFree : Binds K fdFree ["self"] []) (hFree : Meth K C "check_free" fFree)
    {fRoom : Addr} {fdRoom : FuncData} (FRoom : Fun K "check_room" "Desk.check_room" sRoom fRoom fdRoom) (bRoom : Binds K fdRoom ["self"] []) (hRoom : Meth K C "check_room" fRoom)
    (m_bool : mg "bool" = none) (m_int : mg "int" = none) (m_isinstance : mg "isinstance" = none) (m_len : mg "len" = none) : FnOk P w K mg base (L2N.CX P w) (k + 4) f fd ["self", "one", "other"] (spLink0X K C CN CS CC) := by
  have GChkB : FnOk P w K mg base (L2N.CX P w) (k + 3) fChkB fdChkB ["panel", "value"] (spChkBX K CN) := ok_ChkBX FChkB TN FBtn bBtn gBtn m_bool m_int m_isinstance m_len
  have GRoom : FnOk P w K mg base CX0 (k + 2) fRoom fdRoom ["self"] (spRoom K C) := ok_Room FRoom T  FFree bFree hFree m_len
  have GS : FnOk P w K mg base CX0 (k + 1) fIS fdIS ["self", "value"] (spI K CS "value") := ok_initS TS.FI
  refine Pr.Fun.okN F scLink0X (fun vs H Q E h => ?_) (fun cdv A outer s H vs Q E hr h => ?_)
  · obtain ⟨N, t, pan, st, past, v1, v2, d1, d2, rfl, _⟩ := h
    rfl
  · obtain ⟨N, t, pan, st, past, v1, v2, d1, d2, rfl, hD, few, h1, h2, q1, q2, q3, q4⟩ := h
    have hD' := hD
    obtain ⟨⟨dx, pa, p, l, hh, hs, e1, _, h3, _, _, _⟩, _, _, _⟩ := hD'
    refine ⟨_, pss_cons (ps_expr (pe_meth0 (pv 0) T.cl hRoom GRoom (hr.mono (by omega)) bRoom .nil pass0))
      (pss_cons (ps_expr (pe_callS (E := fun _ => E) GChkB (hr.mono (by omega)) (by rfl) gChkB FChkB.kp bChkB (fun σ => L2N.passAt (W := fun cls d _ H => E cls d H) (L2N.takes_of rfl rfl rfl rfl) σ) (pa_cons (pe_fld (pv 0) rfl) (pa_cons (pv 1) pa_nil))))
      (pss_cons (ps_expr (pe_callS (E := fun _ => E) GChkB (hr.mono (by omega)) (by rfl) gChkB FChkB.kp bChkB (fun σ => L2N.passAt (W := fun cls d _ H => E cls d H) (L2N.takes_of rfl rfl rfl rfl) σ) (pa_cons (pe_fld (pv 0) rfl) (pa_cons (pv 2) pa_nil))))
      (pss_one (ps_if (pt_cmpR op_eq (pv 1) (pv 2) (nomark _)) (pss_one (L2N.ps_raise rfl (L2N.takes_of rfl rfl rfl rfl) (pmkN_oex TS.oex TS.iC TS.tI GS (hr.mono (by omega)) TS.bI pass0 (by rfl) TS.g (pa_cons (pv 1) pa_nil)))) pss_nil)))), ?_⟩
    refine ⟨.ref t, rfl, t, dx, _, rfl, e1, by rfl, t, pan, st, past, rfl, hD, few, fun H1 s1 => ?_⟩
    refine ⟨.ref t, rfl, t, C, dx, _, .ref p, rfl, s1 _ _ e1, T.cl, T.nP, look_panel _ _ _ _, v1, rfl, N, p, v1, d1, pan, rfl, h3.same s1, Dq.same s1 _ _ h1, fun b1 H2 s2 => ?_, fun b1 H2 dd s2 ed => q1 b1 H2 dd (s1.trans s2) ed⟩
    have s12 := s1.trans s2
    refine ⟨.ref t, rfl, t, C, dx, _, .ref p, rfl, s12 _ _ e1, T.cl, T.nP, look_panel _ _ _ _, v2, rfl, N, p, v2, d2, pan, rfl, h3.same s12, Dq.same s12 _ _ h2, fun b2 H3 s3 => ?_, fun b2 H3 dd s3 ed => q2 b1 b2 H3 dd (s12.trans s3) ed⟩
    obtain ⟨a, rfl, a0, a1⟩ := btn_int b1
    obtain ⟨b, rfl, c0, c1⟩ := btn_int b2
    cases h1
    cases h2
    have s13 := s12.trans s3
    refine ⟨.int a, rfl, .int b, rfl, rfl, _, rfl, ite2 (fun e => ?_) (fun e => ?_)⟩
    · have eab : a = b := by have := of_decide_eq_true e; injection this
      subst eab
      exact ⟨.int a, rfl, rzF TS fun H5 dd s5 ed => q3 a rfl rfl a0 a1 H5 dd (s13.trans s5) ed⟩
    · exact q4 a b rfl rfl ⟨a0, a1, c0, c1, fun z => e (decide_eq_true (by rw [z]))⟩ H3 s13
end
abbrev sChgX := sChg
def nChgX : List Str := ["self", "edit", "panel"]
theorem scChgX : FnScope nChgX ["self", "edit", "panel"] (defScope sChgX) := ⟨rfl, rfl, rfl, by decide +kernel, rfl, by decide +kernel, by decide +kernel⟩
section
variable {P : Program} {w : World} {K : PySem.W.Frag} {mg : Str → Option Value} {base : Heap}
def spChgX (K : PySem.W.Frag) (C CN CS CC : Addr) : Sp := fun vs H Q E => ∃ (t : Addr) (pan : List (List Int)) (st : List Int) (past : List (PyData × List (List Int) × List Int)) (ve : V) (de : PyData) (p' : Addr) (pan' : List (List Int)), vs = [.ref t, ve, .ref p'] ∧ DeskAt K C H t pan st past ∧ past.length ≤ 60 ∧ Dp K H ve de ∧ lf de = true ∧ PanT K H p' pan' ∧
  (pan' = pan → ∀ H', Same H H' → E (.ref CC) none H') ∧
  (pan' ≠ pan → Good pan' ∧ pan'.length = pan.length ∧ ∀ H', ButO t H H' → DeskAt K C H' t pan' st (past ++ [(de, pan, st)]) → Q (.int ((past.length + 1 : Nat) : Int)) H')
theorem ok_ChgX {fAny : Addr} {fdAny : FuncData} {fHeld : Addr} {fdHeld : FuncData} {C f : Addr} {fd : FuncData} {k : Nat} {CN CS CC fIN fIS : Addr} {fdIN fdIS : FuncData} (F : Fun K "change_panel" "Desk.change_panel" sChgX f fd) (T : TxtD K mg C) (TN : ExL K mg "NoButton" "value" "NoButton.__init__" sInitN CN fIN fdIN) (TS : ExF K mg "SameButton" "value" "SameButton.__init__" sInitS CS fIS fdIS) (T_NoChange : Ex0 K mg "NoChange" CC)
    (FAny : Fun K "releases_any" "releases_any" sAny fAny fdAny) (bAny : Binds K fdAny ["panel", "button", "others"] []) (gAny : mg "releases_any" = some (.ref fAny))
    (FHeld : Fun K "held_buttons" "held_buttons" sHeld fHeld fdHeld) (bHeld : Binds K fdHeld ["panel", "state"] []) (gHeld : mg "held_buttons" = some (.ref fHeld))
    {fShow : Addr} {fdShow : FuncData} (FShow : Fun K "show" "Desk.show" sShow fShow fdShow) (bShow : Binds K fdShow ["self", "panel", "latched"] []) (hShow : Meth K C "show" fShow)
    {fAdd : Addr} {fdAdd : FuncData} (FAdd : Fun K "add_edit" "Desk.add_edit" sAdd fAdd fdAdd) (bAdd : Binds K fdAdd ["self", "edit", "panel", "latched"] []) (hAdd : Meth K C "add_edit" fAdd)
    (m_any : mg "any" = none) (m_len : mg "len" = none) (m_tuple : mg "tuple" = none) : FnOk P w K mg base (L2N.CX P w) (k + 5) f fd ["self", "edit", "panel"] (spChgX K C CN CS CC) := by
  have GAdd : FnOk P w K mg base CX0 (k + 4) fAdd fdAdd ["self", "edit", "panel", "latched"] (spAdd K C) := ok_Add FAdd T FAny bAny gAny FHeld bHeld gHeld FShow bShow hShow m_any m_len m_tuple
  have GS : FnOk P w K mg base CX0 (k + 1) fIS fdIS ["self", "value"] (spI K CS "value") := ok_initS TS.FI
  refine Pr.Fun.okN F scChgX (fun vs H Q E h => ?_) (fun cdv A outer s H vs Q E hr h => ?_)
  · obtain ⟨t, pan, st, past, ve, de, p', pan', rfl, _⟩ := h
    rfl
  · obtain ⟨t, pan, st, past, ve, de, p', pan', rfl, hD, few, dve, lde, hp', q1, q2⟩ := h
    have hD' := hD
    obtain ⟨⟨dx, pa, p, l, hh, hs, h1, h2, h3, h4, h5, h6⟩, hg, hst, lfe⟩ := hD'
    refine ⟨_, pss_cons (ps_if (pt_cmpR (show OpR _ _ (rEqD K) from op_eqD hr.units) (pv 2) (pe_fld (pv 0) rfl) (nomark _)) (pss_one (L2N.ps_raise rfl (L2N.takes_of rfl rfl rfl rfl) (T_NoChange.madeN (by rfl)))) pss_nil)
      (pss_one (ps_ret (pe_meth (pv 0) T.cl hAdd GAdd (hr.mono (by omega)) bAdd .nil pass0 (pa_cons (pv 1) (pa_cons (pv 2) (pa_cons (pe_fld (pv 0) rfl) pa_nil)))))), ?_⟩
    refine gs_if1 (gvt_test (K := K) ((gv_eqD (gv_var rfl hp'.dp) (gv_panel T rfl hD) (shp_rowsT _) (shp_rowsT _)).to (congrArg PyData.bool (eqv_rowsT pan' pan)))) (fun e H1 s1 => ?_) (fun e H1 s1 => ?_)
    · exact q1 (of_decide_eq_true e) H1 s1
    · obtain ⟨hg', hpl, q⟩ := q2 (of_decide_eq_false e)
      exact ⟨.ref t, rfl, t, dx, _, rfl, s1 _ _ h1, by rfl, ve, rfl, .ref p', rfl, .ref t, rfl, t, C, dx, _, .ref l, rfl, s1 _ _ h1, T.cl, T.nL, look_latched _ _ _ _, t, pan, st, past, ve, de, p', l, pan', st, rfl, hD.same s1, few, dve.sm s1, lde, hp'.same s1, hg', s1 _ _ h4, by rw [hpl]; exact hst, fun H2 k2 hN => q H2 ((ButO.of s1).trans k2) hN⟩
end
abbrev sPressX := sPressD
def nPressX : List Str := ["self", "button", "latched"]
theorem scPressX : FnScope nPressX ["self", "button"] (defScope sPressX) := ⟨rfl, rfl, rfl, by decide +kernel, rfl, by decide +kernel, by decide +kernel⟩
section
variable {P : Program} {w : World} {K : PySem.W.Frag} {mg : Str → Option Value} {base : Heap}
def spPressX (K : PySem.W.Frag) (C CN CS CC : Addr) : Sp := fun vs H Q E => ∃ (N : Addr → Prop) (t : Addr) (pan : List (List Int)) (st : List Int) (past : List (PyData × List (List Int) × List Int)) (v : V) (d : PyData), vs = [.ref t, v] ∧ DeskAt K C H t pan st past ∧ past.length < 60 ∧ Dq K N H v d ∧
  (isBtn (pan.length : Int) d = false → ∀ H' dd, Same H H' → H' dd = some (.xd [("value", v)]) → E (.ref CN) (some dd) H') ∧
  (∀ b : Int, d = .int b → 0 ≤ b → b < (pan.length : Int) → ∀ H', ButO t H H' → DeskAt K C H' t pan (pressM pan st b) (past ++ [(.tuple [.str "press", .int b], pan, st)]) → Q (.int ((past.length + 1 : Nat) : Int)) H')
theorem ok_PressX {fBtn : Addr} {fdBtn : FuncData} {fPress : Addr} {fdPress : FuncData} {fAny : Addr} {fdAny : FuncData} {fHeld : Addr} {fdHeld : FuncData} {fChkB : Addr} {fdChkB : FuncData} {C f : Addr} {fd : FuncData} {k : Nat} {CN CS CC fIN fIS : Addr} {fdIN fdIS : FuncData} (F : Fun K "press" "Desk.press" sPressX f fd) (T : TxtD K mg C) (TN : ExL K mg "NoButton" "value" "NoButton.__init__" sInitN CN fIN fdIN) (TS : ExF K mg "SameButton" "value" "SameButton.__init__" sInitS CS fIS fdIS) (T_NoChange : Ex0 K mg "NoChange" CC)
    (FBtn : Fun K "is_button" "is_button" sBtn fBtn fdBtn) (bBtn : Binds K fdBtn ["value", "many"] []) (gBtn : mg "is_button" = some (.ref fBtn))
    (FPress : Fun K "press_button" "press_button" sPress fPress fdPress) (bPress : Binds K fdPress ["panel", "state", "button"] []) (gPress : mg "press_button" = some (.ref fPress))
    (FAny : Fun K "releases_any" "releases_any" sAny fAny fdAny) (bAny : Binds K fdAny ["panel", "button", "others"] []) (gAny : mg "releases_any" = some (.ref fAny))
    (FHeld : Fun K "held_buttons" "held_buttons" sHeld fHeld fdHeld) (bHeld : Binds K fdHeld ["panel", "state"] []) (gHeld : mg "held_buttons" = some (.ref fHeld))
    (FChkB : Fun K "check_button" "check_button" sChkB fChkB fdChkB) (bChkB : Binds K fdChkB ["panel", "value"] []) (gChkB : mg "check_button" = some (.ref fChkB))
    {fFree : Addr} {fdFree : FuncData} (FFree : Fun K "check_free" "Desk.check_free" sFree fFree fdFree) (bFree : Binds K fdFree ["self"] []) (hFree : Meth K C "check_free" fFree)
    {fRoom : Addr} {fdRoom : FuncData} (FRoom : Fun K "check_room" "Desk.check_room" sRoom fRoom fdRoom) (bRoom : Binds K fdRoom ["self"] []) (hRoom : Meth K C "check_room" fRoom)
    {fShow : Addr} {fdShow : FuncData} (FShow : Fun K "show" "Desk.show" sShow fShow fdShow) (bShow : Binds K fdShow ["self", "panel", "latched"] []) (hShow : Meth K C "show" fShow)
    {fAdd : Addr} {fdAdd : FuncData} (FAdd : Fun K "add_edit" "Desk.add_edit" sAdd fAdd fdAdd) (bAdd : Binds K fdAdd ["self", "edit", "panel", "latched"] []) (hAdd : Meth K C "add_edit" fAdd)
    (m_any : mg "any" = none) (m_bool : mg "bool" = none) (m_int : mg "int" = none) (m_isinstance : mg "isinstance" = none) (m_len : mg "len" = none) (m_sorted : mg "sorted" = none) (m_tuple : mg "tuple" = none) : FnOk P w K mg base (L2N.CX P w) (k + 5) f fd ["self", "button"] (spPressX K C CN CS CC) := by
  have GChkB : FnOk P w K mg base (L2N.CX P w) (k + 3) fChkB fdChkB ["panel", "value"] (spChkBX K CN) := ok_ChkBX FChkB TN FBtn bBtn gBtn m_bool m_int m_isinstance m_len
  have GPress : FnOk P w K mg base CX0 (k + 1) fPress fdPress ["panel", "state", "button"] (spPress K) := ok_Press FPress m_sorted m_tuple
  have GRoom : FnOk P w K mg base CX0 (k + 2) fRoom fdRoom ["self"] (spRoom K C) := ok_Room FRoom T  FFree bFree hFree m_len
  have GAdd : FnOk P w K mg base CX0 (k + 4) fAdd fdAdd ["self", "edit", "panel", "latched"] (spAdd K C) := ok_Add FAdd T FAny bAny gAny FHeld bHeld gHeld FShow bShow hShow m_any m_len m_tuple
  have GS : FnOk P w K mg base CX0 (k + 1) fIS fdIS ["self", "value"] (spI K CS "value") := ok_initS TS.FI
  refine Pr.Fun.okN F scPressX (fun vs H Q E h => ?_) (fun cdv A outer s H vs Q E hr h => ?_)
  · obtain ⟨N, t, pan, st, past, v, d, rfl, _⟩ := h
    rfl
  · obtain ⟨N, t, pan, st, past, v, d, rfl, hD, few, hd, q1, q2⟩ := h
    have hD' := hD
    obtain ⟨⟨dx, pa, p, l, hh, hs, h1, h2, h3, h4, h5, h6⟩, hg, hst, lfe⟩ := hD'
    refine ⟨_, pss_cons (ps_expr (pe_meth0 (pv 0) T.cl hRoom GRoom (hr.mono (by omega)) bRoom .nil pass0))
      (pss_cons (ps_expr (pe_callS (E := fun _ => E) GChkB (hr.mono (by omega)) (by rfl) gChkB FChkB.kp bChkB (fun σ => L2N.passAt (W := fun cls d _ H => E cls d H) (L2N.takes_of rfl rfl rfl rfl) σ) (pa_cons (pe_fld (pv 0) rfl) (pa_cons (pv 1) pa_nil))))
      (pss_cons (ps_set (i := 2) scPressX.nd rfl (.inl rfl) (pe_call GPress (hr.mono (by omega)) (by rfl) gPress FPress.kp bPress .nil pass0 (pa_cons (pe_fld (pv 0) rfl) (pa_cons (pe_fld (pv 0) rfl) (pa_cons (pv 1) pa_nil)))))
      (pss_one (ps_ret (pe_meth (pv 0) T.cl hAdd GAdd (hr.mono (by omega)) bAdd .nil pass0 (pa_cons (pe_tup (pa_cons pe_str (pa_cons (pv 1) pa_nil))) (pa_cons (pe_fld (pv 0) rfl) (pa_cons (pv 2) pa_nil)))))))), ?_⟩
    refine ⟨.ref t, rfl, t, dx, _, rfl, h1, by rfl, t, pan, st, past, rfl, hD, few, fun H1 s1 => ?_⟩
    refine ⟨.ref t, rfl, t, C, dx, _, .ref p, rfl, s1 _ _ h1, T.cl, T.nP, look_panel _ _ _ _, v, rfl, N, p, v, d, pan, rfl, h3.same s1, Dq.same s1 _ _ hd, fun eb H2 s2 => ?_, fun eb H2 dd s2 ed => q1 eb H2 dd (s1.trans s2) ed⟩
    obtain ⟨b, rfl, b0, b1⟩ := btn_int eb
    cases hd
    have s12 := s1.trans s2
    have e2 := s12 _ _ h1
    refine ⟨.ref t, rfl, t, C, dx, _, .ref p, rfl, e2, T.cl, T.nP, look_panel _ _ _ _, .ref t, rfl, t, C, dx, _, .ref l, rfl, e2, T.cl, T.nL, look_latched _ _ _ _, .int b, rfl, pan, st, b, .cons (h3.same s12).dp (.cons (dp_ints (.inl (.inl (s12 _ _ h4)))) (.cons (.int _) .nil)), hst, hg.few, b0, b1, fun H3 l' s3 el => ?_⟩
    have s13 := s12.trans s3
    have e3 := s13 _ _ h1
    refine ⟨.ref t, rfl, t, dx, _, rfl, e3, by rfl, .int b, rfl, by show 2 ≤ sizeLine; decide, fun Te nTe => ?_⟩
    have sTe := same_new (o := .tup [.str "press", .int b]) nTe
    have s14 := s13.trans sTe
    refine ⟨.ref t, rfl, t, C, dx, _, .ref p, rfl, s14 _ _ h1, T.cl, T.nP, look_panel _ _ _ _, .ref l', rfl, t, pan, st, past, .ref Te, _, p, l', pan, pressM pan st b, rfl, hD.same s14, by omega, .tup (.inl (.inl upd_same)) (.cons (.str _) (.cons (.int _) .nil)), rfl, h3.same s14, hg, sTe _ _ el, pressM_asc _ _ _, fun H5 k5 hN => q2 b rfl b0 b1 H5 ((ButO.of s14).trans k5) hN⟩
end
abbrev sLinkX := sLink
def nLinkX : List Str := ["self", "one", "other"]
theorem scLinkX : FnScope nLinkX ["self", "one", "other"] (defScope sLinkX) := ⟨rfl, rfl, rfl, by decide +kernel, rfl, by decide +kernel, by decide +kernel⟩
section
variable {P : Program} {w : World} {K : PySem.W.Frag} {mg : Str → Option Value} {base : Heap}
def spLinkX (K : PySem.W.Frag) (C CN CS CC : Addr) : Sp := fun vs H Q E => ∃ (N : Addr → Prop) (t : Addr) (pan : List (List Int)) (st : List Int) (past : List (PyData × List (List Int) × List Int)) (v1 v2 : V) (d1 d2 : PyData), vs = [.ref t, v1, v2] ∧ DeskAt K C H t pan st past ∧ past.length < 60 ∧ Dq K N H v1 d1 ∧ Dq K N H v2 d2 ∧
  (isBtn (pan.length : Int) d1 = false → ∀ H' dd, Same H H' → H' dd = some (.xd [("value", v1)]) → E (.ref CN) (some dd) H') ∧
  (isBtn (pan.length : Int) d1 = true → isBtn (pan.length : Int) d2 = false → ∀ H' dd, Same H H' → H' dd = some (.xd [("value", v2)]) → E (.ref CN) (some dd) H') ∧
  (∀ a : Int, d1 = .int a → d2 = .int a → 0 ≤ a → a < (pan.length : Int) → ∀ H' dd, Same H H' → H' dd = some (.xd [("value", v1)]) → E (.ref CS) (some dd) H') ∧
  (∀ a b : Int, d1 = .int a → d2 = .int b → InP2 pan a b → decide (b ∈ pan.getD a.toNat []) = true → ∀ H', Same H H' → E (.ref CC) none H') ∧
  (∀ a b : Int, d1 = .int a → d2 = .int b → InP2 pan a b → decide (b ∈ pan.getD a.toNat []) = !true → ∀ H', ButO t H H' → DeskAt K C H' t (liM pan a b) st (past ++ [(dLk "link" a b, pan, st)]) → Q (.int ((past.length + 1 : Nat) : Int)) H')
theorem ok_LinkX {fWl : Addr} {fdWl : FuncData} {fLi : Addr} {fdLi : FuncData} {fBtn : Addr} {fdBtn : FuncData} {fAny : Addr} {fdAny : FuncData} {fHeld : Addr} {fdHeld : FuncData} {fChkB : Addr} {fdChkB : FuncData} {C f : Addr} {fd : FuncData} {k : Nat} {CN CS CC fIN fIS : Addr} {fdIN fdIS : FuncData} (F : Fun K "link" "Desk.link" sLinkX f fd) (T : TxtD K mg C) (TN : ExL K mg "NoButton" "value" "NoButton.__init__" sInitN CN fIN fdIN) (TS : ExF K mg "SameButton" "value" "SameButton.__init__" sInitS CS fIS fdIS) (T_NoChange : Ex0 K mg "NoChange" CC)
    (FWl : Fun K "with_list" "with_list" sWl fWl fdWl) (bWl : Binds K fdWl ["panel", "button", "released"] []) (gWl : mg "with_list" = some (.ref fWl))
    (FLi : Fun K "linked" "linked" sLi fLi fdLi) (bLi : Binds K fdLi ["panel", "one", "other"] []) (gLi : mg "linked" = some (.ref fLi))
    (FBtn : Fun K "is_button" "is_button" sBtn fBtn fdBtn) (bBtn : Binds K fdBtn ["value", "many"] []) (gBtn : mg "is_button" = some (.ref fBtn))
    (FAny : Fun K "releases_any" "releases_any" sAny fAny fdAny) (bAny : Binds K fdAny ["panel", "button", "others"] []) (gAny : mg "releases_any" = some (.ref fAny))
    (FHeld : Fun K "held_buttons" "held_buttons" sHeld fHeld fdHeld) (bHeld : Binds K fdHeld ["panel", "state"] []) (gHeld : mg "held_buttons" = some (.ref fHeld))
    (FChkB : Fun K "check_button" "check_button" sChkB fChkB fdChkB) (bChkB : Binds K fdChkB ["panel", "value"] []) (gChkB : mg "check_button" = some (.ref fChkB))
    {fFree : Addr} {fdFree : FuncData} (FFree : Fun K "check_free" "Desk.check_free" sFree fFree fdFree) (bFree : Binds K fdFree ["self"] []) (hFree : Meth K C "check_free" fFree)
    {fRoom : Addr} {fdRoom : FuncData} (FRoom : Fun K "check_room" "Desk.check_room" sRoom fRoom fdRoom) (bRoom : Binds K fdRoom ["self"] []) (hRoom : Meth K C "check_room" fRoom)
    {fLink0X : Addr} {fdLink0X : FuncData} (FLink0X : Fun K "check_link" "Desk.check_link" sLink0X fLink0X fdLink0X) (bLink0X : Binds K fdLink0X ["self", "one", "other"] []) (hLink0X : Meth K C "check_link" fLink0X)
    {fShow : Addr} {fdShow : FuncData} (FShow : Fun K "show" "Desk.show" sShow fShow fdShow) (bShow : Binds K fdShow ["self", "panel", "latched"] []) (hShow : Meth K C "show" fShow)
    {fAdd : Addr} {fdAdd : FuncData} (FAdd : Fun K "add_edit" "Desk.add_edit" sAdd fAdd fdAdd) (bAdd : Binds K fdAdd ["self", "edit", "panel", "latched"] []) (hAdd : Meth K C "add_edit" fAdd)
    {fChgX : Addr} {fdChgX : FuncData} (FChgX : Fun K "change_panel" "Desk.change_panel" sChgX fChgX fdChgX) (bChgX : Binds K fdChgX ["self", "edit", "panel"] []) (hChgX : Meth K C "change_panel" fChgX)
    (m_any : mg "any" = none) (m_bool : mg "bool" = none) (m_enumerate : mg "enumerate" = none) (m_int : mg "int" = none) (m_isinstance : mg "isinstance" = none) (m_len : mg "len" = none) (m_sorted : mg "sorted" = none) (m_tuple : mg "tuple" = none) : FnOk P w K mg base (L2N.CX P w) (k + 6) f fd ["self", "one", "other"] (spLinkX K C CN CS CC) := by
  have GLi : FnOk P w K mg base CX0 (k + 2) fLi fdLi ["panel", "one", "other"] (spLi K) := ok_Li FLi FWl bWl gWl m_enumerate m_sorted m_tuple
  have GLink0X : FnOk P w K mg base (L2N.CX P w) (k + 4) fLink0X fdLink0X ["self", "one", "other"] (spLink0X K C CN CS CC) := ok_Link0X FLink0X T TN TS T_NoChange FBtn bBtn gBtn FChkB bChkB gChkB FFree bFree hFree FRoom bRoom hRoom m_bool m_int m_isinstance m_len
  have GChgX : FnOk P w K mg base (L2N.CX P w) (k + 5) fChgX fdChgX ["self", "edit", "panel"] (spChgX K C CN CS CC) := ok_ChgX FChgX T TN TS T_NoChange FAny bAny gAny FHeld bHeld gHeld FShow bShow hShow FAdd bAdd hAdd m_any m_len m_tuple
  have GS : FnOk P w K mg base CX0 (k + 1) fIS fdIS ["self", "value"] (spI K CS "value") := ok_initS TS.FI
  refine Pr.Fun.okN F scLinkX (fun vs H Q E h => ?_) (fun cdv A outer s H vs Q E hr h => ?_)
  · obtain ⟨N, t, pan, st, past, v1, v2, d1, d2, rfl, _⟩ := h
    rfl
  · obtain ⟨N, t, pan, st, past, v1, v2, d1, d2, rfl, hD, few, i1, i2, q1, q2, q3, q4, q5⟩ := h
    have hD' := hD
    obtain ⟨⟨dx, pa, p, l, hh, hs, h1, h2, h3, h4, h5, h6⟩, hg, hst, lfe⟩ := hD'
    refine ⟨_, pss_cons (ps_expr (pe_methE (E := fun _ => E) (pv 0) T.cl hLink0X GLink0X (hr.mono (by omega)) bLink0X (fun σ => L2N.passAt (W := fun cls d _ H => E cls d H) (L2N.takes_of rfl rfl rfl rfl) σ) (pa_cons (pv 1) (pa_cons (pv 2) pa_nil))))
      (pss_one (ps_ret (pe_methE (E := fun _ => E) (pv 0) T.cl hChgX GChgX (hr.mono (by omega)) bChgX (fun σ => L2N.passAt (W := fun cls d _ H => E cls d H) (L2N.takes_of rfl rfl rfl rfl) σ) (pa_cons (pe_tup (pa_cons pe_str (pa_cons (pv 1) (pa_cons (pv 2) pa_nil)))) (pa_cons (pe_call GLi (hr.mono (by omega)) (by rfl) gLi FLi.kp bLi .nil pass0 (pa_cons (pe_fld (pv 0) rfl) (pa_cons (pv 1) (pa_cons (pv 2) pa_nil)))) pa_nil))))), ?_⟩
    refine ⟨.ref t, rfl, t, dx, _, rfl, h1, by rfl, v1, rfl, v2, rfl, N, t, pan, st, past, v1, v2, d1, d2, rfl, hD, few, i1, i2, q1, q2, q3, fun one other ea eb hI H1 s1 => ?_⟩
    subst ea eb
    cases i1
    cases i2
    have e1 := s1 _ _ h1
    refine ⟨.ref t, rfl, t, dx, _, rfl, e1, by rfl, .int one, rfl, .int other, rfl, by show 3 ≤ sizeLine; decide, fun Te nTe => ?_⟩
    have sTe := same_new (o := .tup [.str "link", .int one, .int other]) nTe
    have hD2 := (hD.same s1).same sTe
    refine (gv_Li (K := K) (gva_cons (gv_panel (i := 0) T rfl hD2) (gva_cons (gv_var (i := 1) rfl (.int one)) (gva_cons (gv_var (i := 2) rfl (.int other)) gva_nil))) ⟨(pan_ok hg).1, (pan_ok hg).2, hI.1, hI.2.1⟩).at fun v H3 s3 dv => ?_
    obtain ⟨p', rfl, hp'⟩ := panT_dp dv
    have s13 := (s1.trans sTe).trans s3
    refine ⟨t, pan, st, past, .ref Te, dLk "link" one other, p', _, rfl, hD.same s13, by omega, .tup (.inl (.inl (s3 _ _ upd_same))) (.cons (.str _) (.cons (.int _) (.cons (.int _) .nil))), rfl, hp', fun ep H4 s4 => ?_, fun np => ?_⟩
    · refine q4 one other rfl rfl hI ?_ H4 (s13.trans s4)
      by_cases hm : other ∈ pan.getD one.toNat []
      · first | exact decide_eq_true hm | exact absurd ep (good_li hg hI hm).2.2
      · first | exact decide_eq_false hm | exact absurd ep (good_li hg hI hm).2.2
    · by_cases hm : other ∈ pan.getD one.toNat []
      · first
        | exact ⟨(good_li hg hI hm).1, (good_li hg hI hm).2.1, fun H4 k4 hN => q5 one other rfl rfl hI (decide_eq_true hm) H4 ((ButO.of s13).trans k4) hN⟩
        | exact absurd (show liM pan one other = pan by unfold liM; rw [if_pos hm]) np
      · first
        | exact ⟨(good_li hg hI hm).1, (good_li hg hI hm).2.1, fun H4 k4 hN => q5 one other rfl rfl hI (decide_eq_false hm) H4 ((ButO.of s13).trans k4) hN⟩
        | exact absurd (show liM pan one other = pan by unfold liM; rw [if_neg hm]) np
end
abbrev sUnlinkX := sUnlink
def nUnlinkX : List Str := ["self", "one", "other"]
theorem scUnlinkX : FnScope nUnlinkX ["self", "one", "other"] (defScope sUnlinkX) := ⟨rfl, rfl, rfl, by decide +kernel, rfl, by decide +kernel, by decide +kernel⟩
section
variable {P : Program} {w : World} {K : PySem.W.Frag} {mg : Str → Option Value} {base : Heap}
def spUnlinkX (K : PySem.W.Frag) (C CN CS CC : Addr) : Sp := fun vs H Q E => ∃ (N : Addr → Prop) (t : Addr) (pan : List (List Int)) (st : List Int) (past : List (PyData × List (List Int) × List Int)) (v1 v2 : V) (d1 d2 : PyData), vs = [.ref t, v1, v2] ∧ DeskAt K C H t pan st past ∧ past.length < 60 ∧ Dq K N H v1 d1 ∧ Dq K N H v2 d2 ∧
  (isBtn (pan.length : Int) d1 = false → ∀ H' dd, Same H H' → H' dd = some (.xd [("value", v1)]) → E (.ref CN) (some dd) H') ∧
  (isBtn (pan.length : Int) d1 = true → isBtn (pan.length : Int) d2 = false → ∀ H' dd, Same H H' → H' dd = some (.xd [("value", v2)]) → E (.ref CN) (some dd) H') ∧
  (∀ a : Int, d1 = .int a → d2 = .int a → 0 ≤ a → a < (pan.length : Int) → ∀ H' dd, Same H H' → H' dd = some (.xd [("value", v1)]) → E (.ref CS) (some dd) H') ∧
  (∀ a b : Int, d1 = .int a → d2 = .int b → InP2 pan a b → decide (b ∈ pan.getD a.toNat []) = false → ∀ H', Same H H' → E (.ref CC) none H') ∧
  (∀ a b : Int, d1 = .int a → d2 = .int b → InP2 pan a b → decide (b ∈ pan.getD a.toNat []) = !false → ∀ H', ButO t H H' → DeskAt K C H' t (unM pan a b) st (past ++ [(dLk "unlink" a b, pan, st)]) → Q (.int ((past.length + 1 : Nat) : Int)) H')
theorem ok_UnlinkX {fWl : Addr} {fdWl : FuncData} {fUn : Addr} {fdUn : FuncData} {fBtn : Addr} {fdBtn : FuncData} {fAny : Addr} {fdAny : FuncData} {fHeld : Addr} {fdHeld : FuncData} {fChkB : Addr} {fdChkB : FuncData} {C f : Addr} {fd : FuncData} {k : Nat} {CN CS CC fIN fIS : Addr} {fdIN fdIS : FuncData} (F : Fun K "unlink" "Desk.unlink" sUnlinkX f fd) (T : TxtD K mg C) (TN : ExL K mg "NoButton" "value" "NoButton.__init__" sInitN CN fIN fdIN) (TS : ExF K mg "SameButton" "value" "SameButton.__init__" sInitS CS fIS fdIS) (T_NoChange : Ex0 K mg "NoChange" CC)
    (FWl : Fun K "with_list" "with_list" sWl fWl fdWl) (bWl : Binds K fdWl ["panel", "button", "released"] []) (gWl : mg "with_list" = some (.ref fWl))
    (FUn : Fun K "unlinked" "unlinked" sUn fUn fdUn) (bUn : Binds K fdUn ["panel", "one", "other"] []) (gUn : mg "unlinked" = some (.ref fUn))
    (FBtn : Fun K "is_button" "is_button" sBtn fBtn fdBtn) (bBtn : Binds K fdBtn ["value", "many"] []) (gBtn : mg "is_button" = some (.ref fBtn))
    (FAny : Fun K "releases_any" "releases_any" sAny fAny fdAny) (bAny : Binds K fdAny ["panel", "button", "others"] []) (gAny : mg "releases_any" = some (.ref fAny))
    (FHeld : Fun K "held_buttons" "held_buttons" sHeld fHeld fdHeld) (bHeld : Binds K fdHeld ["panel", "state"] []) (gHeld : mg "held_buttons" = some (.ref fHeld))
    (FChkB : Fun K "check_button" "check_button" sChkB fChkB fdChkB) (bChkB : Binds K fdChkB ["panel", "value"] []) (gChkB : mg "check_button" = some (.ref fChkB))
    {fFree : Addr} {fdFree : FuncData} (FFree : Fun K "check_free" "Desk.check_free" sFree fFree fdFree) (bFree : Binds K fdFree ["self"] []) (hFree : Meth K C "check_free" fFree)
    {fRoom : Addr} {fdRoom : FuncData} (FRoom : Fun K "check_room" "Desk.check_room" sRoom fRoom fdRoom) (bRoom : Binds K fdRoom ["self"] []) (hRoom : Meth K C "check_room" fRoom)
    {fLink0X : Addr} {fdLink0X : FuncData} (FLink0X : Fun K "check_link" "Desk.check_link" sLink0X fLink0X fdLink0X) (bLink0X : Binds K fdLink0X ["self", "one", "other"] []) (hLink0X : Meth K C "check_link" fLink0X)
    {fShow : Addr} {fdShow : FuncData} (FShow : Fun K "show" "Desk.show" sShow fShow fdShow) (bShow : Binds K fdShow ["self", "panel", "latched"] []) (hShow : Meth K C "show" fShow)
    {fAdd : Addr} {fdAdd : FuncData} (FAdd : Fun K "add_edit" "Desk.add_edit" sAdd fAdd fdAdd) (bAdd : Binds K fdAdd ["self", "edit", "panel", "latched"] []) (hAdd : Meth K C "add_edit" fAdd)
    {fChgX : Addr} {fdChgX : FuncData} (FChgX : Fun K "change_panel" "Desk.change_panel" sChgX fChgX fdChgX) (bChgX : Binds K fdChgX ["self", "edit", "panel"] []) (hChgX : Meth K C "change_panel" fChgX)
    (m_any : mg "any" = none) (m_bool : mg "bool" = none) (m_enumerate : mg "enumerate" = none) (m_int : mg "int" = none) (m_isinstance : mg "isinstance" = none) (m_len : mg "len" = none) (m_tuple : mg "tuple" = none) : FnOk P w K mg base (L2N.CX P w) (k + 6) f fd ["self", "one", "other"] (spUnlinkX K C CN CS CC) := by
  have GUn : FnOk P w K mg base CX0 (k + 2) fUn fdUn ["panel", "one", "other"] (spUn K) := ok_Un FUn FWl bWl gWl m_enumerate m_tuple
  have GLink0X : FnOk P w K mg base (L2N.CX P w) (k + 4) fLink0X fdLink0X ["self", "one", "other"] (spLink0X K C CN CS CC) := ok_Link0X FLink0X T TN TS T_NoChange FBtn bBtn gBtn FChkB bChkB gChkB FFree bFree hFree FRoom bRoom hRoom m_bool m_int m_isinstance m_len
  have GChgX : FnOk P w K mg base (L2N.CX P w) (k + 5) fChgX fdChgX ["self", "edit", "panel"] (spChgX K C CN CS CC) := ok_ChgX FChgX T TN TS T_NoChange FAny bAny gAny FHeld bHeld gHeld FShow bShow hShow FAdd bAdd hAdd m_any m_len m_tuple
  have GS : FnOk P w K mg base CX0 (k + 1) fIS fdIS ["self", "value"] (spI K CS "value") := ok_initS TS.FI
  refine Pr.Fun.okN F scUnlinkX (fun vs H Q E h => ?_) (fun cdv A outer s H vs Q E hr h => ?_)
  · obtain ⟨N, t, pan, st, past, v1, v2, d1, d2, rfl, _⟩ := h
    rfl
  · obtain ⟨N, t, pan, st, past, v1, v2, d1, d2, rfl, hD, few, i1, i2, q1, q2, q3, q4, q5⟩ := h
    have hD' := hD
    obtain ⟨⟨dx, pa, p, l, hh, hs, h1, h2, h3, h4, h5, h6⟩, hg, hst, lfe⟩ := hD'
    refine ⟨_, pss_cons (ps_expr (pe_methE (E := fun _ => E) (pv 0) T.cl hLink0X GLink0X (hr.mono (by omega)) bLink0X (fun σ => L2N.passAt (W := fun cls d _ H => E cls d H) (L2N.takes_of rfl rfl rfl rfl) σ) (pa_cons (pv 1) (pa_cons (pv 2) pa_nil))))
      (pss_one (ps_ret (pe_methE (E := fun _ => E) (pv 0) T.cl hChgX GChgX (hr.mono (by omega)) bChgX (fun σ => L2N.passAt (W := fun cls d _ H => E cls d H) (L2N.takes_of rfl rfl rfl rfl) σ) (pa_cons (pe_tup (pa_cons pe_str (pa_cons (pv 1) (pa_cons (pv 2) pa_nil)))) (pa_cons (pe_call GUn (hr.mono (by omega)) (by rfl) gUn FUn.kp bUn .nil pass0 (pa_cons (pe_fld (pv 0) rfl) (pa_cons (pv 1) (pa_cons (pv 2) pa_nil)))) pa_nil))))), ?_⟩
    refine ⟨.ref t, rfl, t, dx, _, rfl, h1, by rfl, v1, rfl, v2, rfl, N, t, pan, st, past, v1, v2, d1, d2, rfl, hD, few, i1, i2, q1, q2, q3, fun one other ea eb hI H1 s1 => ?_⟩
    subst ea eb
    cases i1
    cases i2
    have e1 := s1 _ _ h1
    refine ⟨.ref t, rfl, t, dx, _, rfl, e1, by rfl, .int one, rfl, .int other, rfl, by show 3 ≤ sizeLine; decide, fun Te nTe => ?_⟩
    have sTe := same_new (o := .tup [.str "unlink", .int one, .int other]) nTe
    have hD2 := (hD.same s1).same sTe
    refine (gv_Un (K := K) (gva_cons (gv_panel (i := 0) T rfl hD2) (gva_cons (gv_var (i := 1) rfl (.int one)) (gva_cons (gv_var (i := 2) rfl (.int other)) gva_nil))) ⟨(pan_ok hg).1, (pan_ok hg).2, hI.1, hI.2.1⟩).at fun v H3 s3 dv => ?_
    obtain ⟨p', rfl, hp'⟩ := panT_dp dv
    have s13 := (s1.trans sTe).trans s3
    refine ⟨t, pan, st, past, .ref Te, dLk "unlink" one other, p', _, rfl, hD.same s13, by omega, .tup (.inl (.inl (s3 _ _ upd_same))) (.cons (.str _) (.cons (.int _) (.cons (.int _) .nil))), rfl, hp', fun ep H4 s4 => ?_, fun np => ?_⟩
    · refine q4 one other rfl rfl hI ?_ H4 (s13.trans s4)
      by_cases hm : other ∈ pan.getD one.toNat []
      · first | exact decide_eq_true hm | exact absurd ep (good_un hg hI hm).2.2
      · first | exact decide_eq_false hm | exact absurd ep (good_un hg hI hm).2.2
    · by_cases hm : other ∈ pan.getD one.toNat []
      · first
        | exact ⟨(good_un hg hI hm).1, (good_un hg hI hm).2.1, fun H4 k4 hN => q5 one other rfl rfl hI (decide_eq_true hm) H4 ((ButO.of s13).trans k4) hN⟩
        | exact absurd (show unM pan one other = pan by unfold unM; rw [if_pos hm]) np
      · first
        | exact ⟨(good_un hg hI hm).1, (good_un hg hI hm).2.1, fun H4 k4 hN => q5 one other rfl rfl hI (decide_eq_false hm) H4 ((ButO.of s13).trans k4) hN⟩
        | exact absurd (show unM pan one other = pan by unfold unM; rw [if_neg hm]) np
end
end K48
namespace K48
open PySem PySem.Spec PyProof.Rows L2 Pr
abbrev sInitR : Stmt := inClass (topS 14) 0
theorem scInitR : FnScope ["self", "index"] ["self", "index"] (defScope sInitR) := ⟨rfl, rfl, rfl, by decide +kernel, rfl, by decide +kernel, by decide +kernel⟩
section
variable {P : Program} {w : World} {K : PySem.W.Frag} {mg : Str → Option Value} {base : Heap}
theorem ok_initRH {f C : Addr} {fd : FuncData} {k : Nat} (F : Fun K "__init__" "Rejected.__init__" sInitR f fd) : L2H.FnH P w K mg base CX0 (k + 1) f fd ["self", "index"] (spI K C "index") := by
  refine Pr.Fun.okH F scInitR (fun vs H Q E h => ?_) (fun cdv A outer s H vs Q E q0 hot hr h => ?_)
  · obtain ⟨e, y, rfl, _⟩ := h
    rfl
  · obtain ⟨e, y, rfl, T, hno, he, q⟩ := h
    refine ⟨_, pss_one (ps_ost (pv 0) (pv 1)), ?_⟩
    exact ⟨y, rfl, .ref e, rfl, e, C, rfl, T, hno, .inl ⟨he, q⟩⟩
end
theorem btn_of {n b : Int} (h0 : 0 ≤ b) (h1 : b < n) : isBtn n (.int b) = true := by simp [isBtn, h0, h1]
theorem at_one {v u : V} {xs : List V} : atI (u :: v :: xs) 1 = some v := atI_nat (xs := u :: v :: xs) (j := 1) rfl
theorem at_two {v u x : V} {xs : List V} : atI (u :: x :: v :: xs) 2 = some v := atI_nat (xs := u :: x :: v :: xs) (j := 2) rfl
/-- an edit that is refused on this panel, whatever its values -/
def RefD (pan : List (List Int)) (d : PyData) : Prop :=
  (∃ u, d = .tuple [.str "press", u] ∧ isBtn (pan.length : Int) u = false) ∨
  (∃ (w : Str) (u1 u2 : PyData), d = .tuple [.str w, u1, u2] ∧ (w = "link" ∨ w = "unlink") ∧ ∀ a b : Int, u1 = .int a → u2 = .int b → InP2 pan a b → decide (b ∈ pan.getD a.toNat []) = decide (w = "link"))
abbrev sDoEditX := sDoEdit
def nDoEditX : List Str := ["self", "index", "edit", "reason"]
theorem scDoEditX : FnScope nDoEditX ["self", "index", "edit"] (defScope sDoEditX) := ⟨rfl, rfl, rfl, by decide +kernel, rfl, by decide +kernel, by decide +kernel⟩
section
variable {P : Program} {w : World} {K : PySem.W.Frag} {mg : Str → Option Value} {base : Heap}
def spDoEditX (K : PySem.W.Frag) (C CR : Addr) : Sp := fun vs H Q E => ∃ (N : Addr → Prop) (t : Addr) (i : Int) (pan : List (List Int)) (st : List Int) (past : List (PyData × List (List Int) × List Int)) (v : V) (d : PyData), vs = [.ref t, .int i, v] ∧ DeskAt K C H t pan st past ∧ past.length < 60 ∧ Dq K N H v d ∧
  ((∃ (pan' : List (List Int)) (f : List Int → List Int), Ed pan d pan' f ∧ ∀ H', ButO t H H' → DeskAt K C H' t pan' (f st) (past ++ [(d, pan, st)]) → Q .non H') ∨
   (RefD pan d ∧ ∀ H' dd, Same H H' → H' dd = some (.xd [("index", .int i)]) → E (.ref CR) (some dd) H'))
theorem ok_DoEditX {fWl : Addr} {fdWl : FuncData} {fLi : Addr} {fdLi : FuncData} {fUn : Addr} {fdUn : FuncData} {fBtn : Addr} {fdBtn : FuncData} {fPress : Addr} {fdPress : FuncData} {fAny : Addr} {fdAny : FuncData} {fHeld : Addr} {fdHeld : FuncData} {fChkB : Addr} {fdChkB : FuncData} {C f : Addr} {fd : FuncData} {k : Nat} {CN CS CC fIN fIS : Addr} {fdIN fdIS : FuncData} {CT CR fIR : Addr} {fdIR : FuncData} (F : Fun K "do_edit" "Desk.do_edit" sDoEditX f fd) (T : TxtD K mg C) (TN : ExL K mg "NoButton" "value" "NoButton.__init__" sInitN CN fIN fdIN) (TS : ExF K mg "SameButton" "value" "SameButton.__init__" sInitS CS fIS fdIS) (T_NoChange : Ex0 K mg "NoChange" CC) (TR : ExF K mg "Rejected" "index" "Rejected.__init__" sInitR CR fIR fdIR) (gT : mg "TooManyEdits" = some (.ref CT)) (xN : PySem.W.exmAny K (.ref CN) [.ref CT, .ref CN, .ref CS, .ref CC] = some true) (xS : PySem.W.exmAny K (.ref CS) [.ref CT, .ref CN, .ref CS, .ref CC] = some true) (xC : PySem.W.exmAny K (.ref CC) [.ref CT, .ref CN, .ref CS, .ref CC] = some true)
    (FWl : Fun K "with_list" "with_list" sWl fWl fdWl) (bWl : Binds K fdWl ["panel", "button", "released"] []) (gWl : mg "with_list" = some (.ref fWl))
    (FLi : Fun K "linked" "linked" sLi fLi fdLi) (bLi : Binds K fdLi ["panel", "one", "other"] []) (gLi : mg "linked" = some (.ref fLi))
    (FUn : Fun K "unlinked" "unlinked" sUn fUn fdUn) (bUn : Binds K fdUn ["panel", "one", "other"] []) (gUn : mg "unlinked" = some (.ref fUn))
    (FBtn : Fun K "is_button" "is_button" sBtn fBtn fdBtn) (bBtn : Binds K fdBtn ["value", "many"] []) (gBtn : mg "is_button" = some (.ref fBtn))
    (FPress : Fun K "press_button" "press_button" sPress fPress fdPress) (bPress : Binds K fdPress ["panel", "state", "button"] []) (gPress : mg "press_button" = some (.ref fPress))
    (FAny : Fun K "releases_any" "releases_any" sAny fAny fdAny) (bAny : Binds K fdAny ["panel", "button", "others"] []) (gAny : mg "releases_any" = some (.ref fAny))
    (FHeld : Fun K "held_buttons" "held_buttons" sHeld fHeld fdHeld) (bHeld : Binds K fdHeld ["panel", "state"] []) (gHeld : mg "held_buttons" = some (.ref fHeld))
    (FChkB : Fun K "check_button" "check_button" sChkB fChkB fdChkB) (bChkB : Binds K fdChkB ["panel", "value"] []) (gChkB : mg "check_button" = some (.ref fChkB))
    {fFree : Addr} {fdFree : FuncData} (FFree : Fun K "check_free" "Desk.check_free" sFree fFree fdFree) (bFree : Binds K fdFree ["self"] []) (hFree : Meth K C "check_free" fFree)
    {fRoom : Addr} {fdRoom : FuncData} (FRoom : Fun K "check_room" "Desk.check_room" sRoom fRoom fdRoom) (bRoom : Binds K fdRoom ["self"] []) (hRoom : Meth K C "check_room" fRoom)
    {fShow : Addr} {fdShow : FuncData} (FShow : Fun K "show" "Desk.show" sShow fShow fdShow) (bShow : Binds K fdShow ["self", "panel", "latched"] []) (hShow : Meth K C "show" fShow)
    {fAdd : Addr} {fdAdd : FuncData} (FAdd : Fun K "add_edit" "Desk.add_edit" sAdd fAdd fdAdd) (bAdd : Binds K fdAdd ["self", "edit", "panel", "latched"] []) (hAdd : Meth K C "add_edit" fAdd)
    {fPressX : Addr} {fdPressX : FuncData} (FPressX : Fun K "press" "Desk.press" sPressX fPressX fdPressX) (bPressX : Binds K fdPressX ["self", "button"] []) (hPressX : Meth K C "press" fPressX)
    {fLink0X : Addr} {fdLink0X : FuncData} (FLink0X : Fun K "check_link" "Desk.check_link" sLink0X fLink0X fdLink0X) (bLink0X : Binds K fdLink0X ["self", "one", "other"] []) (hLink0X : Meth K C "check_link" fLink0X)
    {fChgX : Addr} {fdChgX : FuncData} (FChgX : Fun K "change_panel" "Desk.change_panel" sChgX fChgX fdChgX) (bChgX : Binds K fdChgX ["self", "edit", "panel"] []) (hChgX : Meth K C "change_panel" fChgX)
    {fLinkX : Addr} {fdLinkX : FuncData} (FLinkX : Fun K "link" "Desk.link" sLinkX fLinkX fdLinkX) (bLinkX : Binds K fdLinkX ["self", "one", "other"] []) (hLinkX : Meth K C "link" fLinkX)
    {fUnlinkX : Addr} {fdUnlinkX : FuncData} (FUnlinkX : Fun K "unlink" "Desk.unlink" sUnlinkX fUnlinkX fdUnlinkX) (bUnlinkX : Binds K fdUnlinkX ["self", "one", "other"] []) (hUnlinkX : Meth K C "unlink" fUnlinkX)
    (m_any : mg "any" = none) (m_bool : mg "bool" = none) (m_enumerate : mg "enumerate" = none) (m_int : mg "int" = none) (m_isinstance : mg "isinstance" = none) (m_len : mg "len" = none) (m_sorted : mg "sorted" = none) (m_tuple : mg "tuple" = none) : FnOk P w K mg base (L2K.CX P w) (k + 7) f fd ["self", "index", "edit"] (spDoEditX K C CR) := by
  have GPressX : FnOk P w K mg base (L2N.CX P w) (k + 5) fPressX fdPressX ["self", "button"] (spPressX K C CN CS CC) := ok_PressX FPressX T TN TS T_NoChange FBtn bBtn gBtn FPress bPress gPress FAny bAny gAny FHeld bHeld gHeld FChkB bChkB gChkB FFree bFree hFree FRoom bRoom hRoom FShow bShow hShow FAdd bAdd hAdd m_any m_bool m_int m_isinstance m_len m_sorted m_tuple
  have GLinkX : FnOk P w K mg base (L2N.CX P w) (k + 6) fLinkX fdLinkX ["self", "one", "other"] (spLinkX K C CN CS CC) := ok_LinkX FLinkX T TN TS T_NoChange FWl bWl gWl FLi bLi gLi FBtn bBtn gBtn FAny bAny gAny FHeld bHeld gHeld FChkB bChkB gChkB FFree bFree hFree FRoom bRoom hRoom FLink0X bLink0X hLink0X FShow bShow hShow FAdd bAdd hAdd FChgX bChgX hChgX m_any m_bool m_enumerate m_int m_isinstance m_len m_sorted m_tuple
  have GUnlinkX : FnOk P w K mg base (L2N.CX P w) (k + 6) fUnlinkX fdUnlinkX ["self", "one", "other"] (spUnlinkX K C CN CS CC) := ok_UnlinkX FUnlinkX T TN TS T_NoChange FWl bWl gWl FUn bUn gUn FBtn bBtn gBtn FAny bAny gAny FHeld bHeld gHeld FChkB bChkB gChkB FFree bFree hFree FRoom bRoom hRoom FLink0X bLink0X hLink0X FShow bShow hShow FAdd bAdd hAdd FChgX bChgX hChgX m_any m_bool m_enumerate m_int m_isinstance m_len m_tuple
  have GS : FnOk P w K mg base CX0 (k + 1) fIS fdIS ["self", "value"] (spI K CS "value") := ok_initS TS.FI
  refine Pr.Fun.okK F scDoEditX (fun vs H Q E h => ?_) (fun cdv A outer s H vs Q E hr h => ?_)
  · obtain ⟨N, t, i, pan, st, past, v, d, rfl, _⟩ := h
    rfl
  · obtain ⟨N, t, i, pan, st, past, v, d, rfl, hD, few, hd, q⟩ := h
    refine ⟨_, pss_one (ps_try_fromK (i := 3) rfl rfl rfl scDoEditX.nd (by rfl) (by rfl) ⟨by rfl, by decide, .inl gT⟩ ⟨by rfl, by decide, .inl TN.g⟩ ⟨by rfl, by decide, .inl TS.g⟩ ⟨by rfl, by decide, .inl T_NoChange.g⟩ (fun hd => L2H.passesAt_of rfl hd) (L2K.takes_of rfl rfl rfl rfl) (fun W pn xe tkN po => pss_one (ps_if (pt_cmpR op_eq (pe_ix (show IxR _ (rIxT K) from ix_tup) (pv 2) pe_int (fun _ _ => rfl)) pe_str (nomark _)) (pss_one (ps_expr (pe_methE (E := fun σ => WE W σ) (pv 0) T.cl hPressX GPressX (hr.mono (by omega)) bPressX (fun σ => L2N.passAt tkN σ) (pa_cons (pe_ix (show IxR _ (rIxT K) from ix_tup) (pv 2) pe_int (fun _ _ => rfl)) pa_nil)))) (pss_one (ps_if (pt_cmpR op_eq (pe_ix (show IxR _ (rIxT K) from ix_tup) (pv 2) pe_int (fun _ _ => rfl)) pe_str (nomark _)) (pss_one (ps_expr (pe_methE (E := fun σ => WE W σ) (pv 0) T.cl hLinkX GLinkX (hr.mono (by omega)) bLinkX (fun σ => L2N.passAt tkN σ) (pa_cons (pe_ix (show IxR _ (rIxT K) from ix_tup) (pv 2) pe_int (fun _ _ => rfl)) (pa_cons (pe_ix (show IxR _ (rIxT K) from ix_tup) (pv 2) pe_int (fun _ _ => rfl)) pa_nil))))) (pss_one (ps_expr (pe_methE (E := fun σ => WE W σ) (pv 0) T.cl hUnlinkX GUnlinkX (hr.mono (by omega)) bUnlinkX (fun σ => L2N.passAt tkN σ) (pa_cons (pe_ix (show IxR _ (rIxT K) from ix_tup) (pv 2) pe_int (fun _ _ => rfl)) (pa_cons (pe_ix (show IxR _ (rIxT K) from ix_tup) (pv 2) pe_int (fun _ _ => rfl)) pa_nil))))))))) (fun a oe cls d pn xe hz hbe hd tkY hot => by
      obtain ⟨vs, hdat⟩ := hd
      exact pss_one (ps_raiseHK (i := 3) (vx := vs) rfl rfl hz.1 hdat (hz.2.2 vs hdat) hbe (by rfl) (.inl rfl) tkY (L2H.pmk5_oexH TR.oex TR.iC TR.tI (ok_initRH (k := k) (C := CR) (K := K) TR.FI) (L2H.roomH_mark (hr.mono (by omega)) _) hot TR.bI pass0 (by rfl) TR.g (pa_cons (pv 1) pa_nil))))), ?_⟩
    rcases q with ⟨pan', f, hE, q⟩ | ⟨hR, q⟩
    · have dv := dq_dp d v hE.lf hd
      cases hE with
      | press h0 h1 =>
        refine gs_if (gvt_test (K := K) (gv_eqS (gv_ixT (j := 0) (gv_var rfl dv) gv_int rfl rfl) gv_str)) (fun _ H1 s1 => ?_) (fun z => by simp at z)
        have hD1 := hD.same s1
        refine hD1.at fun dx fs e l => ⟨.ref t, rfl, t, dx, fs, rfl, e, l _ (by decide +kernel), ?_⟩
        refine (gv_ixT (K := K) (j := 1) (d := .int _) (gv_var rfl (dv.sm s1)) gv_int rfl rfl).at fun w H2 s2 dw => ?_
        cases dw
        exact ⟨fun _ => False, t, pan, st, past, _, _, rfl, hD1.same s2, few, .int _, fun z => Bool.noConfusion (z.symm.trans (btn_of h0 h1)), fun b eb _ _ H3 k3 hN => by (cases eb; exact q H3 ((ButO.of (s1.trans s2)).trans k3) hN)⟩
      | link h hn =>
        refine gs_if (gvt_test (K := K) (gv_eqS (gv_ixT (j := 0) (gv_var rfl dv) gv_int rfl rfl) gv_str)) (fun z => absurd z (by decide +kernel)) (fun _ H0 s0 => ?_)
        refine gs_if (gvt_test (K := K) (gv_eqS (gv_ixT (j := 0) (gv_var rfl (dv.sm s0)) gv_int rfl rfl) gv_str)) (fun _ H1 s1 => ?_) (fun z => by simp at z)
        have s01 := s0.trans s1
        have hD1 := hD.same s01
        refine hD1.at fun dx fs e l => ⟨.ref t, rfl, t, dx, fs, rfl, e, l _ (by decide +kernel), ?_⟩
        refine gva_at (gva_cons (K := K) (gv_ixT (j := 1) (d := .int _) (gv_var rfl (dv.sm s01)) gv_int rfl rfl) (gva_cons (gv_ixT (j := 2) (d := .int _) (gv_var rfl (dv.sm s01)) gv_int rfl rfl) gva_nil)) fun ws H2 s2 dw => ?_
        obtain ⟨w1, w2, rfl, dw1, dw2⟩ := dpAll2 dw
        cases dw1
        cases dw2
        exact ⟨fun _ => False, t, pan, st, past, _, _, _, _, rfl, hD1.same s2, few, .int _, .int _, fun z => Bool.noConfusion (z.symm.trans (btn_of h.1 h.2.1)), fun _ z => Bool.noConfusion (z.symm.trans (btn_of h.2.2.1 h.2.2.2.1)), fun a e1 e2 => absurd ((PyData.int.inj e1).trans (PyData.int.inj e2).symm) h.2.2.2.2,
          fun a b e1 e2 hI hin => by (cases e1; cases e2; exact absurd (of_decide_eq_true hin) hn),
          fun a b e1 e2 hI _ H3 k3 hN => by (cases e1; cases e2; exact q H3 ((ButO.of (s01.trans s2)).trans k3) hN)⟩
      | unlink h hn =>
        refine gs_if (gvt_test (K := K) (gv_eqS (gv_ixT (j := 0) (gv_var rfl dv) gv_int rfl rfl) gv_str)) (fun z => absurd z (by decide +kernel)) (fun _ H0 s0 => ?_)
        refine gs_if (gvt_test (K := K) (gv_eqS (gv_ixT (j := 0) (gv_var rfl (dv.sm s0)) gv_int rfl rfl) gv_str)) (fun z => absurd z (by decide +kernel)) (fun _ H1 s1 => ?_)
        have s01 := s0.trans s1
        have hD1 := hD.same s01
        refine hD1.at fun dx fs e l => ⟨.ref t, rfl, t, dx, fs, rfl, e, l _ (by decide +kernel), ?_⟩
        refine gva_at (gva_cons (K := K) (gv_ixT (j := 1) (d := .int _) (gv_var rfl (dv.sm s01)) gv_int rfl rfl) (gva_cons (gv_ixT (j := 2) (d := .int _) (gv_var rfl (dv.sm s01)) gv_int rfl rfl) gva_nil)) fun ws H2 s2 dw => ?_
        obtain ⟨w1, w2, rfl, dw1, dw2⟩ := dpAll2 dw
        cases dw1
        cases dw2
        exact ⟨fun _ => False, t, pan, st, past, _, _, _, _, rfl, hD1.same s2, few, .int _, .int _, fun z => Bool.noConfusion (z.symm.trans (btn_of h.1 h.2.1)), fun _ z => Bool.noConfusion (z.symm.trans (btn_of h.2.2.1 h.2.2.2.1)), fun a e1 e2 => absurd ((PyData.int.inj e1).trans (PyData.int.inj e2).symm) h.2.2.2.2,
          fun a b e1 e2 hI hin => by (cases e1; cases e2; exact absurd hn (of_decide_eq_false hin)),
          fun a b e1 e2 hI _ H3 k3 hN => by (cases e1; cases e2; exact q H3 ((ButO.of (s01.trans s2)).trans k3) hN)⟩
    
    · rcases hR with ⟨u, rfl, hu⟩ | ⟨w, u1, u2, rfl, hw, hno⟩
      · cases hd with
        | @tup e xs _ hq ha =>
        cases ha with
        | @cons x0 xs d0 ds0 hx0 ha2 =>
        cases ha2 with
        | @cons x1 xs d1 ds1 hx1 ha3 =>
        cases ha3
        cases hx0
        refine ⟨.ref e, rfl, e, _, 0, .str "press", rfl, rfl, hq, at_zero, rfl, true, congrArg V.bl (decide_eq_true rfl), iteT ?_⟩
        exact hD.at fun dx fs e1 l => ⟨.ref t, rfl, t, dx, fs, rfl, e1, l _ (by decide +kernel), .ref e, rfl, e, _, 1, x1, rfl, rfl, hq, at_one, N, t, pan, st, past, x1, u, rfl, hD, few, hx1, fun z H3 dd s3 ed => ⟨xN, TN.oex.exC, fun ad nad => ⟨by rfl, .int i, by rfl, rzF TR fun H4 dd4 s4 ed4 => q H4 dd4 ((s3).trans s4) ed4⟩⟩, fun b eb b0 b1 => by (subst eb; rw [btn_of b0 b1] at hu; cases hu)⟩
      · cases hd with
        | @tup e xs _ hq ha =>
        cases ha with
        | @cons x0 xs d0 ds0 hx0 ha2 =>
        cases ha2 with
        | @cons x1 xs d1 ds1 hx1 ha3 =>
        cases ha3 with
        | @cons x2 xs d2 ds2 hx2 ha4 =>
        cases ha4
        cases hx0
        have np : w ≠ "press" := by rcases hw with rfl | rfl <;> decide +kernel
        refine ⟨.ref e, rfl, e, _, 0, .str w, rfl, rfl, hq, at_zero, rfl, false, congrArg V.bl (decide_eq_false (fun z => np (V.str.inj z))), iteF ?_⟩
        rcases hw with rfl | rfl
        · refine ⟨.ref e, rfl, e, _, 0, .str "link", rfl, rfl, hq, at_zero, rfl, true, congrArg V.bl (decide_eq_true rfl), iteT ?_⟩
          exact hD.at fun dx fs e1 l => ⟨.ref t, rfl, t, dx, fs, rfl, e1, l _ (by decide +kernel), .ref e, rfl, e, _, 1, x1, rfl, rfl, hq, at_one, .ref e, rfl, e, _, 2, x2, rfl, rfl, hq, at_two, N, t, pan, st, past, x1, x2, u1, u2, rfl, hD, few, hx1, hx2,
            fun z H3 dd s3 ed => ⟨xN, TN.oex.exC, fun ad nad => ⟨by rfl, .int i, by rfl, rzF TR fun H4 dd4 s4 ed4 => q H4 dd4 ((s3).trans s4) ed4⟩⟩, fun z z2 H3 dd s3 ed => ⟨xN, TN.oex.exC, fun ad nad => ⟨by rfl, .int i, by rfl, rzF TR fun H4 dd4 s4 ed4 => q H4 dd4 ((s3).trans s4) ed4⟩⟩, fun a' z1 z2 z3 z4 H3 dd s3 ed => ⟨xS, TS.oex.exC, fun ad nad => ⟨by rfl, .int i, by rfl, rzF TR fun H4 dd4 s4 ed4 => q H4 dd4 ((s3).trans s4) ed4⟩⟩, fun a' b' z1 z2 z3 z4 H3 s3 => ⟨xC, T_NoChange.s, fun ad nad => ⟨by rfl, .int i, by rfl, rzF TR fun H4 dd4 s4 ed4 => q H4 dd4 ((s3).trans s4) ed4⟩⟩,
            fun a' b' z1 z2 z3 z4 => absurd ((hno a' b' z1 z2 z3).symm.trans z4) (by decide +kernel)⟩
        · refine ⟨.ref e, rfl, e, _, 0, .str "unlink", rfl, rfl, hq, at_zero, rfl, false, congrArg V.bl (decide_eq_false (fun z => absurd (V.str.inj z) (by decide +kernel))), iteF ?_⟩
          exact hD.at fun dx fs e1 l => ⟨.ref t, rfl, t, dx, fs, rfl, e1, l _ (by decide +kernel), .ref e, rfl, e, _, 1, x1, rfl, rfl, hq, at_one, .ref e, rfl, e, _, 2, x2, rfl, rfl, hq, at_two, N, t, pan, st, past, x1, x2, u1, u2, rfl, hD, few, hx1, hx2,
            fun z H3 dd s3 ed => ⟨xN, TN.oex.exC, fun ad nad => ⟨by rfl, .int i, by rfl, rzF TR fun H4 dd4 s4 ed4 => q H4 dd4 ((s3).trans s4) ed4⟩⟩, fun z z2 H3 dd s3 ed => ⟨xN, TN.oex.exC, fun ad nad => ⟨by rfl, .int i, by rfl, rzF TR fun H4 dd4 s4 ed4 => q H4 dd4 ((s3).trans s4) ed4⟩⟩, fun a' z1 z2 z3 z4 H3 dd s3 ed => ⟨xS, TS.oex.exC, fun ad nad => ⟨by rfl, .int i, by rfl, rzF TR fun H4 dd4 s4 ed4 => q H4 dd4 ((s3).trans s4) ed4⟩⟩, fun a' b' z1 z2 z3 z4 H3 s3 => ⟨xC, T_NoChange.s, fun ad nad => ⟨by rfl, .int i, by rfl, rzF TR fun H4 dd4 s4 ed4 => q H4 dd4 ((s3).trans s4) ed4⟩⟩,
            fun a' b' z1 z2 z3 z4 => absurd ((hno a' b' z1 z2 z3).symm.trans z4) (by decide +kernel)⟩
end
end K48
namespace K48
open PySem PySem.Spec PyProof.Rows L2 Pr
theorem pt_no {X : Cx} {e : Expr} : PT X e (fun _ _ _ => False) := ⟨fun _ _ _ _ _ _ h => h.elim⟩
theorem Ed.det {pan p p' : List (List Int)} {d : PyData} {f f' : List Int → List Int} (h : Ed pan d p f) (h' : Ed pan d p' f') : p = p' ∧ f = f' := by
  have hx : ∀ {d d' : PyData}, Ed pan d p f → Ed pan d' p' f' → d = d' → p = p' ∧ f = f' := by
    intro d d' h h' e
    have ne : ∀ {a b : Str} {x y : List PyData}, a ≠ b → PyData.tuple (.str a :: x) = .tuple (.str b :: y) → False := fun n z => by
      injection z with z
      injection z with z _
      injection z with z
      exact n z
    cases h with
    | press _ _ =>
      cases h' with
      | press _ _ =>
        injection e with e
        injection e with _ e
        injection e with e _
        injection e with e
        subst e
        exact ⟨rfl, rfl⟩
      | link _ _ => exact (ne (by decide +kernel) e).elim
      | unlink _ _ => exact (ne (by decide +kernel) e).elim
    | link _ _ =>
      cases h' with
      | press _ _ => exact (ne (by decide +kernel) e).elim
      | link _ _ =>
        unfold dLk at e
        injection e with e
        injection e with _ e
        injection e with e1 e
        injection e with e2 _
        injection e1 with e1
        injection e2 with e2
        subst e1 e2
        exact ⟨rfl, rfl⟩
      | unlink _ _ => exact (ne (by decide +kernel) e).elim
    | unlink _ _ =>
      cases h' with
      | press _ _ => exact (ne (by decide +kernel) e).elim
      | link _ _ => exact (ne (by decide +kernel) e).elim
      | unlink _ _ =>
        unfold dLk at e
        injection e with e
        injection e with _ e
        injection e with e1 e
        injection e with e2 _
        injection e1 with e1
        injection e2 with e2
        subst e1 e2
        exact ⟨rfl, rfl⟩
  exact hx h h' rfl
theorem Eds.det {pan p p' : List (List Int)} {st s s' : List Int} {ds : List PyData} {xs xs' : List (PyData × List (List Int) × List Int)} (h : Eds pan st ds p s xs) (h' : Eds pan st ds p' s' xs') : p = p' ∧ s = s' ∧ xs = xs' := by
  induction h generalizing p' s' xs' with
  | nil => cases h'; exact ⟨rfl, rfl, rfl⟩
  | cons h t ih =>
    cases h' with
    | cons h2 t2 =>
      obtain ⟨rfl, rfl⟩ := h.det h2
      obtain ⟨rfl, rfl, rfl⟩ := ih t2
      exact ⟨rfl, rfl, rfl⟩
theorem Eds.snoc {pan p p1 : List (List Int)} {st s : List Int} {ds : List PyData} {d : PyData} {f : List Int → List Int} {xs : List (PyData × List (List Int) × List Int)} (h : Eds pan st ds p s xs) (e : Ed p d p1 f) : Eds pan st (ds ++ [d]) p1 (f s) (xs ++ [(d, p, s)]) := by
  induction h with
  | nil => exact .cons e .nil
  | cons h t ih => exact .cons h (ih e)
theorem eds_step {pan p : List (List Int)} {st s : List Int} {ds : List PyData} {xs : List (PyData × List (List Int) × List Int)} (h : Eds pan st ds p s xs) : ∀ (j : Nat) (pj : List (List Int)) (sj : List Int), j < ds.length → Eds pan st (ds.take j) pj sj (xs.take j) → ∃ d f p1, ds[j]? = some d ∧ Ed pj d p1 f ∧ xs.take (j + 1) = xs.take j ++ [(d, pj, sj)] ∧ Eds pan st (ds.take (j + 1)) p1 (f sj) (xs.take (j + 1)) := by
  induction h with
  | nil => intro j pj sj hj; exact absurd hj (Nat.not_lt_zero _)
  | cons h t ih =>
    intro j pj sj hj e
    cases j with
    | zero =>
      cases e
      exact ⟨_, _, _, rfl, h, rfl, .cons h .nil⟩
    | succ j =>
      cases e with
      | cons h2 t2 =>
        obtain ⟨rfl, rfl⟩ := h.det h2
        obtain ⟨d, f, p1, h3, h4, h5, h6⟩ := ih j pj sj (by simpa using hj) t2
        exact ⟨d, f, p1, h3, h4, congrArg (List.cons _) h5, .cons h h6⟩
abbrev sDoBatchX := sDoBatch
def nDoBatchX : List Str := ["self", "batch", "watch", "index", "edit"]
theorem scDoBatchX : FnScope nDoBatchX ["self", "batch", "watch"] (defScope sDoBatchX) := ⟨rfl, rfl, rfl, by decide +kernel, rfl, by decide +kernel, by decide +kernel⟩
section
variable {P : Program} {w : World} {K : PySem.W.Frag} {mg : Str → Option Value} {base : Heap}
def spDoBatchX (K : PySem.W.Frag) (C CR : Addr) : Sp := fun vs H Q E => ∃ (N : Addr → Prop) (t a : Addr) (pan : List (List Int)) (st : List Int) (past xs : List (PyData × List (List Int) × List Int)) (ws : List V) (ds : List PyData), vs = [.ref t, .ref a, .non] ∧ DeskAt K C H t pan st past ∧ past.length + ds.length ≤ 60 ∧ SqT K H a ws ∧ DqAll K N H ws ds ∧
  ((∃ pan' st', Eds pan st ds pan' st' xs ∧ ∀ H', ButO t H H' → DeskAt K C H' t pan' st' (past ++ xs) → Q (.int (ds.length : Nat)) H') ∨
   (∃ (gs : List PyData) (b : PyData) (rs : List PyData), ds = gs ++ b :: rs ∧ ∃ pan' st', Eds pan st gs pan' st' xs ∧ RefD pan' b ∧
     ∀ H' dd, ButO t H H' → DeskAt K C H' t pan' st' (past ++ xs) → H' dd = some (.xd [("index", .int (gs.length : Nat))]) → E (.ref CR) (some dd) H'))
theorem ok_DoBatchX {fWl : Addr} {fdWl : FuncData} {fLi : Addr} {fdLi : FuncData} {fUn : Addr} {fdUn : FuncData} {fBtn : Addr} {fdBtn : FuncData} {fPress : Addr} {fdPress : FuncData} {fAny : Addr} {fdAny : FuncData} {fHeld : Addr} {fdHeld : FuncData} {fChkB : Addr} {fdChkB : FuncData} {C f : Addr} {fd : FuncData} {k : Nat} {CN CS CC fIN fIS : Addr} {fdIN fdIS : FuncData} {CT CR fIR : Addr} {fdIR : FuncData} (F : Fun K "do_batch" "Desk.do_batch" sDoBatchX f fd) (T : TxtD K mg C) (TN : ExL K mg "NoButton" "value" "NoButton.__init__" sInitN CN fIN fdIN) (TS : ExF K mg "SameButton" "value" "SameButton.__init__" sInitS CS fIS fdIS) (T_NoChange : Ex0 K mg "NoChange" CC) (TR : ExF K mg "Rejected" "index" "Rejected.__init__" sInitR CR fIR fdIR) (gT : mg "TooManyEdits" = some (.ref CT)) (xN : PySem.W.exmAny K (.ref CN) [.ref CT, .ref CN, .ref CS, .ref CC] = some true) (xS : PySem.W.exmAny K (.ref CS) [.ref CT, .ref CN, .ref CS, .ref CC] = some true) (xC : PySem.W.exmAny K (.ref CC) [.ref CT, .ref CN, .ref CS, .ref CC] = some true)
    (FWl : Fun K "with_list" "with_list" sWl fWl fdWl) (bWl : Binds K fdWl ["panel", "button", "released"] []) (gWl : mg "with_list" = some (.ref fWl))
    (FLi : Fun K "linked" "linked" sLi fLi fdLi) (bLi : Binds K fdLi ["panel", "one", "other"] []) (gLi : mg "linked" = some (.ref fLi))
    (FUn : Fun K "unlinked" "unlinked" sUn fUn fdUn) (bUn : Binds K fdUn ["panel", "one", "other"] []) (gUn : mg "unlinked" = some (.ref fUn))
    (FBtn : Fun K "is_button" "is_button" sBtn fBtn fdBtn) (bBtn : Binds K fdBtn ["value", "many"] []) (gBtn : mg "is_button" = some (.ref fBtn))
    (FPress : Fun K "press_button" "press_button" sPress fPress fdPress) (bPress : Binds K fdPress ["panel", "state", "button"] []) (gPress : mg "press_button" = some (.ref fPress))
    (FAny : Fun K "releases_any" "releases_any" sAny fAny fdAny) (bAny : Binds K fdAny ["panel", "button", "others"] []) (gAny : mg "releases_any" = some (.ref fAny))
    (FHeld : Fun K "held_buttons" "held_buttons" sHeld fHeld fdHeld) (bHeld : Binds K fdHeld ["panel", "state"] []) (gHeld : mg "held_buttons" = some (.ref fHeld))
    (FChkB : Fun K "check_button" "check_button" sChkB fChkB fdChkB) (bChkB : Binds K fdChkB ["panel", "value"] []) (gChkB : mg "check_button" = some (.ref fChkB))
    {fFree : Addr} {fdFree : FuncData} (FFree : Fun K "check_free" "Desk.check_free" sFree fFree fdFree) (bFree : Binds K fdFree ["self"] []) (hFree : Meth K C "check_free" fFree)
    {fRoom : Addr} {fdRoom : FuncData} (FRoom : Fun K "check_room" "Desk.check_room" sRoom fRoom fdRoom) (bRoom : Binds K fdRoom ["self"] []) (hRoom : Meth K C "check_room" fRoom)
    {fShow : Addr} {fdShow : FuncData} (FShow : Fun K "show" "Desk.show" sShow fShow fdShow) (bShow : Binds K fdShow ["self", "panel", "latched"] []) (hShow : Meth K C "show" fShow)
    {fAdd : Addr} {fdAdd : FuncData} (FAdd : Fun K "add_edit" "Desk.add_edit" sAdd fAdd fdAdd) (bAdd : Binds K fdAdd ["self", "edit", "panel", "latched"] []) (hAdd : Meth K C "add_edit" fAdd)
    {fPressX : Addr} {fdPressX : FuncData} (FPressX : Fun K "press" "Desk.press" sPressX fPressX fdPressX) (bPressX : Binds K fdPressX ["self", "button"] []) (hPressX : Meth K C "press" fPressX)
    {fLink0X : Addr} {fdLink0X : FuncData} (FLink0X : Fun K "check_link" "Desk.check_link" sLink0X fLink0X fdLink0X) (bLink0X : Binds K fdLink0X ["self", "one", "other"] []) (hLink0X : Meth K C "check_link" fLink0X)
    {fChgX : Addr} {fdChgX : FuncData} (FChgX : Fun K "change_panel" "Desk.change_panel" sChgX fChgX fdChgX) (bChgX : Binds K fdChgX ["self", "edit", "panel"] []) (hChgX : Meth K C "change_panel" fChgX)
    {fLinkX : Addr} {fdLinkX : FuncData} (FLinkX : Fun K "link" "Desk.link" sLinkX fLinkX fdLinkX) (bLinkX : Binds K fdLinkX ["self", "one", "other"] []) (hLinkX : Meth K C "link" fLinkX)
    {fUnlinkX : Addr} {fdUnlinkX : FuncData} (FUnlinkX : Fun K "unlink" "Desk.unlink" sUnlinkX fUnlinkX fdUnlinkX) (bUnlinkX : Binds K fdUnlinkX ["self", "one", "other"] []) (hUnlinkX : Meth K C "unlink" fUnlinkX)
    {fDoEditX : Addr} {fdDoEditX : FuncData} (FDoEditX : Fun K "do_edit" "Desk.do_edit" sDoEditX fDoEditX fdDoEditX) (bDoEditX : Binds K fdDoEditX ["self", "index", "edit"] []) (hDoEditX : Meth K C "do_edit" fDoEditX)
    (m_any : mg "any" = none) (m_bool : mg "bool" = none) (m_enumerate : mg "enumerate" = none) (m_int : mg "int" = none) (m_isinstance : mg "isinstance" = none) (m_len : mg "len" = none) (m_sorted : mg "sorted" = none) (m_tuple : mg "tuple" = none) : FnOk P w K mg base (L2K.CX P w) (k + 8) f fd ["self", "batch", "watch"] (spDoBatchX K C CR) := by
  have GDoEditX : FnOk P w K mg base (L2K.CX P w) (k + 7) fDoEditX fdDoEditX ["self", "index", "edit"] (spDoEditX K C CR) := ok_DoEditX FDoEditX T TN TS T_NoChange TR gT xN xS xC FWl bWl gWl FLi bLi gLi FUn bUn gUn FBtn bBtn gBtn FPress bPress gPress FAny bAny gAny FHeld bHeld gHeld FChkB bChkB gChkB FFree bFree hFree FRoom bRoom hRoom FShow bShow hShow FAdd bAdd hAdd FPressX bPressX hPressX FLink0X bLink0X hLink0X FChgX bChgX hChgX FLinkX bLinkX hLinkX FUnlinkX bUnlinkX hUnlinkX m_any m_bool m_enumerate m_int m_isinstance m_len m_sorted m_tuple
  have GS : FnOk P w K mg base CX0 (k + 1) fIS fdIS ["self", "value"] (spI K CS "value") := ok_initS TS.FI
  refine Pr.Fun.okK F scDoBatchX (fun vs H Q E h => ?_) (fun cdv A outer s H vs Q E hr h => ?_)
  · obtain ⟨N, t, a, pan, st, past, xs, ws, ds, rfl, _⟩ := h
    rfl
  · obtain ⟨N, t, a, pan, st, past, xs, ws, ds, rfl, hD, few, hq, hws, q⟩ := h
    refine ⟨_, pss_cons (ps_for (passes_of rfl) rfl (pi_enumT (by rfl) m_enumerate (pa_cons (pv 1) pa_nil)) (pg_tup rfl (pgs_cons (pg_name (i := 3) scDoBatchX.nd rfl (Or.inl rfl)) (pgs_cons (pg_name (i := 4) scDoBatchX.nd rfl (Or.inl rfl)) pgs_nil))) (pss_cons (ps_expr (pe_methE (E := fun _ => E) (pv 0) T.cl hDoEditX GDoEditX (hr.mono (by omega)) bDoEditX (fun σ => L2K.passAt (W := fun cls d _ H => E cls d H) (L2K.takes_of rfl rfl rfl rfl) σ) (pa_cons (pv 3) (pa_cons (pv 4) pa_nil))))
      (pss_one (ps_if (PW.pt (pw_and (pt_cmpR op_notN (pv 2) pe_non (by rfl)) (pw_and1 pt_no))) (pss_one (ps_ret (pe_op op_add (pv 3) pe_int))) pss_nil))))
      (pss_one (ps_ret (pe_callB (show CallR _ _ (rLenG K) from cr_lenG) (by rfl) m_len PySem.boot_len (pa_cons (pv 1) pa_nil)))), ?_⟩
    obtain ⟨dx0, fs0, h1⟩ : ∃ dx fs, H t = some (.ins C dx fs) := hD.at fun dx fs e _ => ⟨dx, fs, e⟩
    rcases q with ⟨pan', st', hE, q⟩ | ⟨gs, b, rs, rfl, pan', st', hE, hR, q⟩
    · skip
      have xl := hE.len
      have wl : ws.length = ds.length := hws.length
      refine ⟨.ref a, rfl, a, ws, rfl, hq, ?_⟩
      refine for_it walk_enumT (fun k σ' H' => ButO t H H' ∧ k ≤ ds.length ∧ (∃ pk sk, DeskAt K C H' t pk sk (past ++ xs.take k) ∧ Eds pan st (ds.take k) pk sk (xs.take k)) ∧ ∃ x3 x4, σ' = [some (.ref t), some (.ref a), some .non, x3, x4]) ⟨ButO.refl _ _, Nat.zero_le _, ⟨pan, st, by rw [List.take_zero, List.append_nil]; exact hD, by rw [List.take_zero, List.take_zero]; exact .nil⟩, none, none, rfl⟩ (fun k σ' H' _ hP => sqT_kp (hP.1.kp h1) hq) (fun k x σ' H' H'' hk hP y => ?_) (fun σ' H' hP => ?_)
      · obtain ⟨T, x1, x2, rfl, nT, rfl, e1, e2⟩ := y
        cases e1
        obtain ⟨b3, kle, ⟨pk, sk, hDk, hEk⟩, y1, y2, rfl⟩ := hP
        have sT := same_new (o := .tup [.int (k : Nat), x2]) nT
        obtain ⟨d2, hd2, dx⟩ := hws.get k x2 e2
        have dx4 : Dq K N _ x2 d2 := Dq.same sT _ _ (dx.butO h1 b3)
        have hD4 := hDk.same sT
        have hfew : (past ++ xs.take k).length < 60 := by rw [List.length_append, List.length_take]; have := (List.getElem?_eq_some_iff.mp hd2).1; omega
        refine ⟨T, [_, x2], rfl, .inl (.inl upd_same), rfl, _, [x2], rfl, x2, [], rfl, rfl, ?_⟩
        generalize upd H' T (.tup [.int (k : Nat), x2]) = H4 at sT dx4 hD4 ⊢
        have hk' : k < ds.length := (List.getElem?_eq_some_iff.mp hd2).1
        rcases True.intro with _
        · obtain ⟨d3, f, p1, hd3, he, htk, hE1⟩ := eds_step hE k pk sk hk' hEk
          have ed : d3 = d2 := Option.some.inj (hd3.symm.trans hd2)
          subst ed
          refine hD4.at fun dx fs e l => ⟨.ref t, rfl, t, dx, fs, rfl, e, l _ (by decide +kernel), .int (k : Nat), rfl, x2, rfl, N, t, (k : Nat), pk, sk, past ++ xs.take k, x2, d3, rfl, hD4, hfew, dx4, .inl ⟨p1, f, he, fun H5 b5 hD5 => ?_⟩⟩
          refine ⟨.non, rfl, rfl, _, rfl, iteF ?_⟩
          exact ⟨(b3.trans (ButO.of sT)).trans b5, hk', ⟨p1, f sk, by rw [htk, ← List.append_assoc]; exact hD5, hE1⟩, _, _, rfl⟩
      · obtain ⟨b3, kle, ⟨pk, sk, hDk, hEk⟩, y1, y2, rfl⟩ := hP
        rw [wl, List.take_length] at hEk
        rw [wl, ← xl, List.take_length] at hDk
        rw [← xl, List.take_length] at hEk
        obtain ⟨rfl, rfl, _⟩ := hEk.det hE
        exact ⟨.ref a, rfl, a, ws, rfl, .inr (sqT_kp (b3.kp h1) hq), by rw [wl]; exact q H' b3 hDk⟩
    · skip
      have xl := hE.len
      have wl : ws.length = (gs ++ b :: rs).length := hws.length
      refine ⟨.ref a, rfl, a, ws, rfl, hq, ?_⟩
      refine for_it walk_enumT (fun k σ' H' => ButO t H H' ∧ k ≤ gs.length ∧ (∃ pk sk, DeskAt K C H' t pk sk (past ++ xs.take k) ∧ Eds pan st (gs.take k) pk sk (xs.take k)) ∧ ∃ x3 x4, σ' = [some (.ref t), some (.ref a), some .non, x3, x4]) ⟨ButO.refl _ _, Nat.zero_le _, ⟨pan, st, by rw [List.take_zero, List.append_nil]; exact hD, by rw [List.take_zero, List.take_zero]; exact .nil⟩, none, none, rfl⟩ (fun k σ' H' _ hP => sqT_kp (hP.1.kp h1) hq) (fun k x σ' H' H'' hk hP y => ?_) (fun σ' H' hP => ?_)
      · obtain ⟨T, x1, x2, rfl, nT, rfl, e1, e2⟩ := y
        cases e1
        obtain ⟨b3, kle, ⟨pk, sk, hDk, hEk⟩, y1, y2, rfl⟩ := hP
        have sT := same_new (o := .tup [.int (k : Nat), x2]) nT
        obtain ⟨d2, hd2, dx⟩ := hws.get k x2 e2
        have dx4 : Dq K N _ x2 d2 := Dq.same sT _ _ (dx.butO h1 b3)
        have hD4 := hDk.same sT
        have hfew : (past ++ xs.take k).length < 60 := by rw [List.length_append, List.length_take]; have := (List.getElem?_eq_some_iff.mp hd2).1; omega
        refine ⟨T, [_, x2], rfl, .inl (.inl upd_same), rfl, _, [x2], rfl, x2, [], rfl, rfl, ?_⟩
        generalize upd H' T (.tup [.int (k : Nat), x2]) = H4 at sT dx4 hD4 ⊢
        rcases Nat.lt_or_ge gs.length k with z | z
        · omega
        rcases Nat.lt_or_ge k gs.length with hk' | hk'
        rotate_left
        · obtain rfl : k = gs.length := by omega
          rw [List.getElem?_append_right (Nat.le_refl _), Nat.sub_self] at hd2
          cases hd2
          rw [List.take_length, ← xl, List.take_length] at hEk
          rw [← xl, List.take_length] at hDk hD4
          obtain ⟨rfl, rfl, _⟩ := hEk.det hE
          exact hD4.at fun dx fs e l => ⟨.ref t, rfl, t, dx, fs, rfl, e, l _ (by decide +kernel), .int (gs.length : Nat), rfl, x2, rfl, N, t, (gs.length : Nat), _, _, past ++ xs, x2, _, rfl, hD4, by rw [← xl, List.take_length] at hfew; exact hfew, dx4, .inr ⟨hR, fun H5 dd s5 ed => q H5 dd ((b3.trans (ButO.of sT)).trans (ButO.of s5)) (hD4.same s5) ed⟩⟩
        · obtain ⟨d3, f, p1, hd3, he, htk, hE1⟩ := eds_step hE k pk sk hk' hEk
          have ed : d3 = d2 := Option.some.inj (hd3.symm.trans (by rw [List.getElem?_append_left hk'] at hd2; exact hd2))
          subst ed
          refine hD4.at fun dx fs e l => ⟨.ref t, rfl, t, dx, fs, rfl, e, l _ (by decide +kernel), .int (k : Nat), rfl, x2, rfl, N, t, (k : Nat), pk, sk, past ++ xs.take k, x2, d3, rfl, hD4, hfew, dx4, .inl ⟨p1, f, he, fun H5 b5 hD5 => ?_⟩⟩
          refine ⟨.non, rfl, rfl, _, rfl, iteF ?_⟩
          exact ⟨(b3.trans (ButO.of sT)).trans b5, hk', ⟨p1, f sk, by rw [htk, ← List.append_assoc]; exact hD5, hE1⟩, _, _, rfl⟩
      · obtain ⟨b3, kle, ⟨pk, sk, hDk, hEk⟩, y1, y2, rfl⟩ := hP
        rw [wl, List.length_append, List.length_cons] at kle
        omega
end
end K48
namespace K48
open PySem PySem.Spec PyProof.Rows L2 Pr
def nAttempt : List Str := ["self", "edits", "watch", "batch", "past", "panel", "latched", "held", "done"]
theorem scAttempt : FnScope nAttempt ["self", "edits", "watch"] (defScope sAttempt) := ⟨rfl, rfl, rfl, by decide +kernel, rfl, by decide +kernel, by decide +kernel⟩
section
variable {P : Program} {w : World} {K : PySem.W.Frag} {mg : Str → Option Value} {base : Heap}
theorem put_r1 (pa pa' p l h : Addr) : putF "past" (.ref pa) (fldsD pa' p l h) = fldsD pa p l h := by rfl
theorem put_r2 (pa p p' l h : Addr) : putF "panel" (.ref p) (fldsD pa p' l h) = fldsD pa p l h := by rfl
theorem put_r3 (pa p l l' h : Addr) : putF "latched" (.ref l) (fldsD pa p l' h) = fldsD pa p l h := by rfl
theorem put_r4 (pa p l h h' : Addr) : putF "held" (.ref h) (fldsD pa p l h') = fldsD pa p l h := by rfl
def spAttemptX (K : PySem.W.Frag) (C dV CR CBs CBe : Addr) : Sp := fun vs H Q E => ∃ (N : Addr → Prop) (t : Addr) (pan : List (List Int)) (st : List Int) (past xs : List (PyData × List (List Int) × List Int)) (v : V) (d : PyData), vs = [.ref t, v, .non] ∧ DeskAt K C H t pan st past ∧ DqO K N H v d ∧ (∀ ds, seqD d = some ds → ∀ x ∈ ds, WdOk K dV x) ∧
  (((∀ ds, seqD d = some ds → 20 < ds.length) ∧ ∀ H', Same H H' → E (.ref CBs) none H') ∨
   (∃ ds, seqD d = some ds ∧ ds.length ≤ 20 ∧ past.length + ds.length ≤ 60 ∧
     ((∃ i x, ds[i]? = some x ∧ isEdB x = false ∧ (∀ j y, j < i → ds[j]? = some y → isEdB y = true) ∧ ∀ H' dd, Same H H' → H' dd = some (.xd [("index", .int (i : Nat))]) → E (.ref CBe) (some dd) H') ∨
      ((∀ x ∈ ds, isEdB x = true) ∧
       ((∃ pan' st', Eds pan st ds pan' st' xs ∧ ∀ H', ButO t H H' → DeskAt K C H' t pan' st' (past ++ xs) → Q (.int (ds.length : Nat)) H') ∨
        (∃ (gs : List PyData) (b : PyData) (rs : List PyData), ds = gs ++ b :: rs ∧ ∃ pan' st', Eds pan st gs pan' st' xs ∧ RefD pan' b ∧ ∀ H' dd, ButO t H H' → DeskAt K C H' t pan st past → H' dd = some (.xd [("index", .int (gs.length : Nat))]) → E (.ref CR) (some dd) H'))))))
theorem ok_AttemptX {fWl : Addr} {fdWl : FuncData} {fLi : Addr} {fdLi : FuncData} {fUn : Addr} {fdUn : FuncData} {fBtn : Addr} {fdBtn : FuncData} {fPress : Addr} {fdPress : FuncData} {fAny : Addr} {fdAny : FuncData} {fHeld : Addr} {fdHeld : FuncData} {fChkB : Addr} {fdChkB : FuncData} {fIsE : Addr} {fdIsE : FuncData} {fCopy : Addr} {fdCopy : FuncData} {C f dV : Addr} {fd : FuncData} {k : Nat} {tkB : Tok} {CN CS CC fIN fIS : Addr} {fdIN fdIS : FuncData} {CT CR fIR : Addr} {fdIR : FuncData} {CBs CBe fIE : Addr} {fdIE : FuncData} (F : FunD K "attempt" "Desk.attempt" (defArgs sAttempt) (defBody sAttempt) (defScope sAttempt) [] [("watch", .non)] f fd) (T : TxtD K mg C) (TN : ExL K mg "NoButton" "value" "NoButton.__init__" sInitN CN fIN fdIN) (TS : ExF K mg "SameButton" "value" "SameButton.__init__" sInitS CS fIS fdIS) (T_NoChange : Ex0 K mg "NoChange" CC) (TR : ExF K mg "Rejected" "index" "Rejected.__init__" sInitR CR fIR fdIR) (gT : mg "TooManyEdits" = some (.ref CT)) (xN : PySem.W.exmAny K (.ref CN) [.ref CT, .ref CN, .ref CS, .ref CC] = some true) (xS : PySem.W.exmAny K (.ref CS) [.ref CT, .ref CN, .ref CS, .ref CC] = some true) (xC : PySem.W.exmAny K (.ref CC) [.ref CT, .ref CN, .ref CS, .ref CC] = some true) (T_BadEdits : Ex0 K mg "BadEdits" CBs) (TBE : ExF K mg "BadEdit" "index" "BadEdit.__init__" sInitE CBe fIE fdIE)
    (FWl : Fun K "with_list" "with_list" sWl fWl fdWl) (bWl : Binds K fdWl ["panel", "button", "released"] []) (gWl : mg "with_list" = some (.ref fWl))
    (FLi : Fun K "linked" "linked" sLi fLi fdLi) (bLi : Binds K fdLi ["panel", "one", "other"] []) (gLi : mg "linked" = some (.ref fLi))
    (FUn : Fun K "unlinked" "unlinked" sUn fUn fdUn) (bUn : Binds K fdUn ["panel", "one", "other"] []) (gUn : mg "unlinked" = some (.ref fUn))
    (FBtn : Fun K "is_button" "is_button" sBtn fBtn fdBtn) (bBtn : Binds K fdBtn ["value", "many"] []) (gBtn : mg "is_button" = some (.ref fBtn))
    (FPress : Fun K "press_button" "press_button" sPress fPress fdPress) (bPress : Binds K fdPress ["panel", "state", "button"] []) (gPress : mg "press_button" = some (.ref fPress))
    (FAny : Fun K "releases_any" "releases_any" sAny fAny fdAny) (bAny : Binds K fdAny ["panel", "button", "others"] []) (gAny : mg "releases_any" = some (.ref fAny))
    (FHeld : Fun K "held_buttons" "held_buttons" sHeld fHeld fdHeld) (bHeld : Binds K fdHeld ["panel", "state"] []) (gHeld : mg "held_buttons" = some (.ref fHeld))
    (FChkB : Fun K "check_button" "check_button" sChkB fChkB fdChkB) (bChkB : Binds K fdChkB ["panel", "value"] []) (gChkB : mg "check_button" = some (.ref fChkB))
    (FIsE : Fun K "is_edit" "is_edit" sIsE fIsE fdIsE) (bIsE : Binds K fdIsE ["value"] []) (gIsE : mg "is_edit" = some (.ref fIsE))
    (FCopy : Fun K "copied_batch" "copied_batch" sCopy fCopy fdCopy) (bCopy : Binds K fdCopy ["value"] []) (gCopy : mg "copied_batch" = some (.ref fCopy))
    {fFree : Addr} {fdFree : FuncData} (FFree : Fun K "check_free" "Desk.check_free" sFree fFree fdFree) (bFree : Binds K fdFree ["self"] []) (hFree : Meth K C "check_free" fFree)
    {fRoom : Addr} {fdRoom : FuncData} (FRoom : Fun K "check_room" "Desk.check_room" sRoom fRoom fdRoom) (bRoom : Binds K fdRoom ["self"] []) (hRoom : Meth K C "check_room" fRoom)
    {fShow : Addr} {fdShow : FuncData} (FShow : Fun K "show" "Desk.show" sShow fShow fdShow) (bShow : Binds K fdShow ["self", "panel", "latched"] []) (hShow : Meth K C "show" fShow)
    {fAdd : Addr} {fdAdd : FuncData} (FAdd : Fun K "add_edit" "Desk.add_edit" sAdd fAdd fdAdd) (bAdd : Binds K fdAdd ["self", "edit", "panel", "latched"] []) (hAdd : Meth K C "add_edit" fAdd)
    {fPressX : Addr} {fdPressX : FuncData} (FPressX : Fun K "press" "Desk.press" sPressX fPressX fdPressX) (bPressX : Binds K fdPressX ["self", "button"] []) (hPressX : Meth K C "press" fPressX)
    {fLink0X : Addr} {fdLink0X : FuncData} (FLink0X : Fun K "check_link" "Desk.check_link" sLink0X fLink0X fdLink0X) (bLink0X : Binds K fdLink0X ["self", "one", "other"] []) (hLink0X : Meth K C "check_link" fLink0X)
    {fChgX : Addr} {fdChgX : FuncData} (FChgX : Fun K "change_panel" "Desk.change_panel" sChgX fChgX fdChgX) (bChgX : Binds K fdChgX ["self", "edit", "panel"] []) (hChgX : Meth K C "change_panel" fChgX)
    {fLinkX : Addr} {fdLinkX : FuncData} (FLinkX : Fun K "link" "Desk.link" sLinkX fLinkX fdLinkX) (bLinkX : Binds K fdLinkX ["self", "one", "other"] []) (hLinkX : Meth K C "link" fLinkX)
    {fUnlinkX : Addr} {fdUnlinkX : FuncData} (FUnlinkX : Fun K "unlink" "Desk.unlink" sUnlinkX fUnlinkX fdUnlinkX) (bUnlinkX : Binds K fdUnlinkX ["self", "one", "other"] []) (hUnlinkX : Meth K C "unlink" fUnlinkX)
    {fDoEditX : Addr} {fdDoEditX : FuncData} (FDoEditX : Fun K "do_edit" "Desk.do_edit" sDoEditX fDoEditX fdDoEditX) (bDoEditX : Binds K fdDoEditX ["self", "index", "edit"] []) (hDoEditX : Meth K C "do_edit" fDoEditX)
    {fDoBatchX : Addr} {fdDoBatchX : FuncData} (FDoBatchX : Fun K "do_batch" "Desk.do_batch" sDoBatchX fDoBatchX fdDoBatchX) (bDoBatchX : Binds K fdDoBatchX ["self", "batch", "watch"] []) (hDoBatchX : Meth K C "do_batch" fDoBatchX)
    (m_any : mg "any" = none) (m_bool : mg "bool" = none) (m_enumerate : mg "enumerate" = none) (m_int : mg "int" = none) (m_isinstance : mg "isinstance" = none) (m_len : mg "len" = none) (m_list : mg "list" = none) (m_sorted : mg "sorted" = none) (m_str : mg "str" = none) (m_tuple : mg "tuple" = none) (VA : KVal K w mg dV) (y_BATCH : mg "BATCH" = some (.int 20 tkB)) : FnOk P w K mg base (L2.CX P w) (k + 9) f fd ["self", "edits", "watch"] (spAttemptX K C dV CR CBs CBe) := by
  have GCopy : FnOk P w K mg base (L2.CX P w) (k + 3) fCopy fdCopy ["value"] (fun vs H Q E => spCopy K dV CBs CBe vs H Q E ∨ spCopyT K dV CBs CBe vs H Q E) := FnOk.or (ok_Copy FCopy T_BadEdits TBE FIsE bIsE gIsE m_enumerate m_isinstance m_len m_list m_str m_tuple VA y_BATCH) (ok_CopyT FCopy T_BadEdits TBE FIsE bIsE gIsE m_enumerate m_isinstance m_len m_list m_str m_tuple VA y_BATCH)
  have GFree : FnOk P w K mg base CX0 (k + 1) fFree fdFree ["self"] (spFree K C) := ok_Free FFree T   
  have GDoBatchX : FnOk P w K mg base (L2K.CX P w) (k + 8) fDoBatchX fdDoBatchX ["self", "batch", "watch"] (spDoBatchX K C CR) := ok_DoBatchX FDoBatchX T TN TS T_NoChange TR gT xN xS xC FWl bWl gWl FLi bLi gLi FUn bUn gUn FBtn bBtn gBtn FPress bPress gPress FAny bAny gAny FHeld bHeld gHeld FChkB bChkB gChkB FFree bFree hFree FRoom bRoom hRoom FShow bShow hShow FAdd bAdd hAdd FPressX bPressX hPressX FLink0X bLink0X hLink0X FChgX bChgX hChgX FLinkX bLinkX hLinkX FUnlinkX bUnlinkX hUnlinkX FDoEditX bDoEditX hDoEditX m_any m_bool m_enumerate m_int m_isinstance m_len m_sorted m_tuple
  refine FunD.ok F scAttempt (fun vs H Q E h => ?_) (fun cdv A outer s H vs Q E hr h => ?_)
  · obtain ⟨N, t, pan, st, past, xs, v, d, rfl, _⟩ := h
    rfl
  · obtain ⟨N, t, pan, st, past, xs, v, d, rfl, hD, hd, hw, q⟩ := h
    refine ⟨_, pss_cons (ps_expr (pe_meth0 (pv 0) T.cl hFree GFree (hr.mono (by omega)) bFree .nil pass0))
      (pss_cons (ps_set (i := 3) scAttempt.nd rfl (.inl rfl) (pe_callS (E := fun _ => E) GCopy (hr.mono (by omega)) (by rfl) gCopy FCopy.kp bCopy (fun σ => passAt (W := fun cls d _ H => E cls d H) (takes_of rfl rfl rfl rfl) σ) (pa_cons (pv 1) pa_nil)))
      (pss_cons (ps_asg (pe_tup (pa_cons (pe_fld (pv 0) rfl) (pa_cons (pe_fld (pv 0) rfl) (pa_cons (pe_fld (pv 0) rfl) (pa_cons (pe_fld (pv 0) rfl) pa_nil))))) (pg_tup rfl (pgs_cons (pg_name (i := 4) scAttempt.nd rfl (Or.inl rfl)) (pgs_cons (pg_name (i := 5) scAttempt.nd rfl (Or.inl rfl)) (pgs_cons (pg_name (i := 6) scAttempt.nd rfl (Or.inl rfl)) (pgs_cons (pg_name (i := 7) scAttempt.nd rfl (Or.inl rfl)) pgs_nil))))))
      (pss_cons (ps_set (i := 8) scAttempt.nd rfl (.inl rfl) pe_non)
      (pss_cons (ps_finXK rfl rfl rfl (takesK_of (takes_of rfl rfl rfl rfl)) (fun W pn xe tkN po => (pss_one (ps_set (i := 8) scAttempt.nd rfl (.inl rfl) (pe_methE (E := fun σ => WE W σ) (pv 0) T.cl hDoBatchX GDoBatchX (hr.mono (by omega)) bDoBatchX (fun σ => L2K.passAt tkN σ) (pa_cons (pv 3) (pa_cons (pv 2) pa_nil)))))) (pss_one (ps_if (pt_cmpR op_isN (pv 8) pe_non (by rfl)) (pss_cons ps_never
      (pss_one ps_never)) pss_nil)) (fun a pn hot => pss_one (ps_if (pt_cmpR op_isN (pv 8) pe_non (by rfl)) (pss_cons (ps_asg (pe_tup (pa_cons (pv 4) (pa_cons (pv 5) pa_nil))) (show PG _ _ (gTup K 2 (gCons (gFld K (tVar 0) "past") (gCons (gFld K (tVar 0) "panel") gNil))) from pg_tup_hot hot (pgs_cons (pg_fld (pv 0)) (pgs_cons (pg_fld (pv 0)) pgs_nil)))) (pss_one (ps_asg (pe_tup (pa_cons (pv 6) (pa_cons (pv 7) pa_nil))) (show PG _ _ (gTup K 2 (gCons (gFld K (tVar 0) "latched") (gCons (gFld K (tVar 0) "held") gNil))) from pg_tup_hot hot (pgs_cons (pg_fld (pv 0)) (pgs_cons (pg_fld (pv 0)) pgs_nil)))))) pss_nil)))
      (pss_one (ps_ret (pv 8))))))), ?_⟩
    have hD' := hD
    obtain ⟨⟨dx, pa, p, l, hh, hs, h1, h2, h3, h4, h5, h6⟩, hg, hst, lfe⟩ := hD'
    refine ⟨.ref t, rfl, t, dx, _, rfl, h1, by rfl, t, pan, st, past, rfl, hD, fun H1 s1 => ?_⟩
    have hd1 := hd.same s1
    refine ⟨v, rfl, ?_⟩
    have hc : isTupD d = false ∨ isTupD d = true := by cases isTupD d <;> simp
    have pick : ∀ {Q' : VK} {E' : XK}, (((∀ ds, seqD d = some ds → 20 < ds.length) → ∀ H', Same H1 H' → E' (.ref CBs) none H') ∧
        (∀ ds, seqD d = some ds → ds.length ≤ 20 → (∀ i x, ds[i]? = some x → isEdB x = false → (∀ j y, j < i → ds[j]? = some y → isEdB y = true) → ∀ H' dd, Same H1 H' → H' dd = some (.xd [("index", .int (i : Nat))]) → E' (.ref CBe) (some dd) H') ∧
          ((∀ x ∈ ds, isEdB x = true) → ∀ H' u ws, Same H1 H' → SqT K H' u ws → DqAll K N H' ws ds → Q' (.ref u) H'))) → (spCopy K dV CBs CBe [v] H1 Q' E' ∨ spCopyT K dV CBs CBe [v] H1 Q' E') := fun h => by
      rcases hc with hc | hc
      · exact .inl ⟨N, v, d, rfl, hc, hd1, hw, h.1, h.2⟩
      · exact .inr ⟨N, v, d, rfl, hc, hd1, hw, h.1, h.2⟩
    refine pick ?_
    rcases q with ⟨q1, q2⟩ | ⟨ds, eds, few, few2, q⟩
    · exact ⟨fun _ H' s' => q2 H' (s1.trans s'), fun ds e few => absurd few (by have := q1 ds e; omega)⟩
    refine ⟨fun z => absurd few (by have := z ds eds; omega), fun ds' e' _ => ?_⟩
    obtain rfl : ds' = ds := Option.some.inj (e'.symm.trans eds)
    rcases q with ⟨i, x, hi, hx, hlt, q⟩ | ⟨all, q⟩
    · refine ⟨fun i2 x2 h2 hx2 hlt2 H' dd s' ed => ?_, fun z => ?_⟩
      · have : i2 = i := by
          rcases Nat.lt_trichotomy i2 i with z | z | z
          · have := hlt i2 x2 z h2; rw [hx2] at this; cases this
          · exact z
          · have := hlt2 i x z hi; rw [hx] at this; cases this
        subst this
        exact q H' dd (s1.trans s') ed
      · have := z x (List.mem_of_getElem? hi)
        rw [hx] at this; cases this
    refine ⟨fun i2 x2 h2 hx2 => (by have := all x2 (List.mem_of_getElem? h2); rw [hx2] at this; cases this), fun _ H2 u ws s2 hu hws => ?_⟩
    have s12 := s1.trans s2
    have e2 := s12 _ _ h1
    refine ⟨.ref t, rfl, t, C, dx, _, .ref pa, rfl, e2, T.cl, T.nA, look_past _ _ _ _, .ref t, rfl, t, C, dx, _, .ref p, rfl, e2, T.cl, T.nP, look_panel _ _ _ _, .ref t, rfl, t, C, dx, _, .ref l, rfl, e2, T.cl, T.nL, look_latched _ _ _ _, .ref t, rfl, t, C, dx, _, .ref hh, rfl, e2, T.cl, T.nH, look_held _ _ _ _, by show 4 ≤ sizeLine; decide, fun tp ntp => ?_⟩
    have s3 := same_new (o := .tup [.ref pa, .ref p, .ref l, .ref hh]) ntp
    have e3 : upd H2 tp (.tup [.ref pa, .ref p, .ref l, .ref hh]) tp = some (.tup [.ref pa, .ref p, .ref l, .ref hh]) := upd_same
    generalize upd H2 tp (.tup [.ref pa, .ref p, .ref l, .ref hh]) = H3 at s3 e3 ⊢
    refine ⟨tp, _, rfl, .inl (.inl e3), rfl, .ref pa, [.ref p, .ref l, .ref hh], rfl, .ref p, [.ref l, .ref hh], rfl, .ref l, [.ref hh], rfl, .ref hh, [], rfl, rfl, ?_⟩
    have s13 := s12.trans s3
    refine ⟨.ref t, rfl, t, dx, _, rfl, s13 _ _ h1, by rfl, .ref u, rfl, .non, rfl, N, t, u, pan, st, past, xs, ws, ds', rfl, hD.same s13, few2, same_sqT s3 hu, dqA_sm s3 hws, ?_⟩
    rcases q with ⟨pan', st', hE, q⟩ | ⟨gs, b, rs, egs, pan', st', hE, hR, q⟩
    · refine .inl ⟨pan', st', hE, fun H4 b4 hD4 => ?_⟩
      refine ⟨_, rfl, rfl, _, rfl, iteF ?_⟩
      exact ⟨_, rfl, q H4 ((ButO.of s13).trans b4) hD4⟩
    · refine .inr ⟨gs, b, rs, egs, pan', st', hE, hR, fun H4 dd b4 hD4 ed => ?_⟩
      obtain ⟨⟨dx4, pa4, p4, l4, hh4, hs4, g1, _⟩, _⟩ := hD4
      refine ⟨.non, rfl, rfl, true, rfl, iteT ?_⟩
      refine ⟨.ref pa, rfl, .ref p, rfl, by show 2 ≤ sizeLine; decide, fun t1 n1 => ?_⟩
      have s5 := same_new (o := .tup [.ref pa, .ref p]) n1
      have e5 : upd H4 t1 (.tup [.ref pa, .ref p]) t1 = some (.tup [.ref pa, .ref p]) := upd_same
      generalize upd H4 t1 (.tup [.ref pa, .ref p]) = H5 at s5 e5 ⊢
      have g5 := s5 _ _ g1
      refine ⟨t1, _, rfl, .inl (.inl e5), rfl, .ref pa, [.ref p], rfl, .ref t, rfl, t, C, dx4, _, rfl, g5, T.cl, T.nA, by show 5 < 1000; decide, .ref p, [], rfl, .ref t, rfl, t, C, dx4, _, rfl, upd_same, T.cl, T.nP, by rw [put_r1]; show 5 < 1000; decide, rfl, ?_⟩
      rw [put_r1, put_r2]
      have b6 : ButO t H5 (upd (upd H5 t (.ins C dx4 (fldsD pa p4 l4 hh4))) t (.ins C dx4 (fldsD pa p l4 hh4))) := ButO.upd.trans ButO.upd
      have g6 : upd (upd H5 t (.ins C dx4 (fldsD pa p4 l4 hh4))) t (.ins C dx4 (fldsD pa p l4 hh4)) t = some (.ins C dx4 (fldsD pa p l4 hh4)) := upd_same
      have d6 : upd (upd H5 t (.ins C dx4 (fldsD pa p4 l4 hh4))) t (.ins C dx4 (fldsD pa p l4 hh4)) dd = some (.xd [("index", .int (gs.length : Nat))]) := b6 _ _ (ne_of (s5 _ _ ed) g5 (fun z => by cases z)) (s5 _ _ ed)
      generalize upd (upd H5 t (.ins C dx4 (fldsD pa p4 l4 hh4))) t (.ins C dx4 (fldsD pa p l4 hh4)) = H6 at b6 g6 d6 ⊢
      refine ⟨.ref l, rfl, .ref hh, rfl, by show 2 ≤ sizeLine; decide, fun t2 n2 => ?_⟩
      have s7 := same_new (o := .tup [.ref l, .ref hh]) n2
      have e7 : upd H6 t2 (.tup [.ref l, .ref hh]) t2 = some (.tup [.ref l, .ref hh]) := upd_same
      generalize upd H6 t2 (.tup [.ref l, .ref hh]) = H7 at s7 e7 ⊢
      have g7 := s7 _ _ g6
      refine ⟨t2, _, rfl, .inl (.inl e7), rfl, .ref l, [.ref hh], rfl, .ref t, rfl, t, C, dx4, _, rfl, g7, T.cl, T.nL, by show 5 < 1000; decide, .ref hh, [], rfl, .ref t, rfl, t, C, dx4, _, rfl, upd_same, T.cl, T.nH, by rw [put_r3]; show 5 < 1000; decide, rfl, ?_⟩
      rw [put_r3, put_r4]
      have b8 : ButO t H7 (upd (upd H7 t (.ins C dx4 (fldsD pa p l hh4))) t (.ins C dx4 (fldsD pa p l hh))) := ButO.upd.trans ButO.upd
      have bA := ((((ButO.of s13).trans b4).trans (ButO.of s5)).trans b6).trans ((ButO.of s7).trans b8)
      have kA := bA.kp h1
      exact q _ dd bA ⟨⟨dx4, pa, p, l, hh, hs, upd_same, h2.kp kA lfe, h3.kp kA, kA.1 _ _ h4, sqT_kp kA h5, h6⟩, hg, hst, lfe⟩ (b8 _ _ (ne_of (s7 _ _ d6) g7 (fun z => by cases z)) (s7 _ _ d6))
end
end K48
namespace K48
open PySem PySem.Spec PyProof.Rows L2 Pr
def nRows : List Str := ["panel", "first", "step", "rows", "level", "longer", "thing", "button", "after"]
theorem scRows : FnScope nRows ["panel", "first", "step"] (defScope sRows) := ⟨rfl, rfl, rfl, by decide +kernel, rfl, by decide +kernel, by decide +kernel⟩
/-- what the step that is passed must promise -/
def spStep (K : PySem.W.Frag) (pd : PyData) (n : Nat) (P : List Key → Prop) (step : List Key → Nat → List Key) : Sp := fun vs H Q _ => ∃ (v : V) (a : Addr) (k : List Key) (b : Nat), vs = [v, .ref a, .int (b : Int)] ∧ Dp K H v pd ∧ H a = some (.tup (k.map kV)) ∧ b < n ∧ P k ∧
  ∀ H' t, Same H H' → H' t = some (.tup ((step k b).map kV)) → Q (.ref t) H'
section
variable {P : Program} {w : World} {K : PySem.W.Frag} {mg : Str → Option Value} {base : Heap}
def spRows (K : PySem.W.Frag) (fS : Addr) (ds : List PyData) (PK : List Key → Prop) (step : List Key → Nat → List Key) (M : Nat) : Sp := fun vs H Q _ => ∃ (v : V) (a : Addr) (k : List Key), vs = [v, .ref a, .ref fS] ∧ Dp K H v (.tuple ds) ∧ H a = some (.tup (k.map kV)) ∧ PK k ∧
  ∀ H' d, Same H H' → H d = none → DictB K H' d (bfsN step ds.length k M) → Q (.ref d) H'
theorem kp_but2 {H H' : Hp} {d l : Addr} {kvs : List (List Key × V)} {xs : List V} (b : But2 d l H H') (ed : H d = some (.dT kvs)) (el : H l = some (.lst xs)) : Kp H H' :=
  ⟨fun c ys e => b c _ (ne_of e ed (by intro z; cases z)) (ne_of e el (by intro z; cases z)) e, fun c o u e => b c _ (ne_of e ed (by intro z; cases z)) (ne_of e el (by intro z; cases z)) e⟩
theorem ok_Rows {f fS : Addr} {fd fdS : FuncData} {k : Nat} {ds : List PyData} {PK : List Key → Prop} {step : List Key → Nat → List Key} {M : Nat} {psS : List Str} (F : Fun K "shortest_rows" "shortest_rows" sRows f fd)
    (GS : FnOk P w K mg base CX0 (k + 1) fS fdS psS (spStep K (.tuple ds) ds.length PK step)) (kS : PySem.W.keepIn K (.ref fS) = true) (bS : Binds K fdS psS [])
    (m_len : mg "len" = none) (m_range : mg "range" = none) (few : ds.length ≤ 20) (hlf : lfAll ds = true) (hstep : ∀ k b, PK k → b < ds.length → PK (step k b)) (hM : M ≤ 20000) (hB : ∀ k i, PK k → (bfsN step ds.length k i).length ≤ M) :
    FnOk P w K mg base CX0 (k + 2) f fd ["panel", "first", "step"] (spRows K fS ds PK step M) := by
  refine F.ok scRows (fun vs H Q E h => ?_) (fun cdv A outer s H vs Q E hr h => ?_)
  · obtain ⟨v, a, k, rfl, _⟩ := h
    rfl
  · obtain ⟨v, a0, k0, rfl, dp, ea0, hk0, q⟩ := h
    have hu : ∀ {X : Cx}, X.A = A.deeper (envOfC "shortest_rows" (defScope sRows) s.heap.objs.size f cdv) → X.A.units + 1 < cLine := fun {X} e => by rw [e]; have := hr.un; omega
    refine ⟨_, pss_cons (ps_set (i := 3) scRows.nd rfl (.inl rfl) (pe_dispT (hu rfl) (pv 1) (pe_tup pa_nil)))
      (pss_cons (ps_set (i := 4) scRows.nd rfl (.inl rfl) (pe_lst (pa_cons (pv 1) pa_nil)))
      (pss_cons (ps_while PassesOwn.never (pt_truth (pv 4) (fun _ => rfl))
        (pss_cons (ps_set (i := 5) scRows.nd rfl (.inl rfl) (pe_lst pa_nil))
        (pss_cons (ps_for PassesOwn.never rfl (show PI _ _ _ (iList K _) from pi_list (pv 4)) (pg_name (i := 6) scRows.nd rfl (.inl rfl))
          (pss_one (ps_for PassesOwn.never rfl (pi_range1 (by rfl) m_range (pa_cons (pe_callB (show CallR _ _ (rLenG K) from cr_lenG) (by rfl) m_len PySem.boot_len (pa_cons (pv 0) pa_nil)) pa_nil)) (pg_name (i := 7) scRows.nd rfl (.inl rfl))
            (pss_cons (ps_set (i := 8) scRows.nd rfl (.inl rfl) (pe_callL (i := 2) (f := fS) (sp := spStep K (.tuple ds) ds.length PK step) (dvs := []) (E := E0) GS hr rfl (.inl rfl) kS bS .nil pass0 (pa_cons (pv 0) (pa_cons (pv 6) (pa_cons (pv 7) pa_nil)))))
            (pss_one (ps_if (pt_cmp (pc_dnotin (hu rfl) (pv 8) (pv 3)) rfl)
              (pss_cons (ps_dput (hu rfl) (pv 3) (pv 8) (pe_tup (StX.pa_star (pe_dget (hu rfl) (pv 3) (pv 6) (fun _ _ => rfl)) (pa_cons (pv 7) pa_nil))) rfl)
              (pss_one (ps_expr (show PE _ _ (tBM K "list" rAppend _ _) from pe_bm PySem.F.plainAttrs_list PySem.F.slot_list_append PySem.F.type_list_append mt_append (pv 5) (pa_cons (pv 8) pa_nil)))))
              pss_nil))))))
        (pss_one (ps_set (i := 4) scRows.nd rfl (.inl rfl) (pv 5))))))
      (pss_one (ps_ret (pv 3))))), ?_⟩
    -- rows, level
    intro d nd
    refine ⟨.ref a0, rfl, Nat.zero_le _, fun t0 nt0 => ?_⟩
    have eT : (upd (upd H d (.dT [])) t0 (.tup [])) d = some (.dT []) := by
      have z : d ≠ t0 := fun z => by rw [← z, upd_same] at nt0; cases nt0
      rw [upd_ne z, upd_same]
    refine ⟨eT, .ref t0, a0, k0, rfl, ?_, ?_⟩
    · exact same_new nt0 _ _ (same_new nd _ _ ea0)
    have sH1 : Same H (upd (upd (upd H d (.dT [])) t0 (.tup [])) d (.dT [(k0, .ref t0)])) := fun b o e => by
      rw [upd_ne (ne_of_none e nd)]; exact same_new nt0 _ _ (same_new nd _ _ e)
    have t0d : t0 ≠ d := fun z => by rw [z, upd_same] at nt0; cases nt0
    have hDB : DictB K (upd (upd (upd H d (.dT [])) t0 (.tup [])) d (.dT [(k0, .ref t0)])) d (bfsN step ds.length k0 0) := by
      refine ⟨[.ref t0], by rw [upd_same]; rfl, .cons (.tup (.inl (.inl (by rw [upd_ne t0d, upd_same]))) .nil) .nil⟩
    generalize upd (upd (upd H d (.dT [])) t0 (.tup [])) d (.dT [(k0, .ref t0)]) = H1 at sH1 hDB ⊢
    refine ⟨.ref a0, rfl, by show 1 ≤ sizeLine; decide, fun lv0 nlv0 => ?_⟩
    -- the levels
    refine ⟨fun m σ H' => ∃ (i : Nat) (lv : Addr) (as : List Addr) (x5 x6 x7 x8 : Option V), m = M + 1 - i ∧ σ = [some v, some (.ref a0), some (.ref fS), some (.ref d), some (.ref lv), x5, x6, x7, x8] ∧ Same H H' ∧ DictB K H' d (bfsN step ds.length k0 i) ∧
      i ≤ (bfsN step ds.length k0 i).length ∧ H' lv = some (.lst (as.map V.ref)) ∧ Paired (fun a (x : List Key × List Int) => H' a = some (.tup (x.1.map kV))) as ((bfsN step ds.length k0 i).drop i),
      ⟨M + 1, 0, lv0, [a0], none, none, none, none, rfl, rfl, sH1.trans (same_new nlv0), hDB.same (same_new nlv0), Nat.zero_le _, upd_same, .cons (same_new nlv0 _ _ (sH1 _ _ ea0)) .nil⟩, ?_⟩
    rintro m σ H2 ⟨i, lv, as, x5, x6, x7, x8, rfl, rfl, s2, hDB2, hi, elv, has⟩
    have hM2 := hB k0 i hk0
    have hlenas : as.length = (bfsN step ds.length k0 i).length - i := by rw [has.length, List.length_drop]
    by_cases hemp : as = []
    · subst hemp
      refine ⟨.ref lv, rfl, false, .inl ⟨_, .inl (.inl elv), rfl⟩, iteF ?_⟩
      refine ⟨.ref d, rfl, q H2 d s2 nd ?_⟩
      have : (bfsN step ds.length k0 i).length ≤ i := by have : ([] : List Addr).length = _ := hlenas; simp at this; omega
      rw [bfs_stop this (j := M) (by omega)]
      exact hDB2
    · have hpos : 0 < as.length := List.length_pos_iff.mpr hemp
      refine ⟨.ref lv, rfl, true, .inl ⟨_, .inl (.inl elv), by cases as with | nil => exact absurd rfl hemp | cons _ _ => rfl⟩, iteT ?_⟩
      refine ⟨fun σ' H' => ∃ m', m' < M + 1 - i ∧ ∃ (i : Nat) (lv : Addr) (as : List Addr) (x5 x6 x7 x8 : Option V), m' = M + 1 - i ∧ σ' = [some v, some (.ref a0), some (.ref fS), some (.ref d), some (.ref lv), x5, x6, x7, x8] ∧ Same H H' ∧ DictB K H' d (bfsN step ds.length k0 i) ∧
        i ≤ (bfsN step ds.length k0 i).length ∧ H' lv = some (.lst (as.map V.ref)) ∧ Paired (fun a (x : List Key × List Int) => H' a = some (.tup (x.1.map kV))) as ((bfsN step ds.length k0 i).drop i), fun σ' H' h => h, ?_⟩
      -- longer
      refine ⟨Nat.zero_le _, fun lo nlo => ?_⟩
      have sL := same_new (o := .lst []) nlo
      have hDB3 := hDB2.same sL
      have s3 := s2.trans sL
      have elv3 := sL _ _ elv
      have has3 := has.mono fun (a : Addr) (x : List Key × List Int) (e : H2 a = some (.tup (x.1.map kV))) => sL _ _ e
      have elo : (upd H2 lo (.lst [])) lo = some (.lst []) := upd_same
      have nloH : H lo = none := s2.free nlo
      have lvlo : lv ≠ lo := ne_of_none elv nlo
      generalize upd H2 lo (.lst []) = H3 at hDB3 s3 elv3 has3 elo ⊢
      obtain ⟨vs3, ed3, _⟩ := id hDB3
      have lvd : lv ≠ d := ne_of elv3 ed3 (by intro z; cases z)
      have lod : lo ≠ d := ne_of elo ed3 (by intro z; cases z)
      refine ⟨.ref lv, rfl, lv, rfl, ⟨_, .inl (.inl elv3)⟩, ?_⟩
      refine for_list (xs := as.map V.ref) (fun t σ H5 => But2 d lo H3 H5 ∧ DictB K H5 d (bfsN step ds.length k0 (i + t)) ∧ (∃ ls : List Addr, H5 lo = some (.lst (ls.map V.ref)) ∧ Paired (fun a (x : List Key × List Int) => H5 a = some (.tup (x.1.map kV))) ls ((bfsN step ds.length k0 (i + t)).drop (bfsN step ds.length k0 i).length)) ∧
          ∃ x6 x7 x8, σ = [some v, some (.ref a0), some (.ref fS), some (.ref d), some (.ref lv), some (.ref lo), x6, x7, x8])
        ⟨fun _ _ _ _ e => e, hDB3, ⟨[], elo, by rw [Nat.add_zero, List.drop_length]; exact .nil⟩, _, _, _, rfl⟩ (fun t σ H5 _ hP => .inl (.inl (hP.1 _ _ lvd lvlo elv3))) (fun t x σ H5 hx hP => ?_) (fun σ H5 hP => ?_)
      · obtain ⟨b5, hDB5, ⟨ls, elo5, hls⟩, x6, x7, x8, rfl⟩ := hP
        have ht : t < as.length := by have := (List.getElem?_eq_some_iff.mp hx).1; rwa [List.length_map] at this
        obtain rfl : x = V.ref as[t] := by rw [List.getElem?_map, List.getElem?_eq_getElem ht] at hx; exact (Option.some.inj hx).symm
        -- the thing
        have hit : i + t < (bfsN step ds.length k0 i).length := by omega
        obtain ⟨y, hy⟩ : ∃ y, (bfsN step ds.length k0 i)[i + t]? = some y := ⟨_, List.getElem?_eq_getElem hit⟩
        obtain ⟨a', g1, g2⟩ := paired_get has3 t y (by rw [List.getElem?_drop]; exact hy)
        obtain rfl : as[t] = a' := by rw [List.getElem?_eq_getElem ht] at g1; exact Option.some.inj g1
        have hPy : PK y.1 := bfs_all (P := PK) hk0 hstep i y (List.mem_of_getElem? hy)
        have pre := bfs_pre (step := step) (n := ds.length) (s := k0) (Nat.le_add_right i t)
        have hyt : (bfsN step ds.length k0 (i + t))[i + t]? = some y := by rw [pre_get pre hit]; exact hy
        have hnext : bfsN step ds.length k0 (i + (t + 1)) = procB step (bfsN step ds.length k0 (i + t)) y.1 y.2 ds.length := by
          rw [← Nat.add_assoc]; exact bfs_step hyt
        have ndt := bfs_nd (step := step) (n := ds.length) (s := k0) (i + t)
        have kp35 : Kp H3 H5 := kp_but2 b5 ed3 elo
        have ea5 : H5 as[t] = some (.tup (y.1.map kV)) := kp35.1 _ _ g2
        have dp5 : Dp K H5 v (.tuple ds) := (dp.sm s3).kp kp35 (by simp only [lf]; exact hlf)
        have hlenL := hB k0 (i + t) hk0
        obtain ⟨vs5, ed5, _⟩ := id hDB5
        refine gs_range (gv_lenT (gv_var rfl dp5)) (by omega) (fun Ha b σ H' => But2 d lo H5 H' ∧ DictB K H' d (procB step (bfsN step ds.length k0 (i + t)) y.1 y.2 b) ∧ (∃ ls : List Addr, H' lo = some (.lst (ls.map V.ref)) ∧ Paired (fun a (x : List Key × List Int) => H' a = some (.tup (x.1.map kV))) ls ((procB step (bfsN step ds.length k0 (i + t)) y.1 y.2 b).drop (bfsN step ds.length k0 i).length)) ∧
            ∃ x7 x8, σ = [some v, some (.ref a0), some (.ref fS), some (.ref d), some (.ref lv), some (.ref lo), some (.ref as[t]), x7, x8])
          (fun H6 s6 => ⟨fun b o _ _ e => s6 _ _ e, hDB5.same s6, ⟨ls, s6 _ _ elo5, hls.mono fun (a : Addr) (x : List Key × List Int) (e : H5 a = some (.tup (x.1.map kV))) => s6 _ _ e⟩, _, _, rfl⟩) (fun H6 b σ H7 s6 hb hP => ?_) (fun H6 σ H7 s6 hP => ?_)
        · obtain ⟨b7, hDB7, ⟨ls7, elo7, hls7⟩, x7, x8, rfl⟩ := hP
          have kp57 : Kp H5 H7 := kp_but2 b7 ed5 elo5
          have ea7 := kp57.1 _ _ ea5
          have dp7 : Dp K H7 v (.tuple ds) := dp5.kp kp57 (by simp only [lf]; exact hlf)
          refine ⟨rfl, v, rfl, .ref as[t], rfl, .int (b : Int), rfl, v, as[t], y.1, b, rfl, dp7, ea7, hb, hPy, fun H8 ta s8 eta => ?_⟩
          have hDB8 := hDB7.same s8
          have nd8 := procB_nd (step := step) (k := y.1) (r := y.2) ndt b
          have hlen8 : (procB step (bfsN step ds.length k0 (i + t)) y.1 y.2 b).length ≤ M := by
            have h1 : procB step (bfsN step ds.length k0 (i + t)) y.1 y.2 b <+: bfsN step ds.length k0 (i + (t + 1)) := by
              rw [hnext]
              have : ∀ m, b ≤ m → procB step (bfsN step ds.length k0 (i + t)) y.1 y.2 b <+: procB step (bfsN step ds.length k0 (i + t)) y.1 y.2 m := fun m hm => by
                induction m with
                | zero => have : b = 0 := by omega
                          subst this; exact List.prefix_refl _
                | succ m ih =>
                  by_cases e : b = m + 1
                  · subst e; exact List.prefix_refl _
                  · rw [procB_succ]; exact (ih (by omega)).trans (addK_pre _ _ _)
              exact this _ (Nat.le_of_lt hb)
            exact Nat.le_trans h1.length_le (hB k0 (i + (t + 1)) hk0)
          have b58 : But2 d lo H5 H8 := fun c o h1 h2 e => s8 _ _ (b7 c o h1 h2 e)
          have elo8 := s8 _ _ elo7
          have hls8 := hls7.mono fun (a : Addr) (x : List Key × List Int) (e : H7 a = some (.tup (x.1.map kV))) => s8 _ _ e
          have preL : (bfsN step ds.length k0 i).length ≤ (procB step (bfsN step ds.length k0 (i + t)) y.1 y.2 b).length := Nat.le_trans pre.length_le (procB_pre step _ _ _ b).length_le
          by_cases hin : step y.1 b ∈ (procB step (bfsN step ds.length k0 (i + t)) y.1 y.2 b).map (·.1)
          · obtain ⟨vv, gv⟩ := hDB8.some nd8 hin eta
            refine ⟨.ref ta, rfl, .ref d, rfl, d, some vv, rfl, gv, false, rfl, iteF ?_⟩
            have e1 : procB step (bfsN step ds.length k0 (i + t)) y.1 y.2 (b + 1) = procB step (bfsN step ds.length k0 (i + t)) y.1 y.2 b := by rw [procB_succ]; unfold addK; rw [if_pos hin]
            exact ⟨b58, by rw [e1]; exact hDB8, ⟨ls7, elo8, by rw [e1]; exact hls8⟩, _, _, rfl⟩
          · have gn := hDB8.none hin eta
            refine ⟨.ref ta, rfl, .ref d, rfl, d, none, rfl, gn, true, rfl, iteT ?_⟩
            have e1 : procB step (bfsN step ds.length k0 (i + t)) y.1 y.2 (b + 1) = procB step (bfsN step ds.length k0 (i + t)) y.1 y.2 b ++ [(step y.1 b, y.2 ++ [(b : Int)])] := by rw [procB_succ]; unfold addK; rw [if_neg hin]
            -- rows[thing]
            obtain ⟨vr, gr, dr⟩ := hDB8.get nd8 (i := i + t) (x := y) (by rw [pre_get (procB_pre step _ _ _ b) (by have := pre.length_le; omega)]; exact hyt) (s8 _ _ ea7)
            obtain ⟨ar, rfl, sqr⟩ := dr.intsI
            have hrow := (bfs_rows (step := step) (n := ds.length) (s := k0) i y (List.mem_of_getElem? hy)).1
            refine ⟨.ref d, rfl, .ref as[t], rfl, d, .ref ar, rfl, gr, ar, _, rfl, .inl sqr, .int (b : Int), rfl, ?_, fun T nT => ?_⟩
            · rw [List.length_append, List.length_map]; exact Nat.le_of_lt (small5 (by show _ + 1 ≤ _; omega))
            have sT := same_new (o := .tup (y.2.map V.int ++ [.int (b : Int)])) nT
            obtain ⟨H9, hput, hDB9, kp9, keep9⟩ := (hDB8.same sT).put hin (sT _ _ eta) (v := .ref T) (r := y.2 ++ [(b : Int)]) (dp_ints (.inl (.inl (by rw [upd_same, List.map_append]; rfl)))) (by omega)
            refine ⟨.ref d, rfl, .ref ta, rfl, d, H9, rfl, hput, ?_⟩
            have elo9 := keep9 _ _ lod (sT _ _ elo8)
            have lls : ls7.length ≤ M := by have := hls7.length; rw [List.length_drop] at this; omega
            refine ⟨.ref lo, rfl, .inl ⟨rfl, _, .inl (.inl elo9)⟩, .ref ta, rfl, lo, _, .ref ta, rfl, rfl, elo9, by rw [List.length_map]; exact small5 (by omega), ?_⟩
            have kpl := Kp.upd (o := .lst (ls7.map V.ref ++ [.ref ta])) elo9
            refine ⟨fun c o h1 h2 e => by rw [upd_ne h2]; exact keep9 _ _ h1 (sT _ _ (b58 c o h1 h2 e)), ?_, ⟨ls7 ++ [ta], by rw [upd_same, List.map_append]; rfl, ?_⟩, _, _, rfl⟩
            · rw [e1]
              obtain ⟨vs9, e9, d9⟩ := hDB9
              exact ⟨vs9, by rw [upd_ne (Ne.symm lod)]; exact e9, dpAll_kp kpl _ _ lf_rows d9⟩
            · rw [e1, List.drop_append_of_le_length preL]
              exact Paired.snoc (hls8.mono fun (a : Addr) (x : List Key × List Int) (e : H8 a = some (.tup (x.1.map kV))) => kpl.1 _ _ (kp9.1 _ _ (sT _ _ e))) (kpl.1 _ _ (kp9.1 _ _ (sT _ _ eta)))
        · obtain ⟨b7, hDB7, hls7, x7, x8, rfl⟩ := hP
          exact ⟨fun c o h1 h2 e => b7 c o h1 h2 (b5 c o h1 h2 e), by rw [hnext]; exact hDB7, by rw [hnext]; exact hls7, _, _, _, rfl⟩
      · obtain ⟨b5, hDB5, ⟨ls, elo5, hls⟩, x6, x7, x8, rfl⟩ := hP
        rw [List.length_map] at hDB5 hls
        have ei : i + as.length = (bfsN step ds.length k0 i).length := by omega
        rw [ei] at hDB5 hls
        refine ⟨.ref lo, rfl, M + 1 - (bfsN step ds.length k0 i).length, by omega, (bfsN step ds.length k0 i).length, lo, ls, _, _, _, _, rfl, rfl, fun c o e => b5 c o (ne_of_none e nd) (ne_of_none e nloH) (s3 _ _ e), hDB5, ?_, elo5, hls⟩
        exact (bfs_pre (step := step) (n := ds.length) (s := k0) hi).length_le
end
end K48
namespace K48
open PySem PySem.Spec PyProof.Rows L2 Pr
def nWay : List Str := ["panel", "start", "goal"]
theorem scWay : FnScope nWay ["panel", "start", "goal"] (defScope sWay) := ⟨rfl, rfl, rfl, by decide +kernel, rfl, by decide +kernel, by decide +kernel⟩
section
variable {P : Program} {w : World} {K : PySem.W.Frag} {mg : Str → Option Value} {base : Heap}
theorem step_press {pan : List (List Int)} (few : pan.length ≤ 10) {fPress : Addr} {fdPress : FuncData} {k : Nat} {ps : List Str} (G : FnOk P w K mg base CX0 (k + 1) fPress fdPress ps (spPress K)) : FnOk P w K mg base CX0 (k + 1) fPress fdPress ps (spStep K (dPan pan) (pan.map dInts).length (PKs pan.length) (stepP pan)) :=
  G.imp fun vs H Q E h => by
    obtain ⟨v, a, ks, b, rfl, dp, ea, hb, ⟨st, rfl, hst⟩, q⟩ := h
    rw [List.length_map] at hb
    rw [kInt_kV] at ea
    refine ⟨pan, st, (b : Int), .cons dp (.cons (dp_ints (.inl (.inl ea))) (.cons (.int _) .nil)), hst, few, by omega, by omega, fun H' t s et => q H' t s ?_⟩
    rw [et]; unfold stepP; rw [unK_kInt, kInt_kV]
def spWay (K : PySem.W.Frag) : Sp := fun vs H Q _ => ∃ (v : V) (a g : Addr) (pan : List (List Int)) (st gl : List Int), vs = [v, .ref a, .ref g] ∧ Dp K H v (dPan pan) ∧ H a = some (.tup (st.map V.int)) ∧ H g = some (.tup (gl.map V.int)) ∧ pan.length ≤ 10 ∧ Asc pan.length st ∧
  ∀ v' H', Same H H' → Dp K H' v' (wayOf (foundM pan st) (kInt gl)) → Q v' H'
theorem ok_Way {f fRows fPress : Addr} {fd fdRows fdPress : FuncData} {k : Nat} (F : Fun K "shortest_way" "shortest_way" sWay f fd)
    (FRows : Fun K "shortest_rows" "shortest_rows" sRows fRows fdRows) (bRows : Binds K fdRows ["panel", "first", "step"] []) (gRows : mg "shortest_rows" = some (.ref fRows))
    (FPress : Fun K "press_button" "press_button" sPress fPress fdPress) (bPress : Binds K fdPress ["panel", "state", "button"] []) (gPress : mg "press_button" = some (.ref fPress))
    (m_len : mg "len" = none) (m_range : mg "range" = none) (m_sorted : mg "sorted" = none) (m_tuple : mg "tuple" = none) : FnOk P w K mg base CX0 (k + 3) f fd ["panel", "start", "goal"] (spWay K) := by
  refine F.ok scWay (fun vs H Q E h => ?_) (fun cdv A outer s H vs Q E hr h => ?_)
  · obtain ⟨v, a, g, pan, st, gl, rfl, _⟩ := h
    rfl
  · obtain ⟨v, a, g, pan, st, gl, rfl, dp, ea, eg, few, hst, q⟩ := h
    have hl : (pan.map dInts).length = pan.length := List.length_map _
    have GR : FnOk P w K mg base CX0 (k + 2) fRows fdRows ["panel", "first", "step"] (spRows K fPress (pan.map dInts) (PKs pan.length) (stepP pan) 1024) := ok_Rows FRows (step_press few (ok_Press FPress m_sorted m_tuple)) FPress.kp bPress m_len m_range (by omega) (lfAll_of fun d hd => by obtain ⟨l, _, rfl⟩ := List.mem_map.mp hd; exact lf_ints l) (fun k b hk _ => pks_step hk) (by decide) (fun k i hk => by rw [hl]; exact bfs_few few hk i)
    refine ⟨_, pss_one (ps_ret (pe_dget1 hr.u1 (pe_call GR (hr.mono (by omega)) (by rfl) gRows FRows.kp bRows .nil pass0 (pa_cons (pv 0) (pa_cons (pv 1) (pa_cons (pe_glob (v := .ref fPress) (by rfl) gPress rfl) pa_nil)))) (pv 2) ⟨rfl, rfl, rfl, rfl⟩)), ?_⟩
    refine gs_ret (gv_get1 (L := foundM pan st) (fun H1 s1 Q q => ⟨v, rfl, .ref a, rfl, v, a, kInt st, rfl, dp.sm s1, by rw [kInt_kV]; exact s1 _ _ ea, ⟨st, rfl, hst⟩, fun H2 d s2 nd hd => q d H2 s2 (by rw [hl] at hd; exact hd)⟩) (found_nd pan st) rfl eg) fun v' H' s' d' => q v' H' s' d'
theorem gv_Way {σ : L2.St} {H : Hp} {E : XK} {i j l : Nat} {v : V} {a g : Addr} {pan : List (List Int)} {st gl : List Int} (hi : σ[i]? = some (some v)) (hj : σ[j]? = some (some (.ref a))) (hl : σ[l]? = some (some (.ref g))) (dp : Dp K H v (dPan pan)) (ea : H a = some (.tup (st.map V.int))) (eg : H g = some (.tup (gl.map V.int))) (few : pan.length ≤ 10) (hst : Asc pan.length st) :
    Gv K (tCall (spWay K) [] E (tCons (tVar i) (tCons (tVar j) (tCons (tVar l) tNil)))) σ H (wayOf (foundM pan st) (kInt gl)) := fun H1 s Q q => ⟨v, hi, .ref a, hj, .ref g, hl, v, a, g, pan, st, gl, rfl, dp.sm s, s _ _ ea, s _ _ eg, few, hst, fun v' H2 s2 hd => q v' H2 s2 hd⟩
end
end K48
namespace K48
open PySem PySem.Spec PyProof.Rows L2 Pr
abbrev sWayTo : Stmt := inClass (topS 46) 17
def nWayTo : List Str := ["self", "goal", "version", "panel", "latched"]
theorem scWayTo : FnScope nWayTo ["self", "goal", "version"] (defScope sWayTo) := ⟨rfl, rfl, rfl, by decide +kernel, rfl, by decide +kernel, by decide +kernel⟩
section
variable {P : Program} {w : World} {K : PySem.W.Frag} {mg : Str → Option Value} {base : Heap}
def spWayTo (K : PySem.W.Frag) (C : Addr) : Sp := fun vs H Q _ => ∃ (N : Addr → Prop) (t g : Addr) (v : V) (d : PyData) (y : List (List Int) × List Int) (pan : List (List Int)) (st gl : List Int) (past : List (PyData × List (List Int) × List Int)), vs = [.ref t, .ref g, v] ∧ DeskAt K C H t pan st past ∧ Dq K N H v d ∧ verM pan st past d = some y ∧ H g = some (.tup (gl.map V.int)) ∧ Asc y.1.length gl ∧ ∀ H' v, Same H H' → Dp K H' v (wayOf (foundM y.1 y.2) (kInt gl)) → Q v H'
theorem ok_WayTo {fBtn : Addr} {fdBtn : FuncData} {fBtnT : Addr} {fdBtnT : FuncData} {fPress : Addr} {fdPress : FuncData} {fChkS : Addr} {fdChkS : FuncData} {fRows : Addr} {fdRows : FuncData} {fWay : Addr} {fdWay : FuncData} {C CV f fState : Addr} {fd fdState : FuncData} {k : Nat} (F : FunD K "way_to" "Desk.way_to" (defArgs sWayTo) (defBody sWayTo) (defScope sWayTo) [] [("version", .non)] f fd) (T : TxtD K mg C)
    (FBtn : Fun K "is_button" "is_button" sBtn fBtn fdBtn) (bBtn : Binds K fdBtn ["value", "many"] []) (gBtn : mg "is_button" = some (.ref fBtn))
    (FBtnT : Fun K "is_button_tuple" "is_button_tuple" sBtnT fBtnT fdBtnT) (bBtnT : Binds K fdBtnT ["value", "many"] []) (gBtnT : mg "is_button_tuple" = some (.ref fBtnT))
    (FPress : Fun K "press_button" "press_button" sPress fPress fdPress) (bPress : Binds K fdPress ["panel", "state", "button"] []) (gPress : mg "press_button" = some (.ref fPress))
    (FChkS : Fun K "check_state" "check_state" sChkS fChkS fdChkS) (bChkS : Binds K fdChkS ["panel", "value"] []) (gChkS : mg "check_state" = some (.ref fChkS))
    (FRows : Fun K "shortest_rows" "shortest_rows" sRows fRows fdRows) (bRows : Binds K fdRows ["panel", "first", "step"] []) (gRows : mg "shortest_rows" = some (.ref fRows))
    (FWay : Fun K "shortest_way" "shortest_way" sWay fWay fdWay) (bWay : Binds K fdWay ["panel", "start", "goal"] []) (gWay : mg "shortest_way" = some (.ref fWay))
    (kbState : KBn K fdState ["self", "version"] 1 ["version"] (fun us ws => us ++ ws) (fun vs zs => vs ++ zs)) (hState : Meth K C "state" fState) (GState : FnOk P w K mg base (L2.CX P w) 3 fState fdState ["self", "version"] (spState K C CV))
    (m_bool : mg "bool" = none) (m_int : mg "int" = none) (m_isinstance : mg "isinstance" = none) (m_len : mg "len" = none) (m_range : mg "range" = none) (m_sorted : mg "sorted" = none) (m_tuple : mg "tuple" = none) : FnOk P w K mg base CX0 (k + 4) f fd ["self", "goal", "version"] (spWayTo K C) := by
  have GChkS : FnOk P w K mg base CX0 (k + 3) fChkS fdChkS ["panel", "value"] (spChkS K) := ok_ChkS FChkS FBtn bBtn gBtn FBtnT bBtnT gBtnT m_bool m_int m_isinstance m_len m_tuple
  have GWay : FnOk P w K mg base CX0 (k + 3) fWay fdWay ["panel", "start", "goal"] (spWay K) := ok_Way FWay FRows bRows gRows FPress bPress gPress m_len m_range m_sorted m_tuple
  refine F.ok scWayTo (fun vs H Q E h => ?_) (fun cdv A outer s H vs Q E hr h => ?_)
  · obtain ⟨N, t, g, v, d, y, pan, st, gl, past, rfl, _⟩ := h
    rfl
  · obtain ⟨N, t, g, v, d, y, pan, st, gl, past, rfl, hD, hd, hy, eg, hgl, q⟩ := h
    refine ⟨_, pss_cons (ps_asg (pe_methN0 (pv 0) T.cl hState GState (hr.mono (by omega)) kbState passX (pk_cons (pv 2) pk_nil)) (pg_tup rfl (pgs_cons (pg_name (i := 3) scWayTo.nd rfl (Or.inl rfl)) (pgs_cons (pg_name (i := 4) scWayTo.nd rfl (Or.inl rfl)) pgs_nil))))
      (pss_cons (ps_expr (pe_call GChkS (hr.mono (by omega)) (by rfl) gChkS FChkS.kp bChkS .nil pass0 (pa_cons (pv 3) (pa_cons (pv 1) pa_nil))))
      (pss_one (ps_ret (pe_call GWay (hr.mono (by omega)) (by rfl) gWay FWay.kp bWay .nil pass0 (pa_cons (pv 3) (pa_cons (pv 4) (pa_cons (pv 1) pa_nil))))))), ?_⟩
    refine hD.at fun dx fs e l => ⟨.ref t, rfl, t, dx, fs, rfl, e, l _ (by decide +kernel), v, rfl, rfl, rfl, N, t, v, d, pan, st, past, rfl, hD, hd, fun y' ey H1 u p l s1 eu hp el hg hst => ?_, (fun z => by rw [hy] at z; cases z)⟩
    rw [hy] at ey
    cases ey
    refine ⟨u, _, rfl, .inl (.inl eu), rfl, .ref p, [.ref l], rfl, .ref l, [], rfl, rfl, ?_⟩
    refine ⟨.ref p, rfl, .ref g, rfl, p, g, y.1, gl, rfl, hp, .inl (.inl (s1 _ _ eg)), hgl, fun H2 s2 => ?_⟩
    exact gs_ret (K := K) (gv_Way (i := 3) (j := 4) (l := 1) rfl rfl rfl (hp.same s2).dp (s2 _ _ el) (s2 _ _ (s1 _ _ eg)) hg.few hst) fun v H3 s3 dv => q H3 v ((s1.trans s2).trans s3) dv
end
end K48
namespace Pr
open PySem PySem.Spec PyProof.Rows L2
def Dk3 (H : Hp) (a c r : Addr) (m : Nat) : Prop :=
  ∃ (cells rests : List Int) (n : Nat), H a = some (.lst [.ref c, .int (n : Int), .ref r]) ∧ H c = some (.lst (cells.map V.int)) ∧ H r = some (.lst (rests.map V.int)) ∧ a ≠ c ∧ a ≠ r ∧ c ≠ r ∧
    1 ≤ cells.length ∧ cells.length ≤ 63 ∧ rests.length = cells.length ∧ n + m ≤ 1000000
theorem Dk3.same {H H' : Hp} {a c r : Addr} {m : Nat} (e : Same H H') (h : Dk3 H a c r m) : Dk3 H' a c r m :=
  let ⟨cs, rs, n, h1, h2, h3, h4⟩ := h; ⟨cs, rs, n, e _ _ h1, e _ _ h2, e _ _ h3, h4⟩
theorem Dk3.less {H : Hp} {a c r : Addr} {m m' : Nat} (h : Dk3 H a c r m) (z : m' ≤ m) : Dk3 H a c r m' :=
  let ⟨cs, rs, n, h1, h2, h3, h4, h5, h6, h7, h8, h9, h10⟩ := h; ⟨cs, rs, n, h1, h2, h3, h4, h5, h6, h7, h8, h9, by omega⟩
theorem Dk3.apart {H : Hp} {a c r : Addr} {m : Nat} (h : Dk3 H a c r m) {b : Addr} {o : HO} (e : H b = some o) (ho : ∀ xs, o ≠ .lst xs) : b ≠ a ∧ b ≠ r := by
  obtain ⟨cs, rs, n, h1, h2, h3, _⟩ := h
  exact ⟨ne_of e h1 (ho _), ne_of e h3 (ho _)⟩
theorem Dk3.fresh {H : Hp} {a c r : Addr} {m : Nat} (h : Dk3 H a c r m) {b : Addr} (e : H b = none) : b ≠ a ∧ b ≠ r ∧ b ≠ c := by
  obtain ⟨cs, rs, n, h1, h2, h3, _⟩ := h
  exact ⟨Ne.symm (ne_of_none h1 e), Ne.symm (ne_of_none h3 e), Ne.symm (ne_of_none h2 e)⟩
/-- a store at a place that is none of the deck's -/
theorem Dk3.upd {H : Hp} {a c r : Addr} {m : Nat} {b : Addr} {o : HO} (h : Dk3 H a c r m) (n : b ≠ a ∧ b ≠ r ∧ b ≠ c) : Dk3 (upd H b o) a c r m := by
  obtain ⟨cs, rs, n', h1, h2, h3, h4⟩ := h
  exact ⟨cs, rs, n', by rw [upd_ne (Ne.symm n.1)]; exact h1, by rw [upd_ne (Ne.symm n.2.2)]; exact h2, by rw [upd_ne (Ne.symm n.2.1)]; exact h3, h4⟩
theorem But.free {a c : Addr} {H H' : Hp} {b : Addr} (x : But a c H H') (h1 : b ≠ a) (h2 : b ≠ c) (e : H' b = none) : H b = none := by
  cases q : H b with
  | none => rfl
  | some o => have := x b o h1 h2 q; rw [e] at this; cases this
theorem cut_ints (ns : List Int) (lo hi : Option Int) : ∃ ms : List Int, cutV (ns.map V.int) lo hi = ms.map V.int ∧ ms.length ≤ ns.length := by
  refine ⟨(ns.drop (HT.sIx ns.length 0 lo)).take (HT.sIx ns.length ns.length hi - HT.sIx ns.length 0 lo), ?_, ?_⟩
  · unfold cutV
    rw [List.length_map, List.map_take, List.map_drop]
  · rw [List.length_take, List.length_drop]; omega
end Pr
namespace Pr
open PySem PySem.Spec PyProof.Rows L2
/-- kvs holds the last place of each of the first i -/
def LastAt (row : List Int) (i : Nat) (kvs : List (Key × V)) : Prop :=
  ∀ x : Int, x ∈ row.take i → ∃ j : Nat, row[j]? = some x ∧ j < i ∧ (∀ m, j < m → m < i → row[m]? ≠ some x) ∧ valV kvs (Sum.inl x) = some (.int (j : Int))
theorem LastAt.nil (row : List Int) (kvs : List (Key × V)) : LastAt row 0 kvs := fun x h => by simp at h
theorem LastAt.put {row : List Int} {i : Nat} {kvs : List (Key × V)} {z : Int} (h : LastAt row i kvs) (hz : row[i]? = some z) : LastAt row (i + 1) (putK kvs (Sum.inl z) (.int (i : Int))) := by
  intro x hx
  rw [List.take_add_one, hz] at hx
  by_cases e : x = z
  · subst e
    refine ⟨i, hz, Nat.lt_succ_self _, fun m h1 h2 => by omega, ?_⟩
    rw [valV_put, if_pos rfl]
  · have hx' : x ∈ row.take i := (List.mem_append.mp hx).elim id fun q => absurd (by simpa using q) e
    obtain ⟨j, h1, h2, h3, h4⟩ := h x hx'
    refine ⟨j, h1, by omega, fun m g1 g2 g3 => ?_, ?_⟩
    · by_cases em : m = i
      · subst em
        rw [hz] at g3
        exact e (Option.some.inj g3).symm
      · exact h3 m g1 (by omega) g3
    · rw [valV_put, if_neg (fun q => e (Sum.inl.inj q)), h4]
end Pr
namespace Pr
open PySem PySem.Spec PyProof.Rows L2
end Pr
namespace Pr
open PySem PySem.Spec PyProof.Rows L2
end Pr
namespace Pr
open PySem PySem.Spec PyProof.Rows L2
def rReprB (K : PySem.W.Frag) : List V → Hp → VK → Prop := fun xs H Q => rReprN K xs H Q ∨ ∃ b : Bool, xs = [.bl b] ∧ Q (.str (PyData.shown (.bool b))) H
theorem shq_bool (b : Bool) : Shq 60 sizeLine (.bool b) := by cases b <;> exact ⟨by simp only [PyData.showable], by simp [PyData.depth], by simp only [PyData.shown]; decide⟩
theorem cr_reprB {X : Cx} {k : Nat} (gd : X.A.guards = some []) (hr : Room k X.A) : CallR X (.builtin "repr") (rReprB X.K) := by
  intro pins s σ H xs us Q I rv h
  rcases h with h | ⟨b, rfl, q⟩
  · exact cr_reprN gd hr pins s σ H xs us Q I rv h
  · exact call_reprQ gd hr pins s σ H _ us Q I rv ⟨fun _ => False, .bl b, .bool b, rfl, .bl b, shq_bool b, q⟩
theorem gv_reprB {K : PySem.W.Frag} {σ : L2.St} {H : Hp} {t : TE} {d : PyData} (h : Gv K t σ H d) (hd : RepOk d) : Gv K (tCB (rReprB K) (tCons t tNil)) σ H (.str d.shown) := fun H1 s Q q =>
  gva_cons h gva_nil H1 s _ fun vs H2 s2 dv => .inl (by
    have := gv_reprN (K := K) (t := fun _ H Q => Q (vs.headD .non) H) (σ := σ) (H := H2) (d := d) (fun H3 s3 Q' q' => q' _ H3 (Same.refl _) (by obtain ⟨v, rfl, hv⟩ := dpAll1 dv; exact hv.sm s3)) hd H2 (Same.refl _) Q (fun v H' s' d' => q v H' (s2.trans s') d')
    obtain ⟨v, rfl, hv⟩ := dpAll1 dv
    exact this)
def rReprA (K : PySem.W.Frag) : List V → Hp → VK → Prop := fun xs H Q => rReprB K xs H Q ∨ rReprQ K xs H Q
theorem cr_reprA {X : Cx} {k : Nat} (gd : X.A.guards = some []) (hr : Room k X.A) : CallR X (.builtin "repr") (rReprA X.K) := by
  intro pins s σ H xs us Q I rv h
  rcases h with h | h
  · exact cr_reprB gd hr pins s σ H xs us Q I rv h
  · exact call_reprQ gd hr pins s σ H xs us Q I rv h
section
variable {K : PySem.W.Frag} {σ : L2.St} {H : Hp} {t : TE}
theorem gv_reprA {d : PyData} (h : Gv K t σ H d) (hd : RepOk d) : Gv K (tCB (rReprA K) (tCons t tNil)) σ H (.str d.shown) := fun H1 s Q q => by
  have := gv_reprB h hd H1 s Q q
  exact gva_cons h gva_nil H1 s _ fun vs H2 s2 dv => .inl (by
    have := gv_reprB (K := K) (t := fun _ H Q => Q (vs.headD .non) H) (σ := σ) (H := H2) (d := d) (fun H3 s3 Q' q' => q' _ H3 (Same.refl _) (by obtain ⟨v, rfl, hv⟩ := dpAll1 dv; exact hv.sm s3)) hd H2 (Same.refl _) Q (fun v H' s' d' => q v H' (s2.trans s') d')
    obtain ⟨v, rfl, hv⟩ := dpAll1 dv
    exact this)
end
end Pr
namespace Pr
open PySem PySem.Spec PyProof.Rows L2
def rIsZ (K : PySem.W.Frag) (a : Addr) (cls : Value) (d : Option Addr) : List V → Hp → VK → Prop := fun xs H Q => ∃ D, ExcC K D ∧ rIsY K D a cls d xs H Q
def rIsZT (K : PySem.W.Frag) (a : Addr) (cls : Value) (d : Option Addr) : List V → Hp → VK → Prop := fun xs H Q => ∃ D, ExcC K D ∧ rIsYT K D a cls d xs H Q
def tXfZ (K : PySem.W.Frag) (a : Addr) (cls : Value) (d : Option Addr) (n : Str) (te : TE) : TE := fun σ H Q => ∃ C, XfC K C ∧ PySem.W.findIn K (.ref C) n = some none ∧ tXf a cls d C n te σ H Q
section
variable {X : Cx} {a : Addr} {oe : Obj} {cls : Value} {d : Option Addr} {pn : List (Addr × Obj)}
theorem call_isZ (hz : Zc cls d oe) (hf : ∃ vs, oe.data = .fields vs) : CallR (X.suite a ((a, oe) :: pn)) (.builtin "isinstance") (rIsZ X.K a cls d) := by
  intro pins s σ H xs us Q I r h
  obtain ⟨D, hC, h⟩ := h
  exact call_isY hC hz hf pins s σ H xs us Q I r h
theorem call_isZT (hz : Zc cls d oe) (hf : ∃ vs, oe.data = .fields vs) : CallR (X.suite a ((a, oe) :: pn)) (.builtin "isinstance") (rIsZT X.K a cls d) := by
  intro pins s σ H xs us Q I r h
  obtain ⟨D, hC, h⟩ := h
  exact call_isYT hC hz hf pins s σ H xs us Q I r h
theorem pe_xfZ {e : Expr} {te : TE} {pos : Pos} {n : Str} (hz : Zc cls d oe) (hf : ∃ vs, oe.data = .fields vs) (he : PE (X.suite a ((a, oe) :: pn)) e te) (hb : attributeBase e n X.env (eval e X.env) = eval e X.env := by rfl) :
    PE (X.suite a ((a, oe) :: pn)) (.Attribute e n pos) (tXfZ X.K a cls d n te) := by
  refine ⟨fun pins s σ H Q I h => ?_⟩
  obtain ⟨C, hx, hn, h⟩ := h
  exact (pe_xf hx hn hz hf he hb).run pins s σ H Q I h
end
section
variable {X : Cx}
def rCntB (K : PySem.W.Frag) : V → List V → Hp → VK → Prop := fun x xs H Q => ∃ (p : Addr) (bs : List Bool) (k : Bool), x = .ref p ∧ xs = [.bl k] ∧ SqL K H p (bs.map V.bl) ∧ Q (.int (countIn (.bool k) (bs.map PyData.bool))) H
theorem reads_bls {h : Heap} : ∀ {bs : List Bool} {us : List Value}, Vals (bs.map V.bl) us → ReadsAll h us (bs.map PyData.bool) (bs.map fun _ => ([] : List Addr)).flatten
  | [], _, .nil => .nil
  | b :: bs, _, .cons r t => by
    cases r
    exact .cons (.bool b) (reads_bls t)
theorem mt_cntB : MtR X "list.count" (rCntB X.K) := by
  intro pins s σ H x xs v us Q I rx rxs h
  obtain ⟨p, bs, k, rfl, rfl, hs, q⟩ := h
  cases rx
  obtain ⟨u, rfl, ru⟩ := rxs.one
  cases ru
  obtain ⟨its, rv, hl, hlen⟩ := I.list hs
  refine count_list_bools hl.isList (reads_bls (h := s.heap) rv) (by simp [Shape.has]) ⟨.int _, H, I.tok _, ⟨_, rfl⟩, q⟩
end
end Pr
namespace Pr
open PySem PySem.Spec PyProof.Rows L2
/-- the dict of the things known -/
def DictU (H : Hp) (d : Addr) (L : BL (List Key)) : Prop := ∃ vs : List V, vs.length = L.length ∧ H d = some (.dT ((L.map (·.1)).zip vs))
theorem DictU.same {H H' : Hp} {d : Addr} {L : BL (List Key)} (h : DictU H d L) (s : Same H H') : DictU H' d L := let ⟨vs, l, e⟩ := h; ⟨vs, l, s _ _ e⟩
theorem DictU.none {H : Hp} {d a : Addr} {L : BL (List Key)} {k : List Key} (h : DictU H d L) (hk : k ∉ L.map (·.1)) (ea : H a = some (.tup (k.map kV))) : DGet H d (.ref a) none := by
  obtain ⟨vs, l, e⟩ := h
  have := DGet.t (k := k) e ea
  rwa [val_zip_none hk] at this
theorem DictU.some {H : Hp} {d a : Addr} {L : BL (List Key)} {k : List Key} (h : DictU H d L) (nd : (L.map (·.1)).Nodup) (hk : k ∈ L.map (·.1)) (ea : H a = some (.tup (k.map kV))) : ∃ v, DGet H d (.ref a) (some v) := by
  obtain ⟨vs, l, e⟩ := h
  obtain ⟨i, hi⟩ := List.getElem?_of_mem hk
  have hl : i < vs.length := by
    have := (List.getElem?_eq_some_iff.mp hi).1
    rw [List.length_map] at this; omega
  refine ⟨vs[i], ?_⟩
  have := DGet.t (k := k) e ea
  rwa [val_zip nd hi (List.getElem?_eq_getElem hl)] at this
theorem DictU.put {H : Hp} {d a : Addr} {L : BL (List Key)} {k : List Key} {r : List Int} {v : V} (h : DictU H d L) (hk : k ∉ L.map (·.1)) (ea : H a = .some (.tup (k.map kV))) (hl : L.length < 100000) :
    ∃ H', DPut H d (.ref a) v H' ∧ DictU H' d (L ++ [(k, r)]) ∧ Kp H H' ∧ ∀ b o, b ≠ d → H b = .some o → H' b = .some o := by
  obtain ⟨vs, lv, e⟩ := h
  refine ⟨_, DPut.t (k := k) (v := v) e ea (by rw [List.length_zip, List.length_map, lv, Nat.min_self]; exact small5 (by omega)), ?_, kp_dT e, fun b o hb eb => by rw [upd_ne hb]; exact eb⟩
  rw [putK_new v (val_zip_none hk)]
  refine ⟨vs ++ [v], by rw [List.length_append, List.length_append, lv]; rfl, ?_⟩
  rw [upd_same, List.map_append, List.zip_append (by rw [List.length_map, lv])]; rfl
/-- what stands in the list of a search: the row and the thing -/
def WayAt (K : PySem.W.Frag) (H : Hp) (a : Addr) (x : List Key × List Int) : Prop := ∃ r t : Addr, H a = some (.tup [.ref r, .ref t]) ∧ SqT K H r (x.2.map V.int) ∧ H t = some (.tup (x.1.map kV))
theorem WayAt.same {K : PySem.W.Frag} {H H' : Hp} {a : Addr} {x : List Key × List Int} (h : WayAt K H a x) (s : Same H H') : WayAt K H' a x := let ⟨r, t, e1, e2, e3⟩ := h; ⟨r, t, s _ _ e1, same_sqT s e2, s _ _ e3⟩
theorem WayAt.kp {K : PySem.W.Frag} {H H' : Hp} {a : Addr} {x : List Key × List Int} (h : WayAt K H a x) (k : Kp H H') : WayAt K H' a x := let ⟨r, t, e1, e2, e3⟩ := h; ⟨r, t, k.1 _ _ e1, sqT_kp k e2, k.1 _ _ e3⟩
theorem find_pre {L L' : BL (List Key)} (p : L <+: L') {i : Nat} {x : List Key × List Int} (hi : L[i]? = some x) (nd : (L'.map (·.1)).Nodup) : L'.find? (fun y => decide (y.1 = x.1)) = some x := by
  obtain ⟨t, rfl⟩ := p
  have hm : x ∈ L ++ t := List.mem_append_left _ (List.mem_of_getElem? hi)
  generalize L ++ t = M at nd hm
  clear hi
  induction M with
  | nil => cases hm
  | cons y r ih =>
    rw [List.map_cons, List.nodup_cons] at nd
    rw [List.find?_cons]
    rcases List.mem_cons.mp hm with rfl | hm
    · rw [decide_eq_true rfl]
    · have : y.1 ≠ x.1 := fun z => nd.1 (by rw [z]; exact List.mem_map_of_mem hm)
      rw [decide_eq_false this]
      exact ih nd.2 hm
theorem way_hit {L L' : BL (List Key)} (p : L <+: L') {i : Nat} {x : List Key × List Int} (hi : L[i]? = some x) (nd : (L'.map (·.1)).Nodup) : wayOf L' x.1 = dInts x.2 := by
  unfold wayOf
  rw [find_pre p hi nd]
theorem way_miss {L : BL (List Key)} {k : List Key} (h : ∀ x ∈ L, x.1 ≠ k) : wayOf L k = .none := by
  unfold wayOf
  rw [List.find?_eq_none.mpr fun x hx => by simpa using h x hx]
theorem eqv_dInts (a b : List Int) : PyData.eqv (dInts a) (dInts b) = decide (a = b) := by
  unfold dInts
  simp only [PyData.eqv]
  exact eqv_intsL a b
end Pr
namespace Pr
open PySem PySem.Spec PyProof.Rows L2
section
variable {K : PySem.W.Frag} {σ : L2.St} {H : Hp} {d : PyData} {i j : Nat} {S : Addr} {xs : List V} {v : V}
theorem gv_lenL1 (hi : σ[i]? = some (some (.ref S))) (e : H S = some (.lst xs)) : Gv K (tCB (rLenG K) (tCons (tVar i) tNil)) σ H (.int xs.length) := fun H1 s Q q =>
  ⟨.ref S, hi, S, xs, rfl, .inl (.inl (.inl (s _ _ e))), q _ H1 (Same.refl _) (.int _)⟩
theorem at_lastH {l : List V} {v : V} : atI (l ++ [v]) (-1) = some v := by
  have e : ixN (l ++ [v]).length (-1) = some l.length := by
    unfold ixN
    rw [List.length_append]
    show (if (0 : Int) ≤ -1 then _ else _) = _
    rw [if_neg (by decide)]
    simp
    omega
  unfold atI
  rw [e]
  show (l ++ [v])[l.length]? = some v
  simp
theorem gvt_neE (hi : σ[i]? = some (some (.ref S))) (e : H S = some (.lst xs)) : GvT (tTest (tOp rNeE1 (tVar i) (tLst tNil))) σ H (!xs.isEmpty) := fun H1 s Q q =>
  ⟨.ref S, hi, Nat.zero_le _, fun L nL => ⟨S, L, xs, rfl, rfl, same_new nL _ _ (s _ _ e), upd_same, _, rfl, q _ (same_new nL)⟩⟩
end
end Pr
namespace Pr
open PySem PySem.Spec PyProof.Rows L2 LamX
def LtK (a b : List Int) : Prop := a.length < b.length ∨ (a.length = b.length ∧ a < b)
instance (a b : List Int) : Decidable (LtK a b) := inferInstanceAs (Decidable (_ ∨ _))
theorem LtK.trans {a b c : List Int} (h : LtK a b) (g : LtK b c) : LtK a c := by
  rcases h with h | ⟨e, h⟩ <;> rcases g with g | ⟨e', g⟩
  · exact .inl (Nat.lt_trans h g)
  · exact .inl (e' ▸ h)
  · exact .inl (e ▸ g)
  · exact .inr ⟨e.trans e', List.lt_trans h g⟩
end Pr
namespace Pr
open PySem PySem.Spec PyProof.Rows L2 LamX NdefX
/-- the lambda F (its words but the body) stands at f, untracked; its cells hold ws; none is a frame -/
structure LamAt (F : NF) (body : Expr) (f : Addr) (fr : List Str) (ws : List (Option V)) (outer : List Env) (s : Shared) (H : Hp) : Prop where
  fn : ∃ pm ctv, s.heap.get? f = some (PySem.W.kla_obj "<lambda>" F.qual F.params body F.scope F.cl pm F.c ctv)
  un : H f = none
  nf : f ∉ frs outer
  cells : CellsAt F.cl fr ws s.heap H
  nc : ∀ y c, F.cl.lookup y = some c → c ∉ frs outer
structure LOk (P : Program) (w : World) (K : PySem.W.Frag) (mg : Str → Option Value) (base : Heap) (CX : CXT) (k : Nat) (F : NF) (body : Expr) (ps fr : List Str) (sp : List (Option V) → Sp) : Prop where
  len : ∀ ws vs H Q E, sp ws vs H Q E → vs.length = ps.length
  run : ∀ (f : Addr) (A : Around) (outer : List Env) (s : Shared) (H : Hp) (us : List Value) (vs : List V) (ws : List (Option V)) (Q : VK) (E : XK), Room k A → Env0 P w K mg base A outer s H → LamAt F body f fr ws outer s H → H F.c = some (CodeO F.c F.qual) →
    Vals vs us → sp ws vs H Q E → codeAny (model P w) A (.call (.ref f) ⟨us, []⟩) (CR CX outer P w H s Q E) s
section
variable {CX : CXT} {P : Program} {w : World} {K : PySem.W.Frag} {mg : Str → Option Value} {base : Heap} {N ps fr : List Str} {F : NF} {body : Expr} {f : Addr} {k j : Nat} {sp sp' : List (Option V) → Sp}
theorem LOk.mono (o : LOk P w K mg base CX j F body ps fr sp) (h : j ≤ k) : LOk P w K mg base CX k F body ps fr sp := ⟨o.len, fun f A outer s H us vs ws Q E hr => o.run f A outer s H us vs ws Q E (hr.mono h)⟩
end
abbrev SPhi := List Env → Shared → Hp → Prop
structure FnOkS (P : Program) (w : World) (K : PySem.W.Frag) (mg : Str → Option Value) (base : Heap) (CX : CXT) (k : Nat) (f : Addr) (fd : FuncData) (ps : List Str) (Φ : SPhi) (sp : Sp) : Prop where
  len : ∀ vs H Q E, sp vs H Q E → vs.length = ps.length
  run : ∀ (A : Around) (outer : List Env) (s : Shared) (H : Hp) (args : Args) (us : List Value) (vs : List V) (Q : VK) (E : XK), Room k A → Env0 P w K mg base A outer s H → Φ outer s H → BindsTo s fd args (ps.zip us) → Vals vs us → sp vs H Q E →
    codeAny (model P w) A (.call (.ref f) args) (CR CX outer P w H s Q E) s
section
variable {CX : CXT} {P : Program} {w : World} {K : PySem.W.Frag} {mg : Str → Option Value} {base : Heap} {k : Nat} {f : Addr} {sp : Sp} {Φ : SPhi} {N ps : List Str}
theorem FnOkS.mono {j : Nat} {fd : FuncData} (F : FnOkS P w K mg base CX j f fd ps Φ sp) (h : j ≤ k) : FnOkS P w K mg base CX k f fd ps Φ sp := ⟨F.len, fun A outer s H args us vs Q E hr => F.run A outer s H args us vs Q E (hr.mono h)⟩
end
end Pr
namespace Pr
open PySem PySem.Spec PyProof.Rows L2 LamX NdefX
end Pr
namespace Pr
open PySem PySem.Spec PyProof.Rows L2
def tMethD (C : Addr) (m : Str) (sp : Sp) (dvs : List V) (E : L2.St → XK) (ta : TE) (t : TA) : TE := fun σ H Q => ta σ H fun x H1 => ∃ a dx fs, x = .ref a ∧ H1 a = some (.ins C dx fs) ∧ fs.lookup m = none ∧
  t σ H1 fun vs H2 => sp ((x :: vs) ++ dvs) H2 Q (E σ)
section
variable {X : Cx} {CX : CXT} {k : Nat} {f C : Addr} {fd : FuncData} {ps : List Str} {sp : Sp} {E : L2.St → XK} {m : Str} {pos apos : Pos} {e o : Expr} {es : List Expr} {ta : TE} {t : TA} {dvs : List V} {ds : List Value}
theorem pe_methDE {pl : Sem Bool} (he : PE X o ta) (c : Cls X.K C) (hm : Meth X.K C m f) (F : FnOk X.prog X.w X.K X.mg X.base CX k f fd ps sp) (hr : Room k X.A) (hb : Binds X.K fd ps ds) (hv : Vals dvs ds) (hx : ∀ σ, PassesAt CX X σ (E σ)) (ha : PA X (e :: es) t)
    (hst : starEach (e :: es) X.env = (false, eval e X.env) :: starEach es X.env := by rfl) (hpl : (backTo pos (starEach es X.env)).any (·.1) = false := by rfl)
    (ht : eval (.Call (.Attribute o m apos) (e :: es) [] pos) X.env = (eval o X.env >>= fun ov => standAt apos.atName >>= fun _ => holding [ov] (getMethod ov m pl) >>= fun p => callWith pos p.1 p.2 (backTo pos (starEach (e :: es) X.env)) (backToKw pos (keywordEach [] X.env))) := by rfl) :
    PE X (.Call (.Attribute o m apos) (e :: es) [] pos) (tMethD C m sp dvs E ta t) := by
  refine ⟨fun pins s σ H Q J h => PySem.W.methodCall_KW (pl := pl) (thn (he.run pins s σ H _ J h) fun u s1 ⟨x, H1, J1, rx, a, dx, fs, ex, ea, lk, q⟩ => ?_) ht⟩
  cases ex
  obtain rfl : u = Value.ref a := rx
  refine getmeth_ok J1 ea c hm lk ?_
  refine PySem.W.callWith_K (first := [.ref a]) (h₀ := X.base) J.ok.mod.kin hm.kp (thn (ha.run pos pins s1 σ H1 _ J1 q) fun us s2 ⟨vs, H2, J2, r, q2⟩ => ⟨J2.kIn, ?_⟩) hst hpl
  have r2 : Vals (.ref a :: vs) (.ref a :: us) := .cons rfl r
  have r3 : Vals ((.ref a :: vs) ++ dvs) ((.ref a :: us) ++ ds) := r2.append hv
  have hl : ((Value.ref a :: us) ++ ds).length = ps.length := by rw [← r3.length]; exact F.len _ _ _ _ q2
  show wpAny _ _ (call (.ref f) (.ref a :: us)) _ _ _
  refine wpAny_call (codeAny_mono (F.run X.A X.stack s2 H2 ⟨.ref a :: us, []⟩ ((.ref a :: us) ++ ds) _ _ _ hr J2.env0 (by exact hb s2 (.ref a :: us) J2.kIn (by simpa using hl)) r3 q2) fun rs s' hq => ?_)
  cases rs with
  | error er => exact hx σ pins H2 s2 er s' J2 hq
  | ok fl =>
    cases fl with
    | ret u => exact J2.after hq
    | next => exact False.elim hq
    | brk => exact False.elim hq
    | cont => exact False.elim hq
end
end Pr
namespace Pr
open PySem PySem.Spec PyProof.Rows L2 PpSet
end Pr
namespace K48
open PySem PySem.Spec PyProof.Rows L2 Pr
theorem all2 {p : PyData → Prop} {a b : PyData} (ha : p a) (hb : p b) : ∀ x ∈ [a, b], p x := fun x hx => by
  rcases (show x = a ∨ x = b by simpa using hx) with rfl | rfl <;> assumption
theorem all3 {p : PyData → Prop} {a b c : PyData} (ha : p a) (hb : p b) (hc : p c) : ∀ x ∈ [a, b, c], p x := fun x hx => by
  rcases (show x = a ∨ x = b ∨ x = c by simpa using hx) with rfl | rfl | rfl <;> assumption
theorem all5 {p : PyData → Prop} {a b c d e : PyData} (ha : p a) (hb : p b) (hc : p c) (hd : p d) (he : p e) : ∀ x ∈ [a, b, c, d, e], p x := fun x hx => by
  rcases (show x = a ∨ x = b ∨ x = c ∨ x = d ∨ x = e by simpa using hx) with rfl | rfl | rfl | rfl | rfl <;> assumption
theorem shw_str {x : Str} {n : Nat} (h : (PyData.shown (.str x)).length ≤ n) : Shw 0 n (.str x) := ⟨by simp only [PyData.showable], by simp only [PyData.hasDict], by simp [PyData.depth], h⟩
theorem Ed.shw {pan pan' : List (List Int)} {d : PyData} {f : List Int → List Int} (h : Ed pan d pan' f) (g : Good pan) : Shw 1 39 d := by
  have few := g.few
  have w : ∀ {x : Str}, x = "press" ∨ x = "link" ∨ x = "unlink" → Shw 0 10 (.str x) := fun {x} h => shw_str (by simp only [PyData.shown]; rcases h with rfl | rfl | rfl <;> decide +kernel)
  have i : ∀ {b : Int}, 0 ≤ b → b < (pan.length : Int) → Shw 0 10 (.int b) := fun h0 h1 => (Shw.int (k := 2) h0 (by decide) (by decide) (by show _ < (100 : Int); omega)).mono (by decide) (by decide)
  have t : ∀ {ds : List PyData}, (∀ e ∈ ds, Shw 0 10 e) → ds.length ≤ 3 → Shw 1 39 (.tuple ds) := fun h hl => (Shw.tuple (m := 3) h hl).mono (by decide) (by decide)
  cases h with
  | press h0 h1 => exact t (all2 (w (.inl rfl)) (i h0 h1)) (by simp)
  | link h hn => exact t (all3 (w (.inr (.inl rfl))) (i h.1 h.2.1) (i h.2.2.1 h.2.2.2.1)) (by simp)
  | unlink h hn => exact t (all3 (w (.inr (.inr rfl))) (i h.1 h.2.1) (i h.2.2.1 h.2.2.2.1)) (by simp)
theorem rep_found {pan : List (List Int)} {st : List Int} {es : List PyData} (g : Good pan) (hst : Asc pan.length st) (he : ∀ d ∈ es, Shw 1 39 d) (hl : es.length ≤ 60) : RepOk (.list [dPan pan, dInts st, .tuple [dPan pan, dInts st], .tuple es, .int (es.length : Int)]) := by
  have few := g.few
  have s0 : Shw 1 33 (dInts st) := (shw_ints (m := 10) (by have := hst.len; omega) fun x hx => by have := hst.rng x hx; omega).mono (by decide) (by decide)
  have s1 : Shw 3 713 (.tuple [dPan pan, dInts st]) := (Shw.tuple (m := 2) (n := 353) (dep := 2) (all2 g.shw (s0.mono (by decide) (by decide))) (by simp)).mono (by decide) (by decide)
  have s2 : Shw 2 2463 (.tuple es) := (Shw.tuple (m := 60) he hl).mono (by decide) (by decide)
  have s3 : Shw 0 2 (.int (es.length : Int)) := Shw.int (by omega) (by decide) (by decide) (by show _ < (100 : Int); omega)
  exact .inr ⟨(Shw.list (m := 5) (n := 2463) (dep := 3) (all5 (g.shw.mono (by decide) (by decide)) (s0.mono (by decide) (by decide)) (s1.mono (by decide) (by decide)) (s2.mono (by decide) (by decide)) (s3.mono (by decide) (by decide))) (by simp)).mono (by decide) (by decide), _, .inr rfl⟩
/-- what the top says of the classes, for the law's tries -/
structure TryV (K : PySem.W.Frag) (mg : Str → Option Value) (CV : Addr) : Prop where
  xf : XfC K CV
  g : mg "NoVersion" = some (.ref CV)
  m1 : PySem.W.exmOne K (.ref CV) (.ref CV) = some true
  noN : PySem.W.findIn K (.ref CV) "value" = some none
structure TryA (K : PySem.W.Frag) (mg : Str → Option Value) (CP CR CBe CBs C2 CU : Addr) : Prop where
  gP : mg "PanelError" = some (.ref CP)
  gR : mg "Rejected" = some (.ref CR)
  gE : mg "BadEdit" = some (.ref CBe)
  gS : mg "BadEdits" = some (.ref CBs)
  g2 : mg "Busy" = some (.ref C2)
  gU : mg "NothingToUndo" = some (.ref CU)
  excR : ExcC K CR
  mR : PySem.W.exmOne K (.ref CR) (.ref CP) = some true
  kVR : PySem.W.kitOne K (.ref CR) (.type "ValueError") = some true
  kTR : PySem.W.kitAny K (.ref CR) [.ref C2, .ref CU] = some false
  excE : ExcC K CBe
  mE : PySem.W.exmOne K (.ref CBe) (.ref CP) = some true
  kVE : PySem.W.kitOne K (.ref CBe) (.type "ValueError") = some true
  kTE : PySem.W.kitAny K (.ref CBe) [.ref C2, .ref CU] = some false
  excS : ExcC K CBs
  mS : PySem.W.exmOne K (.ref CBs) (.ref CP) = some true
  kVS : PySem.W.kitOne K (.ref CBs) (.type "ValueError") = some true
  kTS : PySem.W.kitAny K (.ref CBs) [.ref C2, .ref CU] = some false
  xfR : XfC K CR
  noR : PySem.W.findIn K (.ref CR) "index" = some none
  xfE : XfC K CBe
  noE : PySem.W.findIn K (.ref CBe) "index" = some none
  kRE : PySem.W.kitOne K (.ref CR) (.ref CBe) = some false
  kRS : PySem.W.kitOne K (.ref CR) (.ref CBs) = some false
  kER : PySem.W.kitOne K (.ref CBe) (.ref CR) = some false
  kES : PySem.W.kitOne K (.ref CBe) (.ref CBs) = some false
  kSR : PySem.W.kitOne K (.ref CBs) (.ref CR) = some false
  kSE : PySem.W.kitOne K (.ref CBs) (.ref CBe) = some false
structure DM (P : Program) (w : World) (K : PySem.W.Frag) (mg : Str → Option Value) (base : Heap) (C CV CU CR CBs CBe dV CP C2 : Addr) where
  fInitD : Addr
  fdInitD : FuncData
  bInitD : Binds K fdInitD ["self", "panel", "state"] []
  MkD : Mk K C fInitD
  GInitD : FnOk P w K mg base CX0 5 fInitD fdInitD ["self", "panel", "state"] (spInitD K C)
  fState : Addr
  fdState : FuncData
  dsState : List Value
  vState : Vals [V.non] dsState
  kbState : KBn K fdState ["self", "version"] 1 ["version"] (fun us ws => us ++ ws) (fun vs zs => vs ++ zs)
  bState : Binds K fdState ["self", "version"] dsState
  hState : Meth K C "state" fState
  GState : FnOk P w K mg base (L2.CX P w) 3 fState fdState ["self", "version"] (spState K C CV)
  fWayTo : Addr
  fdWayTo : FuncData
  dsWayTo : List Value
  vWayTo : Vals [V.non] dsWayTo
  kbWayTo : KBn K fdWayTo ["self", "goal", "version"] 2 ["version"] (fun us ws => us ++ ws) (fun vs zs => vs ++ zs)
  bWayTo : Binds K fdWayTo ["self", "goal", "version"] dsWayTo
  hWayTo : Meth K C "way_to" fWayTo
  GWayTo : FnOk P w K mg base CX0 4 fWayTo fdWayTo ["self", "goal", "version"] (spWayTo K C)
  fUndo : Addr
  fdUndo : FuncData
  bUndo : Binds K fdUndo ["self"] []
  hUndo : Meth K C "undo" fUndo
  GUndo : FnOk P w K mg base (L2.CX P w) 4 fUndo fdUndo ["self"] (spUndo K C CU)
  fEdits : Addr
  fdEdits : FuncData
  bEdits : Binds K fdEdits ["self"] []
  hEdits : Meth K C "edits" fEdits
  GEdits : FnOk P w K mg base CX0 1 fEdits fdEdits ["self"] (spEdits K C)
  fLenD : Addr
  fdLenD : FuncData
  bLenD : Binds K fdLenD ["self"] []
  xLenD : PySem.W.findIn K (.ref C) "__len__" = some (some (.ref fLenD))
  yLenD : PySem.W.isFn K (.ref fLenD) = true
  GLenD : FnOk P w K mg base CX0 1 fLenD fdLenD ["self"] (spLenD K C)
  fStrD : Addr
  fdStrD : FuncData
  bStrD : Binds K fdStrD ["self"] []
  xStrD : PySem.W.findIn K (.ref C) "__str__" = some (some (.ref fStrD))
  yStrD : PySem.W.isFn K (.ref fStrD) = true
  GStrD : FnOk P w K mg base CX0 1 fStrD fdStrD ["self"] (spStrD K C)
  fAt : Addr
  fdAt : FuncData
  dsAt : List Value
  vAt : Vals [V.non] dsAt
  bAt : Binds K fdAt ["self", "edits", "watch"] dsAt
  kbAt : KBn K fdAt ["self", "edits", "watch"] 2 ["watch"] (fun us ws => us ++ ws) (fun vs zs => vs ++ zs)
  hAt : Meth K C "attempt" fAt
  GAt : FnOk P w K mg base (L2.CX P w) 9 fAt fdAt ["self", "edits", "watch"] (spAttemptX K C dV CR CBs CBe)
  YV : TryV K mg CV
  YA : TryA K mg CP CR CBe CBs C2 CU
def nRight : List Str := ["_law_table", "_law_state_here", "_law_edits", "_law_panel_here", "_law_latched", "_law_found", "_law_words"]
theorem scRight : FnScope nRight ["_law_table", "_law_state_here", "_law_edits"] (defScope sRight) := ⟨rfl, rfl, rfl, by decide +kernel, rfl, by decide +kernel, by decide +kernel⟩
section
variable {P : Program} {w : World} {K : PySem.W.Frag} {mg : Str → Option Value} {base : Heap}
def spRight (K : PySem.W.Frag) (C : Addr) : Sp := fun vs H Q _ => ∃ (t : Addr) (pan : List (List Int)) (st : List Int) (past : List (PyData × List (List Int) × List Int)) (v e : V), vs = [.ref t, v, e] ∧ DeskAt K C H t pan st past ∧ past.length ≤ 60 ∧ (∀ x ∈ past, Shw 1 39 x.1) ∧ Dp K H v (dPS pan st) ∧ Dp K H e (.list (past.map (·.1))) ∧ ∀ H', Same H H' → Q (.bl true) H'
theorem ok_Right  {f : Addr} {fd : FuncData} {k : Nat} (F : Fun K "_law_right" "_law_right" sRight f fd)
    (m_len : mg "len" = none) (m_repr : mg "repr" = none) (m_str : mg "str" = none) (m_tuple : mg "tuple" = none) {C CV CU CR CBs CBe dV CP C2 : Addr} (T : TxtD K mg C) (DX : DM P w K mg base C CV CU CR CBs CBe dV CP C2) : FnG P w K mg base (k + 14) f fd ["_law_table", "_law_state_here", "_law_edits"] (spRight K C) := by
  have DX0 := DX
  obtain ⟨fInitD, fdInitD, bInitD, MkD, GInitD, fState, fdState, dsState, vState, kbState, bState, hState, GState, fWayTo, fdWayTo, dsWayTo, vWayTo, kbWayTo, bWayTo, hWayTo, GWayTo, fUndo, fdUndo, bUndo, hUndo, GUndo, fEdits, fdEdits, bEdits, hEdits, GEdits, fLenD, fdLenD, bLenD, xLenD, yLenD, GLenD, fStrD, fdStrD, bStrD, xStrD, yStrD, GStrD, fAt, fdAt, dsAt, vAt, bAt, kbAt, hAt, GAt, YV, YA⟩ := DX0
  refine okG F scRight (fun vs H Q E h => ?_) (fun cdv A outer s H vs Q E gd hr h => ?_)
  · obtain ⟨t, pan, st, past, v, e, rfl, _⟩ := h
    rfl
  · obtain ⟨t, pan, st, past, v, e, rfl, hD, few, hsh, dv, de, q⟩ := h
    refine ⟨_, pss_cons (ps_asg (pv 1) (pg_unl rfl (pgs_cons (pg_name (i := 3) scRight.nd rfl (Or.inl rfl)) (pgs_cons (pg_name (i := 4) scRight.nd rfl (Or.inl rfl)) pgs_nil))))
      (pss_cons (ps_set (i := 5) scRight.nd rfl (.inl rfl) (pe_lst (pa_cons (pe_fld (pv 0) rfl) (pa_cons (pe_fld (pv 0) rfl) (pa_cons (pe_meth0 (pv 0) T.cl hState GState (hr.mono (by omega)) bState vState passX) (pa_cons (pe_meth0 (pv 0) T.cl hEdits GEdits (hr.mono (by omega)) bEdits .nil pass0) (pa_cons (pe_callB (show CallR _ _ (rLenO C (spLenD K C)) from cr_lenO GLenD (hr.mono (by omega)) bLenD xLenD yLenD) (by rfl) m_len PySem.boot_len (pa_cons (pv 0) pa_nil)) pa_nil)))))))
      (pss_cons (ps_if (pt_cmpR op_ne (pe_callB (show CallR _ _ (rReprA K) from cr_reprA gd hr) (by rfl) m_repr (by decide +kernel) (pa_cons (pv 5) pa_nil)) (pe_callB (show CallR _ _ (rReprA K) from cr_reprA gd hr) (by rfl) m_repr (by decide +kernel) (pa_cons (pe_lst (pa_cons (pv 3) (pa_cons (pv 4) (pa_cons (pe_tup (pa_cons (pv 3) (pa_cons (pv 4) pa_nil))) (pa_cons (pe_callTy (show CallR _ _ (rTupG K) from cr_tupG) (by rfl) m_tuple (by decide +kernel) (pa_cons (pv 2) pa_nil)) (pa_cons (pe_callB (show CallR _ _ (rLenG K) from cr_lenG) (by rfl) m_len PySem.boot_len (pa_cons (pv 2) pa_nil)) pa_nil)))))) pa_nil)) (nomark _)) (pss_one (ps_ret pe_bl)) pss_nil)
      (pss_cons (ps_set (i := 6) scRight.nd rfl (.inl rfl) (pe_lst (pa_cons (pe_callTy (show CallR _ _ rStrI from call_str_int) (by rfl) m_str (by decide +kernel) (pa_cons (pe_callB (show CallR _ _ (rLenG K) from cr_lenG) (by rfl) m_len PySem.boot_len (pa_cons (pv 3) pa_nil)) pa_nil)) (pa_cons pe_str (pa_cons (pe_callTy (show CallR _ _ rStrI from call_str_int) (by rfl) m_str (by decide +kernel) (pa_cons (pe_callB (show CallR _ _ (rLenG K) from cr_lenG) (by rfl) m_len PySem.boot_len (pa_cons (pv 4) pa_nil)) pa_nil)) (pa_cons pe_str (pa_cons (pe_callTy (show CallR _ _ rStrI from call_str_int) (by rfl) m_str (by decide +kernel) (pa_cons (pe_callB (show CallR _ _ (rLenG K) from cr_lenG) (by rfl) m_len PySem.boot_len (pa_cons (pv 2) pa_nil)) pa_nil)) (pa_cons pe_str pa_nil))))))))
      (pss_one (ps_ret (pe_cmpR op_eq (pe_callTy (show CallR _ _ (rStrO C (spStrD K C)) from cr_strO GStrD (hr.mono (by omega)) bStrD xStrD yStrD) (by rfl) m_str (by decide +kernel) (pa_cons (pv 0) pa_nil)) (pe_join pe_str (pv 6)) (nomark _))))))), ?_⟩
    obtain ⟨a, xs, rfl, hq, hr'⟩ := dv.lstI
    obtain ⟨vp, vl, rfl, dp, dl⟩ := dpAll2 hr'
    have hg := hD.good
    have hst := hD.asc
    have pf := hg.few
    have sl := hst.len
    have hlp : (pan.map dInts).length = pan.length := List.length_map _
    have hls : (st.map PyData.int).length = st.length := List.length_map _
    have hlq : (past.map (·.1)).length = past.length := List.length_map _
    refine ⟨.ref a, rfl, a, _, rfl, hq, rfl, vp, [vl], rfl, vl, [], rfl, rfl, ?_⟩
    refine gs_set1 (K := K) (gv_lst (gva_cons (gv_panel T rfl hD) (gva_cons (gv_latched T rfl hD) (gva_cons (gv_StateD rfl hD) (gva_cons (gv_EditsD rfl hD (by omega)) (gva_cons (gv_lenD rfl hD (by omega)) gva_nil)))))) fun vf H1 s1 df => ?_
    have rep := rep_found (es := past.map (·.1)) hg hst (fun x hx => by obtain ⟨y, hy, rfl⟩ := List.mem_map.mp hx; exact hsh y hy) (by rw [hlq]; exact few)
    rw [hlq] at rep
    refine gs_no (gvt_test (K := K) (gv_neS (gv_reprA (gv_var rfl df) rep) (gv_reprA ((gv_lst (gva_cons (gv_var rfl (dp.sm s1)) (gva_cons (gv_var rfl (dl.sm s1)) (gva_cons (gv_tup (gva_cons (gv_var rfl (dp.sm s1)) (gva_cons (gv_var rfl (dl.sm s1)) gva_nil))) (gva_cons (gv_tupL (gv_var rfl (de.sm s1))) (gva_cons (gv_lenL (gv_var rfl (de.sm s1))) gva_nil)))))).to (by rw [hlq])) rep))) (by simp) fun H2 s2 => ?_
    have s12 := s1.trans s2
    refine gs_set1 (K := K) ((gv_lst (gva_cons (gv_strI (n := pan.length) ((gv_lenT (gv_var rfl (dp.sm s12))).to (by rw [hlp])) (by omega)) (gva_cons gv_str (gva_cons (gv_strI (n := st.length) ((gv_lenT (gv_var rfl (dl.sm s12))).to (by rw [hls])) (by omega)) (gva_cons gv_str (gva_cons (gv_strI (n := past.length) ((gv_lenL (gv_var rfl (de.sm s12))).to (by rw [hlq])) (by omega)) (gva_cons gv_str gva_nil)))))))) fun vw H3 s3 dw => ?_
    have n1 := len_num pan.length (by omega)
    have n2 := len_num st.length (by omega)
    have n3 := len_num past.length (by omega)
    refine gs_ret (K := K) (d := .bool true) ((gv_eqS (gv_strD rfl (hD.same (s12.trans s3)) (by omega)) (gv_join1 (ys := [(toString (pan.length : Int) : Str), "buttons,", (toString (st.length : Int) : Str), "latched,", (toString (past.length : Int) : Str), "edits"]) gv_str (gv_var rfl dw) ?_)).to ?_) fun v H4 s4 d4 => ?_
    rotate_left
    · rw [decide_eq_true (txt_is _ _ _)]
    · cases d4
      exact q H4 ((s12.trans s3).trans s4)
    · show (toString (pan.length : Int) : Str).length + (8 + ((toString (st.length : Int) : Str).length + (8 + ((toString (past.length : Int) : Str).length + (5 + 0))))) + 6 * 1 ≤ 16777216
      omega
end
@[irreducible] def dVer (y : List (List Int) × List Int) (gl : List Int) : PyData := .list [.tuple [dPan y.1, dInts y.2], wayOf (foundM y.1 y.2) (kInt gl)]
theorem dVer_eq (y : List (List Int) × List Int) (gl : List Int) : dVer y gl = .list [.tuple [dPan y.1, dInts y.2], wayOf (foundM y.1 y.2) (kInt gl)] := by unfold dVer; rfl
theorem rep_ver {y : List (List Int) × List Int} (g : Good y.1) (hst : Asc y.1.length y.2) (gl : List Int) : RepOk (dVer y gl) := by
  have few := g.few
  have s0 : Shw 1 33 (dInts y.2) := (shw_ints (m := 10) (by have := hst.len; omega) fun x hx => by have := hst.rng x hx; omega).mono (by decide) (by decide)
  have s1 : Shw 3 713 (.tuple [dPan y.1, dInts y.2]) := (Shw.tuple (m := 2) (n := 353) (dep := 2) (all2 g.shw (s0.mono (by decide) (by decide))) (by simp)).mono (by decide) (by decide)
  have s2 := way_shw1 few y.2 (kInt gl)
  rw [dVer_eq]
  generalize wayOf (foundM y.1 y.2) (kInt gl) = W at s2 ⊢
  exact .inr ⟨(Shw.list (m := 2) (n := 3075) (dep := 3) (all2 (s1.mono (by decide) (by decide)) (s2.mono (by decide) (by decide))) (by simp)).mono (by decide) (Nat.le_of_lt (small5 (by decide))), _, .inr rfl⟩
def nShown : List Str := ["_law_table", "_law_past", "_law_goal"]
theorem scShown : FnScope nShown ["_law_table", "_law_past", "_law_goal"] (defScope sShown) := ⟨rfl, rfl, rfl, by decide +kernel, rfl, by decide +kernel, by decide +kernel⟩
section
variable {P : Program} {w : World} {K : PySem.W.Frag} {mg : Str → Option Value} {base : Heap}
def spShown (K : PySem.W.Frag) (C : Addr) : Sp := fun vs H Q _ => ∃ (N : Addr → Prop) (t g : Addr) (v : V) (d : PyData) (y : List (List Int) × List Int) (pan : List (List Int)) (st gl : List Int) (past : List (PyData × List (List Int) × List Int)), vs = [.ref t, v, .ref g] ∧ DeskAt K C H t pan st past ∧ Dq K N H v d ∧ verM pan st past d = some y ∧ H g = some (.tup (gl.map V.int)) ∧ Asc y.1.length gl ∧ Good y.1 ∧ Asc y.1.length y.2 ∧ ∀ H', Same H H' → Q (.str (dVer y gl).shown) H'
theorem ok_Shown  {f : Addr} {fd : FuncData} {k : Nat} (F : Fun K "_law_shown" "_law_shown" sShown f fd)
    (m_repr : mg "repr" = none) {C CV CU CR CBs CBe dV CP C2 : Addr} (T : TxtD K mg C) (DX : DM P w K mg base C CV CU CR CBs CBe dV CP C2) : FnG P w K mg base (k + 14) f fd ["_law_table", "_law_past", "_law_goal"] (spShown K C) := by
  have DX0 := DX
  obtain ⟨fInitD, fdInitD, bInitD, MkD, GInitD, fState, fdState, dsState, vState, kbState, bState, hState, GState, fWayTo, fdWayTo, dsWayTo, vWayTo, kbWayTo, bWayTo, hWayTo, GWayTo, fUndo, fdUndo, bUndo, hUndo, GUndo, fEdits, fdEdits, bEdits, hEdits, GEdits, fLenD, fdLenD, bLenD, xLenD, yLenD, GLenD, fStrD, fdStrD, bStrD, xStrD, yStrD, GStrD, fAt, fdAt, dsAt, vAt, bAt, kbAt, hAt, GAt, YV, YA⟩ := DX0
  refine okG F scShown (fun vs H Q E h => ?_) (fun cdv A outer s H vs Q E gd hr h => ?_)
  · obtain ⟨N, t, g, v, d, y, pan, st, gl, past, rfl, _⟩ := h
    rfl
  · obtain ⟨N, t, g, v, d, y, pan, st, gl, past, rfl, hD, hd, hy, eg, hgl, gy, ay, q⟩ := h
    refine ⟨_, pss_one (ps_ret (pe_callB (show CallR _ _ (rReprA K) from cr_reprA gd hr) (by rfl) m_repr (by decide +kernel) (pa_cons (pe_lst (pa_cons (pe_methN0 (pv 0) T.cl hState GState (hr.mono (by omega)) kbState passX (pk_cons (pv 1) pk_nil)) (pa_cons (pe_methN (pv 0) T.cl hWayTo GWayTo (hr.mono (by omega)) kbWayTo pass0 (pa_cons (pv 2) pa_nil) (pk_cons (pv 1) pk_nil)) pa_nil))) pa_nil))), ?_⟩
    obtain ⟨W, hW⟩ : ∃ W, W = wayOf (foundM y.1 y.2) (kInt gl) := ⟨_, rfl⟩
    refine gs_ret (K := K) (gv_reprA (d := dVer y gl) ((gv_lst (gva_cons (d := .tuple [dPan y.1, dInts y.2]) (fun H1 s Q q => ?_) (gva_cons (d := W) (fun H1 s Q q => ?_) gva_nil))).to (by rw [dVer_eq, hW])) (rep_ver gy ay gl)) fun u H1 s1 du => ?_
    · have hD1 := hD.same s
      refine hD1.at fun dx fs e l => ⟨.ref t, rfl, t, dx, fs, rfl, e, l _ (by decide +kernel), v, rfl, rfl, rfl, N, t, v, d, pan, st, past, rfl, hD1, Dq.same s _ _ hd, fun y' ey H2 u p l s2 eu hp el _ _ => ?_, (fun z => by rw [hy] at z; cases z)⟩
      rw [hy] at ey
      cases ey
      exact q _ H2 s2 (.tup (.inl (.inl eu)) (.cons hp.dp (.cons (dp_ints (.inl (.inl el))) .nil)))
    · have hD1 := hD.same s
      exact hD1.at fun dx fs e l => ⟨.ref t, rfl, t, dx, fs, rfl, e, l _ (by decide +kernel), .ref g, rfl, v, rfl, rfl, rfl, N, t, g, v, d, y, pan, st, gl, past, rfl, hD1, Dq.same s _ _ hd, hy, s _ _ eg, hgl, fun H2 w s2 dw => q w H2 s2 (by rw [hW]; exact dw)⟩
    · generalize (dVer y gl).shown = z at du q
      cases du
      exact q H1 s1
end
def nLWay : List Str := ["_law_panel_here", "_law_start", "_law_goal", "_law_rows", "_law_known", "_law_at", "_law_row", "_law_state_here", "_law_button", "_law_after_here"]
theorem scLWay : FnScope nLWay ["_law_panel_here", "_law_start", "_law_goal"] (defScope sLWay) := ⟨rfl, rfl, rfl, by decide +kernel, rfl, by decide +kernel, by decide +kernel⟩
section
variable {P : Program} {w : World} {K : PySem.W.Frag} {mg : Str → Option Value} {base : Heap}
def spLWay (K : PySem.W.Frag) : Sp := fun vs H Q _ => ∃ (v : V) (a g : Addr) (pan : List (List Int)) (st gl : List Int), vs = [v, .ref a, .ref g] ∧ Dp K H v (dPan pan) ∧ H a = some (.tup (st.map V.int)) ∧ H g = some (.tup (gl.map V.int)) ∧ pan.length ≤ 10 ∧ Asc pan.length st ∧
  ∀ H' u, Same H H' → Dp K H' u (wayOf (foundM pan st) (kInt gl)) → Q u H'
theorem ok_LWay {f fPressed : Addr} {fd fdPressed : FuncData} {k : Nat} (F : Fun K "_law_way" "_law_way" sLWay f fd) (FPressed : Fun K "_law_pressed" "_law_pressed" sPressed fPressed fdPressed) (bPressed : Binds K fdPressed ["_law_panel_here", "_law_state_here", "_law_button"] []) (gPressed : mg "_law_pressed" = some (.ref fPressed))
    (m_len : mg "len" = none) (m_range : mg "range" = none) (m_sorted : mg "sorted" = none) (m_tuple : mg "tuple" = none) : FnOk P w K mg base CX0 (k + 2) f fd ["_law_panel_here", "_law_start", "_law_goal"] (spLWay K) := by
  have GS : FnOk P w K mg base CX0 (k + 1) fPressed fdPressed ["_law_panel_here", "_law_state_here", "_law_button"] (spPressed K) := ok_Pressed FPressed m_sorted m_tuple
  refine F.ok scLWay (fun vs H Q E h => ?_) (fun cdv A outer s H vs Q E hr h => ?_)
  · obtain ⟨v, a, g, pan, st, gl, rfl, _⟩ := h
    rfl
  · obtain ⟨v, a0, g, pan, st, gl, rfl, dp, ea0, eg, few, hst, q⟩ := h
    have hu : ∀ {X : Cx}, X.A = A.deeper (envOfC "_law_way" (defScope sLWay) s.heap.objs.size f cdv) → X.A.units + 1 < cLine := fun {X} e => by rw [e]; have := hr.un; omega
    refine ⟨_, pss_cons (ps_par3 (i := 3) (j := 4) (l := 5) rfl scLWay.nd rfl rfl rfl (by decide) (by decide) (by decide) rfl rfl rfl (pa_cons (pe_lst (pa_cons (pe_tup (pa_cons (pe_tup pa_nil) (pa_cons (pv 1) pa_nil))) pa_nil)) (pa_cons (pe_dispT (hu rfl) (pv 1) pe_bl) (pa_cons pe_int pa_nil))) (by rfl))
      (pss_cons (ps_while PassesOwn.never (pt_cmpR op_lt (pv 5) (pe_callB (show CallR _ _ (rLenG K) from cr_lenG) (by rfl) m_len PySem.boot_len (pa_cons (pv 3) pa_nil)) (nomark _))
        (pss_cons (ps_asg (pe_ix (show IxR _ (rIxL K) from ix_list) (pv 3) (pv 5) (fun _ _ => rfl)) (pg_tup rfl (pgs_cons (pg_name (i := 6) scLWay.nd rfl (Or.inl rfl)) (pgs_cons (pg_name (i := 7) scLWay.nd rfl (Or.inl rfl)) pgs_nil))))
        (pss_cons (ps_if (pt_cmpR (show OpR _ _ (rEqD K) from op_eqD hr.units) (pv 7) (pv 2) (nomark _)) (pss_one (ps_ret (pv 6))) pss_nil)
        (pss_cons (ps_for PassesOwn.never rfl (pi_range1 (by rfl) m_range (pa_cons (pe_callB (show CallR _ _ (rLenG K) from cr_lenG) (by rfl) m_len PySem.boot_len (pa_cons (pv 0) pa_nil)) pa_nil)) (pg_name (i := 8) scLWay.nd rfl (.inl rfl))
            (pss_cons (ps_set (i := 9) scLWay.nd rfl (.inl rfl) (pe_call GS hr (by rfl) gPressed FPressed.kp bPressed .nil pass0 (pa_cons (pv 0) (pa_cons (pv 7) (pa_cons (pv 8) pa_nil)))))
            (pss_one (ps_if (pt_cmp (pc_dnotin (hu rfl) (pv 9) (pv 4)) rfl)
              (pss_cons (ps_dput (hu rfl) (pv 4) (pv 9) pe_bl rfl)
              (pss_one (ps_expr (show PE _ _ (tBM K "list" rAppend _ _) from pe_bm PySem.F.plainAttrs_list PySem.F.slot_list_append PySem.F.type_list_append mt_append (pv 3) (pa_cons (pe_tup (pa_cons (pe_op (show OpR _ _ (rCatS K) from op_catS) (pv 6) (pe_tup (pa_cons (pv 8) pa_nil))) (pa_cons (pv 9) pa_nil))) pa_nil)))))
              pss_nil))))
        (pss_one (ps_set (i := 5) scLWay.nd rfl (.inl rfl) (pe_op op_add (pv 5) pe_int)))))))
      (pss_one (ps_ret pe_non))), ?_⟩
    have hPK : PKs pan.length (kInt st) := ⟨st, rfl, hst⟩
    have hB : ∀ i, (bfsN (stepP pan) pan.length (kInt st) i).length ≤ 1024 := bfs_few few hPK
    have ea0' : H a0 = some (.tup ((kInt st).map kV)) := by rw [kInt_kV]; exact ea0
    have hlp : (pan.map dInts).length = pan.length := List.length_map _
    refine ⟨Nat.zero_le _, fun t0 nt0 => ?_⟩
    have q1 := same_new (o := .tup []) nt0
    refine ⟨.ref a0, rfl, by show 2 ≤ sizeLine; decide, fun t1 nt1 => ?_⟩
    have q2 := same_new (o := .tup [.ref t0, .ref a0]) nt1
    refine ⟨by show 1 ≤ sizeLine; decide, fun lv nlv => ?_⟩
    have q3 := same_new (o := .lst [.ref t1]) nlv
    have q13 := (q1.trans q2).trans q3
    intro d nd
    have q4 := same_new (o := .dT []) nd
    refine ⟨.ref a0, rfl, upd_same, .bl true, a0, kInt st, rfl, q4 _ _ (q13 _ _ ea0'), ⟨_, _, _, rfl, ?_⟩⟩
    have sD : ∀ b o, b ≠ d → (upd (upd (upd (upd H t0 (.tup [])) t1 (.tup [.ref t0, .ref a0])) lv (.lst [.ref t1])) d (.dT [])) b = some o → (upd (upd (upd (upd (upd H t0 (.tup [])) t1 (.tup [.ref t0, .ref a0])) lv (.lst [.ref t1])) d (.dT [])) d (.dT [(kInt st, .bl true)])) b = some o := fun b o hb e => by rw [upd_ne hb]; exact e
    have hDU : DictU (upd (upd (upd (upd (upd H t0 (.tup [])) t1 (.tup [.ref t0, .ref a0])) lv (.lst [.ref t1])) d (.dT [])) d (.dT [(kInt st, .bl true)])) d (bfsN (stepP pan) pan.length (kInt st) 0) := ⟨[.bl true], rfl, by rw [upd_same]; rfl⟩
    have s1 : Same (upd (upd (upd H t0 (.tup [])) t1 (.tup [.ref t0, .ref a0])) lv (.lst [.ref t1])) (upd (upd (upd (upd (upd H t0 (.tup [])) t1 (.tup [.ref t0, .ref a0])) lv (.lst [.ref t1])) d (.dT [])) d (.dT [(kInt st, .bl true)])) := fun b o e => sD _ _ (ne_of_none e nd) (q4 _ _ e)
    have u1 := s1 _ _ (q3 _ _ (q2 _ _ (upd_same (a := t0) (H := H) (o := .tup []))))
    have u2 := s1 _ _ (q3 _ _ (upd_same (a := t1) (o := .tup [.ref t0, .ref a0])))
    have u3 := s1 _ _ (upd_same (a := lv) (o := .lst [.ref t1]))
    have sH1 := q13.trans s1
    have nlvH : H lv = none := (q1.trans q2).free nlv
    have ndH : H d = none := q13.free nd
    generalize upd (upd (upd (upd (upd H t0 (.tup [])) t1 (.tup [.ref t0, .ref a0])) lv (.lst [.ref t1])) d (.dT [])) d (.dT [(kInt st, .bl true)]) = H1 at sH1 hDU u1 u2 u3 ⊢
    refine ⟨fun m σ H' => ∃ (i : Nat) (as : List Addr) (x6 x7 x8 x9 : Option V), m = 1025 - i ∧ σ = [some v, some (.ref a0), some (.ref g), some (.ref lv), some (.ref d), some (.int (i : Int)), x6, x7, x8, x9] ∧ Same H H' ∧ DictU H' d (bfsN (stepP pan) pan.length (kInt st) i) ∧
      i ≤ (bfsN (stepP pan) pan.length (kInt st) i).length ∧ H' lv = some (.lst (as.map V.ref)) ∧ Paired (WayAt K H') as (bfsN (stepP pan) pan.length (kInt st) i) ∧ (∀ j y, j < i → (bfsN (stepP pan) pan.length (kInt st) i)[j]? = some y → y.1 ≠ kInt gl),
      ⟨1025, 0, [t1], none, none, none, none, rfl, rfl, sH1, hDU, Nat.zero_le _, u3, .cons ⟨t0, a0, u2, .inl (.inl u1), sH1 _ _ ea0'⟩ .nil, fun j y hj => by omega⟩, ?_⟩
    rintro m σ H2 ⟨i, as, x6, x7, x8, x9, rfl, rfl, s2, hDU2, hi, elv, has, hno⟩
    have hM2 := hB i
    have hlas : as.length = (bfsN (stepP pan) pan.length (kInt st) i).length := has.length
    refine ⟨.int (i : Int), rfl, .ref lv, rfl, lv, _, rfl, .inl (.inl (.inl elv)), (i : Int), _, rfl, rfl, decide ((i : Int) < ((as.map V.ref).length : Int)), rfl, ?_⟩
    by_cases hlt : i < as.length
    · rw [decide_eq_true (by rw [List.length_map]; omega)]
      refine iteT ⟨fun σ' H' => ∃ m', m' < 1025 - i ∧ ∃ (i : Nat) (as : List Addr) (x6 x7 x8 x9 : Option V), m' = 1025 - i ∧ σ' = [some v, some (.ref a0), some (.ref g), some (.ref lv), some (.ref d), some (.int (i : Int)), x6, x7, x8, x9] ∧ Same H H' ∧ DictU H' d (bfsN (stepP pan) pan.length (kInt st) i) ∧
        i ≤ (bfsN (stepP pan) pan.length (kInt st) i).length ∧ H' lv = some (.lst (as.map V.ref)) ∧ Paired (WayAt K H') as (bfsN (stepP pan) pan.length (kInt st) i) ∧ (∀ j y, j < i → (bfsN (stepP pan) pan.length (kInt st) i)[j]? = some y → y.1 ≠ kInt gl), fun σ' H' h => h, ?_⟩
      obtain ⟨y, hy⟩ : ∃ y, (bfsN (stepP pan) pan.length (kInt st) i)[i]? = some y := ⟨_, List.getElem?_eq_getElem (by omega)⟩
      obtain ⟨aw, g1, ar, a, ew, sqr, g2⟩ := paired_get has i y hy
      obtain ⟨sy, ey, hsy⟩ := bfs_all (P := PKs pan.length) (step := stepP pan) (n := pan.length) hPK (fun k b hk _ => pks_step hk) i y (List.mem_of_getElem? hy)
      have hnext := bfs_step hy
      have nd2 := bfs_nd (step := stepP pan) (n := pan.length) (s := kInt st) i
      obtain ⟨vs2, _, ed2⟩ := id hDU2
      have lvd : lv ≠ d := ne_of elv ed2 (by intro z; cases z)
      refine ⟨.ref lv, rfl, .int (i : Int), rfl, lv, _, (i : Int), .ref aw, rfl, rfl, .inl (.inl elv), atI_nat (by rw [List.getElem?_map, g1]; rfl), ?_⟩
      refine ⟨aw, _, rfl, .inl (.inl ew), rfl, .ref ar, [.ref a], rfl, .ref a, [], rfl, rfl, ?_⟩
      have dp2 := dp.sm s2
      have da2 : Dp K H2 (.ref a) (dInts sy) := dp_ints (.inl (.inl (by rw [g2, ey, kInt_kV])))
      have dg2 : Dp K H2 (.ref g) (dInts gl) := dp_ints (.inl (.inl (s2 _ _ eg)))
      refine gs_if1 (gvt_test (K := K) (gv_eqD (gv_var rfl da2) (gv_var rfl dg2) (shp_ints _) (shp_ints _))) (fun e H3 s3 => ?_) (fun e H3 s3 => ?_)
      · rw [eqv_dInts] at e
        have e' : sy = gl := of_decide_eq_true e
        refine ⟨.ref ar, rfl, q H3 _ (s2.trans s3) ?_⟩
        have hw := way_hit (bfs_pre (step := stepP pan) (n := pan.length) (s := kInt st) (i := i) (j := 1024) (by omega)) hy (found_nd pan st)
        rw [ey, e'] at hw
        rw [show wayOf (foundM pan st) (kInt gl) = dInts y.2 from hw]
        exact dp_ints (same_sqT s3 sqr)
      have hne : y.1 ≠ kInt gl := fun z => by
        rw [eqv_dInts] at e
        rw [ey] at z
        exact of_decide_eq_false e (kInt_inj z)
      replace s2 := s2.trans s3
      replace dp2 := dp2.sm s3
      replace hDU2 := hDU2.same s3
      replace elv := s3 _ _ elv
      replace has := has.mono fun (a : Addr) (x : List Key × List Int) (e : WayAt K H2 a x) => e.same s3
      replace g2 := s3 _ _ g2
      replace sqr := same_sqT s3 sqr
      replace ed2 := s3 _ _ ed2
      clear da2 dg2 ew e
      refine gs_range (gv_lenT (gv_var rfl dp2)) (by rw [hlp]; omega) (fun Ha b σ H' => But2 d lv H3 H' ∧ DictU H' d (procB (stepP pan) (bfsN (stepP pan) pan.length (kInt st) i) y.1 y.2 b) ∧ (∃ ls : List Addr, H' lv = some (.lst (ls.map V.ref)) ∧ Paired (WayAt K H') ls (procB (stepP pan) (bfsN (stepP pan) pan.length (kInt st) i) y.1 y.2 b)) ∧
          ∃ x8 x9, σ = [some v, some (.ref a0), some (.ref g), some (.ref lv), some (.ref d), some (.int (i : Int)), some (.ref ar), some (.ref a), x8, x9])
        (fun H6 s6 => ⟨fun b o _ _ e => s6 _ _ e, hDU2.same s6, ⟨as, s6 _ _ elv, has.mono fun (a : Addr) (x : List Key × List Int) (e : WayAt K H3 a x) => e.same s6⟩, _, _, rfl⟩) (fun H6 b σ H7 s6 hb hP => ?_) (fun H6 σ H7 s6 hP => ?_)
      · rw [hlp] at hb
        obtain ⟨b7, hDB7, ⟨ls7, elv7, hls7⟩, x6, x7, rfl⟩ := hP
        have kp27 : Kp H3 H7 := kp_but2 b7 ed2 elv
        have ea7 := kp27.1 _ _ g2
        have sq7 := sqT_kp kp27 sqr
        have dp7 : Dp K H7 v (dPan pan) := dp2.kp kp27
        have da7 : Dp K H7 (.ref a) (dInts sy) := dp_ints (.inl (.inl (by rw [ea7, ey, kInt_kV])))
        refine ⟨v, rfl, .ref a, rfl, .int (b : Int), rfl, pan, sy, (b : Int), .cons dp7 (.cons da7 (.cons (.int _) .nil)), hsy, few, by omega, by omega, fun H8 ta s8 eta => ?_⟩
        replace eta : H8 ta = some (.tup ((stepP pan y.1 b).map kV)) := by rw [eta]; unfold stepP; rw [ey, unK_kInt, kInt_kV]
        have hDB8 := hDB7.same s8
        have nd8 := procB_nd (step := stepP pan) (k := y.1) (r := y.2) nd2 b
        have hlen8 : (procB (stepP pan) (bfsN (stepP pan) pan.length (kInt st) i) y.1 y.2 b).length ≤ 1024 := by
          have h1 : procB (stepP pan) (bfsN (stepP pan) pan.length (kInt st) i) y.1 y.2 b <+: bfsN (stepP pan) pan.length (kInt st) (i + 1) := by
            rw [hnext]
            have : ∀ m, b ≤ m → procB (stepP pan) (bfsN (stepP pan) pan.length (kInt st) i) y.1 y.2 b <+: procB (stepP pan) (bfsN (stepP pan) pan.length (kInt st) i) y.1 y.2 m := fun m hm => by
              induction m with
              | zero => have : b = 0 := by omega
                        subst this; exact List.prefix_refl _
              | succ m ih =>
                by_cases e : b = m + 1
                · subst e; exact List.prefix_refl _
                · rw [procB_succ]; exact (ih (by omega)).trans (addK_pre _ _ _)
            exact this _ (Nat.le_of_lt hb)
          exact Nat.le_trans h1.length_le (hB (i + 1))
        have b28 : But2 d lv H3 H8 := fun c o h1 h2 e => s8 _ _ (b7 c o h1 h2 e)
        have elv8 := s8 _ _ elv7
        have hls8 := hls7.mono fun (a : Addr) (x : List Key × List Int) (e : WayAt K H7 a x) => e.same s8
        by_cases hin : stepP pan y.1 b ∈ (procB (stepP pan) (bfsN (stepP pan) pan.length (kInt st) i) y.1 y.2 b).map (·.1)
        · obtain ⟨vv, gv⟩ := hDB8.some nd8 hin eta
          refine ⟨.ref ta, rfl, .ref d, rfl, d, some vv, rfl, gv, false, rfl, iteF ?_⟩
          have e1 : procB (stepP pan) (bfsN (stepP pan) pan.length (kInt st) i) y.1 y.2 (b + 1) = procB (stepP pan) (bfsN (stepP pan) pan.length (kInt st) i) y.1 y.2 b := by rw [procB_succ]; unfold addK; rw [if_pos hin]
          exact ⟨b28, by rw [e1]; exact hDB8, ⟨ls7, elv8, by rw [e1]; exact hls8⟩, _, _, rfl⟩
        · have gn := hDB8.none hin eta
          refine ⟨.ref ta, rfl, .ref d, rfl, d, none, rfl, gn, true, rfl, iteT ?_⟩
          have e1 : procB (stepP pan) (bfsN (stepP pan) pan.length (kInt st) i) y.1 y.2 (b + 1) = procB (stepP pan) (bfsN (stepP pan) pan.length (kInt st) i) y.1 y.2 b ++ [(stepP pan y.1 b, y.2 ++ [(b : Int)])] := by rw [procB_succ]; unfold addK; rw [if_neg hin]
          have hrow := (bfs_rows (step := stepP pan) (n := pan.length) (s := kInt st) i y (List.mem_of_getElem? hy)).1
          obtain ⟨H9, hput, hDB9, kp9, keep9⟩ := hDB8.put hin eta (v := .bl true) (r := y.2 ++ [(b : Int)]) (by omega)
          refine ⟨.ref d, rfl, .ref ta, rfl, d, H9, rfl, hput, ?_⟩
          have elv9 := keep9 _ _ lvd elv8
          have lls : ls7.length ≤ 1024 := by have := hls7.length; omega
          refine ⟨.ref lv, rfl, .inl ⟨rfl, _, .inl (.inl elv9)⟩, .ref ar, rfl, .int (b : Int), rfl, by show 1 ≤ sizeLine; decide, fun T nT => ?_⟩
          have sT := same_new (o := .tup [.int (b : Int)]) nT
          refine ⟨ar, T, _, _, rfl, rfl, same_sqT sT (sqT_kp kp9 (same_sqT s8 sq7)), .inl (.inl upd_same), by rw [List.length_map]; exact Nat.le_of_lt (small5 (by show _ + 1 ≤ _; omega)), fun T2 H10 s10 sq2 => ?_⟩
          have s910 := sT.trans s10
          refine ⟨.ref ta, rfl, by show 2 ≤ sizeLine; decide, fun W nW => ?_⟩
          have sW := same_new (o := .tup [.ref T2, .ref ta]) nW
          have s9W := s910.trans sW
          have elvW := s9W _ _ elv9
          refine ⟨lv, _, .ref W, rfl, rfl, elvW, by rw [List.length_map]; exact small5 (by omega), ?_⟩
          have kpl := Kp.upd (o := .lst (ls7.map V.ref ++ [.ref W])) elvW
          have etaW := s9W _ _ (kp9.1 _ _ eta)
          refine ⟨fun c o h1 h2 e => by rw [upd_ne h2]; exact s9W _ _ (keep9 _ _ h1 (b28 c o h1 h2 e)), ?_, ⟨ls7 ++ [W], by rw [upd_same, List.map_append]; rfl, ?_⟩, _, _, rfl⟩
          · rw [e1]
            obtain ⟨vs9, l9, e9⟩ := hDB9
            exact ⟨vs9, l9, by rw [upd_ne (Ne.symm lvd)]; exact s9W _ _ e9⟩
          · rw [e1]
            exact Paired.snoc (hls8.mono fun (a : Addr) (x : List Key × List Int) (e : WayAt K H8 a x) => ((e.kp kp9).same s9W).kp kpl) ⟨T2, ta, kpl.1 _ _ upd_same, by rw [List.map_append]; exact sqT_kp kpl (same_sqT sW sq2), kpl.1 _ _ etaW⟩
      · rw [hlp] at hP
        obtain ⟨b7, hDB7, ⟨ls7, elv7, hls7⟩, x6, x7, rfl⟩ := hP
        rw [← hnext] at hDB7 hls7
        refine ⟨.int (i : Int), rfl, (i : Int), 1, rfl, rfl, 1025 - (i + 1), by omega, i + 1, ls7, _, _, _, _, rfl, rfl, fun c o e => b7 c o (ne_of_none e ndH) (ne_of_none e nlvH) (s2 _ _ e), hDB7, ?_, elv7, hls7, fun j z hj hz => ?_⟩
        · have := (bfs_succ_pre (step := stepP pan) (n := pan.length) (s := kInt st) i).length_le
          omega
        · rw [pre_get (bfs_succ_pre (step := stepP pan) (n := pan.length) (s := kInt st) i) (by omega)] at hz
          by_cases ej : j = i
          · rw [ej, hy] at hz; cases hz; exact hne
          · exact hno j z (by omega) hz
    · rw [decide_eq_false (by rw [List.length_map]; omega)]
      refine iteF (q H2 _ s2 ?_)
      unfold foundM
      rw [bfs_stop (i := i) (by omega) (j := 1024) (by omega), way_miss fun x hx => by
        obtain ⟨j, hj⟩ := List.getElem?_of_mem hx
        exact hno j x (by have := (List.getElem?_eq_some_iff.mp hj).1; omega) hj]
      exact .non
end
def nDue : List Str := ["_law_state_here", "_law_goal"]
theorem scDue : FnScope nDue ["_law_state_here", "_law_goal"] (defScope sDue) := ⟨rfl, rfl, rfl, by decide +kernel, rfl, by decide +kernel, by decide +kernel⟩
section
variable {P : Program} {w : World} {K : PySem.W.Frag} {mg : Str → Option Value} {base : Heap}
def spDue (K : PySem.W.Frag) : Sp := fun vs H Q _ => ∃ (S l g : Addr) (vp : V) (pan : List (List Int)) (st gl : List Int), vs = [.ref S, .ref g] ∧ H S = some (.lst [vp, .ref l]) ∧ Dp K H vp (dPan pan) ∧ H l = some (.tup (st.map V.int)) ∧ H g = some (.tup (gl.map V.int)) ∧ Good pan ∧ Asc pan.length st ∧ ∀ H', Same H H' → Q (.str (dVer (pan, st) gl).shown) H'
theorem ok_Due {fPressed : Addr} {fdPressed : FuncData} {fLWay : Addr} {fdLWay : FuncData} {f : Addr} {fd : FuncData} {k : Nat} (F : Fun K "_law_due" "_law_due" sDue f fd)
    (FPressed : Fun K "_law_pressed" "_law_pressed" sPressed fPressed fdPressed) (bPressed : Binds K fdPressed ["_law_panel_here", "_law_state_here", "_law_button"] []) (gPressed : mg "_law_pressed" = some (.ref fPressed))
    (FLWay : Fun K "_law_way" "_law_way" sLWay fLWay fdLWay) (bLWay : Binds K fdLWay ["_law_panel_here", "_law_start", "_law_goal"] []) (gLWay : mg "_law_way" = some (.ref fLWay))
    (m_len : mg "len" = none) (m_range : mg "range" = none) (m_repr : mg "repr" = none) (m_sorted : mg "sorted" = none) (m_tuple : mg "tuple" = none) {C CV CU CR CBs CBe dV CP C2 : Addr} (T : TxtD K mg C) (DX : DM P w K mg base C CV CU CR CBs CBe dV CP C2) : FnG P w K mg base (k + 14) f fd ["_law_state_here", "_law_goal"] (spDue K) := by
  have DX0 := DX
  obtain ⟨fInitD, fdInitD, bInitD, MkD, GInitD, fState, fdState, dsState, vState, kbState, bState, hState, GState, fWayTo, fdWayTo, dsWayTo, vWayTo, kbWayTo, bWayTo, hWayTo, GWayTo, fUndo, fdUndo, bUndo, hUndo, GUndo, fEdits, fdEdits, bEdits, hEdits, GEdits, fLenD, fdLenD, bLenD, xLenD, yLenD, GLenD, fStrD, fdStrD, bStrD, xStrD, yStrD, GStrD, fAt, fdAt, dsAt, vAt, bAt, kbAt, hAt, GAt, YV, YA⟩ := DX0
  have GLWay : FnOk P w K mg base CX0 (k + 2) fLWay fdLWay ["_law_panel_here", "_law_start", "_law_goal"] (spLWay K) := ok_LWay FLWay FPressed bPressed gPressed m_len m_range m_sorted m_tuple
  refine okG F scDue (fun vs H Q E h => ?_) (fun cdv A outer s H vs Q E gd hr h => ?_)
  · obtain ⟨S, l, g, vp, pan, st, gl, rfl, _⟩ := h
    rfl
  · obtain ⟨S, l, g, vp, pan, st, gl, rfl, eS, dp, el, eg, hg, hst, q⟩ := h
    refine ⟨_, pss_one (ps_ret (pe_callB (show CallR _ _ (rReprA K) from cr_reprA gd hr) (by rfl) m_repr (by decide +kernel) (pa_cons (pe_lst (pa_cons (pe_callTy (show CallR _ _ (rTupG K) from cr_tupG) (by rfl) m_tuple (by decide +kernel) (pa_cons (pv 0) pa_nil)) (pa_cons (pe_call GLWay (hr.mono (by omega)) (by rfl) gLWay FLWay.kp bLWay .nil pass0 (pa_cons (pe_ix (show IxR _ (rIxL K) from ix_list) (pv 0) pe_int (fun _ _ => rfl)) (pa_cons (pe_ix (show IxR _ (rIxL K) from ix_list) (pv 0) pe_int (fun _ _ => rfl)) (pa_cons (pv 1) pa_nil)))) pa_nil))) pa_nil))), ?_⟩
    obtain ⟨W, hW⟩ : ∃ W, W = wayOf (foundM pan st) (kInt gl) := ⟨_, rfl⟩
    refine gs_ret (K := K) (gv_reprA (d := dVer (pan, st) gl) ((gv_lst (gva_cons (d := .tuple [dPan pan, dInts st]) (gv_tupL (gv_var (i := 0) rfl (.lst (.inl (.inl eS)) (.cons dp (.cons (dp_ints (.inl (.inl el))) .nil))))) (gva_cons (d := W) (fun H1 s Q q => ?_) gva_nil))).to (by rw [dVer_eq, hW])) (rep_ver (y := (pan, st)) hg hst gl)) fun u H1 s1 du => ?_
    · exact ⟨.ref S, rfl, S, _, _, vp, rfl, rfl, .inl (.inl (s _ _ eS)), rfl, .ref S, rfl, S, _, _, .ref l, rfl, rfl, .inl (.inl (s _ _ eS)), rfl, .ref g, rfl, vp, l, g, pan, st, gl, rfl, dp.sm s, s _ _ el, s _ _ eg, hg.few, hst, fun H2 w s2 dw => q w H2 s2 (by rw [hW]; exact dw)⟩
    · generalize (dVer (pan, st) gl).shown = z at du q
      cases du
      exact q H1 s1
end
def nNoV : List Str := ["_law_table", "_law_past", "_law_found", "e"]
theorem scNoV : FnScope nNoV ["_law_table", "_law_past"] (defScope sNoV) := ⟨rfl, rfl, rfl, by decide +kernel, rfl, by decide +kernel, by decide +kernel⟩
section
variable {P : Program} {w : World} {K : PySem.W.Frag} {mg : Str → Option Value} {base : Heap}
def spNoV (K : PySem.W.Frag) (C : Addr) : Sp := fun vs H Q _ => ∃ (t : Addr) (pan : List (List Int)) (st : List Int) (past : List (PyData × List (List Int) × List Int)) (i : Int), vs = [.ref t, .int i] ∧ DeskAt K C H t pan st past ∧ verM pan st past (.int i) = none ∧ ∀ H', Same H H' → Q (.bl true) H'
theorem ok_NoV {f C CV CU CR CBs CBe dV CP C2 : Addr} {fd : FuncData} {k : Nat} (F : Fun K "_law_no_version" "_law_no_version" sNoV f fd)  (T : TxtD K mg C) (DX : DM P w K mg base C CV CU CR CBs CBe dV CP C2) : FnOk P w K mg base CX0 (k + 4) f fd ["_law_table", "_law_past"] (spNoV K C) := by
  obtain ⟨fInitD, fdInitD, bInitD, MkD, GInitD, fState, fdState, dsState, vState, kbState, bState, hState, GState, fWayTo, fdWayTo, dsWayTo, vWayTo, kbWayTo, bWayTo, hWayTo, GWayTo, fUndo, fdUndo, bUndo, hUndo, GUndo, fEdits, fdEdits, bEdits, hEdits, GEdits, fLenD, fdLenD, bLenD, xLenD, yLenD, GLenD, fStrD, fdStrD, bStrD, xStrD, yStrD, GStrD, fAt, fdAt, dsAt, vAt, bAt, kbAt, hAt, GAt, YV, YA⟩ := DX
  refine F.ok scNoV (fun vs H Q E h => ?_) (fun cdv A outer s H vs Q E hr h => ?_)
  · obtain ⟨t, pan, st, past, i, rfl, _⟩ := h
    rfl
  · obtain ⟨t, pan, st, past, i, rfl, hD, hv, q⟩ := h
    refine ⟨_, pss_cons (ps_set (i := 2) scNoV.nd rfl (.inl rfl) pe_non) (pss_cons (ps_try_first (i := 3) (c := .ref CV) rfl rfl scNoV.nd rfl rfl ⟨rfl, by decide, Or.inl YV.g⟩
        (fun W pn xe tk _ => pss_one (ps_set (i := 2) scNoV.nd rfl (.inl rfl) (pe_lst (pa_cons (by exact (pe_methNE0 (pv 0) T.cl hState GState (hr.mono (by omega)) kbState (fun σ => passAt tk σ) (pk_cons (pv 1) pk_nil))) pa_nil))))
        (fun a oe cls d pn hz hf => pss_one (ps_set (i := 2) scNoV.nd rfl (.inl rfl) (pe_xf YV.xf YV.noN hz hf (pv 3)))))
      (pss_one (ps_ret (pe_cmpR op_eq (pv 2) (pv 1) (nomark _))))), ?_⟩
    refine hD.at fun dx fs e l => ⟨.ref t, rfl, t, dx, fs, rfl, e, l _ (by decide +kernel), .int i, rfl, rfl, rfl, fun _ => False, t, .int i, .int i, pan, st, past, rfl, hD, .int i, (fun y ey => by rw [hv] at ey; cases ey), fun _ H1 dd s1 ea => ?_⟩
    refine ⟨YV.m1, fun a na => ?_⟩
    refine ⟨.ref a, rfl, rfl, rfl, dd, _, .int i, rfl, ea, rfl, ?_⟩
    refine gs_ret (K := K) (gv_eqI (gv_var rfl (.int i)) (gv_var rfl (.int i))) fun v H2 s2 dv => ?_
    cases dv
    rw [decide_eq_true rfl]
    exact q H2 (s1.trans s2)
end
end K48
namespace K48
open PySem PySem.Spec PyProof.Rows L2 Pr
def nAttd : List Str := ["_law_table", "_law_batch_here", "_law_flags", "e"]
theorem scAttd : FnScope nAttd ["_law_table", "_law_batch_here"] (defScope sAttd) := ⟨rfl, rfl, rfl, by decide +kernel, rfl, by decide +kernel, by decide +kernel⟩
section
variable {P : Program} {w : World} {K : PySem.W.Frag} {mg : Str → Option Value} {base : Heap}
def spAttd (K : PySem.W.Frag) (C dV : Addr) : Sp := fun vs H Q _ => ∃ (N : Addr → Prop) (t : Addr) (pan : List (List Int)) (st : List Int) (past : List (PyData × List (List Int) × List Int)) (v : V) (d : PyData), vs = [.ref t, v] ∧ DeskAt K C H t pan st past ∧ past.length ≤ 1000 ∧ DqO K N H v d ∧ (∀ ds, seqD d = some ds → ∀ x ∈ ds, WdOk K dV x) ∧
  (((∀ ds, seqD d = some ds → 20 < ds.length) ∧ ∀ H' R, Same H H' → H' R = some (.lst [.str "bad edits"]) → Q (.ref R) H') ∨
   (∃ ds, seqD d = some ds ∧ ds.length ≤ 20 ∧ past.length + ds.length ≤ 60 ∧
     ((∃ i x, ds[i]? = some x ∧ isEdB x = false ∧ (∀ j y, j < i → ds[j]? = some y → isEdB y = true) ∧ ∀ H' R, Same H H' → H' R = some (.lst [.str "bad edit", .int (i : Nat)]) → Q (.ref R) H') ∨
      ((∀ x ∈ ds, isEdB x = true) ∧
       ((∃ pan' st' xs, Eds pan st ds pan' st' xs ∧ ∀ H', ButO t H H' → DeskAt K C H' t pan' st' (past ++ xs) → Q (.int (ds.length : Nat)) H') ∨
        (∃ (gs : List PyData) (b : PyData) (rs : List PyData), ds = gs ++ b :: rs ∧ ∃ pan' st' xs, Eds pan st gs pan' st' xs ∧ RefD pan' b ∧ ∀ H' R, ButO t H H' → DeskAt K C H' t pan st past → H' R = some (.lst [.str "rejected", .int (gs.length : Nat)]) → Q (.ref R) H'))))))
theorem ok_Attd {f C CV CU CR CBs CBe dV CP C2 : Addr} {fd : FuncData} {k : Nat} (F : Fun K "_law_attempted" "_law_attempted" sAttd f fd) (m_isinstance : mg "isinstance" = none) (m_ValueError : mg "ValueError" = none) (m_len : mg "len" = none) (T : TxtD K mg C) (DX : DM P w K mg base C CV CU CR CBs CBe dV CP C2) : FnOk P w K mg base CX0 (k + 10) f fd ["_law_table", "_law_batch_here"] (spAttd K C dV) := by
  obtain ⟨fInitD, fdInitD, bInitD, MkD, GInitD, fState, fdState, dsState, vState, kbState, bState, hState, GState, fWayTo, fdWayTo, dsWayTo, vWayTo, kbWayTo, bWayTo, hWayTo, GWayTo, fUndo, fdUndo, bUndo, hUndo, GUndo, fEdits, fdEdits, bEdits, hEdits, GEdits, fLenD, fdLenD, bLenD, xLenD, yLenD, GLenD, fStrD, fdStrD, bStrD, xStrD, yStrD, GStrD, fAt, fdAt, dsAt, vAt, bAt, kbAt, hAt, GAt, YV, YA⟩ := DX
  refine F.ok scAttd (fun vs H Q E h => ?_) (fun cdv A outer s H vs Q E hr h => ?_)
  · obtain ⟨N, t, pan, st, past, v, d, rfl, _⟩ := h
    rfl
  · obtain ⟨N, t, pan, st, past, v, d, rfl, hD, few, hd, hw, q⟩ := h
    refine ⟨_, pss_one (ps_try_nm rfl rfl scAttd.nd
        (fun W pn xe tk _ => pss_cons (ps_if (pt_cmpR op_eq (pe_op op_mod (pe_callB (show CallR _ _ (rLenO C (spLenD K C)) from cr_lenO GLenD (hr.mono (by omega)) bLenD xLenD yLenD) (by rfl) m_len PySem.boot_len (pa_cons (pv 0) pa_nil)) pe_int) pe_int (nomark _)) (pss_one (ps_ret (by exact (pe_methNE (E := WE W) (pv 0) T.cl hAt GAt (hr.mono (by omega)) kbAt (fun σ => passAt tk σ) (pa_cons (pv 1) pa_nil) (pk_cons pe_non pk_nil))))) pss_nil)
          (pss_one (ps_ret (by exact (pe_methDE (E := WE W) (pv 0) T.cl hAt GAt (hr.mono (by omega)) bAt vAt (fun σ => passAt tk σ) (pa_cons (pv 1) pa_nil))))))
        (by exact (HdN.one (c := .ref CP) (i := 3) rfl rfl ⟨rfl, by decide, Or.inl YA.gP⟩ (fun a oe cls d pn hz hf => pss_cons (ps_set (i := 2) scAttd.nd rfl (.inl rfl) (pe_lst (pa_cons (pe_callB (call_isZ hz hf) (by rfl) m_isinstance (by decide +kernel) (pa_cons (pv 3) (pa_cons (pe_glob (v := .ref CR) (by rfl) YA.gR rfl) pa_nil))) (pa_cons (pe_callB (call_isZ hz hf) (by rfl) m_isinstance (by decide +kernel) (pa_cons (pv 3) (pa_cons (pe_glob (v := .ref CBe) (by rfl) YA.gE rfl) pa_nil))) (pa_cons (pe_callB (call_isZ hz hf) (by rfl) m_isinstance (by decide +kernel) (pa_cons (pv 3) (pa_cons (pe_glob (v := .ref CBs) (by rfl) YA.gS rfl) pa_nil))) pa_nil)))))
          (pss_cons (ps_if (PW.pt (pw_or (pt_cmpR op_ne (show PE _ _ (tBM K "list" (rCntB K) _ _) from pe_bm PySem.F.plainAttrs_list PySem.F.slot_list_count PySem.F.type_list_count mt_cntB (pv 2) (pa_cons pe_bl pa_nil)) pe_int (nomark _)) (pw_or (pt_not (pt_val (pe_callB (call_isZ hz hf) (by rfl) m_isinstance (by decide +kernel) (pa_cons (pv 3) (pa_cons (pe_bltn (v := .ty "ValueError") (by rfl) m_ValueError (by decide +kernel) rfl) pa_nil))))) (pw_or1 (pt_val (pe_callB (call_isZT hz hf) (by rfl) m_isinstance (by decide +kernel) (pa_cons (pv 3) (pa_cons (pe_tup (pa_cons (pe_glob (v := .ref C2) (by rfl) YA.g2 rfl) (pa_cons (pe_glob (v := .ref CU) (by rfl) YA.gU rfl) pa_nil))) pa_nil)))))))) (pss_one (ps_ret (pe_lst (pa_cons pe_str pa_nil)))) pss_nil)
          (pss_cons (ps_if (pt_val (pe_ix (show IxR _ (rIxL K) from ix_list) (pv 2) pe_int (fun _ _ => rfl))) (pss_one (ps_ret (pe_lst (pa_cons pe_str (pa_cons (pe_xfZ hz hf (pv 3)) pa_nil))))) pss_nil)
          (pss_cons (ps_if (pt_val (pe_ix (show IxR _ (rIxL K) from ix_list) (pv 2) pe_int (fun _ _ => rfl))) (pss_one (ps_ret (pe_lst (pa_cons pe_str (pa_cons (pe_xfZ hz hf (pv 3)) pa_nil))))) pss_nil)
          (pss_one (ps_ret (pe_lst (pa_cons pe_str pa_nil)))))))) HdN.none))), ?_⟩
    rcases q with ⟨hbig, q⟩ | ⟨ds, eds, f20, f60, q⟩
    · skip
      refine gs_if (gvt_test (K := K) (gv_eqI (gv_I (gv_lenD (i := 0) rfl hD few) (gv_int (i := 2)) (by decide) (fun _ => .int _)) gv_int)) (fun _ H1 s1 => ?_) (fun _ H1 s1 => ?_)
      · have hD1 := hD.same s1
        refine hD1.at fun dx fs e1 l1 => ⟨.ref t, rfl, t, dx, fs, rfl, e1, l1 _ (by decide +kernel), v, rfl, rfl, rfl, N, t, pan, st, past, [], v, d, rfl, hD1, hd.same s1, hw, .inl ⟨hbig, fun H0 s0 => ?_⟩⟩
        refine ⟨true, YA.mS, fun _ a na => ?_, fun z => by cases z⟩
        refine ⟨.ref a, rfl, CBs, YA.excS, ⟨rfl, .inl rfl⟩, .ref CR, _, false, rfl, .own CR, YA.kSR, .ref a, rfl, CBs, YA.excS, ⟨rfl, .inl rfl⟩, .ref CBe, _, false, rfl, .own CBe, YA.kSE, .ref a, rfl, CBs, YA.excS, ⟨rfl, .inl rfl⟩, .ref CBs, _, true, rfl, .own CBs, kit_selfY, by show 3 ≤ sizeLine; decide, fun lf nlf => ?_⟩
        have sf := same_new (o := .lst [.bl false, .bl false, .bl true]) nlf
        have ef : upd H0 lf (.lst [.bl false, .bl false, .bl true]) lf = some (.lst [.bl false, .bl false, .bl true]) := upd_same
        generalize upd H0 lf (.lst [.bl false, .bl false, .bl true]) = H2 at sf ef ⊢
        refine ⟨.ref lf, rfl, .inl ⟨rfl, _, .inl (.inl ef)⟩, lf, [false, false, true], true, rfl, rfl, .inl (.inl ef), rfl, _, rfl, iteF ?_⟩
        refine ⟨.ref a, rfl, CBs, YA.excS, ⟨rfl, .inl rfl⟩, .ty "ValueError", _, true, rfl, .ty _, YA.kVS, true, rfl, iteF ?_⟩
        refine ⟨.ref a, rfl, by show 2 ≤ sizeLine; decide, fun tp ntp => ?_⟩
        have sT := same_new (o := .tup [.ref C2, .ref CU]) ntp
        have eT : upd H2 tp (.tup [.ref C2, .ref CU]) tp = some (.tup [.ref C2, .ref CU]) := upd_same
        generalize upd H2 tp (.tup [.ref C2, .ref CU]) = H3 at sT eT ⊢
        refine ⟨CBs, YA.excS, ⟨rfl, .inl rfl⟩, tp, _, [.ref C2, .ref CU], false, rfl, eT, .cons (.own C2) (.cons (.own CU) .nil), YA.kTS, false, rfl, iteF ?_⟩
        refine ⟨.ref lf, rfl, lf, _, 0, .bl false, rfl, rfl, .inl (.inl (sT _ _ ef)), rfl, false, rfl, iteF ?_⟩
        refine ⟨.ref lf, rfl, lf, _, 1, .bl false, rfl, rfl, .inl (.inl (sT _ _ ef)), rfl, false, rfl, iteF ?_⟩
        refine ⟨by show 1 ≤ sizeLine; decide, fun R nR => ?_⟩
        have sR := same_new (o := .lst [.str "bad edits"]) nR
        exact q _ R ((((s1.trans s0).trans sf).trans sT).trans sR) upd_same
      · have hD1 := hD.same s1
        refine hD1.at fun dx fs e1 l1 => ⟨.ref t, rfl, t, dx, fs, rfl, e1, l1 _ (by decide +kernel), v, rfl, N, t, pan, st, past, [], v, d, rfl, hD1, hd.same s1, hw, .inl ⟨hbig, fun H0 s0 => ?_⟩⟩
        refine ⟨true, YA.mS, fun _ a na => ?_, fun z => by cases z⟩
        refine ⟨.ref a, rfl, CBs, YA.excS, ⟨rfl, .inl rfl⟩, .ref CR, _, false, rfl, .own CR, YA.kSR, .ref a, rfl, CBs, YA.excS, ⟨rfl, .inl rfl⟩, .ref CBe, _, false, rfl, .own CBe, YA.kSE, .ref a, rfl, CBs, YA.excS, ⟨rfl, .inl rfl⟩, .ref CBs, _, true, rfl, .own CBs, kit_selfY, by show 3 ≤ sizeLine; decide, fun lf nlf => ?_⟩
        have sf := same_new (o := .lst [.bl false, .bl false, .bl true]) nlf
        have ef : upd H0 lf (.lst [.bl false, .bl false, .bl true]) lf = some (.lst [.bl false, .bl false, .bl true]) := upd_same
        generalize upd H0 lf (.lst [.bl false, .bl false, .bl true]) = H2 at sf ef ⊢
        refine ⟨.ref lf, rfl, .inl ⟨rfl, _, .inl (.inl ef)⟩, lf, [false, false, true], true, rfl, rfl, .inl (.inl ef), rfl, _, rfl, iteF ?_⟩
        refine ⟨.ref a, rfl, CBs, YA.excS, ⟨rfl, .inl rfl⟩, .ty "ValueError", _, true, rfl, .ty _, YA.kVS, true, rfl, iteF ?_⟩
        refine ⟨.ref a, rfl, by show 2 ≤ sizeLine; decide, fun tp ntp => ?_⟩
        have sT := same_new (o := .tup [.ref C2, .ref CU]) ntp
        have eT : upd H2 tp (.tup [.ref C2, .ref CU]) tp = some (.tup [.ref C2, .ref CU]) := upd_same
        generalize upd H2 tp (.tup [.ref C2, .ref CU]) = H3 at sT eT ⊢
        refine ⟨CBs, YA.excS, ⟨rfl, .inl rfl⟩, tp, _, [.ref C2, .ref CU], false, rfl, eT, .cons (.own C2) (.cons (.own CU) .nil), YA.kTS, false, rfl, iteF ?_⟩
        refine ⟨.ref lf, rfl, lf, _, 0, .bl false, rfl, rfl, .inl (.inl (sT _ _ ef)), rfl, false, rfl, iteF ?_⟩
        refine ⟨.ref lf, rfl, lf, _, 1, .bl false, rfl, rfl, .inl (.inl (sT _ _ ef)), rfl, false, rfl, iteF ?_⟩
        refine ⟨by show 1 ≤ sizeLine; decide, fun R nR => ?_⟩
        have sR := same_new (o := .lst [.str "bad edits"]) nR
        exact q _ R ((((s1.trans s0).trans sf).trans sT).trans sR) upd_same
    rcases q with ⟨i, x, hi, hx, hlt, q⟩ | ⟨all, q⟩
    · skip
      refine gs_if (gvt_test (K := K) (gv_eqI (gv_I (gv_lenD (i := 0) rfl hD few) (gv_int (i := 2)) (by decide) (fun _ => .int _)) gv_int)) (fun _ H1 s1 => ?_) (fun _ H1 s1 => ?_)
      · have hD1 := hD.same s1
        refine hD1.at fun dx fs e1 l1 => ⟨.ref t, rfl, t, dx, fs, rfl, e1, l1 _ (by decide +kernel), v, rfl, rfl, rfl, N, t, pan, st, past, [], v, d, rfl, hD1, hd.same s1, hw, .inr ⟨ds, eds, f20, f60, .inl ⟨i, x, hi, hx, hlt, fun H0 dd s0 ea => ?_⟩⟩⟩
        refine ⟨true, YA.mE, fun _ a na => ?_, fun z => by cases z⟩
        refine ⟨.ref a, rfl, CBe, YA.excE, ⟨rfl, .inr ⟨dd, _, rfl, ea⟩⟩, .ref CR, _, false, rfl, .own CR, YA.kER, .ref a, rfl, CBe, YA.excE, ⟨rfl, .inr ⟨dd, _, rfl, ea⟩⟩, .ref CBe, _, true, rfl, .own CBe, kit_selfY, .ref a, rfl, CBe, YA.excE, ⟨rfl, .inr ⟨dd, _, rfl, ea⟩⟩, .ref CBs, _, false, rfl, .own CBs, YA.kES, by show 3 ≤ sizeLine; decide, fun lf nlf => ?_⟩
        have sf := same_new (o := .lst [.bl false, .bl true, .bl false]) nlf
        have ef : upd H0 lf (.lst [.bl false, .bl true, .bl false]) lf = some (.lst [.bl false, .bl true, .bl false]) := upd_same
        generalize upd H0 lf (.lst [.bl false, .bl true, .bl false]) = H2 at sf ef ⊢
        refine ⟨.ref lf, rfl, .inl ⟨rfl, _, .inl (.inl ef)⟩, lf, [false, true, false], true, rfl, rfl, .inl (.inl ef), rfl, _, rfl, iteF ?_⟩
        refine ⟨.ref a, rfl, CBe, YA.excE, ⟨rfl, .inr ⟨dd, _, rfl, sf _ _ ea⟩⟩, .ty "ValueError", _, true, rfl, .ty _, YA.kVE, true, rfl, iteF ?_⟩
        refine ⟨.ref a, rfl, by show 2 ≤ sizeLine; decide, fun tp ntp => ?_⟩
        have sT := same_new (o := .tup [.ref C2, .ref CU]) ntp
        have eT : upd H2 tp (.tup [.ref C2, .ref CU]) tp = some (.tup [.ref C2, .ref CU]) := upd_same
        generalize upd H2 tp (.tup [.ref C2, .ref CU]) = H3 at sT eT ⊢
        refine ⟨CBe, YA.excE, ⟨rfl, .inr ⟨dd, _, rfl, sT _ _ (sf _ _ ea)⟩⟩, tp, _, [.ref C2, .ref CU], false, rfl, eT, .cons (.own C2) (.cons (.own CU) .nil), YA.kTE, false, rfl, iteF ?_⟩
        refine ⟨.ref lf, rfl, lf, _, 0, .bl false, rfl, rfl, .inl (.inl (sT _ _ ef)), rfl, false, rfl, iteF ?_⟩
        refine ⟨.ref lf, rfl, lf, _, 1, .bl true, rfl, rfl, .inl (.inl (sT _ _ ef)), rfl, true, rfl, iteT ?_⟩
        refine ⟨CBe, YA.xfE, YA.noE, .ref a, rfl, rfl, rfl, dd, _, .int (i : Nat), rfl, sT _ _ (sf _ _ ea), rfl, by show 2 ≤ sizeLine; decide, fun R nR => ?_⟩
        have sR := same_new (o := .lst [.str "bad edit", .int (i : Nat)]) nR
        exact q _ R ((((s1.trans s0).trans sf).trans sT).trans sR) upd_same
      · have hD1 := hD.same s1
        refine hD1.at fun dx fs e1 l1 => ⟨.ref t, rfl, t, dx, fs, rfl, e1, l1 _ (by decide +kernel), v, rfl, N, t, pan, st, past, [], v, d, rfl, hD1, hd.same s1, hw, .inr ⟨ds, eds, f20, f60, .inl ⟨i, x, hi, hx, hlt, fun H0 dd s0 ea => ?_⟩⟩⟩
        refine ⟨true, YA.mE, fun _ a na => ?_, fun z => by cases z⟩
        refine ⟨.ref a, rfl, CBe, YA.excE, ⟨rfl, .inr ⟨dd, _, rfl, ea⟩⟩, .ref CR, _, false, rfl, .own CR, YA.kER, .ref a, rfl, CBe, YA.excE, ⟨rfl, .inr ⟨dd, _, rfl, ea⟩⟩, .ref CBe, _, true, rfl, .own CBe, kit_selfY, .ref a, rfl, CBe, YA.excE, ⟨rfl, .inr ⟨dd, _, rfl, ea⟩⟩, .ref CBs, _, false, rfl, .own CBs, YA.kES, by show 3 ≤ sizeLine; decide, fun lf nlf => ?_⟩
        have sf := same_new (o := .lst [.bl false, .bl true, .bl false]) nlf
        have ef : upd H0 lf (.lst [.bl false, .bl true, .bl false]) lf = some (.lst [.bl false, .bl true, .bl false]) := upd_same
        generalize upd H0 lf (.lst [.bl false, .bl true, .bl false]) = H2 at sf ef ⊢
        refine ⟨.ref lf, rfl, .inl ⟨rfl, _, .inl (.inl ef)⟩, lf, [false, true, false], true, rfl, rfl, .inl (.inl ef), rfl, _, rfl, iteF ?_⟩
        refine ⟨.ref a, rfl, CBe, YA.excE, ⟨rfl, .inr ⟨dd, _, rfl, sf _ _ ea⟩⟩, .ty "ValueError", _, true, rfl, .ty _, YA.kVE, true, rfl, iteF ?_⟩
        refine ⟨.ref a, rfl, by show 2 ≤ sizeLine; decide, fun tp ntp => ?_⟩
        have sT := same_new (o := .tup [.ref C2, .ref CU]) ntp
        have eT : upd H2 tp (.tup [.ref C2, .ref CU]) tp = some (.tup [.ref C2, .ref CU]) := upd_same
        generalize upd H2 tp (.tup [.ref C2, .ref CU]) = H3 at sT eT ⊢
        refine ⟨CBe, YA.excE, ⟨rfl, .inr ⟨dd, _, rfl, sT _ _ (sf _ _ ea)⟩⟩, tp, _, [.ref C2, .ref CU], false, rfl, eT, .cons (.own C2) (.cons (.own CU) .nil), YA.kTE, false, rfl, iteF ?_⟩
        refine ⟨.ref lf, rfl, lf, _, 0, .bl false, rfl, rfl, .inl (.inl (sT _ _ ef)), rfl, false, rfl, iteF ?_⟩
        refine ⟨.ref lf, rfl, lf, _, 1, .bl true, rfl, rfl, .inl (.inl (sT _ _ ef)), rfl, true, rfl, iteT ?_⟩
        refine ⟨CBe, YA.xfE, YA.noE, .ref a, rfl, rfl, rfl, dd, _, .int (i : Nat), rfl, sT _ _ (sf _ _ ea), rfl, by show 2 ≤ sizeLine; decide, fun R nR => ?_⟩
        have sR := same_new (o := .lst [.str "bad edit", .int (i : Nat)]) nR
        exact q _ R ((((s1.trans s0).trans sf).trans sT).trans sR) upd_same
    rcases q with ⟨pan', st', xs, hE, q⟩ | ⟨gs, b, rs, egs, pan', st', xs, hE, hR, q⟩
    · skip
      refine gs_if (gvt_test (K := K) (gv_eqI (gv_I (gv_lenD (i := 0) rfl hD few) (gv_int (i := 2)) (by decide) (fun _ => .int _)) gv_int)) (fun _ H1 s1 => ?_) (fun _ H1 s1 => ?_)
      · have hD1 := hD.same s1
        refine hD1.at fun dx fs e1 l1 => ⟨.ref t, rfl, t, dx, fs, rfl, e1, l1 _ (by decide +kernel), v, rfl, rfl, rfl, N, t, pan, st, past, xs, v, d, rfl, hD1, hd.same s1, hw, .inr ⟨ds, eds, f20, f60, .inr ⟨all, .inl ⟨pan', st', hE, fun H0 b0 hD0 => ?_⟩⟩⟩⟩
        exact q H0 ((ButO.of s1).trans b0) hD0
      · have hD1 := hD.same s1
        refine hD1.at fun dx fs e1 l1 => ⟨.ref t, rfl, t, dx, fs, rfl, e1, l1 _ (by decide +kernel), v, rfl, N, t, pan, st, past, xs, v, d, rfl, hD1, hd.same s1, hw, .inr ⟨ds, eds, f20, f60, .inr ⟨all, .inl ⟨pan', st', hE, fun H0 b0 hD0 => ?_⟩⟩⟩⟩
        exact q H0 ((ButO.of s1).trans b0) hD0
    · skip
      refine gs_if (gvt_test (K := K) (gv_eqI (gv_I (gv_lenD (i := 0) rfl hD few) (gv_int (i := 2)) (by decide) (fun _ => .int _)) gv_int)) (fun _ H1 s1 => ?_) (fun _ H1 s1 => ?_)
      · have hD1 := hD.same s1
        refine hD1.at fun dx fs e1 l1 => ⟨.ref t, rfl, t, dx, fs, rfl, e1, l1 _ (by decide +kernel), v, rfl, rfl, rfl, N, t, pan, st, past, xs, v, d, rfl, hD1, hd.same s1, hw, .inr ⟨ds, eds, f20, f60, .inr ⟨all, .inr ⟨gs, b, rs, egs, pan', st', hE, hR, fun H0 dd b0 hD0 ea => ?_⟩⟩⟩⟩
        refine ⟨true, YA.mR, fun _ a na => ?_, fun z => by cases z⟩
        refine ⟨.ref a, rfl, CR, YA.excR, ⟨rfl, .inr ⟨dd, _, rfl, ea⟩⟩, .ref CR, _, true, rfl, .own CR, kit_selfY, .ref a, rfl, CR, YA.excR, ⟨rfl, .inr ⟨dd, _, rfl, ea⟩⟩, .ref CBe, _, false, rfl, .own CBe, YA.kRE, .ref a, rfl, CR, YA.excR, ⟨rfl, .inr ⟨dd, _, rfl, ea⟩⟩, .ref CBs, _, false, rfl, .own CBs, YA.kRS, by show 3 ≤ sizeLine; decide, fun lf nlf => ?_⟩
        have sf := same_new (o := .lst [.bl true, .bl false, .bl false]) nlf
        have ef : upd H0 lf (.lst [.bl true, .bl false, .bl false]) lf = some (.lst [.bl true, .bl false, .bl false]) := upd_same
        generalize upd H0 lf (.lst [.bl true, .bl false, .bl false]) = H2 at sf ef ⊢
        refine ⟨.ref lf, rfl, .inl ⟨rfl, _, .inl (.inl ef)⟩, lf, [true, false, false], true, rfl, rfl, .inl (.inl ef), rfl, _, rfl, iteF ?_⟩
        refine ⟨.ref a, rfl, CR, YA.excR, ⟨rfl, .inr ⟨dd, _, rfl, sf _ _ ea⟩⟩, .ty "ValueError", _, true, rfl, .ty _, YA.kVR, true, rfl, iteF ?_⟩
        refine ⟨.ref a, rfl, by show 2 ≤ sizeLine; decide, fun tp ntp => ?_⟩
        have sT := same_new (o := .tup [.ref C2, .ref CU]) ntp
        have eT : upd H2 tp (.tup [.ref C2, .ref CU]) tp = some (.tup [.ref C2, .ref CU]) := upd_same
        generalize upd H2 tp (.tup [.ref C2, .ref CU]) = H3 at sT eT ⊢
        refine ⟨CR, YA.excR, ⟨rfl, .inr ⟨dd, _, rfl, sT _ _ (sf _ _ ea)⟩⟩, tp, _, [.ref C2, .ref CU], false, rfl, eT, .cons (.own C2) (.cons (.own CU) .nil), YA.kTR, false, rfl, iteF ?_⟩
        refine ⟨.ref lf, rfl, lf, _, 0, .bl true, rfl, rfl, .inl (.inl (sT _ _ ef)), rfl, true, rfl, iteT ?_⟩
        refine ⟨CR, YA.xfR, YA.noR, .ref a, rfl, rfl, rfl, dd, _, .int (gs.length : Nat), rfl, sT _ _ (sf _ _ ea), rfl, by show 2 ≤ sizeLine; decide, fun R nR => ?_⟩
        have sR := same_new (o := .lst [.str "rejected", .int (gs.length : Nat)]) nR
        exact q _ R ((((ButO.of s1).trans b0).trans (ButO.of (sf.trans sT))).trans (ButO.of sR)) (((hD0.same sf).same sT).same sR) upd_same
      · have hD1 := hD.same s1
        refine hD1.at fun dx fs e1 l1 => ⟨.ref t, rfl, t, dx, fs, rfl, e1, l1 _ (by decide +kernel), v, rfl, N, t, pan, st, past, xs, v, d, rfl, hD1, hd.same s1, hw, .inr ⟨ds, eds, f20, f60, .inr ⟨all, .inr ⟨gs, b, rs, egs, pan', st', hE, hR, fun H0 dd b0 hD0 ea => ?_⟩⟩⟩⟩
        refine ⟨true, YA.mR, fun _ a na => ?_, fun z => by cases z⟩
        refine ⟨.ref a, rfl, CR, YA.excR, ⟨rfl, .inr ⟨dd, _, rfl, ea⟩⟩, .ref CR, _, true, rfl, .own CR, kit_selfY, .ref a, rfl, CR, YA.excR, ⟨rfl, .inr ⟨dd, _, rfl, ea⟩⟩, .ref CBe, _, false, rfl, .own CBe, YA.kRE, .ref a, rfl, CR, YA.excR, ⟨rfl, .inr ⟨dd, _, rfl, ea⟩⟩, .ref CBs, _, false, rfl, .own CBs, YA.kRS, by show 3 ≤ sizeLine; decide, fun lf nlf => ?_⟩
        have sf := same_new (o := .lst [.bl true, .bl false, .bl false]) nlf
        have ef : upd H0 lf (.lst [.bl true, .bl false, .bl false]) lf = some (.lst [.bl true, .bl false, .bl false]) := upd_same
        generalize upd H0 lf (.lst [.bl true, .bl false, .bl false]) = H2 at sf ef ⊢
        refine ⟨.ref lf, rfl, .inl ⟨rfl, _, .inl (.inl ef)⟩, lf, [true, false, false], true, rfl, rfl, .inl (.inl ef), rfl, _, rfl, iteF ?_⟩
        refine ⟨.ref a, rfl, CR, YA.excR, ⟨rfl, .inr ⟨dd, _, rfl, sf _ _ ea⟩⟩, .ty "ValueError", _, true, rfl, .ty _, YA.kVR, true, rfl, iteF ?_⟩
        refine ⟨.ref a, rfl, by show 2 ≤ sizeLine; decide, fun tp ntp => ?_⟩
        have sT := same_new (o := .tup [.ref C2, .ref CU]) ntp
        have eT : upd H2 tp (.tup [.ref C2, .ref CU]) tp = some (.tup [.ref C2, .ref CU]) := upd_same
        generalize upd H2 tp (.tup [.ref C2, .ref CU]) = H3 at sT eT ⊢
        refine ⟨CR, YA.excR, ⟨rfl, .inr ⟨dd, _, rfl, sT _ _ (sf _ _ ea)⟩⟩, tp, _, [.ref C2, .ref CU], false, rfl, eT, .cons (.own C2) (.cons (.own CU) .nil), YA.kTR, false, rfl, iteF ?_⟩
        refine ⟨.ref lf, rfl, lf, _, 0, .bl true, rfl, rfl, .inl (.inl (sT _ _ ef)), rfl, true, rfl, iteT ?_⟩
        refine ⟨CR, YA.xfR, YA.noR, .ref a, rfl, rfl, rfl, dd, _, .int (gs.length : Nat), rfl, sT _ _ (sf _ _ ea), rfl, by show 2 ≤ sizeLine; decide, fun R nR => ?_⟩
        have sR := same_new (o := .lst [.str "rejected", .int (gs.length : Nat)]) nR
        exact q _ R ((((ButO.of s1).trans b0).trans (ButO.of (sf.trans sT))).trans (ButO.of sR)) (((hD0.same sf).same sT).same sR) upd_same
end
end K48
namespace Pr
open PySem PySem.Spec PyProof.Rows L2
structure Sm (n : Nat) (x : Str) : Prop where
  ln : x.length ≤ n
  cs : ∀ c ∈ TL.tl x, c < 128
theorem Sm.mono {n m : Nat} {x : Str} (h : Sm n x) (g : n ≤ m) : Sm m x := ⟨Nat.le_trans h.ln g, h.cs⟩
theorem tl_mem {x : Str} {c : Nat} (h : c ∈ x.cps.toList) : c ∈ TL.tl x := h
theorem shq_str {n : Nat} {x : Str} (h : Sm n x) (hn : n ≤ 5000) : Shq 0 (10 * n + 2) (.str x) := by
  refine ⟨by simp only [PyData.showable], by simp [PyData.depth], ?_⟩
  simp only [PyData.shown]
  refine Nat.le_trans (StrLaws.reprText_len x fun c hc => Nat.lt_trans (h.cs c (tl_mem hc)) (by decide)) ?_
  have := h.ln
  omega
theorem shw_str {n : Nat} {x : Str} (h : Sm n x) (hn : n ≤ 5000) : Shw 0 (10 * n + 2) (.str x) := ⟨(shq_str h hn).sh, by simp only [PyData.hasDict], (shq_str h hn).dp, (shq_str h hn).ln⟩
def rStrI : List V → Hp → VK → Prop := fun xs H Q => ∃ i, xs = [.int i] ∧ i.natAbs.log2 < 1920 ∧ Q (.str (toString i)) H
end Pr
namespace Pr
open PySem PySem.Spec PyProof.Rows L2
/-- the separator is a single sign -/
structure Sep (y : Str) : Prop where
  one : ∃ s, TL.tl y = [s] ∧ s < 128
theorem Sep.kind {y : Str} (h : Sep y) (x : Str) : ¬ Builtin.Str.strKind x < Builtin.Str.strKind y := by
  obtain ⟨s, e, hs⟩ := h.one
  refine TL.kind_ok ?_
  rw [Array.all_eq_true']
  intro c hc
  have : c ∈ TL.tl y := by show c ∈ y.cps.toList; simpa using hc
  rw [e, List.mem_singleton] at this
  simp; omega
end Pr
namespace Pr
open PySem PySem.Spec PyProof.Rows L2
section
variable {K : PySem.W.Frag} {σ : L2.St} {H : Hp} {t ta tb td tl : TE} {x y : Str}
theorem same_sqL {H1 H2 : Hp} {a : Addr} {xs : List V} (s : Same H1 H2) (h : SqL K H1 a xs) : SqL K H2 a xs := s.seq h
theorem gn_cutLFrom {ds : List PyData} {k : Nat} (h : Gv K t σ H (.list ds)) (hk : Gv K tb σ H (.int (k : Int))) (hl : k ≤ ds.length) : GvN K (tSl (rSlL K) t (tPart tb) tNoPart) σ H (ds.drop k) := fun H1 s Q q => h H1 s _ fun v H2 s2 dv => hk H2 (s.trans s2) _ fun vk H3 s3 dk => by
  cases dk
  obtain ⟨a, xs, rfl, ha, hr⟩ := dv.lstI
  refine ⟨(k : Int), rfl, a, xs, rfl, same_sqL s3 ha, fun p np => ?_⟩
  have sp := same_new (o := HO.lst (cutV xs (some (k : Int)) none)) np
  refine q p _ _ ((s2.trans s3).trans sp) ((s2.trans s3).free np) upd_same ?_
  have := cut_dp ((hr.sm s3).sm sp) (some (k : Int)) none
  rw [HT.sIx_none, HT.sIx_nat, Nat.min_eq_left hl, List.take_of_length_le (by rw [List.length_drop]; omega)] at this
  exact this
end
end Pr
namespace K48
open PySem PySem.Spec PyProof.Rows L2 Pr
/-- words that VALUES does not know -/
structure WNo (K : PySem.W.Frag) (dV : Addr) : Prop where
  u : PySem.W.nsIn K dV "undo" = some none
  p : PySem.W.nsIn K dV "Press" = some none
  a : PySem.W.nsIn K dV "attempt" = some none
  h : PySem.W.nsIn K dV "held" = some none
def oddV : List PyData := [.none, .bool true, .int (-1), .int 99, .list [.int 0], .dict [], .str "0", .tuple []]
theorem oddV_ok {n : Int} (hn : n ≤ 10) : ∀ d ∈ oddV, isBtn n d = false ∧ Shq 3 60 d := fun d hd => by
  have lo : ∀ d, lowB d = true → Shq 3 60 d := fun d h => Low.shq h
  unfold oddV at hd
  simp only [List.mem_cons, List.not_mem_nil, or_false] at hd
  rcases hd with rfl | rfl | rfl | rfl | rfl | rfl | rfl | rfl
  · exact ⟨rfl, lo _ (by decide +kernel)⟩
  · exact ⟨rfl, lo _ (by decide +kernel)⟩
  · exact ⟨by simp [isBtn], lo _ (by decide +kernel)⟩
  · exact ⟨by simp [isBtn]; omega, lo _ (by decide +kernel)⟩
  · exact ⟨rfl, lo _ (by decide +kernel)⟩
  · exact ⟨rfl, lo _ (by decide +kernel)⟩
  · exact ⟨rfl, lo _ (by decide +kernel)⟩
  · exact ⟨rfl, lo _ (by decide +kernel)⟩
/-- an edit that is refused -/
def FailD (K : PySem.W.Frag) (dV : Addr) (pan : List (List Int)) (d : PyData) : Prop := RefD pan d ∧ isEdB d = true ∧ WdOk K dV d ∧ Shq 4 4000 d
/-- what is no edit -/
def BadD (K : PySem.W.Frag) (dV : Addr) (d : PyData) : Prop := isEdB d = false ∧ WdOk K dV d ∧ Shq 4 4000 d
theorem wd_tup {K : PySem.W.Frag} {dV : Addr} {w : Str} {ds : List PyData} (h : VWd K dV w) : WdOk K dV (.tuple (.str w :: ds)) := fun w' r e => by
  injection e with e
  injection e with e1 _
  injection e1 with e1
  rw [← e1]; exact h
theorem wd_no {K : PySem.W.Frag} {dV : Addr} {d : PyData} (h : ∀ w r, d ≠ .tuple (.str w :: r)) : WdOk K dV d := fun w r e => absurd e (h w r)
theorem shq_t2 {x y : PyData} (h1 : Shq 3 60 x) (h2 : Shq 3 60 y) : Shq 4 4000 (.tuple [x, y]) := (Shq.tuple (dep := 3) (n := 60) (m := 2) (fun d hd => by
  rcases (show d = x ∨ d = y by simpa using hd) with rfl | rfl <;> assumption) (by simp)).mono (by decide) (by decide)
theorem shq_t3 {x y z : PyData} (h1 : Shq 3 60 x) (h2 : Shq 3 60 y) (h3 : Shq 3 60 z) : Shq 4 4000 (.tuple [x, y, z]) := (Shq.tuple (dep := 3) (n := 60) (m := 3) (fun d hd => by
  rcases (show d = x ∨ d = y ∨ d = z by simpa using hd) with rfl | rfl | rfl <;> assumption) (by simp)).mono (by decide) (by decide)
theorem shq_s (x : Str) (h : lowB (.str x) = true) : Shq 3 60 (.str x) := Low.shq h
theorem shq_i {i : Int} (h0 : 0 ≤ i) (h : i < 100) : Shq 3 60 (.int i) := (low_int h0 h).shq
theorem wpr {K : PySem.W.Frag} {dV : Addr} : VWd K dV "press" := .inl (.inl rfl)
theorem wlk {K : PySem.W.Frag} {dV : Addr} : VWd K dV "link" := .inl (.inr (.inl rfl))
theorem wun {K : PySem.W.Frag} {dV : Addr} : VWd K dV "unlink" := .inl (.inr (.inr rfl))
def failF (pan : List (List Int)) (dv : PyData) (one : Int) : List PyData :=
  ([.tuple [.str "press", dv], .tuple [.str "link", dv, .int 0], .tuple [.str "link", .int 0, dv], .tuple [.str "unlink", .int 0, .int 0], .tuple [.str "link", .int 0, .int 0]] ++
    (((pan.getD one.toNat []).take 1).filter fun _ => true).map (fun o => dLk "link" one o)) ++
   ((((List.range pan.length).filter fun o : Nat => !decide ((o : Int) ∈ pan.getD one.toNat [])).map fun o : Nat => dLk "unlink" one (o : Int)).take 2)
theorem fail_ok {K : PySem.W.Frag} {dV : Addr} {pan : List (List Int)} {dv : PyData} {one : Int} (g : Good pan) (hv : dv ∈ oddV) (o0 : 0 ≤ one) (o1 : one < (pan.length : Int)) : ∀ d ∈ failF pan dv one, FailD K dV pan d := fun d hd => by
  have few := g.few
  obtain ⟨nb, sv⟩ := oddV_ok (n := (pan.length : Int)) (by omega) dv hv
  have sp := shq_s "press" (by decide +kernel)
  have sl := shq_s "link" (by decide +kernel)
  have su := shq_s "unlink" (by decide +kernel)
  have s0 : Shq 3 60 (.int 0) := shq_i (by decide) (by decide)
  have s1 := shq_i o0 (by omega)
  unfold failF at hd
  rcases List.mem_append.mp hd with hd | hd
  · rcases List.mem_append.mp hd with hd | hd
    · simp only [List.mem_cons, List.not_mem_nil, or_false] at hd
      rcases hd with rfl | rfl | rfl | rfl | rfl
      · exact ⟨.inl ⟨dv, rfl, nb⟩, rfl, wd_tup wpr, shq_t2 sp sv⟩
      · exact ⟨.inr ⟨"link", dv, .int 0, rfl, .inl rfl, fun x y e1 e2 hI => by (rw [e1, btn_of hI.1 hI.2.1] at nb; cases nb)⟩, rfl, wd_tup wlk, shq_t3 sl sv s0⟩
      · exact ⟨.inr ⟨"link", .int 0, dv, rfl, .inl rfl, fun x y e1 e2 hI => by (rw [e2, btn_of hI.2.2.1 hI.2.2.2.1] at nb; cases nb)⟩, rfl, wd_tup wlk, shq_t3 sl s0 sv⟩
      · exact ⟨.inr ⟨"unlink", .int 0, .int 0, rfl, .inr rfl, fun x y e1 e2 hI => absurd ((PyData.int.inj e1).symm.trans (PyData.int.inj e2)) hI.2.2.2.2⟩, rfl, wd_tup wun, shq_t3 su s0 s0⟩
      · exact ⟨.inr ⟨"link", .int 0, .int 0, rfl, .inl rfl, fun x y e1 e2 hI => absurd ((PyData.int.inj e1).symm.trans (PyData.int.inj e2)) hI.2.2.2.2⟩, rfl, wd_tup wlk, shq_t3 sl s0 s0⟩
    · obtain ⟨o, ho, rfl⟩ := List.mem_map.mp hd
      have hm : o ∈ pan.getD one.toNat [] := List.mem_of_mem_take (List.mem_filter.mp ho).1
      have hr := g.rng _ (rel_mem (pan := pan) (i := one.toNat) (by omega)) o hm
      exact ⟨.inr ⟨"link", .int one, .int o, rfl, .inl rfl, fun x y e1 e2 hI => by
        cases e1; cases e2
        rw [decide_eq_true hm, decide_eq_true rfl]⟩, rfl, wd_tup wlk, shq_t3 sl s1 (shq_i hr.1 (by omega))⟩
  · obtain ⟨o, ho, rfl⟩ := List.mem_map.mp (List.mem_of_mem_take hd)
    obtain ⟨h1, h2⟩ := List.mem_filter.mp ho
    have hr := List.mem_range.mp h1
    have hn : (o : Int) ∉ pan.getD one.toNat [] := by simpa using h2
    exact ⟨.inr ⟨"unlink", .int one, .int o, rfl, .inr rfl, fun x y e1 e2 hI => by
      cases e1; cases e2
      rw [decide_eq_false hn]
      decide +kernel⟩, rfl, wd_tup wun, shq_t3 su s1 (shq_i (by omega) (by omega))⟩
theorem fail_len {as : List Int} (p : Int → Bool) {f : Int → PyData} (xs ys : List PyData) (hx : xs.length = 5 := by rfl) : (xs ++ ((as.take 1).filter p).map f).length + (ys.take 2).length ≤ 100000 := by
  rw [List.length_append, List.length_map, List.length_take, hx]
  have := List.length_filter_le p (as.take 1)
  rw [List.length_take] at this
  omega
theorem gl_cutL {K : PySem.W.Frag} {σ : L2.St} {H : Hp} {t tb : TE} {ds : List PyData} {k : Nat} (h : Gv K t σ H (.list ds)) (hk : Gv K tb σ H (.int (k : Int))) : GvL K (tSl (rSlL K) t tNoPart (tPart tb)) σ H (ds.take k) := fun H1 s Q q => h H1 s _ fun v H2 s2 dv => hk H2 (s.trans s2) _ fun vk H3 s3 dk => by
  cases dk
  obtain ⟨a, xs, rfl, ha, hr⟩ := dv.lstI
  refine ⟨(k : Int), rfl, a, xs, rfl, same_sqL s3 ha, fun p np => ?_⟩
  have sp := same_new (o := HO.lst (cutV xs none (some (k : Int)))) np
  refine q p _ _ ((s2.trans s3).trans sp) upd_same ?_
  have := cut_dp ((hr.sm s3).sm sp) none (some (k : Int))
  rw [HT.sIx_none, HT.sIx_nat, List.drop_zero, Nat.sub_zero] at this
  rw [show ds.take k = ds.take (min k ds.length) by rw [List.take_eq_take_iff]; omega]
  exact this
def badL : List PyData := [.none, .list [], .dict [], .str "undo", .tuple [.str "undo"], .tuple [.str "press"], .tuple [.str "press", .int 0, .int 0], .list [.str "press", .int 0], .tuple [.int 0, .str "press"], .tuple []] ++
  [.tuple [.list [], .int 0], .tuple [.str "Press", .int 0], .tuple [.str "attempt", .tuple []], .tuple [.int 5, .int 0], .tuple [.str "link", .int 0], .tuple [.str "link", .int 0, .int 1, .int 2], .tuple [.str "held", .int 0]]
theorem bad_ok {K : PySem.W.Frag} {dV : Addr} (W : WNo K dV) : ∀ d ∈ badL, BadD K dV d := fun d hd => by
  have lo : ∀ d, lowB d = true → Shq 4 4000 d := fun d h => (Low.shq h).mono (by decide) (by decide)
  unfold badL at hd
  simp only [List.cons_append, List.nil_append, List.mem_cons, List.not_mem_nil, or_false] at hd
  rcases hd with rfl | rfl | rfl | rfl | rfl | rfl | rfl | rfl | rfl | rfl | rfl | rfl | rfl | rfl | rfl | rfl | rfl
  · exact ⟨rfl, wd_no (fun _ _ e => by cases e), lo _ (by decide +kernel)⟩
  · exact ⟨rfl, wd_no (fun _ _ e => by cases e), lo _ (by decide +kernel)⟩
  · exact ⟨rfl, wd_no (fun _ _ e => by cases e), lo _ (by decide +kernel)⟩
  · exact ⟨rfl, wd_no (fun _ _ e => by cases e), lo _ (by decide +kernel)⟩
  · exact ⟨by decide +kernel, wd_tup (.inr W.u), lo _ (by decide +kernel)⟩
  · exact ⟨by decide +kernel, wd_tup wpr, lo _ (by decide +kernel)⟩
  · exact ⟨by decide +kernel, wd_tup wpr, lo _ (by decide +kernel)⟩
  · exact ⟨rfl, wd_no (fun _ _ e => by cases e), lo _ (by decide +kernel)⟩
  · exact ⟨rfl, wd_no (fun _ _ e => by cases e), lo _ (by decide +kernel)⟩
  · exact ⟨rfl, wd_no (fun _ _ e => by cases e), lo _ (by decide +kernel)⟩
  · exact ⟨rfl, wd_no (fun _ _ e => by cases e), lo _ (by decide +kernel)⟩
  · exact ⟨by decide +kernel, wd_tup (.inr W.p), lo _ (by decide +kernel)⟩
  · exact ⟨by decide +kernel, wd_tup (.inr W.a), lo _ (by decide +kernel)⟩
  · exact ⟨rfl, wd_no (fun _ _ e => by cases e), lo _ (by decide +kernel)⟩
  · exact ⟨by decide +kernel, wd_tup wlk, lo _ (by decide +kernel)⟩
  · exact ⟨by decide +kernel, wd_tup wlk, lo _ (by decide +kernel)⟩
  · exact ⟨by decide +kernel, wd_tup (.inr W.h), lo _ (by decide +kernel)⟩
end K48
namespace K48
open PySem PySem.Spec PyProof.Rows L2 Pr
def nFail : List Str := ["_law_deck_here", "_law_state_here", "_law_panel_here", "_law_latched", "_law_value", "_law_some", "_law_one", "_law_other"]
theorem scFail : FnScope nFail ["_law_deck_here", "_law_state_here"] (defScope sFail) := ⟨rfl, rfl, rfl, by decide +kernel, rfl, by decide +kernel, by decide +kernel⟩
section
variable {P : Program} {w : World} {K : PySem.W.Frag} {mg : Str → Option Value} {base : Heap}
def spFail (K : PySem.W.Frag) (dV : Addr) : Sp := fun vs H Q _ => ∃ (a c S l : Addr) (m : Nat) (pan : List (List Int)) (vp : V), vs = [.ref a, .ref S] ∧ Deck H a c (m + 20) ∧ H S = some (.lst [vp, .ref l]) ∧ Dp K H vp (dPan pan) ∧ Good pan ∧
  ∀ H' v d, But a c H H' → Deck H' a c m → Dq K (NAC a c) H' v d → FailD K dV pan d → Q v H'
theorem ok_Fail {fDraw : Addr} {fdDraw : FuncData} {f : Addr} {fd : FuncData} {k : Nat} {dV : Addr} (F : Fun K "_law_failing" "_law_failing" sFail f fd)
    (FDraw : Fun K "_law_draw" "_law_draw" sDraw fDraw fdDraw) (bDraw : Binds K fdDraw ["_law_deck_here", "_law_many"] []) (gDraw : mg "_law_draw" = some (.ref fDraw))
    (m_len : mg "len" = none) (m_range : mg "range" = none) : FnOk P w K mg base CX0 (k + 2) f fd ["_law_deck_here", "_law_state_here"] (spFail K dV) := by
  have GDraw : FnOk P w K mg base CX0 (k + 1) fDraw fdDraw ["_law_deck_here", "_law_many"] spDraw := ok_draw FDraw m_len
  refine F.ok scFail (fun vs H Q E h => ?_) (fun cdv A outer s H vs Q E hr h => ?_)
  · obtain ⟨a, c, S, l, m, pan, vp, rfl, _⟩ := h
    rfl
  · obtain ⟨a, c, S, l, m, pan, vp, rfl, hD, eS, dp, hg, q⟩ := h
    refine ⟨_, pss_cons (ps_asg (pv 1) (pg_unl rfl (pgs_cons (pg_name (i := 2) scFail.nd rfl (Or.inr rfl)) (pgs_cons (pg_name (i := 3) scFail.nd rfl (Or.inl rfl)) pgs_nil))))
      (pss_cons (ps_set (i := 4) scFail.nd rfl (.inl rfl) (pe_ix (show IxR _ (rIxL K) from ix_list) (pe_lst (pa_cons pe_non (pa_cons pe_bl (pa_cons (pe_un un_neg pe_int) (pa_cons pe_int (pa_cons (pe_lstG (pa_cons pe_int pa_nil)) (pa_cons pe_dnewK (pa_cons pe_str (pa_cons (pe_tup pa_nil) pa_nil))))))))) (pe_call GDraw (hr.mono (by omega)) (by rfl) gDraw FDraw.kp bDraw .nil pass0 (pa_cons (pv 0) (pa_cons pe_int pa_nil))) (fun _ _ => rfl)))
      (pss_cons (ps_set (i := 5) scFail.nd rfl (.inl rfl) (pe_lst (pa_cons (pe_tup (pa_cons pe_str (pa_cons (pv 4) pa_nil))) (pa_cons (pe_tup (pa_cons pe_str (pa_cons (pv 4) (pa_cons pe_int pa_nil)))) (pa_cons (pe_tup (pa_cons pe_str (pa_cons pe_int (pa_cons (pv 4) pa_nil)))) (pa_cons (pe_tup (pa_cons pe_str (pa_cons pe_int (pa_cons pe_int pa_nil)))) (pa_cons (pe_tup (pa_cons pe_str (pa_cons pe_int (pa_cons pe_int pa_nil)))) pa_nil)))))))
      (pss_cons (ps_set (i := 6) scFail.nd rfl (.inr rfl) (pe_call GDraw (hr.mono (by omega)) (by rfl) gDraw FDraw.kp bDraw .nil pass0 (pa_cons (pv 0) (pa_cons (pe_callB (show CallR _ _ (rLenG K) from cr_lenG) (by rfl) m_len PySem.boot_len (pa_cons (pv 2) pa_nil)) pa_nil))))
      (pss_cons (ps_set (i := 5) scFail.nd rfl (.inl rfl) (pe_op op_cat (pv 5) (pe_lc (own := [("_law_other", 7)]) (g := gName 7) (tt := tYes) rfl scFail.nd (show PI _ _ _ (iTup K _) from pi_tup (pe_slice (show SlR _ (rSlS K) from sl_tupS) (pe_ix (show IxR _ (rIxT K) from ix_tup) (pv 2) (pv 6) (fun _ _ => rfl)) po_none (po_some pe_int))) (blkOk_by (own := [("_law_other", 7)]) (N := nFail) (sc := defScope sFail) (by decide +kernel)) (fun _ _ _ _ _ => pg_name (i := 7) scFail.nd rfl (Or.inl rfl)) (fun _ _ _ _ _ => pts_nil) (fun _ _ _ _ _ => pe_tup (pa_cons pe_str (pa_cons (pv 6) (pa_cons (pv 7) pa_nil)))))))
      (pss_cons (ps_set (i := 5) scFail.nd rfl (.inl rfl) (pe_op op_cat (pv 5) (pe_slice (show SlR _ (rSlL K) from sl_list) (pe_lc (own := [("_law_other", 7)]) (g := gName 7) rfl scFail.nd (pi_range1 (by rfl) m_range (pa_cons (pe_callB (show CallR _ _ (rLenG K) from cr_lenG) (by rfl) m_len PySem.boot_len (pa_cons (pv 2) pa_nil)) pa_nil)) (blkOk_by (own := [("_law_other", 7)]) (N := nFail) (sc := defScope sFail) (by decide +kernel)) (fun _ _ _ _ _ => pg_name (i := 7) scFail.nd rfl (Or.inl rfl)) (fun _ _ _ _ _ => pts_one (pt_cmpR (show OpR _ _ (rIn K true) from op_notIn_seq) (pv 7) (pe_ix (show IxR _ (rIxT K) from ix_tup) (pv 2) (pv 6) (fun _ _ => rfl)) (by rfl))) (fun _ _ _ _ _ => pe_tup (pa_cons pe_str (pa_cons (pv 6) (pa_cons (pv 7) pa_nil))))) po_none (po_some pe_int))))
      (pss_one (ps_ret (pe_ix (show IxR _ (rIxL K) from ix_list) (pv 5) (pe_call GDraw (hr.mono (by omega)) (by rfl) gDraw FDraw.kp bDraw .nil pass0 (pa_cons (pv 0) (pa_cons (pe_callB (show CallR _ _ (rLenG K) from cr_lenG) (by rfl) m_len PySem.boot_len (pa_cons (pv 5) pa_nil)) pa_nil))) (fun _ _ => rfl))))))))), ?_⟩
    have few := hg.few
    have pos := hg.pos
    have hlp : (pan.map dInts).length = pan.length := List.length_map _
    have fr := frN_deck hD
    refine ⟨.ref S, rfl, S, _, rfl, .inl (.inl eS), rfl, vp, [.ref l], rfl, .ref l, [], rfl, rfl, ?_⟩
    dsimp only
    refine seq_asg (op_go ?_)
    refine (gqn_lst (K := K) (N := NAC a c) (gqa_cons gq_non (gqa_cons gq_bl (gqa_cons (gq_of (gv_neg gv_int) rfl) (gqa_cons gq_int (gqa_cons (gq_lst (gqa_cons gq_int gqa_nil) fr) (gqa_cons gq_dct (gqa_cons gq_str (gqa_cons (gq_tup gqa_nil) gqa_nil))))))))).at fun Lv vs8 H1 s1 n1 e1 d1 => ?_
    have D1 := hD.same s1
    have fLv := hD.fresh n1
    refine ⟨.ref a, rfl, a, c, m + 15, 8, rfl, D1.less (by omega), by decide, by decide, fun H2 r b2 D2 r0 r1 => ?_⟩
    obtain ⟨v, dv, hv, _, hmem, hdv⟩ := dq_pick (d1.but (N := NAC a c) (.inl rfl) (.inr rfl) D1 b2) rfl r0 r1
    refine ⟨Lv, _, _, v, rfl, rfl, .inl (.inl (b2 _ _ fLv.1 fLv.2 e1)), hv, ?_⟩
    have dp2 := (dp.sm s1).kp (Kp.but D1 b2) (lf_pan _)
    refine gs_setQN (K := K) (N := NAC a c) (gqn_lst (gqa_cons (gq_tup (gqa_cons gq_str (gqa_cons (gq_var rfl hdv) gqa_nil))) (gqa_cons (gq_tup (gqa_cons gq_str (gqa_cons (gq_var rfl hdv) (gqa_cons gq_int gqa_nil)))) (gqa_cons (gq_tup (gqa_cons gq_str (gqa_cons gq_int (gqa_cons (gq_var rfl hdv) gqa_nil)))) (gqa_cons (gq_tup (gqa_cons gq_str (gqa_cons gq_int (gqa_cons gq_int gqa_nil)))) (gqa_cons (gq_tup (gqa_cons gq_str (gqa_cons gq_int (gqa_cons gq_int gqa_nil)))) gqa_nil)))))) fun L5 vs5 H3 s3 n3 e3 d3 => ?_
    have D3 := D2.same s3
    have fL5 := D2.fresh n3
    have dp3 := dp2.sm s3
    refine ⟨.ref a, rfl, (gv_lenT (K := K) (gv_var rfl dp3)).at fun vn H4 s4 dn => ?_⟩
    cases dn
    rw [hlp]
    have D4 := D3.same s4
    refine ⟨a, c, m + 10, (pan.length : Int), rfl, D4.less (by omega), by omega, by omega, fun H5 one b5 D5 o0 o1 => ?_⟩
    have e5 := b5 _ _ fL5.1 fL5.2 (s4 _ _ e3)
    have d5 : DqAll K (NAC a c) H5 vs5 _ := (dqA_sm s4 d3).but (.inl rfl) (.inr rfl) D4 b5
    have dp5 := (dp3.sm s4).kp (Kp.but D4 b5) (lf_pan _)
    have hrl := (pan_ok hg).2 _ (rel_mem (pan := pan) (i := one.toNat) (by omega))
    refine gs_setQN (K := K) (N := NAC a c) (gqn_cat (gql_var (i := 5) rfl e5 d5) (gql_of (gl_lc (δ := PyData.int) (as := (pan.getD one.toNat []).take 1) (p := fun _ => true) (f := fun o => dLk "link" one o) (gvi_tup (gv_cutTo (gv_pan (gv_var rfl dp5) (gv_var rfl (.int one)) o0 o1) (gv_int (i := 1)))) (fun o vo Hz ho sz dz => ⟨gvt_yes, fun _ => gv_tup (gva_cons gv_str (gva_cons (gv_var rfl (.int one)) (gva_cons (gv_var rfl dz) gva_nil)))⟩) (fun _ _ => rfl) (by rw [List.length_take]; omega)) (lfAll_of fun d hd => by obtain ⟨x, _, rfl⟩ := List.mem_map.mp hd; rfl)) (by rw [List.length_map]; have := List.length_filter_le (fun _ : Int => true) ((pan.getD one.toNat []).take 1); rw [List.length_take] at this; show 5 + _ ≤ _; omega)) fun L6 vs6 H6 s6 n6 e6 d6 => ?_
    have dp6 := dp5.sm s6
    have fL6 := D5.fresh n6
    have D6 := D5.same s6
    refine gs_setQN (K := K) (N := NAC a c) (gqn_cat (gql_var (i := 5) rfl e6 d6) (gql_of (gl_cutL (gv_lc (δ := fun o : Nat => PyData.int (o : Int)) (as := List.range pan.length) (p := fun o : Nat => !decide ((o : Int) ∈ pan.getD one.toNat [])) (f := fun o : Nat => dLk "unlink" one (o : Int)) (gvi_range (R := Same) ((gv_lenT (gv_var rfl dp6)).to (by rw [hlp])) (by omega)) (fun o vo Hz ho sz dz => ⟨gvt_test (gv_inT (neg := true) (gv_var rfl dz) (gv_pan (gv_var rfl (dp6.sm sz)) (gv_var rfl (.int one)) o0 o1)), fun _ => gv_tup (gva_cons gv_str (gva_cons (gv_var rfl (.int one)) (gva_cons (gv_var rfl dz) gva_nil)))⟩) (fun _ _ => rfl) (by rw [List.length_range]; omega)) (gv_int (i := 2))) (lfAll_of fun d hd => by obtain ⟨x, _, rfl⟩ := List.mem_map.mp (List.mem_of_mem_take hd); rfl)) (fail_len _ _ _)) fun L7 vs7 H7 s7 n7 e7 d7 => ?_
    have fL7 := D6.fresh n7
    have D7 := D6.same s7
    have hall := fail_ok (K := K) (dV := dV) hg hmem o0 o1
    have l7 : vs7.length = (failF pan dv one).length := d7.length
    have p7 : 0 < (failF pan dv one).length := by unfold failF; simp
    have m7 : (failF pan dv one).length ≤ 100 := by
      unfold failF
      rw [List.length_append, List.length_append, List.length_map, List.length_take]
      have := List.length_filter_le (fun _ : Int => true) ((pan.getD one.toNat []).take 1)
      rw [List.length_take] at this
      show 5 + _ + _ ≤ 100
      omega
    refine ⟨.ref L7, rfl, .ref a, rfl, .ref L7, rfl, L7, vs7, rfl, .inl (.inl (.inl e7)), a, c, m, (vs7.length : Int), rfl, D7.less (by omega), by omega, by omega, fun H8 r8 b8 D8 r80 r81 => ?_⟩
    obtain ⟨v8, d8, hv8, _, hmem8, hdv8⟩ := dq_pick (d7.but (N := NAC a c) (.inl rfl) (.inr rfl) D7 b8) l7.symm r80 r81
    refine ⟨L7, _, _, v8, rfl, rfl, .inl (.inl (b8 _ _ fL7.1 fL7.2 e7)), hv8, ?_⟩
    exact q H8 v8 d8 (fun x o h1 h2 e => b8 _ _ h1 h2 (s7 _ _ (s6 _ _ (b5 _ _ h1 h2 (s4 _ _ (s3 _ _ (b2 _ _ h1 h2 (s1 _ _ e)))))))) D8 hdv8 (hall d8 hmem8)
end
end K48
namespace K48
open PySem PySem.Spec PyProof.Rows L2 Pr
def nBad : List Str := ["_law_deck_here", "_law_some"]
theorem scBad : FnScope nBad ["_law_deck_here"] (defScope sBad) := ⟨rfl, rfl, rfl, by decide +kernel, rfl, by decide +kernel, by decide +kernel⟩
section
variable {P : Program} {w : World} {K : PySem.W.Frag} {mg : Str → Option Value} {base : Heap}
def spBad (K : PySem.W.Frag) (dV : Addr) : Sp := fun vs H Q _ => ∃ (a c : Addr) (m : Nat), vs = [.ref a] ∧ Deck H a c (m + 10) ∧ WNo K dV ∧
  ∀ H' v d, But a c H H' → Deck H' a c m → Dq K (NAC a c) H' v d → BadD K dV d → Q v H'
theorem ok_Bad {fDraw : Addr} {fdDraw : FuncData} {f : Addr} {fd : FuncData} {k : Nat} {dV : Addr} (F : Fun K "_law_bad" "_law_bad" sBad f fd)
    (FDraw : Fun K "_law_draw" "_law_draw" sDraw fDraw fdDraw) (bDraw : Binds K fdDraw ["_law_deck_here", "_law_many"] []) (gDraw : mg "_law_draw" = some (.ref fDraw))
    (m_len : mg "len" = none) : FnOk P w K mg base CX0 (k + 2) f fd ["_law_deck_here"] (spBad K dV) := by
  have GDraw : FnOk P w K mg base CX0 (k + 1) fDraw fdDraw ["_law_deck_here", "_law_many"] spDraw := ok_draw FDraw m_len
  refine F.ok scBad (fun vs H Q E h => ?_) (fun cdv A outer s H vs Q E hr h => ?_)
  · obtain ⟨a, c, m, rfl, _⟩ := h
    rfl
  · obtain ⟨a, c, m, rfl, hD, W, q⟩ := h
    refine ⟨_, pss_cons (ps_set (i := 1) scBad.nd rfl (.inl rfl) (pe_lst (pa_cons pe_non (pa_cons (pe_lstG pa_nil) (pa_cons pe_dnewK (pa_cons pe_str (pa_cons (pe_tup (pa_cons pe_str pa_nil)) (pa_cons (pe_tup (pa_cons pe_str pa_nil)) (pa_cons (pe_tup (pa_cons pe_str (pa_cons pe_int (pa_cons pe_int pa_nil)))) (pa_cons (pe_lstG (pa_cons pe_str (pa_cons pe_int pa_nil))) (pa_cons (pe_tup (pa_cons pe_int (pa_cons pe_str pa_nil))) (pa_cons (pe_tup pa_nil) pa_nil))))))))))))
      (pss_cons (ps_set (i := 1) scBad.nd rfl (.inl rfl) (pe_op op_cat (pv 1) (pe_lst (pa_cons (pe_tup (pa_cons (pe_lstG pa_nil) (pa_cons pe_int pa_nil))) (pa_cons (pe_tup (pa_cons pe_str (pa_cons pe_int pa_nil))) (pa_cons (pe_tup (pa_cons pe_str (pa_cons (pe_tup pa_nil) pa_nil))) (pa_cons (pe_tup (pa_cons pe_int (pa_cons pe_int pa_nil))) (pa_cons (pe_tup (pa_cons pe_str (pa_cons pe_int pa_nil))) (pa_cons (pe_tup (pa_cons pe_str (pa_cons pe_int (pa_cons pe_int (pa_cons pe_int pa_nil))))) (pa_cons (pe_tup (pa_cons pe_str (pa_cons pe_int pa_nil))) pa_nil))))))))))
      (pss_one (ps_ret (pe_ix (show IxR _ (rIxL K) from ix_list) (pv 1) (pe_call GDraw (hr.mono (by omega)) (by rfl) gDraw FDraw.kp bDraw .nil pass0 (pa_cons (pv 0) (pa_cons pe_int pa_nil))) (fun _ _ => rfl))))), ?_⟩
    have fr := frN_deck hD
    refine gs_setQN (K := K) (N := NAC a c) (gqn_lst (gqa_cons gq_non (gqa_cons (gq_lst gqa_nil fr) (gqa_cons gq_dct (gqa_cons gq_str (gqa_cons (gq_tup (gqa_cons gq_str gqa_nil)) (gqa_cons (gq_tup (gqa_cons gq_str gqa_nil)) (gqa_cons (gq_tup (gqa_cons gq_str (gqa_cons gq_int (gqa_cons gq_int gqa_nil)))) (gqa_cons (gq_lst (gqa_cons gq_str (gqa_cons gq_int gqa_nil)) fr) (gqa_cons (gq_tup (gqa_cons gq_int (gqa_cons gq_str gqa_nil))) (gqa_cons (gq_tup gqa_nil) gqa_nil))))))))))) fun L1 vs1 H1 s1 n1 e1 d1 => ?_
    have D1 := hD.same s1
    have fr1 := fr.sm s1
    refine gs_setQN (K := K) (N := NAC a c) (gqn_cat (gql_var (i := 1) rfl e1 d1) (gql_lst (gqa_cons (gq_tup (gqa_cons (gq_lst gqa_nil fr1) (gqa_cons gq_int gqa_nil))) (gqa_cons (gq_tup (gqa_cons gq_str (gqa_cons gq_int gqa_nil))) (gqa_cons (gq_tup (gqa_cons gq_str (gqa_cons (gq_tup gqa_nil) gqa_nil))) (gqa_cons (gq_tup (gqa_cons gq_int (gqa_cons gq_int gqa_nil))) (gqa_cons (gq_tup (gqa_cons gq_str (gqa_cons gq_int gqa_nil))) (gqa_cons (gq_tup (gqa_cons gq_str (gqa_cons gq_int (gqa_cons gq_int (gqa_cons gq_int gqa_nil))))) (gqa_cons (gq_tup (gqa_cons gq_str (gqa_cons gq_int gqa_nil))) gqa_nil)))))))) (by decide)) fun L2 vs2 H2 s2 n2 e2 d2 => ?_
    have fL2 := D1.fresh n2
    have D2 := D1.same s2
    refine ⟨.ref L2, rfl, .ref a, rfl, a, c, m, 17, rfl, D2.less (by omega), by decide, by decide, fun H8 r8 b8 D8 r80 r81 => ?_⟩
    obtain ⟨v8, d8, hv8, _, hmem8, hdv8⟩ := dq_pick (d2.but (N := NAC a c) (.inl rfl) (.inr rfl) D2 b8) rfl r80 r81
    refine ⟨L2, _, _, v8, rfl, rfl, .inl (.inl (b8 _ _ fL2.1 fL2.2 e2)), hv8, ?_⟩
    exact q H8 v8 d8 (fun x o h1 h2 e => b8 _ _ h1 h2 (s2 _ _ (s1 _ _ e))) D8 hdv8 (bad_ok W d8 hmem8)
end
end K48
namespace K48
open PySem PySem.Spec PyProof.Rows L2 Pr
/-- a state of the law at b -/
def StA (K : PySem.W.Frag) (H : Hp) (b : Addr) (y : List (List Int) × List Int) : Prop := ∃ (vp : V) (l : Addr), H b = some (.lst [vp, .ref l]) ∧ Dp K H vp (dPan y.1) ∧ H l = some (.tup (y.2.map V.int))
theorem StA.same {K : PySem.W.Frag} {H H' : Hp} {b : Addr} {y : List (List Int) × List Int} (h : StA K H b y) (s : Same H H') : StA K H' b y := by
  obtain ⟨vp, l, h1, h2, h3⟩ := h
  exact ⟨vp, l, s _ _ h1, h2.sm s, s _ _ h3⟩
theorem StA.kp {K : PySem.W.Frag} {H H' : Hp} {b : Addr} {y : List (List Int) × List Int} (h : StA K H b y) (k : Kp H H') (e : ∀ vs, H b = some (.lst vs) → H' b = some (.lst vs)) : StA K H' b y := by
  obtain ⟨vp, l, h1, h2, h3⟩ := h
  exact ⟨vp, l, e _ h1, h2.kp k (lf_pan _), k.1 _ _ h3⟩
theorem StA.upd {K : PySem.W.Frag} {H : Hp} {b L : Addr} {xs : List V} {o : HO} {y : List (List Int) × List Int} (h : StA K H b y) (e : H L = some (.lst xs)) (n : b ≠ L) : StA K (upd H L o) b y := h.kp (Kp.upd e) fun vs q => by rw [upd_ne n]; exact q
theorem paired_imp {α β : Type} {R R' : α → β → Prop} (f : ∀ x y, R x y → R' x y) : ∀ {xs : List α} {ys : List β}, Paired R xs ys → Paired R' xs ys
  | _, _, .nil => .nil
  | _, _, .cons h t => .cons (f _ _ h) (paired_imp f t)
/-- a new state of the law -/
def NewA (K : PySem.W.Frag) (H0 : Hp) (B L : Addr) (H : Hp) (b : Addr) (y : List (List Int) × List Int) : Prop := (H0 b = none ∧ b ≠ B ∧ b ≠ L) ∧ StA K H b y
theorem eds_fin {pan p : List (List Int)} {st s : List Int} {ds : List PyData} {xs : List (PyData × List (List Int) × List Int)} (h : Eds pan st ds p s xs) (g : Good pan) (as : Asc pan.length st) : Good p ∧ Asc p.length s ∧ p.length = pan.length := by
  induction h with
  | nil => exact ⟨g, as, rfl⟩
  | cons h t ih =>
    have g2 := h.good g
    obtain ⟨h1, h2, h3⟩ := ih g2.1 (h.asc g as)
    exact ⟨h1, h2, h3.trans g2.2⟩
theorem eds_lf {pan p : List (List Int)} {st s : List Int} {ds : List PyData} {xs : List (PyData × List (List Int) × List Int)} (h : Eds pan st ds p s xs) : lfAll ds = true := lfAll_of fun d hd => by
  obtain ⟨_, _, _, he⟩ := h.ed d hd
  exact he.lf
theorem drop1_snoc {α : Type} (l : List α) (x y : α) : (l ++ [x] ++ [y]).drop 1 = (l ++ [x]).drop 1 ++ [y] := by cases l <;> rfl
theorem eds_shw {pan p : List (List Int)} {st s : List Int} {ds : List PyData} {xs : List (PyData × List (List Int) × List Int)} (h : Eds pan st ds p s xs) (g : Good pan) : ∀ d ∈ ds, Pr.lf d = true ∧ Shw 1 39 d := by
  induction h with
  | nil => intro d hd; cases hd
  | cons h t ih =>
    intro d hd
    rcases List.mem_cons.mp hd with rfl | hd
    · exact ⟨h.lf, h.shw g⟩
    · exact ih (h.good g).1 d hd
theorem eds_at {pan p : List (List Int)} {st s : List Int} {ds : List PyData} {xs : List (PyData × List (List Int) × List Int)} (h : Eds pan st ds p s xs) : ∀ j, j ≤ ds.length → ∃ y, (xs.map (·.2) ++ [(p, s)])[j]? = some y ∧ Eds pan st (ds.take j) y.1 y.2 (xs.take j) := by
  induction h with
  | nil =>
    intro j hj
    obtain rfl : j = 0 := by simpa using hj
    exact ⟨_, rfl, .nil⟩
  | cons h t ih =>
    intro j hj
    cases j with
    | zero => exact ⟨_, rfl, .nil⟩
    | succ j =>
      obtain ⟨y, h1, h2⟩ := ih j (by simpa using hj)
      exact ⟨y, h1, .cons h h2⟩
theorem eds_head {pan p : List (List Int)} {st s : List Int} {ds : List PyData} {xs : List (PyData × List (List Int) × List Int)} (h : Eds pan st ds p s xs) : xs.map (·.2) ++ [(p, s)] = (pan, st) :: (xs.map (·.2) ++ [(p, s)]).drop 1 := by
  cases h <;> rfl
theorem eds_fst {pan p : List (List Int)} {st s : List Int} {ds : List PyData} {xs : List (PyData × List (List Int) × List Int)} (h : Eds pan st ds p s xs) : xs.map (·.1) = ds := by
  induction h with
  | nil => rfl
  | cons h t ih => exact congrArg (List.cons _) ih
theorem ret_lst {t : TA} {D : Ends} {σ : L2.St} {H : Hp} (h : t σ H fun xs H1 => xs.length ≤ sizeLine ∧ ∀ p, H1 p = none → D.rt (.ref p) (upd H1 p (.lst xs))) : tRet (tLst t) D σ H := h
theorem cons_go {ta : TE} {tr : TA} {σ : L2.St} {H : Hp} {Q : List V → Hp → Prop} (h : ta σ H fun x H1 => tr σ H1 fun xs H2 => Q (x :: xs) H2) : tCons ta tr σ H Q := h
section
variable {K : PySem.W.Frag} {N : Addr → Prop} {σ : L2.St} {H H' : Hp} {t ta tb : TE} {d e : PyData} {ds es : List PyData}
theorem gql_ofN (h : GvN K t σ H ds) (l : lfAll ds = true) : GvQL K N t σ H ds := fun H1 s Q q => h H1 s Q fun a vs H2 s2 n e dv => q a vs H2 s2 e (dp_dqAll ds vs l dv)
/-- gives a new list that is not sys.modules -/
def GvQM (K : PySem.W.Frag) (N : Addr → Prop) (te : TE) (σ : L2.St) (H : Hp) (ds : List PyData) : Prop := ∀ H1, Same H H1 → ∀ Q : VK, (∀ a vs H', Same H1 H' → H1 a = none → a ≠ sysModules → H' a = some (.lst vs) → DqAll K N H' vs ds → Q (.ref a) H') → te σ H1 Q
theorem GvQM.at (h : GvQM K N t σ H ds) {Q : VK} (q : ∀ a vs H', Same H H' → H a = none → a ≠ sysModules → H' a = some (.lst vs) → DqAll K N H' vs ds → Q (.ref a) H') : t σ H Q := h H (Same.refl _) Q q
theorem gqm_cat (ha : GvQL K N ta σ H ds) (hb : GvQL K N tb σ H es) (hn : ds.length + es.length ≤ 100000) : GvQM K N (tOp rCatG ta tb) σ H (ds ++ es) := fun H1 s Q q =>
  ha H1 s _ fun a xs H2 s2 ea da => hb H2 (s.trans s2) _ fun b ys H3 s3 eb db =>
    ⟨a, b, xs, ys, rfl, rfl, ⟨s3 _ _ ea, eb⟩, by rw [da.length, db.length]; exact Nat.le_of_lt (small5 hn), fun p np sp => q _ _ _ ((s2.trans s3).trans (same_new np)) ((s2.trans s3).free np) sp upd_same (DqAll.append (Dq.sameAll (s3.trans (same_new np)) _ _ da) (Dq.sameAll (same_new np) _ _ db))⟩
end
/-- what came of the batch: its items, and what is due -/
structure BatR (K : PySem.W.Frag) (dV : Addr) (pan : List (List Int)) (st : List Int) (ds : List PyData) (xs : List (PyData × List (List Int) × List Int)) (pan' : List (List Int)) (st' : List Int) (es : List PyData) (H : Hp) (dv : V) : Prop where
  eds : Eds pan st ds pan' st' xs
  dl : ds.length ≤ 8
  len : es.length ≤ 10
  wd : ∀ x ∈ es, WdOk K dV x
  sh : ∀ x ∈ es, Shq 4 4000 x
  out : (dv = .non ∧ es = ds) ∨
    (∃ D gs b rs, dv = .ref D ∧ H D = some (.lst [.str "bad edit", .int (gs.length : Nat)]) ∧ es = gs ++ b :: rs ∧ (∀ x ∈ gs, isEdB x = true) ∧ isEdB b = false) ∨
    (∃ D gs b rs p2 s2 x2, dv = .ref D ∧ H D = some (.lst [.str "rejected", .int (gs.length : Nat)]) ∧ es = gs ++ b :: rs ∧ (∀ x ∈ es, isEdB x = true) ∧ Eds pan st gs p2 s2 x2 ∧ RefD p2 b)
/-- the law's lists on the way -/
structure BF (K : PySem.W.Frag) (H0 : Hp) (a c b B L : Addr) (pan : List (List Int)) (st : List Int) (evs : List V) (bs : List Addr) (ds : List PyData) (xs : List (PyData × List (List Int) × List Int)) (pk : List (List Int)) (sk : List Int) (H : Hp) (m : Nat) : Prop where
  bt : But a c H0 H
  dk : Deck H a c m
  eB : H B = some (.lst evs)
  dE : DpAll K H evs ds
  eL : H L = some (.lst (.ref b :: bs.map V.ref))
  hb : StA K H b (pan, st)
  hs : Paired (NewA K H0 B L H) bs ((xs.map (·.2) ++ [(pk, sk)]).drop 1)
  eds : Eds pan st ds pk sk xs
  nb : b ≠ a ∧ b ≠ c ∧ b ≠ B ∧ b ≠ L
  nB : H0 B = none
  nL : H0 L = none
  BL : B ≠ L
  fr : ∀ x, H0 x = none → x ≠ a ∧ x ≠ c
section
variable {K : PySem.W.Frag} {H0 H H' : Hp} {a c b B L : Addr} {pan pk : List (List Int)} {st sk : List Int} {evs : List V} {bs : List Addr} {ds : List PyData} {xs : List (PyData × List (List Int) × List Int)} {m m' : Nat}
theorem BF.same (h : BF K H0 a c b B L pan st evs bs ds xs pk sk H m) (s : Same H H') : BF K H0 a c b B L pan st evs bs ds xs pk sk H' m :=
  ⟨fun x o h1 h2 e => s _ _ (h.bt _ _ h1 h2 e), h.dk.same s, s _ _ h.eB, h.dE.sm s, s _ _ h.eL, h.hb.same s, paired_imp (fun x y z => ⟨z.1, z.2.same s⟩) h.hs, h.eds, h.nb, h.nB, h.nL, h.BL, h.fr⟩
theorem BF.less (h : BF K H0 a c b B L pan st evs bs ds xs pk sk H m) (z : m' ≤ m) : BF K H0 a c b B L pan st evs bs ds xs pk sk H m' :=
  ⟨h.bt, h.dk.less z, h.eB, h.dE, h.eL, h.hb, h.hs, h.eds, h.nb, h.nB, h.nL, h.BL, h.fr⟩
theorem BF.but (h : BF K H0 a c b B L pan st evs bs ds xs pk sk H m) (b' : But a c H H') (D : Deck H' a c m') : BF K H0 a c b B L pan st evs bs ds xs pk sk H' m' := by
  have k := Kp.but h.dk b'
  have fB := h.fr _ h.nB
  have fL := h.fr _ h.nL
  exact ⟨fun x o h1 h2 e => b' _ _ h1 h2 (h.bt _ _ h1 h2 e), D, b' _ _ fB.1 fB.2 h.eB, dpAll_kp k _ _ (eds_lf h.eds) h.dE, b' _ _ fL.1 fL.2 h.eL, h.hb.kp k fun vs e => b' _ _ h.nb.1 h.nb.2.1 e, paired_imp (fun x y z => ⟨z.1, z.2.kp k fun vs e => b' _ _ (h.fr x z.1.1).1 (h.fr x z.1.1).2 e⟩) h.hs, h.eds, h.nb, h.nB, h.nL, h.BL, h.fr⟩
theorem BF.new (h : BF K H0 a c b B L pan st evs bs ds xs pk sk H m) {x : Addr} (n : H x = none) : H0 x = none := by
  cases z : H0 x with
  | none => rfl
  | some o =>
    have fa : x ≠ a ∧ x ≠ c := h.dk.fresh n
    have := h.bt _ _ fa.1 fa.2 z
    rw [n] at this; cases this
theorem BF.all (h : BF K H0 a c b B L pan st evs bs ds xs pk sk H m) : Paired (fun x y => (x ≠ a ∧ x ≠ c ∧ x ≠ B ∧ x ≠ L) ∧ StA K H x y) (b :: bs) (xs.map (·.2) ++ [(pk, sk)]) := by
  rw [eds_head h.eds]
  exact .cons ⟨h.nb, h.hb⟩ (paired_imp (fun x y z => ⟨⟨(h.fr x z.1.1).1, (h.fr x z.1.1).2, z.1.2.1, z.1.2.2⟩, z.2⟩) h.hs)
theorem BF.last (h : BF K H0 a c b B L pan st evs bs ds xs pk sk H m) : ∃ us S, H L = some (.lst (us ++ [.ref S])) ∧ (us ++ [.ref S]) = (.ref b :: bs.map V.ref) ∧ (S ≠ a ∧ S ≠ c ∧ S ≠ B ∧ S ≠ L) ∧ StA K H S (pk, sk) := by
  obtain ⟨us, u, e, _, hu⟩ := prSplit h.all
  have e2 : (us.map V.ref ++ [.ref u]) = (.ref b :: bs.map V.ref) := by
    have := congrArg (List.map V.ref) e
    rw [List.map_append] at this
    exact this.symm
  exact ⟨us.map V.ref, u, by rw [e2]; exact h.eL, e2, hu⟩
theorem BF.get (h : BF K H0 a c b B L pan st evs bs ds xs pk sk H m) {j : Nat} (hj : j ≤ ds.length) : ∃ S y, atI (.ref b :: bs.map V.ref) (j : Int) = some (.ref S) ∧ (S ≠ a ∧ S ≠ c) ∧ StA K H S y ∧ Eds pan st (ds.take j) y.1 y.2 (xs.take j) := by
  obtain ⟨y, h1, h2⟩ := eds_at h.eds j hj
  obtain ⟨x, hx, hR⟩ := prGet h.all h1
  refine ⟨x, y, atI_nat ?_, ⟨hR.1.1, hR.1.2.1⟩, hR.2, h2⟩
  have : ((b :: bs).map V.ref)[j]? = some (.ref x) := by rw [List.getElem?_map, hx]; rfl
  exact this
end
theorem new_ne {K : PySem.W.Frag} {H0 H : Hp} {B L x : Addr} : ∀ {bs : List Addr} {ys : List (List (List Int) × List Int)}, Paired (NewA K H0 B L H) bs ys → H x = none → ∀ b ∈ bs, b ≠ x
  | _, _, .nil, _, _, hb => nomatch hb
  | _, _, .cons h t, n, b, hb => by
    rcases List.mem_cons.mp hb with rfl | hb
    · obtain ⟨_, _, _, e, _⟩ := h
      exact ne_of_none e n
    · exact new_ne t n b hb
theorem eds_lfm {pan p : List (List Int)} {st s : List Int} {ds : List PyData} {xs : List (PyData × List (List Int) × List Int)} (h : Eds pan st ds p s xs) : ∀ d ∈ ds, lf d = true := fun d hd => by
  obtain ⟨_, _, _, he⟩ := h.ed d hd
  exact he.lf
theorem wd_eds {K : PySem.W.Frag} {dV : Addr} {pan p : List (List Int)} {st s : List Int} {ds : List PyData} {xs : List (PyData × List (List Int) × List Int)} (h : Eds pan st ds p s xs) : ∀ d ∈ ds, WdOk K dV d := fun d hd => by
  obtain ⟨_, _, _, he⟩ := h.ed d hd
  exact wdOk_ed he
theorem ed_eds {pan p : List (List Int)} {st s : List Int} {ds : List PyData} {xs : List (PyData × List (List Int) × List Int)} (h : Eds pan st ds p s xs) : ∀ d ∈ ds, isEdB d = true := fun d hd => by
  obtain ⟨_, _, _, he⟩ := h.ed d hd
  exact isEdB_ed he
theorem sh_eds {pan p : List (List Int)} {st s : List Int} {ds : List PyData} {xs : List (PyData × List (List Int) × List Int)} (h : Eds pan st ds p s xs) (g : Good pan) : ∀ d ∈ ds, Shq 4 4000 d := fun d hd => ((eds_shw h g d hd).2.q).mono (by decide) (by decide)
end K48
namespace K48
open PySem PySem.Spec PyProof.Rows L2 Pr
def nBatch : List Str := ["_law_deck_here", "_law_state_here", "_law_states", "_law_batch_here", "_law_k", "_law_way_here", "_law_place", "_law_more", "_law_due_here"]
theorem scBatch : FnScope nBatch ["_law_deck_here", "_law_state_here"] (defScope sBatch) := ⟨rfl, rfl, rfl, by decide +kernel, rfl, by decide +kernel, by decide +kernel⟩
section
variable {P : Program} {w : World} {K : PySem.W.Frag} {mg : Str → Option Value} {base : Heap}
def spBatch (K : PySem.W.Frag) (dV : Addr) : Sp := fun vs H Q _ => ∃ (a c b : Addr) (m : Nat) (pan : List (List Int)) (st : List Int), vs = [.ref a, .ref b] ∧ Deck H a c (m + 300) ∧ b ≠ a ∧ b ≠ c ∧ StA K H b (pan, st) ∧ Good pan ∧ Asc pan.length st ∧ WNo K dV ∧
  ∀ H' R B2 B L dv evs bs ds es pan' st' xs, But a c H H' → Deck H' a c m → H' R = some (.lst [.ref B2, .ref L, dv]) → H B2 = none → H L = none → H R = none → B2 ≠ sysModules → H' B2 = some (.lst evs) → DqAll K (NAC a c) H' evs es → H' L = some (.lst (.ref b :: bs.map V.ref)) → Paired (NewA K H B L H') bs ((xs.map (·.2) ++ [(pan', st')]).drop 1) → (∀ x ∈ bs, x ≠ B2) → BatR K dV pan st ds xs pan' st' es H' dv → Q (.ref R) H'
theorem ok_Batch {fDraw : Addr} {fdDraw : FuncData} {fPressed : Addr} {fdPressed : FuncData} {fChanged : Addr} {fdChanged : FuncData} {fAfter : Addr} {fdAfter : FuncData} {fEdit : Addr} {fdEdit : FuncData} {fFail : Addr} {fdFail : FuncData} {fBad : Addr} {fdBad : FuncData} {f : Addr} {fd : FuncData} {k : Nat} {dV : Addr} (F : Fun K "_law_batch" "_law_batch" sBatch f fd)
    (FDraw : Fun K "_law_draw" "_law_draw" sDraw fDraw fdDraw) (bDraw : Binds K fdDraw ["_law_deck_here", "_law_many"] []) (gDraw : mg "_law_draw" = some (.ref fDraw))
    (FPressed : Fun K "_law_pressed" "_law_pressed" sPressed fPressed fdPressed) (bPressed : Binds K fdPressed ["_law_panel_here", "_law_state_here", "_law_button"] []) (gPressed : mg "_law_pressed" = some (.ref fPressed))
    (FChanged : Fun K "_law_changed" "_law_changed" sChanged fChanged fdChanged) (bChanged : Binds K fdChanged ["_law_panel_here", "_law_one", "_law_other", "_law_is_link"] []) (gChanged : mg "_law_changed" = some (.ref fChanged))
    (FAfter : Fun K "_law_after" "_law_after" sAfter fAfter fdAfter) (bAfter : Binds K fdAfter ["_law_state_here", "_law_edit_here"] []) (gAfter : mg "_law_after" = some (.ref fAfter))
    (FEdit : Fun K "_law_edit" "_law_edit" sEdit fEdit fdEdit) (bEdit : Binds K fdEdit ["_law_deck_here", "_law_state_here"] []) (gEdit : mg "_law_edit" = some (.ref fEdit))
    (FFail : Fun K "_law_failing" "_law_failing" sFail fFail fdFail) (bFail : Binds K fdFail ["_law_deck_here", "_law_state_here"] []) (gFail : mg "_law_failing" = some (.ref fFail))
    (FBad : Fun K "_law_bad" "_law_bad" sBad fBad fdBad) (bBad : Binds K fdBad ["_law_deck_here"] []) (gBad : mg "_law_bad" = some (.ref fBad))
    (m_int : mg "int" = none) (m_len : mg "len" = none) (m_range : mg "range" = none) (m_sorted : mg "sorted" = none) (m_tuple : mg "tuple" = none) : FnOk P w K mg base CX0 (k + 3) f fd ["_law_deck_here", "_law_state_here"] (spBatch K dV) := by
  have GDraw : FnOk P w K mg base CX0 (k + 1) fDraw fdDraw ["_law_deck_here", "_law_many"] spDraw := ok_draw FDraw m_len
  have GEdit : FnOk P w K mg base CX0 (k + 2) fEdit fdEdit ["_law_deck_here", "_law_state_here"] (spEdit K) := ok_Edit FEdit FDraw bDraw gDraw m_int m_len
  have GAfter : FnOk P w K mg base CX0 (k + 2) fAfter fdAfter ["_law_state_here", "_law_edit_here"] (spAfter K) := ok_After FAfter FPressed bPressed gPressed FChanged bChanged gChanged m_int m_sorted m_tuple
  have GFail : FnOk P w K mg base CX0 (k + 2) fFail fdFail ["_law_deck_here", "_law_state_here"] (spFail K dV) := ok_Fail FFail FDraw bDraw gDraw m_len m_range
  have GBad : FnOk P w K mg base CX0 (k + 2) fBad fdBad ["_law_deck_here"] (spBad K dV) := ok_Bad FBad FDraw bDraw gDraw m_len
  refine F.ok scBatch (fun vs H Q E h => ?_) (fun cdv A outer s H vs Q E hr h => ?_)
  · obtain ⟨a, c, b, m, pan, st, rfl, _⟩ := h
    rfl
  · obtain ⟨a, c, b, m, pan, st, rfl, hD, ba, bc, hS, hg, hst, W, q⟩ := h
    refine ⟨_, pss_cons (ps_par (i := 2) (j := 3) rfl scBatch.nd rfl rfl (by decide) rfl rfl (pa_cons (pe_lst (pa_cons (pv 1) pa_nil)) (pa_cons (pe_lst pa_nil) pa_nil)) (by rfl))
      (pss_cons (ps_for PassesOwn.never rfl (pi_range1 (by rfl) m_range (pa_cons (pe_call GDraw (hr.mono (by omega)) (by rfl) gDraw FDraw.kp bDraw .nil pass0 (pa_cons (pv 0) (pa_cons pe_int pa_nil))) pa_nil)) (pg_name (i := 4) scBatch.nd rfl (Or.inl rfl)) (pss_cons (ps_expr (show PE _ _ (tBM K "list" rAppend _ _) from pe_bm PySem.F.plainAttrs_list PySem.F.slot_list_append PySem.F.type_list_append mt_append (pv 3) (pa_cons (pe_call GEdit (hr.mono (by omega)) (by rfl) gEdit FEdit.kp bEdit .nil pass0 (pa_cons (pv 0) (pa_cons (pe_ix (show IxR _ (rIxL K) from ix_list) (pv 2) (pe_un un_neg pe_int) (fun _ _ => rfl)) pa_nil))) pa_nil)))
      (pss_one (ps_expr (show PE _ _ (tBM K "list" rAppend _ _) from pe_bm PySem.F.plainAttrs_list PySem.F.slot_list_append PySem.F.type_list_append mt_append (pv 2) (pa_cons (pe_call GAfter (hr.mono (by omega)) (by rfl) gAfter FAfter.kp bAfter .nil pass0 (pa_cons (pe_ix (show IxR _ (rIxL K) from ix_list) (pv 2) (pe_un un_neg pe_int) (fun _ _ => rfl)) (pa_cons (pe_ix (show IxR _ (rIxL K) from ix_list) (pv 3) (pe_un un_neg pe_int) (fun _ _ => rfl)) pa_nil))) pa_nil))))))
      (pss_cons (ps_par (i := 5) (j := 6) rfl scBatch.nd rfl rfl (by decide) rfl rfl (pa_cons (pe_call GDraw (hr.mono (by omega)) (by rfl) gDraw FDraw.kp bDraw .nil pass0 (pa_cons (pv 0) (pa_cons pe_int pa_nil))) (pa_cons (pe_call GDraw (hr.mono (by omega)) (by rfl) gDraw FDraw.kp bDraw .nil pass0 (pa_cons (pv 0) (pa_cons (pe_op op_add (pe_callB (show CallR _ _ (rLenG K) from cr_lenG) (by rfl) m_len PySem.boot_len (pa_cons (pv 3) pa_nil)) pe_int) pa_nil))) pa_nil)) (by rfl))
      (pss_cons (ps_par (i := 7) (j := 8) rfl scBatch.nd rfl rfl (by decide) rfl rfl (pa_cons (pe_lst pa_nil) (pa_cons pe_non pa_nil)) (by rfl))
      (pss_cons (ps_if (pt_cmpR op_eq (pv 5) pe_int (nomark _)) (pss_one (ps_par (i := 7) (j := 8) rfl scBatch.nd rfl rfl (by decide) rfl rfl (pa_cons (pe_lst (pa_cons (pe_call GFail (hr.mono (by omega)) (by rfl) gFail FFail.kp bFail .nil pass0 (pa_cons (pv 0) (pa_cons (pe_ix (show IxR _ (rIxL K) from ix_list) (pv 2) (pv 6) (fun _ _ => rfl)) pa_nil))) pa_nil)) (pa_cons (pe_lst (pa_cons pe_str (pa_cons (pv 6) pa_nil))) pa_nil)) (by rfl))) pss_nil)
      (pss_cons (ps_if (pt_cmpR op_eq (pv 5) pe_int (nomark _)) (pss_one (ps_par (i := 7) (j := 8) rfl scBatch.nd rfl rfl (by decide) rfl rfl (pa_cons (pe_lst (pa_cons (pe_call GBad (hr.mono (by omega)) (by rfl) gBad FBad.kp bBad .nil pass0 (pa_cons (pv 0) pa_nil)) pa_nil)) (pa_cons (pe_lst (pa_cons pe_str (pa_cons (pv 6) pa_nil))) pa_nil)) (by rfl))) pss_nil)
      (pss_cons (ps_if (pt_cmpR op_eq (pv 5) pe_int (nomark _)) (pss_cons (ps_set (i := 7) scBatch.nd rfl (.inl rfl) (pe_lst (pa_cons (pe_call GFail (hr.mono (by omega)) (by rfl) gFail FFail.kp bFail .nil pass0 (pa_cons (pv 0) (pa_cons (pe_ix (show IxR _ (rIxL K) from ix_list) (pv 2) (pv 6) (fun _ _ => rfl)) pa_nil))) (pa_cons (pe_call GBad (hr.mono (by omega)) (by rfl) gBad FBad.kp bBad .nil pass0 (pa_cons (pv 0) pa_nil)) pa_nil))))
      (pss_one (ps_set (i := 8) scBatch.nd rfl (.inl rfl) (pe_lst (pa_cons pe_str (pa_cons (pe_op op_add (pv 6) pe_int) pa_nil)))))) pss_nil)
      (pss_cons (ps_if (pt_cmpR op_eq (pv 5) pe_int (nomark _)) (pss_one (ps_par (i := 7) (j := 8) rfl scBatch.nd rfl rfl (by decide) rfl rfl (pa_cons (pe_lst (pa_cons (pe_call GBad (hr.mono (by omega)) (by rfl) gBad FBad.kp bBad .nil pass0 (pa_cons (pv 0) pa_nil)) (pa_cons (pe_call GBad (hr.mono (by omega)) (by rfl) gBad FBad.kp bBad .nil pass0 (pa_cons (pv 0) pa_nil)) pa_nil))) (pa_cons (pe_lst (pa_cons pe_str (pa_cons (pv 6) pa_nil))) pa_nil)) (by rfl))) pss_nil)
      (pss_one (ps_ret (pe_lst (pa_cons (pe_op op_catG (pe_op op_cat (pe_slice (show SlR _ (rSlL K) from sl_list) (pv 3) po_none (po_some (pv 6))) (pv 7)) (pe_slice (show SlR _ (rSlL K) from sl_list) (pv 3) (po_some (pv 6)) po_none)) (pa_cons (pv 2) (pa_cons (pv 8) pa_nil))))))))))))), ?_⟩
    refine ⟨.ref b, rfl, by show 1 ≤ sizeLine; decide, fun L nL => ?_⟩
    have sL := same_new (o := .lst [.ref b]) nL
    have eL0 : upd H L (.lst [.ref b]) L = some (.lst [.ref b]) := upd_same
    have fL := hD.fresh nL
    refine ⟨Nat.zero_le _, fun B nB => ⟨_, _, rfl, ?_⟩⟩
    have sB := same_new (o := .lst []) nB
    have eB : upd (upd H L (.lst [.ref b])) B (.lst []) B = some (.lst []) := upd_same
    have nB0 : H B = none := by
      by_cases z : B = L
      · rw [z]; exact nL
      · rw [upd_ne z] at nB; exact nB
    have BL : B ≠ L := fun z => by rw [z, eL0] at nB; cases nB
    have eL := sB _ _ eL0
    have bB : b ≠ B := by obtain ⟨_, _, e, _⟩ := hS; exact ne_of_none e nB0
    have bL : b ≠ L := by obtain ⟨_, _, e, _⟩ := hS; exact ne_of_none e nL
    have F0 : BF K H a c b B L pan st [] [] [] [] pan st (upd (upd H L (.lst [.ref b])) B (.lst [])) (m + 300) :=
      ⟨fun x o h1 h2 e => sB _ _ (sL _ _ e), (hD.same sL).same sB, eB, .nil, eL, (hS.same sL).same sB, .nil, .nil, ⟨ba, bc, bB, bL⟩, nB0, nL, BL, fun x z => hD.fresh z⟩
    generalize upd (upd H L (.lst [.ref b])) B (.lst []) = H0 at F0 ⊢
    clear eL eB sL sB eL0 nB
    refine ⟨.ref a, rfl, a, c, m + 290, 9, rfl, F0.dk.less (by omega), by decide, by decide, fun HA r bA DA r0 r1 => ⟨r, rfl, by omega, by omega, ?_⟩⟩
    have FA := F0.but bA DA
    obtain ⟨n, hn, hn2⟩ : ∃ n : Nat, r.toNat = n ∧ n ≤ 8 := ⟨_, rfl, by omega⟩
    rw [hn]
    refine for_range (n := n) (fun k σ H' => ∃ (evs : List V) (bs : List Addr) (ds : List PyData) (xs : List (PyData × List (List Int) × List Int)) (pk : List (List Int)) (sk : List Int) (x4 : Option V), BF K H a c b B L pan st evs bs ds xs pk sk H' (m + 290 - 20 * k) ∧ ds.length = k ∧ σ = [some (.ref a), some (.ref b), some (.ref L), some (.ref B), x4, none, none, none, none])
      ⟨[], [], [], [], pan, st, _, FA, rfl, rfl⟩ (fun k σ H1 hk hP => ?_) (fun σ H1 hP => ?_)
    · obtain ⟨evs, bs, ds, xs, pk, sk, x4, F1, dl, rfl⟩ := hP
      obtain ⟨g1, a1, pl⟩ := eds_fin F1.eds hg hst
      obtain ⟨us, S, eLu, eus, nS, S1⟩ := F1.last
      obtain ⟨vp, l, eS1, dvp, el1⟩ := id S1
      refine ⟨.ref B, rfl, .inl ⟨rfl, _, .inl (.inl F1.eB)⟩, .ref a, rfl, .ref L, rfl, 1, rfl, L, _, _, .ref S, rfl, rfl, .inl (.inl eLu), at_last, a, c, S, m + 290 - 20 * k - 10, pk, sk, _, rfl, F1.dk.less (by omega), nS.1, nS.2.1, eS1, .cons dvp (.cons (dp_ints (.inl (.inl el1))) .nil), g1, fun H2 v d p1 f b2 D2 dv hed => ?_⟩
      have F2 := F1.but b2 D2
      have evl : evs.length = k := by rw [F2.dE.length, dl]
      refine ⟨B, _, v, rfl, rfl, F2.eB, Nat.lt_of_le_of_lt (show evs.length ≤ 80 by omega) (by decide), ?_⟩
      have k3 : Kp H2 (upd H2 B (.lst (evs ++ [v]))) := Kp.upd F2.eB
      have fB := F2.fr _ F2.nB
      have eB3 : upd H2 B (.lst (evs ++ [v])) B = some (.lst (evs ++ [v])) := upd_same
      have eL3 : upd H2 B (.lst (evs ++ [v])) L = some (.lst (.ref b :: bs.map V.ref)) := by rw [upd_ne (Ne.symm BL)]; exact F2.eL
      have dE3 : DpAll K (upd H2 B (.lst (evs ++ [v]))) (evs ++ [v]) (ds ++ [d]) := DpAll.append (dpAll_kp k3 _ _ (eds_lf F2.eds) F2.dE) (.cons (dv.kp k3 hed.lf) .nil)
      have hb3 := F2.hb.upd (o := .lst (evs ++ [v])) F2.eB F2.nb.2.2.1
      have D3 := Deck.upd' (b := B) (o := .lst (evs ++ [v])) F2.dk fB
      have hs3 : Paired (NewA K H B L (upd H2 B (.lst (evs ++ [v])))) bs ((xs.map (·.2) ++ [(pk, sk)]).drop 1) := paired_imp (fun x y h => ⟨h.1, h.2.upd F2.eB h.1.2.1⟩) F2.hs
      have b3 : But a c H (upd H2 B (.lst (evs ++ [v]))) := fun x o h1 h2 e => by rw [upd_ne (ne_of_none e F2.nB)]; exact F2.bt _ _ h1 h2 e
      obtain ⟨us2, S2, eLu2, eus2, nS2, SA2⟩ := F2.last
      have SA3 := SA2.upd (o := .lst (evs ++ [v])) F2.eB nS2.2.2.1
      have eLu3 : upd H2 B (.lst (evs ++ [v])) L = some (.lst (us2 ++ [.ref S2])) := by rw [upd_ne (Ne.symm BL)]; exact eLu2
      generalize upd H2 B (.lst (evs ++ [v])) = H3 at eB3 eL3 dE3 SA3 D3 hs3 b3 hb3 eLu3 k3 ⊢
      obtain ⟨vp3, l3, eS3, dvp3, el3⟩ := id SA3
      have dv3 : Dp K H3 v d := dv.kp k3 hed.lf
      refine ⟨.ref L, rfl, .inl ⟨rfl, _, .inl (.inl eL3)⟩, .ref L, rfl, 1, rfl, L, _, _, .ref S2, rfl, rfl, .inl (.inl eLu3), at_last, .ref B, rfl, 1, rfl, B, _, _, v, rfl, rfl, .inl (.inl eB3), at_last, S2, l3, vp3, v, pk, p1, sk, d, f, rfl, eS3, dvp3, el3, dv3, g1, a1, hed, fun H4 b' vq lq s4 nb' eb' dq elq => ?_⟩
      have eL4 := s4 _ _ eL3
      have fb' := D3.fresh nb'
      have nb'0 : H b' = none := by
        cases z : H b' with
        | none => rfl
        | some o =>
          have := b3 _ _ fb'.1 fb'.2 z
          rw [nb'] at this; cases this
      have b'B : b' ≠ B := Ne.symm (ne_of_none eB3 nb')
      have b'L : b' ≠ L := Ne.symm (ne_of_none eL3 nb')
      have xl := F2.eds.len
      refine ⟨L, _, .ref b', rfl, rfl, eL4, ?_, ?_⟩
      · have := F2.hs.length
        rw [List.length_drop, List.length_append, List.length_map] at this
        exact Nat.lt_of_le_of_lt (show (V.ref b :: bs.map V.ref).length ≤ 80 by rw [List.length_cons, List.length_map, this]; simp; omega) (by decide)
      · have S4 : StA K H4 b' (p1, f sk) := ⟨vq, lq, eb', dq, elq⟩
        have k5 : Kp H4 (upd H4 L (.lst ((.ref b :: bs.map V.ref) ++ [.ref b']))) := Kp.upd eL4
        refine ⟨evs ++ [v], bs ++ [b'], ds ++ [d], xs ++ [(d, pk, sk)], p1, f sk, _, ⟨fun x o h1 h2 e => by rw [upd_ne (ne_of_none e F2.nL)]; exact s4 _ _ (b3 _ _ h1 h2 e), (Deck.upd' (D3.same s4) fL).less (by omega), by rw [upd_ne BL]; exact s4 _ _ eB3, dpAll_kp k5 _ _ (eds_lf (F2.eds.snoc hed)) (dE3.sm s4), by rw [upd_same, List.map_append]; rfl, (hb3.same s4).upd eL4 F2.nb.2.2.2, ?_, F2.eds.snoc hed, F2.nb, F2.nB, F2.nL, BL, F2.fr⟩, by rw [List.length_append, dl]; rfl, rfl⟩
        rw [List.map_append]
        show Paired _ _ ((xs.map (·.2) ++ [(pk, sk)] ++ [(p1, f sk)]).drop 1)
        rw [drop1_snoc]
        exact prApp (paired_imp (fun x y h => ⟨h.1, (h.2.same s4).upd eL4 h.1.2.2⟩) hs3) (.cons ⟨⟨nb'0, b'B, b'L⟩, S4.upd eL4 b'L⟩ .nil)
    · obtain ⟨evs, bs, ds, xs, pk, sk, x4, F1, dl, rfl⟩ := hP
      have dE1 := F1.dE.length
      refine ⟨.ref a, rfl, a, c, m + 120, 7, rfl, F1.dk.less (by omega), by decide, by decide, fun H2 w b2 D2 w0 w1 => ?_⟩
      have F2 := F1.but b2 D2
      refine ⟨.ref a, rfl, .ref B, rfl, B, evs, rfl, .inl (.inl (.inl F2.eB)), (evs.length : Nat), 1, rfl, rfl, a, c, m + 100, ((evs.length : Nat) : Int) + 1, rfl, F2.dk.less (by omega), by omega, by omega, fun H3 p3 b3 D3 p30 p31 => ⟨_, _, rfl, ?_⟩⟩
      have F3 := F2.but b3 D3
      obtain ⟨pl, rfl⟩ : ∃ pl : Nat, p3 = (pl : Int) := ⟨p3.toNat, by omega⟩
      have hpl : pl ≤ ds.length := by omega
      refine ⟨Nat.zero_le _, fun Mo0 nM0 => ⟨_, _, rfl, ?_⟩⟩
      have sM0 := same_new (o := .lst []) nM0
      have eM0 : upd H3 Mo0 (.lst []) Mo0 = some (.lst []) := upd_same
      have F3 := F3.same sM0
      generalize upd H3 Mo0 (.lst []) = H3 at sM0 eM0 F3 ⊢
      rcases (by omega : w = 0 ∨ w = 1 ∨ w = 2 ∨ w = 3 ∨ 4 ≤ w) with rfl | rfl | rfl | rfl | hw
      · skip
        refine gs_if (gvt_test (K := K) (gv_eqI (gv_var (i := 5) rfl (.int _)) gv_int)) (fun _ HA sA => ?_) (fun z => absurd z (by decide))
        have F3 := F3.same sA
        obtain ⟨Sx, yx, hSx, nSx, SAx, hEx⟩ := F3.get hpl
        obtain ⟨vpx, lx, eSx, dvpx, elx⟩ := id SAx
        have gyx := (eds_fin hEx hg hst).1
        refine ⟨.ref a, rfl, .ref L, rfl, .int (pl : Int), rfl, L, _, _, .ref Sx, rfl, rfl, .inl (.inl F3.eL), hSx, a, c, Sx, lx, m + 30, yx.1, vpx, rfl, F3.dk.less (by omega), eSx, dvpx, gyx, fun H4 v4 d4 b4 D4 dv4 hf4 => ?_⟩
        have F4 := F3.but b4 D4
        refine ⟨by show 1 ≤ sizeLine; decide, fun Mo nM => ?_⟩
        have sM := same_new (o := .lst [v4]) nM
        have eM : upd H4 Mo (.lst [v4]) Mo = some (.lst [v4]) := upd_same
        have dM := (show DqAll K (NAC a c) (upd H4 Mo (.lst [v4])) [v4] _ from (.cons (Dq.same sM _ _ dv4) .nil))
        have FM := F4.same sM
        generalize upd H4 Mo (.lst [v4]) = HM at sM eM dM FM ⊢
        refine ⟨.int (pl : Int), rfl, by show 2 ≤ sizeLine; decide, fun Dd nD => ⟨_, _, rfl, ?_⟩⟩
        have sD := same_new (o := .lst [.str "rejected", .int (pl : Int)]) nD
        have eD : upd HM Dd (.lst [.str "rejected", .int (pl : Int)]) Dd = some (.lst [.str "rejected", .int (pl : Int)]) := upd_same
        have FD := FM.same sD
        have eMD := sD _ _ eM
        have dMD := Dq.sameAll sD _ _ dM
        generalize upd HM Dd (.lst [.str "rejected", .int (pl : Int)]) = HD at sD eD FD eMD dMD ⊢
        refine gs_no (gvt_test (K := K) (gv_eqI (gv_var (i := 5) rfl (.int _)) gv_int)) (by decide) fun HX1 sX1 => ?_
        have FD := FD.same sX1
        have eMD := sX1 _ _ eMD
        have eD := sX1 _ _ eD
        have dMD := Dq.sameAll sX1 _ _ dMD
        refine gs_no (gvt_test (K := K) (gv_eqI (gv_var (i := 5) rfl (.int _)) gv_int)) (by decide) fun HX2 sX2 => ?_
        have FD := FD.same sX2
        have eMD := sX2 _ _ eMD
        have eD := sX2 _ _ eD
        have dMD := Dq.sameAll sX2 _ _ dMD
        refine gs_no (gvt_test (K := K) (gv_eqI (gv_var (i := 5) rfl (.int _)) gv_int)) (by decide) fun HX3 sX3 => ?_
        have FD := FD.same sX3
        have eMD := sX3 _ _ eMD
        have eD := sX3 _ _ eD
        have dMD := Dq.sameAll sX3 _ _ dMD
        have hlt : (ds.take pl).length = pl := by rw [List.length_take]; omega
    
        have lds : ds.length ≤ 8 := by omega
        refine ret_lst (cons_go (GvQM.at (K := K) (N := NAC a c) (ds := (ds.take pl ++ [d4]) ++ ds.drop pl) (gqm_cat (gql_cat (gql_of (gl_cutL (gv_var rfl (.lst (.inl (.inl FD.eB)) FD.dE)) (gv_var (i := 6) rfl (.int (pl : Int)))) (lfAll_of fun d hd => eds_lfm FD.eds d (List.mem_of_mem_take hd))) (gql_var (i := 7) rfl eMD dMD) (by simp; omega)) (gql_ofN (gn_cutLFrom (gv_var rfl (.lst (.inl (.inl FD.eB)) FD.dE)) (gv_var (i := 6) rfl (.int (pl : Int))) (by omega)) (lfAll_of fun d hd => eds_lfm FD.eds d (List.mem_of_mem_drop hd))) (by simp; omega)) fun B2 evs2 H9 s9 n9 sp9 e9 d9 => ?_))
        have F9 := FD.same s9
        refine ⟨.ref L, rfl, (.ref Dd), rfl, by show 3 ≤ sizeLine; decide, fun R nR => ?_⟩
        have sR := same_new (o := .lst [.ref B2, .ref L, (.ref Dd)]) nR
        have FR := F9.same sR
        refine q _ R B2 B L (.ref Dd) evs2 bs ds ((ds.take pl ++ [d4]) ++ ds.drop pl) pk sk xs FR.bt (FR.dk.less (by omega)) upd_same (FD.new n9) FR.nL (F9.new nR) sp9 (sR _ _ e9) (Dq.sameAll sR _ _ d9) FR.eL FR.hs (new_ne FD.hs n9) ⟨FR.eds, lds, ?_, fun x hx => ?_, fun x hx => ?_, ?_⟩
        · rw [List.length_append, List.length_append, List.length_take, List.length_drop]; show min _ _ + 1 + _ ≤ 10; omega
        · rcases List.mem_append.mp hx with hx | hx
          · rcases List.mem_append.mp hx with hx | hx
            · exact wd_eds FR.eds x (List.mem_of_mem_take hx)
            · rw [List.mem_singleton.mp hx]; exact hf4.2.2.1
          · exact wd_eds FR.eds x (List.mem_of_mem_drop hx)
        · rcases List.mem_append.mp hx with hx | hx
          · rcases List.mem_append.mp hx with hx | hx
            · exact sh_eds FR.eds hg x (List.mem_of_mem_take hx)
            · rw [List.mem_singleton.mp hx]; exact hf4.2.2.2
          · exact sh_eds FR.eds hg x (List.mem_of_mem_drop hx)
        · refine .inr (.inr ⟨Dd, ds.take pl, d4, ds.drop pl, _, _, _, rfl, by rw [hlt]; exact sR _ _ (s9 _ _ eD), by rw [List.append_assoc]; rfl, fun x hx => ?_, hEx, hf4.1⟩)
          rcases List.mem_append.mp hx with hx | hx
          · rcases List.mem_append.mp hx with hx | hx
            · exact ed_eds FR.eds x (List.mem_of_mem_take hx)
            · rw [List.mem_singleton.mp hx]; exact hf4.2.1
          · exact ed_eds FR.eds x (List.mem_of_mem_drop hx)
      · skip
        refine gs_no (gvt_test (K := K) (gv_eqI (gv_var (i := 5) rfl (.int _)) gv_int)) (by decide) fun HX0 sX0 => ?_
        have F3 := F3.same sX0
        have eM0 := sX0 _ _ eM0
        refine gs_if (gvt_test (K := K) (gv_eqI (gv_var (i := 5) rfl (.int _)) gv_int)) (fun _ HA sA => ?_) (fun z => absurd z (by decide))
        have F3 := F3.same sA
        refine ⟨.ref a, rfl, a, c, m + 30, rfl, F3.dk.less (by omega), W, fun H4 v4 d4 b4 D4 dv4 hb4 => ?_⟩
        have F4 := F3.but b4 D4
        refine ⟨by show 1 ≤ sizeLine; decide, fun Mo nM => ?_⟩
        have sM := same_new (o := .lst [v4]) nM
        have eM : upd H4 Mo (.lst [v4]) Mo = some (.lst [v4]) := upd_same
        have dM := (show DqAll K (NAC a c) (upd H4 Mo (.lst [v4])) [v4] _ from (.cons (Dq.same sM _ _ dv4) .nil))
        have FM := F4.same sM
        generalize upd H4 Mo (.lst [v4]) = HM at sM eM dM FM ⊢
        refine ⟨.int (pl : Int), rfl, by show 2 ≤ sizeLine; decide, fun Dd nD => ⟨_, _, rfl, ?_⟩⟩
        have sD := same_new (o := .lst [.str "bad edit", .int (pl : Int)]) nD
        have eD : upd HM Dd (.lst [.str "bad edit", .int (pl : Int)]) Dd = some (.lst [.str "bad edit", .int (pl : Int)]) := upd_same
        have FD := FM.same sD
        have eMD := sD _ _ eM
        have dMD := Dq.sameAll sD _ _ dM
        generalize upd HM Dd (.lst [.str "bad edit", .int (pl : Int)]) = HD at sD eD FD eMD dMD ⊢
        refine gs_no (gvt_test (K := K) (gv_eqI (gv_var (i := 5) rfl (.int _)) gv_int)) (by decide) fun HX2 sX2 => ?_
        have FD := FD.same sX2
        have eMD := sX2 _ _ eMD
        have eD := sX2 _ _ eD
        have dMD := Dq.sameAll sX2 _ _ dMD
        refine gs_no (gvt_test (K := K) (gv_eqI (gv_var (i := 5) rfl (.int _)) gv_int)) (by decide) fun HX3 sX3 => ?_
        have FD := FD.same sX3
        have eMD := sX3 _ _ eMD
        have eD := sX3 _ _ eD
        have dMD := Dq.sameAll sX3 _ _ dMD
        have hlt : (ds.take pl).length = pl := by rw [List.length_take]; omega
    
        have lds : ds.length ≤ 8 := by omega
        refine ret_lst (cons_go (GvQM.at (K := K) (N := NAC a c) (ds := (ds.take pl ++ [d4]) ++ ds.drop pl) (gqm_cat (gql_cat (gql_of (gl_cutL (gv_var rfl (.lst (.inl (.inl FD.eB)) FD.dE)) (gv_var (i := 6) rfl (.int (pl : Int)))) (lfAll_of fun d hd => eds_lfm FD.eds d (List.mem_of_mem_take hd))) (gql_var (i := 7) rfl eMD dMD) (by simp; omega)) (gql_ofN (gn_cutLFrom (gv_var rfl (.lst (.inl (.inl FD.eB)) FD.dE)) (gv_var (i := 6) rfl (.int (pl : Int))) (by omega)) (lfAll_of fun d hd => eds_lfm FD.eds d (List.mem_of_mem_drop hd))) (by simp; omega)) fun B2 evs2 H9 s9 n9 sp9 e9 d9 => ?_))
        have F9 := FD.same s9
        refine ⟨.ref L, rfl, (.ref Dd), rfl, by show 3 ≤ sizeLine; decide, fun R nR => ?_⟩
        have sR := same_new (o := .lst [.ref B2, .ref L, (.ref Dd)]) nR
        have FR := F9.same sR
        refine q _ R B2 B L (.ref Dd) evs2 bs ds ((ds.take pl ++ [d4]) ++ ds.drop pl) pk sk xs FR.bt (FR.dk.less (by omega)) upd_same (FD.new n9) FR.nL (F9.new nR) sp9 (sR _ _ e9) (Dq.sameAll sR _ _ d9) FR.eL FR.hs (new_ne FD.hs n9) ⟨FR.eds, lds, ?_, fun x hx => ?_, fun x hx => ?_, ?_⟩
        · rw [List.length_append, List.length_append, List.length_take, List.length_drop]; show min _ _ + 1 + _ ≤ 10; omega
        · rcases List.mem_append.mp hx with hx | hx
          · rcases List.mem_append.mp hx with hx | hx
            · exact wd_eds FR.eds x (List.mem_of_mem_take hx)
            · rw [List.mem_singleton.mp hx]; exact hb4.2.1
          · exact wd_eds FR.eds x (List.mem_of_mem_drop hx)
        · rcases List.mem_append.mp hx with hx | hx
          · rcases List.mem_append.mp hx with hx | hx
            · exact sh_eds FR.eds hg x (List.mem_of_mem_take hx)
            · rw [List.mem_singleton.mp hx]; exact hb4.2.2
          · exact sh_eds FR.eds hg x (List.mem_of_mem_drop hx)
        · exact .inr (.inl ⟨Dd, ds.take pl, d4, ds.drop pl, rfl, by rw [hlt]; exact sR _ _ (s9 _ _ eD), by rw [List.append_assoc]; rfl, fun x hx => ed_eds FR.eds x (List.mem_of_mem_take hx), hb4.1⟩)
      · skip
        refine gs_no (gvt_test (K := K) (gv_eqI (gv_var (i := 5) rfl (.int _)) gv_int)) (by decide) fun HX0 sX0 => ?_
        have F3 := F3.same sX0
        have eM0 := sX0 _ _ eM0
        refine gs_no (gvt_test (K := K) (gv_eqI (gv_var (i := 5) rfl (.int _)) gv_int)) (by decide) fun HX1 sX1 => ?_
        have F3 := F3.same sX1
        have eM0 := sX1 _ _ eM0
        refine gs_if (gvt_test (K := K) (gv_eqI (gv_var (i := 5) rfl (.int _)) gv_int)) (fun _ HA sA => ?_) (fun z => absurd z (by decide))
        have F3 := F3.same sA
        obtain ⟨Sx, yx, hSx, nSx, SAx, hEx⟩ := F3.get hpl
        obtain ⟨vpx, lx, eSx, dvpx, elx⟩ := id SAx
        have gyx := (eds_fin hEx hg hst).1
        refine ⟨.ref a, rfl, .ref L, rfl, .int (pl : Int), rfl, L, _, _, .ref Sx, rfl, rfl, .inl (.inl F3.eL), hSx, a, c, Sx, lx, m + 30, yx.1, vpx, rfl, F3.dk.less (by omega), eSx, dvpx, gyx, fun H4 v4 d4 b4 D4 dv4 hf4 => ?_⟩
        have F4 := F3.but b4 D4
        refine ⟨.ref a, rfl, a, c, m + 10, rfl, F4.dk.less (by omega), W, fun H5 v5 d5 b5 D5 dv5 hb5 => ?_⟩
        have F5 := F4.but b5 D5
        have dv45 := Dq.but (N := NAC a c) (.inl rfl) (.inr rfl) F4.dk b5 dv4
        refine ⟨by show 2 ≤ sizeLine; decide, fun Mo nM => ?_⟩
        have sM := same_new (o := .lst [v4, v5]) nM
        have eM : upd H5 Mo (.lst [v4, v5]) Mo = some (.lst [v4, v5]) := upd_same
        have dM := (show DqAll K (NAC a c) (upd H5 Mo (.lst [v4, v5])) [v4, v5] _ from (.cons (Dq.same sM _ _ dv45) (.cons (Dq.same sM _ _ dv5) .nil)))
        have FM := F5.same sM
        generalize upd H5 Mo (.lst [v4, v5]) = HM at sM eM dM FM ⊢
        refine ⟨.int (pl : Int), rfl, (pl : Int), 1, rfl, rfl, by show 2 ≤ sizeLine; decide, fun Dd nD => ?_⟩
        have sD := same_new (o := .lst [.str "bad edit", .int ((pl : Int) + 1)]) nD
        have eD : upd HM Dd (.lst [.str "bad edit", .int ((pl : Int) + 1)]) Dd = some (.lst [.str "bad edit", .int ((pl : Int) + 1)]) := upd_same
        have FD := FM.same sD
        have eMD := sD _ _ eM
        have dMD := Dq.sameAll sD _ _ dM
        generalize upd HM Dd (.lst [.str "bad edit", .int ((pl : Int) + 1)]) = HD at sD eD FD eMD dMD ⊢
        refine gs_no (gvt_test (K := K) (gv_eqI (gv_var (i := 5) rfl (.int _)) gv_int)) (by decide) fun HX3 sX3 => ?_
        have FD := FD.same sX3
        have eMD := sX3 _ _ eMD
        have eD := sX3 _ _ eD
        have dMD := Dq.sameAll sX3 _ _ dMD
        have hlt : (ds.take pl).length = pl := by rw [List.length_take]; omega
    
        have lds : ds.length ≤ 8 := by omega
        refine ret_lst (cons_go (GvQM.at (K := K) (N := NAC a c) (ds := (ds.take pl ++ [d4, d5]) ++ ds.drop pl) (gqm_cat (gql_cat (gql_of (gl_cutL (gv_var rfl (.lst (.inl (.inl FD.eB)) FD.dE)) (gv_var (i := 6) rfl (.int (pl : Int)))) (lfAll_of fun d hd => eds_lfm FD.eds d (List.mem_of_mem_take hd))) (gql_var (i := 7) rfl eMD dMD) (by simp; omega)) (gql_ofN (gn_cutLFrom (gv_var rfl (.lst (.inl (.inl FD.eB)) FD.dE)) (gv_var (i := 6) rfl (.int (pl : Int))) (by omega)) (lfAll_of fun d hd => eds_lfm FD.eds d (List.mem_of_mem_drop hd))) (by simp; omega)) fun B2 evs2 H9 s9 n9 sp9 e9 d9 => ?_))
        have F9 := FD.same s9
        refine ⟨.ref L, rfl, (.ref Dd), rfl, by show 3 ≤ sizeLine; decide, fun R nR => ?_⟩
        have sR := same_new (o := .lst [.ref B2, .ref L, (.ref Dd)]) nR
        have FR := F9.same sR
        refine q _ R B2 B L (.ref Dd) evs2 bs ds ((ds.take pl ++ [d4, d5]) ++ ds.drop pl) pk sk xs FR.bt (FR.dk.less (by omega)) upd_same (FD.new n9) FR.nL (F9.new nR) sp9 (sR _ _ e9) (Dq.sameAll sR _ _ d9) FR.eL FR.hs (new_ne FD.hs n9) ⟨FR.eds, lds, ?_, fun x hx => ?_, fun x hx => ?_, ?_⟩
        · rw [List.length_append, List.length_append, List.length_take, List.length_drop]; show min _ _ + 2 + _ ≤ 10; omega
        · rcases List.mem_append.mp hx with hx | hx
          · rcases List.mem_append.mp hx with hx | hx
            · exact wd_eds FR.eds x (List.mem_of_mem_take hx)
            · rcases (show x = d4 ∨ x = d5 by simpa using hx) with rfl | rfl
              · exact hf4.2.2.1
              · exact hb5.2.1
          · exact wd_eds FR.eds x (List.mem_of_mem_drop hx)
        · rcases List.mem_append.mp hx with hx | hx
          · rcases List.mem_append.mp hx with hx | hx
            · exact sh_eds FR.eds hg x (List.mem_of_mem_take hx)
            · rcases (show x = d4 ∨ x = d5 by simpa using hx) with rfl | rfl
              · exact hf4.2.2.2
              · exact hb5.2.2
          · exact sh_eds FR.eds hg x (List.mem_of_mem_drop hx)
        · refine .inr (.inl ⟨Dd, ds.take pl ++ [d4], d5, ds.drop pl, rfl, ?_, by rw [List.append_assoc, List.append_assoc]; rfl, fun x hx => ?_, hb5.1⟩)
          · rw [List.length_append, hlt]; exact sR _ _ (s9 _ _ eD)
          · rcases List.mem_append.mp hx with hx | hx
            · exact ed_eds FR.eds x (List.mem_of_mem_take hx)
            · rw [List.mem_singleton.mp hx]; exact hf4.2.1
      · skip
        refine gs_no (gvt_test (K := K) (gv_eqI (gv_var (i := 5) rfl (.int _)) gv_int)) (by decide) fun HX0 sX0 => ?_
        have F3 := F3.same sX0
        have eM0 := sX0 _ _ eM0
        refine gs_no (gvt_test (K := K) (gv_eqI (gv_var (i := 5) rfl (.int _)) gv_int)) (by decide) fun HX1 sX1 => ?_
        have F3 := F3.same sX1
        have eM0 := sX1 _ _ eM0
        refine gs_no (gvt_test (K := K) (gv_eqI (gv_var (i := 5) rfl (.int _)) gv_int)) (by decide) fun HX2 sX2 => ?_
        have F3 := F3.same sX2
        have eM0 := sX2 _ _ eM0
        refine gs_if (gvt_test (K := K) (gv_eqI (gv_var (i := 5) rfl (.int _)) gv_int)) (fun _ HA sA => ?_) (fun z => absurd z (by decide))
        have F3 := F3.same sA
        refine ⟨.ref a, rfl, a, c, m + 30, rfl, F3.dk.less (by omega), W, fun H4 v4 d4 b4 D4 dv4 hb4 => ?_⟩
        have F4 := F3.but b4 D4
        refine ⟨.ref a, rfl, a, c, m + 10, rfl, F4.dk.less (by omega), W, fun H5 v5 d5 b5 D5 dv5 hb5 => ?_⟩
        have F5 := F4.but b5 D5
        have dv45 := Dq.but (N := NAC a c) (.inl rfl) (.inr rfl) F4.dk b5 dv4
        refine ⟨by show 2 ≤ sizeLine; decide, fun Mo nM => ?_⟩
        have sM := same_new (o := .lst [v4, v5]) nM
        have eM : upd H5 Mo (.lst [v4, v5]) Mo = some (.lst [v4, v5]) := upd_same
        have dM := (show DqAll K (NAC a c) (upd H5 Mo (.lst [v4, v5])) [v4, v5] _ from (.cons (Dq.same sM _ _ dv45) (.cons (Dq.same sM _ _ dv5) .nil)))
        have FM := F5.same sM
        generalize upd H5 Mo (.lst [v4, v5]) = HM at sM eM dM FM ⊢
        refine ⟨.int (pl : Int), rfl, by show 2 ≤ sizeLine; decide, fun Dd nD => ⟨_, _, rfl, ?_⟩⟩
        have sD := same_new (o := .lst [.str "bad edit", .int (pl : Int)]) nD
        have eD : upd HM Dd (.lst [.str "bad edit", .int (pl : Int)]) Dd = some (.lst [.str "bad edit", .int (pl : Int)]) := upd_same
        have FD := FM.same sD
        have eMD := sD _ _ eM
        have dMD := Dq.sameAll sD _ _ dM
        generalize upd HM Dd (.lst [.str "bad edit", .int (pl : Int)]) = HD at sD eD FD eMD dMD ⊢
        have hlt : (ds.take pl).length = pl := by rw [List.length_take]; omega
    
        have lds : ds.length ≤ 8 := by omega
        refine ret_lst (cons_go (GvQM.at (K := K) (N := NAC a c) (ds := (ds.take pl ++ [d4, d5]) ++ ds.drop pl) (gqm_cat (gql_cat (gql_of (gl_cutL (gv_var rfl (.lst (.inl (.inl FD.eB)) FD.dE)) (gv_var (i := 6) rfl (.int (pl : Int)))) (lfAll_of fun d hd => eds_lfm FD.eds d (List.mem_of_mem_take hd))) (gql_var (i := 7) rfl eMD dMD) (by simp; omega)) (gql_ofN (gn_cutLFrom (gv_var rfl (.lst (.inl (.inl FD.eB)) FD.dE)) (gv_var (i := 6) rfl (.int (pl : Int))) (by omega)) (lfAll_of fun d hd => eds_lfm FD.eds d (List.mem_of_mem_drop hd))) (by simp; omega)) fun B2 evs2 H9 s9 n9 sp9 e9 d9 => ?_))
        have F9 := FD.same s9
        refine ⟨.ref L, rfl, (.ref Dd), rfl, by show 3 ≤ sizeLine; decide, fun R nR => ?_⟩
        have sR := same_new (o := .lst [.ref B2, .ref L, (.ref Dd)]) nR
        have FR := F9.same sR
        refine q _ R B2 B L (.ref Dd) evs2 bs ds ((ds.take pl ++ [d4, d5]) ++ ds.drop pl) pk sk xs FR.bt (FR.dk.less (by omega)) upd_same (FD.new n9) FR.nL (F9.new nR) sp9 (sR _ _ e9) (Dq.sameAll sR _ _ d9) FR.eL FR.hs (new_ne FD.hs n9) ⟨FR.eds, lds, ?_, fun x hx => ?_, fun x hx => ?_, ?_⟩
        · rw [List.length_append, List.length_append, List.length_take, List.length_drop]; show min _ _ + 2 + _ ≤ 10; omega
        · rcases List.mem_append.mp hx with hx | hx
          · rcases List.mem_append.mp hx with hx | hx
            · exact wd_eds FR.eds x (List.mem_of_mem_take hx)
            · rcases (show x = d4 ∨ x = d5 by simpa using hx) with rfl | rfl
              · exact hb4.2.1
              · exact hb5.2.1
          · exact wd_eds FR.eds x (List.mem_of_mem_drop hx)
        · rcases List.mem_append.mp hx with hx | hx
          · rcases List.mem_append.mp hx with hx | hx
            · exact sh_eds FR.eds hg x (List.mem_of_mem_take hx)
            · rcases (show x = d4 ∨ x = d5 by simpa using hx) with rfl | rfl
              · exact hb4.2.2
              · exact hb5.2.2
          · exact sh_eds FR.eds hg x (List.mem_of_mem_drop hx)
        · exact .inr (.inl ⟨Dd, ds.take pl, d4, d5 :: ds.drop pl, rfl, by rw [hlt]; exact sR _ _ (s9 _ _ eD), by rw [List.append_assoc]; rfl, fun x hx => ed_eds FR.eds x (List.mem_of_mem_take hx), hb4.1⟩)
      · skip
        refine gs_no (gvt_test (K := K) (gv_eqI (gv_var (i := 5) rfl (.int _)) gv_int)) (decide_eq_false (by omega)) fun HX0 sX0 => ?_
        have F3 := F3.same sX0
        have eM0 := sX0 _ _ eM0
        refine gs_no (gvt_test (K := K) (gv_eqI (gv_var (i := 5) rfl (.int _)) gv_int)) (decide_eq_false (by omega)) fun HX1 sX1 => ?_
        have F3 := F3.same sX1
        have eM0 := sX1 _ _ eM0
        refine gs_no (gvt_test (K := K) (gv_eqI (gv_var (i := 5) rfl (.int _)) gv_int)) (decide_eq_false (by omega)) fun HX2 sX2 => ?_
        have F3 := F3.same sX2
        have eM0 := sX2 _ _ eM0
        refine gs_no (gvt_test (K := K) (gv_eqI (gv_var (i := 5) rfl (.int _)) gv_int)) (decide_eq_false (by omega)) fun HX3 sX3 => ?_
        have F3 := F3.same sX3
        have eM0 := sX3 _ _ eM0
        have hlt : (ds.take pl).length = pl := by rw [List.length_take]; omega
    
        have lds : ds.length ≤ 8 := by omega
        refine ret_lst (cons_go (GvQM.at (K := K) (N := NAC a c) (ds := (ds.take pl ++ []) ++ ds.drop pl) (gqm_cat (gql_cat (gql_of (gl_cutL (gv_var rfl (.lst (.inl (.inl F3.eB)) F3.dE)) (gv_var (i := 6) rfl (.int (pl : Int)))) (lfAll_of fun d hd => eds_lfm F3.eds d (List.mem_of_mem_take hd))) (gql_var (i := 7) rfl eM0 (show DqAll K (NAC a c) _ [] [] from .nil)) (by simp; omega)) (gql_ofN (gn_cutLFrom (gv_var rfl (.lst (.inl (.inl F3.eB)) F3.dE)) (gv_var (i := 6) rfl (.int (pl : Int))) (by omega)) (lfAll_of fun d hd => eds_lfm F3.eds d (List.mem_of_mem_drop hd))) (by simp; omega)) fun B2 evs2 H9 s9 n9 sp9 e9 d9 => ?_))
        have F9 := F3.same s9
        refine ⟨.ref L, rfl, .non, rfl, by show 3 ≤ sizeLine; decide, fun R nR => ?_⟩
        have sR := same_new (o := .lst [.ref B2, .ref L, .non]) nR
        have FR := F9.same sR
        refine q _ R B2 B L .non evs2 bs ds ((ds.take pl ++ []) ++ ds.drop pl) pk sk xs FR.bt (FR.dk.less (by omega)) upd_same (F3.new n9) FR.nL (F9.new nR) sp9 (sR _ _ e9) (Dq.sameAll sR _ _ d9) FR.eL FR.hs (new_ne F3.hs n9) ⟨FR.eds, lds, ?_, fun x hx => ?_, fun x hx => ?_, ?_⟩
        · rw [List.length_append, List.length_append, List.length_take, List.length_drop]; show min _ _ + 0 + _ ≤ 10; omega
        · rcases List.mem_append.mp hx with hx | hx
          · rcases List.mem_append.mp hx with hx | hx
            · exact wd_eds FR.eds x (List.mem_of_mem_take hx)
            · cases hx
          · exact wd_eds FR.eds x (List.mem_of_mem_drop hx)
        · rcases List.mem_append.mp hx with hx | hx
          · rcases List.mem_append.mp hx with hx | hx
            · exact sh_eds FR.eds hg x (List.mem_of_mem_take hx)
            · cases hx
          · exact sh_eds FR.eds hg x (List.mem_of_mem_drop hx)
        · exact .inl ⟨rfl, by rw [List.append_nil, List.take_append_drop]⟩
end
end K48
namespace Pr
open PySem PySem.Spec PyProof.Rows L2
end Pr
namespace K48
open PySem PySem.Spec PyProof.Rows L2 Pr
/-- a state of the law: a list of its own -/
def InAt (K : PySem.W.Frag) (H : Hp) (a c S E : Addr) (b : Addr) (y : List (List Int) × List Int) : Prop := (b ≠ a ∧ b ≠ c ∧ b ≠ S ∧ b ≠ E) ∧ ∃ (vp : V) (l : Addr), H b = some (.lst [vp, .ref l]) ∧ Dp K H vp (dPan y.1) ∧ H l = some (.tup (y.2.map V.int))
structure IV (K : PySem.W.Frag) (C : Addr) (H : Hp) (a c t S E : Addr) (m : Nat) (pan : List (List Int)) (st : List Int) (past : List (PyData × List (List Int) × List Int)) (ys : List (List (List Int) × List Int)) (es : List PyData) : Prop where
  dk : Deck H a c m
  de : DeskAt K C H t pan st past
  sl : ∃ bs : List Addr, H S = some (.lst (bs.map V.ref)) ∧ Paired (InAt K H a c S E) bs ys
  ed : ∃ evs, H E = some (.lst evs) ∧ DpAll K H evs es
  lfe : ∀ d ∈ es, lf d = true ∧ Shw 1 39 d
  ne : S ≠ a ∧ S ≠ c ∧ E ≠ a ∧ E ≠ c ∧ S ≠ E
section
variable {K : PySem.W.Frag} {C : Addr} {H H' : Hp} {a c t S E : Addr} {m m' : Nat} {pan : List (List Int)} {st : List Int} {past : List (PyData × List (List Int) × List Int)} {ys : List (List (List Int) × List Int)} {es : List PyData}
theorem InAt.same {b : Addr} {y : List (List Int) × List Int} (s : Same H H') (h : InAt K H a c S E b y) : InAt K H' a c S E b y := by
  obtain ⟨n, vp, l, h1, h2, h3⟩ := h
  exact ⟨n, vp, l, s _ _ h1, h2.sm s, s _ _ h3⟩
theorem InAt.kp {b : Addr} {y : List (List Int) × List Int} (k : Kp H H') (e : ∀ vs, H b = some (.lst vs) → H' b = some (.lst vs)) (h : InAt K H a c S E b y) : InAt K H' a c S E b y := by
  obtain ⟨n, vp, l, h1, h2, h3⟩ := h
  exact ⟨n, vp, l, e _ h1, h2.kp k (lf_pan _), k.1 _ _ h3⟩
theorem IV.same (h : IV K C H a c t S E m pan st past ys es) (s : Same H H') : IV K C H' a c t S E m pan st past ys es := by
  obtain ⟨h1, h2, ⟨bs, h3, h4⟩, ⟨evs, h5, h6⟩, h7, h8⟩ := h
  exact ⟨h1.same s, h2.same s, ⟨bs, s _ _ h3, paired_imp (fun _ _ => InAt.same s) h4⟩, ⟨evs, s _ _ h5, h6.sm s⟩, h7, h8⟩
theorem IV.less (h : IV K C H a c t S E m pan st past ys es) (z : m' ≤ m) : IV K C H a c t S E m' pan st past ys es := ⟨h.dk.less z, h.de, h.sl, h.ed, h.lfe, h.ne⟩
theorem IV.lf (h : IV K C H a c t S E m pan st past ys es) : lfAll es = true := lfAll_of fun d hd => (h.lfe d hd).1
theorem IV.but (h : IV K C H a c t S E m pan st past ys es) (b : But a c H H') (D : Deck H' a c m') : IV K C H' a c t S E m' pan st past ys es := by
  have hl := h.lf
  obtain ⟨h1, h2, ⟨bs, h3, h4⟩, ⟨evs, h5, h6⟩, h7, h8⟩ := h
  have k := Kp.but h1 b
  exact ⟨D, h2.but h1 b, ⟨bs, b _ _ h8.1 h8.2.1 h3, paired_imp (fun x _ hx => hx.kp k fun vs e => b _ _ hx.1.1 hx.1.2.1 e) h4⟩, ⟨evs, b _ _ h8.2.2.1 h8.2.2.2.1 h5, dpAll_kp k _ _ hl h6⟩, h7, h8⟩
theorem IV.do {pan' : List (List Int)} {st' : List Int} {past' : List (PyData × List (List Int) × List Int)} (h : IV K C H a c t S E m pan st past ys es) (b : ButO t H H') (D : DeskAt K C H' t pan' st' past') : IV K C H' a c t S E m pan' st' past' ys es := by
  have hl := h.lf
  obtain ⟨h1, h2, ⟨bs, h3, h4⟩, ⟨evs, h5, h6⟩, h7, h8⟩ := h
  refine h2.at fun dx fs e1 _ => ?_
  have k := b.kp e1
  exact ⟨b.deck e1 h1, D, ⟨bs, b _ _ (ne_of h3 e1 (by intro z; cases z)) h3, paired_imp (fun x _ hx => hx.kp k fun vs e => b _ _ (ne_of e e1 (by intro z; cases z)) e) h4⟩, ⟨evs, b _ _ (ne_of h5 e1 (by intro z; cases z)) h5, dpAll_kp k _ _ hl h6⟩, h7, h8⟩
theorem IV.setE (h : IV K C H a c t S E m pan st past ys es) {evs evs' : List V} {es' : List PyData} (eE : H E = some (.lst evs)) (hd : ∀ H', Kp H H' → DpAll K H' evs' es') (hl : ∀ d ∈ es', Pr.lf d = true ∧ Shw 1 39 d) : IV K C (upd H E (.lst evs')) a c t S E m pan st past ys es' := by
  obtain ⟨h1, h2, ⟨bs, h3, h4⟩, ⟨evs0, h5, h6⟩, h7, h8⟩ := h
  have kE := Kp.upd (o := .lst evs') eE
  refine h2.at fun dx fs e1 _ => ?_
  exact ⟨Deck.upd' h1 ⟨h8.2.2.1, h8.2.2.2.1⟩, h2.kpAt kE (upd_ne (ne_of e1 eE (by intro z; cases z))), ⟨bs, by rw [upd_ne h8.2.2.2.2]; exact h3, paired_imp (fun x _ hx => hx.kp kE fun vs e => by rw [upd_ne hx.1.2.2.2]; exact e) h4⟩, ⟨_, upd_same, hd _ kE⟩, hl, h8⟩
theorem IV.setS (h : IV K C H a c t S E m pan st past ys es) {bs bs' : List Addr} {ys' : List (List (List Int) × List Int)} (eS : H S = some (.lst (bs.map V.ref))) (hd : Paired (InAt K H a c S E) bs' ys') : IV K C (upd H S (.lst (bs'.map V.ref))) a c t S E m pan st past ys' es := by
  have hl := h.lf
  obtain ⟨h1, h2, ⟨bs0, h3, h4⟩, ⟨evs, h5, h6⟩, h7, h8⟩ := h
  have kS := Kp.upd (o := .lst (bs'.map V.ref)) eS
  refine h2.at fun dx fs e1 _ => ?_
  exact ⟨Deck.upd' h1 ⟨h8.1, h8.2.1⟩, h2.kpAt kS (upd_ne (ne_of e1 eS (by intro z; cases z))), ⟨bs', upd_same, paired_imp (fun x _ hx => hx.kp kS fun vs e => by rw [upd_ne hx.1.2.2.1]; exact e) hd⟩, ⟨evs, by rw [upd_ne (Ne.symm h8.2.2.2.2)]; exact h5, dpAll_kp kS _ _ hl h6⟩, h7, h8⟩
end
theorem dpAll_left {K : PySem.W.Frag} {H : Hp} : ∀ {xs us : List V} {ys vs : List PyData}, DpAll K H (xs ++ us) (ys ++ vs) → xs.length = ys.length → DpAll K H xs ys
  | [], _, [], _, _, _ => .nil
  | x :: xs, us, y :: ys, vs, h, e => by
    cases h with
    | cons h1 h2 => exact .cons h1 (dpAll_left h2 (by simpa using e))
def stsM (pan : List (List Int)) (st : List Int) (past : List (PyData × List (List Int) × List Int)) : List (List (List Int) × List Int) := past.map (·.2) ++ [(pan, st)]
theorem sts_len (pan : List (List Int)) (st : List Int) (past : List (PyData × List (List Int) × List Int)) : (stsM pan st past).length = past.length + 1 := by
  unfold stsM
  rw [List.length_append, List.length_map]; rfl
theorem verM_sts (pan : List (List Int)) (st : List Int) (past : List (PyData × List (List Int) × List Int)) {j : Nat} (h : j ≤ past.length) : verM pan st past (.int (j : Int)) = (stsM pan st past)[j]? := by
  rw [verM_int, if_pos ⟨by omega, by omega⟩, Int.toNat_natCast]; rfl
theorem verM_none (pan : List (List Int)) (st : List Int) (past : List (PyData × List (List Int) × List Int)) : verM pan st past (.int ((past.length + 1 : Nat) : Int)) = none := by
  rw [verM_int, if_neg (by omega)]
section
variable {K : PySem.W.Frag} {C : Addr} {H : Hp} {σ : L2.St} {i j : Nat} {E : XK} {t : Addr} {pan : List (List Int)} {st : List Int} {past : List (PyData × List (List Int) × List Int)}
theorem good_sts {y : List (List Int) × List Int} (h : DeskAt K C H t pan st past) (hy : y ∈ stsM pan st past) : Good y.1 ∧ Asc y.1.length y.2 := by
  rcases List.mem_append.mp hy with hy | hy
  · obtain ⟨x, hx, rfl⟩ := List.mem_map.mp hy
    exact (h.lfe x hx).2
  · rw [List.mem_singleton.mp hy]; exact ⟨h.good, h.asc⟩
theorem gv_Right0 {S Ed u : Addr} {us : List V} {l : Nat} {r : V → Hp → VK → Prop} (hr : r = rU fun i => V.int (-i)) (hi : σ[i]? = some (some (.ref t))) (hj : σ[j]? = some (some (.ref S))) (hl : σ[l]? = some (some (.ref Ed))) (h : DeskAt K C H t pan st past) (few : past.length ≤ 60) (hsh : ∀ x ∈ past, Shw 1 39 x.1) (eS : H S = some (.lst (us ++ [.ref u]))) (du : Dp K H (.ref u) (dPS pan st)) (dE : Dp K H (.ref Ed) (.list (past.map (·.1)))) :
    Gv K (tCall (spRight K C) [] E (tCons (tVar i) (tCons (tOp (rIxL K) (tVar j) (tUn r (tC (.int 1)))) (tCons (tVar l) tNil)))) σ H (.bool true) := by
  subst hr
  exact fun H1 s Q q => ⟨.ref t, hi, .ref S, hj, 1, rfl, S, _, _, .ref u, rfl, rfl, .inl (.inl (s _ _ eS)), at_lastH, .ref Ed, hl, t, pan, st, past, .ref u, .ref Ed, rfl, h.same s, few, hsh, du.sm s, dE.sm s, fun H2 s2 => q _ H2 s2 (.bl true)⟩
theorem gv_NoV {te : TE} (hi : σ[i]? = some (some (.ref t))) (h : DeskAt K C H t pan st past) (hn : Gv K te σ H (.int ((past.length + 1 : Nat) : Int))) : Gv K (tCall (spNoV K C) [] E (tCons (tVar i) (tCons te tNil))) σ H (.bool true) := fun H1 s Q q => ⟨.ref t, hi, hn H1 s _ fun v H2 s2 dv => by
  cases dv
  exact ⟨t, pan, st, past, _, rfl, (h.same s).same s2, verM_none _ _ _, fun H3 s3 => q _ H3 (s2.trans s3) (.bl true)⟩⟩
end
section
variable {K : PySem.W.Frag} {C : Addr} {H H' : Hp} {a c t g : Addr} {pan : List (List Int)} {st gl : List Int} {past : List (PyData × List (List Int) × List Int)}
/-- what a version is told by -/
theorem gv_Shown {σ : L2.St} {i j : Nat} {E : XK} {tv : TE} {d : PyData} {y : List (List Int) × List Int} (hi : σ[i]? = some (some (.ref t))) (hj : σ[j]? = some (some (.ref g))) (hd : Gv K tv σ H d) (hdd : d = .none ∨ ∃ z, d = .int z) (h : DeskAt K C H t pan st past) (hy : verM pan st past d = some y) (ey : y ∈ stsM pan st past) (eg : H g = some (.tup (gl.map V.int))) (hgl : Asc y.1.length gl) :
    Gv K (tCall (spShown K C) [] E (tCons (tVar i) (tCons tv (tCons (tVar j) tNil)))) σ H (.str (dVer y gl).shown) := fun H1 s Q q => ⟨.ref t, hi, hd H1 s _ fun v H2 s2 dv => ⟨.ref g, hj, fun _ => False, t, g, v, d, y, pan, st, gl, past, rfl, (h.same s).same s2, by
    rcases hdd with rfl | ⟨z, rfl⟩
    · cases dv; exact .non
    · cases dv; exact .int z, hy, s2 _ _ (s _ _ eg), hgl, (good_sts h ey).1, (good_sts h ey).2, fun H3 s3 => q _ H3 (s2.trans s3) (.str _)⟩⟩
theorem gv_DueL {σ : L2.St} {j k : Nat} {E : XK} {r : V → Hp → VK → Prop} {M u : Addr} {us : List V} (hr : r = rU fun i => V.int (-i)) (hj : σ[j]? = some (some (.ref M))) (hk : σ[k]? = some (some (.ref g))) (eM : H M = some (.lst (us ++ [.ref u]))) (su : StA K H u (pan, st)) (eg : H g = some (.tup (gl.map V.int))) (hg : Good pan) (hst : Asc pan.length st) : Gv K (tCall (spDue K) [] E (tCons (tOp (rIxL K) (tVar j) (tUn r (tC (.int 1)))) (tCons (tVar k) tNil))) σ H (.str (dVer (pan, st) gl).shown) := by
  subst hr
  exact fun H1 s Q q => by
    obtain ⟨vp, l, e1, e2, e3⟩ := su.same s
    exact ⟨.ref M, hj, 1, rfl, M, _, _, .ref u, rfl, rfl, .inl (.inl (s _ _ eM)), at_last, .ref g, hk, u, l, g, vp, pan, st, gl, rfl, e1, e2, e3, s _ _ eg, hg, hst, fun H2 s2 => q _ H2 s2 (.str _)⟩
theorem gv_DueV {σ : L2.St} {j k : Nat} {E : XK} {u : Addr} {y : List (List Int) × List Int} (hj : σ[j]? = some (some (.ref u))) (hk : σ[k]? = some (some (.ref g))) (su : StA K H u y) (eg : H g = some (.tup (gl.map V.int))) (hg : Good y.1) (hst : Asc y.1.length y.2) : Gv K (tCall (spDue K) [] E (tCons (tVar j) (tCons (tVar k) tNil))) σ H (.str (dVer y gl).shown) := fun H1 s Q q => by
  obtain ⟨vp, l, e1, e2, e3⟩ := su.same s
  exact ⟨.ref u, hj, .ref g, hk, u, l, g, vp, y.1, y.2, gl, rfl, e1, e2, e3, s _ _ eg, hg, hst, fun H2 s2 => q _ H2 s2 (.str _)⟩
theorem gv_OddA {σ : L2.St} {i j : Nat} {E : XK} {N : Addr → Prop} {dV : Addr} {v : V} {d : PyData} (hi : σ[i]? = some (some (.ref t))) (hj : σ[j]? = some (some v)) (h : DeskAt K C H t pan st past) (few : past.length ≤ 1000) (hd : DqO K N H v d) (ho : ∀ ds, seqD d = some ds → 20 < ds.length ∧ ∀ x ∈ ds, WdOk K dV x) : Gv K (tCall (spAttd K C dV) [] E (tCons (tVar i) (tCons (tVar j) tNil))) σ H (.list [.str "bad edits"]) := fun H1 s Q q =>
  ⟨.ref t, hi, v, hj, N, t, pan, st, past, v, d, rfl, h.same s, few, hd.same s, fun ds e => (ho ds e).2, .inl ⟨fun ds e => (ho ds e).1, fun H' R s2 eR => q _ H' s2 (.lst (.inl (.inl eR)) (.cons (.str _) .nil))⟩⟩
end
section
variable {K : PySem.W.Frag} {C : Addr} {H H' : Hp} {a c t S E : Addr} {m m' : Nat} {pan : List (List Int)} {st : List Int} {past : List (PyData × List (List Int) × List Int)} {ys : List (List (List Int) × List Int)} {es : List PyData}
theorem IV.lastA {y : List (List Int) × List Int} (h : IV K C H a c t S E m pan st past (ys ++ [y]) es) : ∃ us u, H S = some (.lst (us ++ [.ref u])) ∧ (u ≠ a ∧ u ≠ c) ∧ StA K H u y := by
  obtain ⟨bs, e, hb⟩ := h.sl
  obtain ⟨us, u, eb, _, hu⟩ := prSplit hb
  obtain ⟨n, vp, l, h1, h2, h3⟩ := hu
  exact ⟨us.map V.ref, u, by rw [e, eb, List.map_append]; rfl, ⟨n.1, n.2.1⟩, vp, l, h1, h2, h3⟩
theorem IV.setO (h : IV K C H a c t S E m pan st past ys es) {x : Addr} {xs xs' : List V} (ex : H x = some (.lst xs)) (na : x ≠ a) (nc : x ≠ c) (nS : x ≠ S) (nE : x ≠ E) (nb : ∀ bs : List Addr, H S = some (.lst (bs.map V.ref)) → ∀ b ∈ bs, b ≠ x) : IV K C (upd H x (.lst xs')) a c t S E m pan st past ys es := by
  have hl := h.lf
  obtain ⟨h1, h2, ⟨bs0, h3, h4⟩, ⟨evs, h5, h6⟩, h7, h8⟩ := h
  have kx := Kp.upd (o := .lst xs') ex
  refine h2.at fun dx fs e1 _ => ?_
  exact ⟨Deck.upd' h1 ⟨na, nc⟩, h2.kpAt kx (upd_ne (ne_of e1 ex (by intro z; cases z))), ⟨bs0, by rw [upd_ne (Ne.symm nS)]; exact h3, paired_mono_mem h4 fun b y hb _ hx => hx.kp kx fun vs e => by rw [upd_ne (nb bs0 h3 b hb)]; exact e⟩, ⟨evs, by rw [upd_ne (Ne.symm nE)]; exact h5, dpAll_kp kx _ _ hl h6⟩, h7, h8⟩
end
theorem eds_vl {pan p : List (List Int)} {st s : List Int} {ds : List PyData} {xs : List (PyData × List (List Int) × List Int)} (h : Eds pan st ds p s xs) (g : Good pan) : ∀ y ∈ xs.map (·.2) ++ [(p, s)], y.1.length = pan.length := by
  induction h with
  | nil => intro y hy; rw [List.mem_singleton.mp hy]
  | cons h t ih =>
    have g2 := h.good g
    intro y hy
    rcases List.mem_cons.mp hy with rfl | hy
    · rfl
    · rw [ih g2.1 y hy, g2.2]
/-- what holds in a turn -/
structure J48 (K : PySem.W.Frag) (C : Addr) (H : Hp) (a c t M E g : Addr) (m n : Nat) (gl : List Int) (pan : List (List Int)) (st : List Int) (past : List (PyData × List (List Int) × List Int)) : Prop where
  iv : IV K C H a c t M E m pan st past (stsM pan st past) (past.map (·.1))
  vl : ∀ y ∈ stsM pan st past, y.1.length = n
  eg : H g = some (.tup (gl.map V.int))
section
variable {K : PySem.W.Frag} {C : Addr} {H H' : Hp} {a c t M E g : Addr} {m m' n : Nat} {gl : List Int} {pan : List (List Int)} {st : List Int} {past : List (PyData × List (List Int) × List Int)}
theorem J48.same (h : J48 K C H a c t M E g m n gl pan st past) (s : Same H H') : J48 K C H' a c t M E g m n gl pan st past := ⟨h.iv.same s, h.vl, s _ _ h.eg⟩
theorem J48.less (h : J48 K C H a c t M E g m n gl pan st past) (z : m' ≤ m) : J48 K C H a c t M E g m' n gl pan st past := ⟨h.iv.less z, h.vl, h.eg⟩
theorem J48.but (h : J48 K C H a c t M E g m n gl pan st past) (b : But a c H H') (D : Deck H' a c m') : J48 K C H' a c t M E g m' n gl pan st past := ⟨h.iv.but b D, h.vl, (Kp.but h.iv.dk b).1 _ _ h.eg⟩
theorem J48.now (h : J48 K C H a c t M E g m n gl pan st past) : pan.length = n := h.vl (pan, st) (List.mem_append_right _ List.mem_cons_self)
theorem J48.few (h : J48 K C H a c t M E g m n gl pan st past) : ∀ x ∈ past, Shw 1 39 x.1 := fun x hx => (h.iv.lfe _ (List.mem_map_of_mem hx)).2
end
theorem take_getLast {α : Type} {l : List α} {k : Nat} {x : α} (h : l[k]? = some x) : l.take (k + 1) = l.take k ++ [x] := by rw [List.take_add_one, h]; rfl
theorem if_and {t1 t2 : TT} {t u : TS} {D : Ends} {σ : L2.St} {H : Hp} {b : Bool} (h : GvT t1 σ H b) (hf : b = false → ∀ H', Same H H' → u D σ H') (ht : b = true → ∀ H', Same H H' → t2 σ H' fun b2 H2 => if b2 = true then t D σ H2 else u D σ H2) : tIfS (tAnd t1 t2) t u D σ H := h.at fun H' s => by
  cases b with
  | true => exact ht rfl H' s
  | false => exact hf rfl H' s
theorem cut_1 (x : V) (xs : List V) : cutV (x :: xs) (some 1) none = xs := by
  unfold cutV
  rw [HT.sIx_none, show (1 : Int) = ((1 : Nat) : Int) from rfl, HT.sIx_nat]
  simp
/-- what is due for a batch that is refused -/
def DueB (pan : List (List Int)) (st : List Int) (es : List PyData) (H : Hp) (dv : V) : Prop :=
    (∃ D gs b rs, dv = .ref D ∧ H D = some (.lst [.str "bad edit", .int (gs.length : Nat)]) ∧ es = gs ++ b :: rs ∧ (∀ x ∈ gs, isEdB x = true) ∧ isEdB b = false) ∨
    (∃ D gs b rs p2 s2 x2, dv = .ref D ∧ H D = some (.lst [.str "rejected", .int (gs.length : Nat)]) ∧ es = gs ++ b :: rs ∧ (∀ x ∈ es, isEdB x = true) ∧ Eds pan st gs p2 s2 x2 ∧ RefD p2 b)
theorem DueB.imp {pan : List (List Int)} {st : List Int} {es : List PyData} {H H' : Hp} {dv : V} (h : DueB pan st es H dv) (k : ∀ D xs, dv = .ref D → H D = some (.lst xs) → H' D = some (.lst xs)) : DueB pan st es H' dv := by
  rcases h with ⟨D, gs, b, rs, h1, h2, h3⟩ | ⟨D, gs, b, rs, p2, s2, x2, h1, h2, h3⟩
  · exact .inl ⟨D, gs, b, rs, h1, k _ _ h1 h2, h3⟩
  · exact .inr ⟨D, gs, b, rs, p2, s2, x2, h1, k _ _ h1 h2, h3⟩
/-- with the batch beside it -/
structure H48 (K : PySem.W.Frag) (C : Addr) (H : Hp) (a c t M E g B2 : Addr) (m n : Nat) (gl : List Int) (pan : List (List Int)) (st : List Int) (past : List (PyData × List (List Int) × List Int)) (pan2 : List (List Int)) (st2 : List Int) (past2 : List (PyData × List (List Int) × List Int)) (evs : List V) (es : List PyData) : Prop where
  iv : IV K C H a c t M E m pan st past (stsM pan2 st2 past2) (past2.map (·.1))
  vl : ∀ y ∈ stsM pan2 st2 past2, y.1.length = n
  eg : H g = some (.tup (gl.map V.int))
  eb : H B2 = some (.lst evs)
  db : DqAll K (NAC a c) H evs es
  ne : B2 ≠ a ∧ B2 ≠ c ∧ B2 ≠ M ∧ B2 ≠ E
  nb : ∀ bs : List Addr, H M = some (.lst (bs.map V.ref)) → ∀ b ∈ bs, b ≠ B2
theorem nb_keep {H H' : Hp} {M B2 : Addr} {xs : List Addr} (h : ∀ bs : List Addr, H M = some (.lst (bs.map V.ref)) → ∀ b ∈ bs, b ≠ B2) (e : H M = some (.lst (xs.map V.ref))) (e' : H' M = some (.lst (xs.map V.ref))) : ∀ bs : List Addr, H' M = some (.lst (bs.map V.ref)) → ∀ b ∈ bs, b ≠ B2 := fun bs q => h bs (e.trans (e'.symm.trans q))
section
variable {K : PySem.W.Frag} {C : Addr} {H H' : Hp} {a c t M E g B2 : Addr} {m m' n : Nat} {gl : List Int} {pan pan2 pan' : List (List Int)} {st st2 st' : List Int} {past past2 past' : List (PyData × List (List Int) × List Int)} {evs : List V} {es : List PyData}
theorem H48.same (h : H48 K C H a c t M E g B2 m n gl pan st past pan2 st2 past2 evs es) (s : Same H H') : H48 K C H' a c t M E g B2 m n gl pan st past pan2 st2 past2 evs es := by
  obtain ⟨bs, e, _⟩ := h.iv.sl
  exact ⟨h.iv.same s, h.vl, s _ _ h.eg, s _ _ h.eb, Dq.sameAll s _ _ h.db, h.ne, nb_keep h.nb e (s _ _ e)⟩
theorem H48.less (h : H48 K C H a c t M E g B2 m n gl pan st past pan2 st2 past2 evs es) (z : m' ≤ m) : H48 K C H a c t M E g B2 m' n gl pan st past pan2 st2 past2 evs es := ⟨h.iv.less z, h.vl, h.eg, h.eb, h.db, h.ne, h.nb⟩
theorem H48.but (h : H48 K C H a c t M E g B2 m n gl pan st past pan2 st2 past2 evs es) (b : But a c H H') (D : Deck H' a c m') : H48 K C H' a c t M E g B2 m' n gl pan st past pan2 st2 past2 evs es := by
  obtain ⟨bs, e, _⟩ := h.iv.sl
  exact ⟨h.iv.but b D, h.vl, (Kp.but h.iv.dk b).1 _ _ h.eg, b _ _ h.ne.1 h.ne.2.1 h.eb, h.db.but (.inl rfl) (.inr rfl) h.iv.dk b, h.ne, nb_keep h.nb e (b _ _ h.iv.ne.1 h.iv.ne.2.1 e)⟩
theorem H48.do (h : H48 K C H a c t M E g B2 m n gl pan st past pan2 st2 past2 evs es) (b : ButO t H H') (D : DeskAt K C H' t pan' st' past') : H48 K C H' a c t M E g B2 m n gl pan' st' past' pan2 st2 past2 evs es := by
  obtain ⟨bs, e, _⟩ := h.iv.sl
  refine h.iv.de.at fun dx fs e1 _ => ?_
  have l : ∀ x ys, H x = some (.lst ys) → H' x = some (.lst ys) := fun x ys q => b _ _ (ne_of q e1 (by intro z; cases z)) q
  exact ⟨h.iv.do b D, h.vl, (b.kp e1).1 _ _ h.eg, l _ _ h.eb, h.db.butO e1 b, h.ne, nb_keep h.nb e (l _ _ e)⟩
end
theorem paired_memL {α β : Type} {R : α → β → Prop} : ∀ {xs : List α} {ys : List β}, Paired R xs ys → ∀ {x : α}, x ∈ xs → ∃ y, y ∈ ys ∧ R x y
  | _, _, .nil, _, h => nomatch h
  | _, _, .cons h t, x, hx => by
    rcases List.mem_cons.mp hx with rfl | hx
    · exact ⟨_, List.mem_cons_self, h⟩
    · obtain ⟨y, h1, h2⟩ := paired_memL t hx
      exact ⟨y, List.mem_cons_of_mem _ h1, h2⟩
theorem refs_inj : ∀ {xs ys : List Addr}, xs.map V.ref = ys.map V.ref → xs = ys
  | [], [], _ => rfl
  | [], _ :: _, e => by cases e
  | _ :: _, [], e => by cases e
  | x :: xs, y :: ys, e => by
    injection e with e1 e2
    injection e1 with e1
    rw [e1, refs_inj e2]
theorem nb_of {H : Hp} {M B2 : Addr} {xs : List Addr} (e : H M = some (.lst (xs.map V.ref))) (h : ∀ b ∈ xs, b ≠ B2) : ∀ bs : List Addr, H M = some (.lst (bs.map V.ref)) → ∀ b ∈ bs, b ≠ B2 := fun bs q => by
  have : xs = bs := refs_inj (by have := e.symm.trans q; injection this with z; injection z)
  exact this ▸ h
theorem deck_neS {H : Hp} {a c D : Addr} {m : Nat} {w : Str} {r : List V} (h : Deck H a c m) (e : H D = some (.lst (.str w :: r))) : D ≠ a ∧ D ≠ c := by
  obtain ⟨xs, k, h1, h2, h3⟩ := h
  refine ⟨fun z => ?_, fun z => ?_⟩
  · rw [z, h1] at e; cases e
  · rw [z, h2] at e
    cases xs with
    | nil => cases e
    | cons x r => cases e
theorem DueB.but {pan : List (List Int)} {st : List Int} {es : List PyData} {H H' : Hp} {dv : V} {a c : Addr} {m : Nat} (h : DueB pan st es H dv) (D : Deck H a c m) (b : But a c H H') : DueB pan st es H' dv := by
  rcases h with ⟨D', gs, b', rs, h1, h2, h3⟩ | ⟨D', gs, b', rs, p2, s2, x2, h1, h2, h3⟩
  · exact .inl ⟨D', gs, b', rs, h1, b _ _ (deck_neS D h2).1 (deck_neS D h2).2 h2, h3⟩
  · exact .inr ⟨D', gs, b', rs, p2, s2, x2, h1, b _ _ (deck_neS D h2).1 (deck_neS D h2).2 h2, h3⟩
def dueD (w : Str) (i : Nat) : PyData := .list [.str w, .int (i : Int)]
theorem dq_due {K : PySem.W.Frag} {H : Hp} {R : Addr} {w : Str} {i : Nat} (e : H R = some (.lst [.str w, .int (i : Nat)])) : Dp K H (.ref R) (dueD w i) := .lst (.inl (.inl e)) (.cons (.str _) (.cons (.int _) .nil))
theorem sh_due {w : Str} {i : Nat} (hw : w = "bad edit" ∨ w = "rejected") (hi : i ≤ 10) : Shw 60 sizeLine (dueD w i) := by
  have h1 : Shw 3 60 (.str w) := by
    rcases hw with rfl | rfl
    · exact (shw_str (n := 60) (by decide +kernel)).mono (by decide) (by decide)
    · exact (shw_str (n := 60) (by decide +kernel)).mono (by decide) (by decide)
  have h2 : Shw 3 60 (.int (i : Int)) := (Shw.int (k := 2) (by omega) (by decide) (by decide) (by show _ < (100 : Int); omega)).mono (by decide) (by decide)
  exact (Shw.list (m := 2) (n := 60) (dep := 3) (all2 h1 h2) (by simp)).mono (by decide) (Nat.le_of_lt (small5 (by decide)))
theorem sh_num {n : Nat} (hn : n ≤ 90) : Shq 60 sizeLine (.int (n : Int)) := (shq_i (by omega) (by omega)).mono (by decide) (by decide)
theorem dqAll_rep {K : PySem.W.Frag} {N : Addr → Prop} {H : Hp} {v : V} {d : PyData} (h : Dq K N H v d) : ∀ n : Nat, DqAll K N H (List.replicate n v) (List.replicate n d)
  | 0 => .nil
  | n + 1 => .cons h (dqAll_rep h n)
theorem dpAll_takeN {K : PySem.W.Frag} {H : Hp} : ∀ {xs : List V} {ys : List PyData} (k : Nat), DpAll K H xs ys → DpAll K H (xs.take k) (ys.take k)
  | _, _, 0, _ => .nil
  | [], [], _ + 1, .nil => .nil
  | _ :: _, _ :: _, k + 1, .cons h t => .cons h (dpAll_takeN k t)
theorem cut_to (xs : List V) (k : Nat) (h : k ≤ xs.length) : cutV xs none (some (k : Int)) = xs.take k := by
  unfold cutV
  rw [HT.sIx_none, HT.sIx_nat, Nat.min_eq_left h, List.drop_zero, Nat.sub_zero]
section
variable {K : PySem.W.Frag} {C : Addr} {H : Hp} {t M E : Addr} {pan : List (List Int)} {st : List Int} {past : List (PyData × List (List Int) × List Int)} {es : List PyData}
theorem gv_RightK {σ : L2.St} {i j l o : Nat} {X : XK} {k : Nat} {u : Addr} {us evs : List V} (hi : σ[i]? = some (some (.ref t))) (hj : σ[j]? = some (some (.ref M))) (hl : σ[l]? = some (some (.ref E))) (ho : σ[o]? = some (some (.int (k : Int)))) (h : DeskAt K C H t pan st past) (few : past.length ≤ 60) (hsh : ∀ x ∈ past, Shw 1 39 x.1)
    (eM : H M = some (.lst us)) (hu : us[k]? = some (.ref u)) (du : Dp K H (.ref u) (dPS pan st)) (eE : H E = some (.lst evs)) (dE : DpAll K H evs es) (hes : es.take k = past.map (·.1)) (hk : k ≤ evs.length) :
    Gv K (tCall (spRight K C) [] X (tCons (tVar i) (tCons (tOp (rIxL K) (tVar j) (tVar o)) (tCons (tSl (rSlL K) (tVar l) tNoPart (tPart (tVar o))) tNil)))) σ H (.bool true) := fun H1 s Q q =>
  ⟨.ref t, hi, .ref M, hj, .int (k : Int), ho, M, _, _, .ref u, rfl, rfl, .inl (.inl (s _ _ eM)), atI_nat hu, .ref E, hl, .int (k : Int), ho, (k : Int), rfl, E, evs, rfl, .inl (.inl (s _ _ eE)), fun P nP => by
    rw [cut_to _ _ hk]
    have sP := same_new (o := .lst (evs.take k)) nP
    refine ⟨t, pan, st, past, .ref u, .ref P, rfl, (h.same s).same sP, few, hsh, (du.sm s).sm sP, .lst (.inl (.inl upd_same)) ?_, fun H3 s3 => q _ H3 ((sP).trans s3) (.bl true)⟩
    rw [← hes]
    exact dpAll_takeN k ((dE.sm s).sm sP)⟩
end
end K48
namespace K48
open PySem PySem.Spec PyProof.Rows L2 Pr
def nLaw : List Str := ["_law_script", "_law_deck_here", "_law_panel_here", "_law_n", "_law_every", "_law_edits", "_law_table", "_law_turn", "_law_goal", "_law_batch_here", "_law_states", "_law_due_here", "_law_given", "_law_held", "_law_odd", "_law_past", "_law_moment", "_law_state_here", "_law_index"]
theorem scLaw : FnScope nLaw ["_law_script"] (defScope sLaw) := ⟨rfl, rfl, rfl, by decide +kernel, rfl, by decide +kernel, by decide +kernel⟩
section
variable {P : Program} {w : World} {K : PySem.W.Frag} {mg : Str → Option Value} {base : Heap}
def spLaw (K : PySem.W.Frag) : Sp := fun vs H Q _ => ∃ (s : Addr) (ns : List Int), vs = [.ref s] ∧ SqL K H s (ns.map V.int) ∧ ns.length ≤ 63 ∧ ∀ H', Q (.bl true) H'
theorem ok_law {fWl : Addr} {fdWl : FuncData} {fLi : Addr} {fdLi : FuncData} {fUn : Addr} {fdUn : FuncData} {fBtn : Addr} {fdBtn : FuncData} {fBtnT : Addr} {fdBtnT : FuncData} {fPErr : Addr} {fdPErr : FuncData} {fPress : Addr} {fdPress : FuncData} {fAny : Addr} {fdAny : FuncData} {fHeld : Addr} {fdHeld : FuncData} {fChkP : Addr} {fdChkP : FuncData} {fChkS : Addr} {fdChkS : FuncData} {fChkB : Addr} {fdChkB : FuncData} {fIsV : Addr} {fdIsV : FuncData} {fRows : Addr} {fdRows : FuncData} {fWay : Addr} {fdWay : FuncData} {fIsE : Addr} {fdIsE : FuncData} {fCopy : Addr} {fdCopy : FuncData} {fDeck : Addr} {fdDeck : FuncData} {fDraw : Addr} {fdDraw : FuncData} {fPanel : Addr} {fdPanel : FuncData} {fState0 : Addr} {fdState0 : FuncData} {fPressed : Addr} {fdPressed : FuncData} {fChanged : Addr} {fdChanged : FuncData} {fAfter : Addr} {fdAfter : FuncData} {fEdit : Addr} {fdEdit : FuncData} {fRight : Addr} {fdRight : FuncData} {fLWay : Addr} {fdLWay : FuncData} {fNoV : Addr} {fdNoV : FuncData} {fShown : Addr} {fdShown : FuncData} {fDue : Addr} {fdDue : FuncData} {fAttd : Addr} {fdAttd : FuncData} {fFail : Addr} {fdFail : FuncData} {fBad : Addr} {fdBad : FuncData} {fBatch : Addr} {fdBatch : FuncData} {f : Addr} {fd : FuncData} (F : Fun K "law" "law" sLaw f fd)
    (FWl : Fun K "with_list" "with_list" sWl fWl fdWl) (bWl : Binds K fdWl ["panel", "button", "released"] []) (gWl : mg "with_list" = some (.ref fWl))
    (FLi : Fun K "linked" "linked" sLi fLi fdLi) (bLi : Binds K fdLi ["panel", "one", "other"] []) (gLi : mg "linked" = some (.ref fLi))
    (FUn : Fun K "unlinked" "unlinked" sUn fUn fdUn) (bUn : Binds K fdUn ["panel", "one", "other"] []) (gUn : mg "unlinked" = some (.ref fUn))
    (FBtn : Fun K "is_button" "is_button" sBtn fBtn fdBtn) (bBtn : Binds K fdBtn ["value", "many"] []) (gBtn : mg "is_button" = some (.ref fBtn))
    (FBtnT : Fun K "is_button_tuple" "is_button_tuple" sBtnT fBtnT fdBtnT) (bBtnT : Binds K fdBtnT ["value", "many"] []) (gBtnT : mg "is_button_tuple" = some (.ref fBtnT))
    (FPErr : Fun K "panel_error" "panel_error" sPErr fPErr fdPErr) (bPErr : Binds K fdPErr ["value"] []) (gPErr : mg "panel_error" = some (.ref fPErr))
    (FPress : Fun K "press_button" "press_button" sPress fPress fdPress) (bPress : Binds K fdPress ["panel", "state", "button"] []) (gPress : mg "press_button" = some (.ref fPress))
    (FAny : Fun K "releases_any" "releases_any" sAny fAny fdAny) (bAny : Binds K fdAny ["panel", "button", "others"] []) (gAny : mg "releases_any" = some (.ref fAny))
    (FHeld : Fun K "held_buttons" "held_buttons" sHeld fHeld fdHeld) (bHeld : Binds K fdHeld ["panel", "state"] []) (gHeld : mg "held_buttons" = some (.ref fHeld))
    (FChkP : Fun K "check_panel" "check_panel" sChkP fChkP fdChkP) (bChkP : Binds K fdChkP ["value"] []) (gChkP : mg "check_panel" = some (.ref fChkP))
    (FChkS : Fun K "check_state" "check_state" sChkS fChkS fdChkS) (bChkS : Binds K fdChkS ["panel", "value"] []) (gChkS : mg "check_state" = some (.ref fChkS))
    (FChkB : Fun K "check_button" "check_button" sChkB fChkB fdChkB) (bChkB : Binds K fdChkB ["panel", "value"] []) (gChkB : mg "check_button" = some (.ref fChkB))
    (FIsV : Fun K "is_version" "is_version" sIsV fIsV fdIsV) (bIsV : Binds K fdIsV ["value", "latest"] []) (gIsV : mg "is_version" = some (.ref fIsV))
    (FRows : Fun K "shortest_rows" "shortest_rows" sRows fRows fdRows) (bRows : Binds K fdRows ["panel", "first", "step"] []) (gRows : mg "shortest_rows" = some (.ref fRows))
    (FWay : Fun K "shortest_way" "shortest_way" sWay fWay fdWay) (bWay : Binds K fdWay ["panel", "start", "goal"] []) (gWay : mg "shortest_way" = some (.ref fWay))
    (FIsE : Fun K "is_edit" "is_edit" sIsE fIsE fdIsE) (bIsE : Binds K fdIsE ["value"] []) (gIsE : mg "is_edit" = some (.ref fIsE))
    (FCopy : Fun K "copied_batch" "copied_batch" sCopy fCopy fdCopy) (bCopy : Binds K fdCopy ["value"] []) (gCopy : mg "copied_batch" = some (.ref fCopy))
    (FDeck : Fun K "_law_deck" "_law_deck" sDeck fDeck fdDeck) (bDeck : Binds K fdDeck ["_law_script"] []) (gDeck : mg "_law_deck" = some (.ref fDeck))
    (FDraw : Fun K "_law_draw" "_law_draw" sDraw fDraw fdDraw) (bDraw : Binds K fdDraw ["_law_deck_here", "_law_many"] []) (gDraw : mg "_law_draw" = some (.ref fDraw))
    (FPanel : Fun K "_law_panel" "_law_panel" sPanel fPanel fdPanel) (bPanel : Binds K fdPanel ["_law_deck_here", "_law_most"] []) (gPanel : mg "_law_panel" = some (.ref fPanel))
    (FState0 : Fun K "_law_state" "_law_state" sState0 fState0 fdState0) (bState0 : Binds K fdState0 ["_law_deck_here", "_law_n"] []) (gState0 : mg "_law_state" = some (.ref fState0))
    (FPressed : Fun K "_law_pressed" "_law_pressed" sPressed fPressed fdPressed) (bPressed : Binds K fdPressed ["_law_panel_here", "_law_state_here", "_law_button"] []) (gPressed : mg "_law_pressed" = some (.ref fPressed))
    (FChanged : Fun K "_law_changed" "_law_changed" sChanged fChanged fdChanged) (bChanged : Binds K fdChanged ["_law_panel_here", "_law_one", "_law_other", "_law_is_link"] []) (gChanged : mg "_law_changed" = some (.ref fChanged))
    (FAfter : Fun K "_law_after" "_law_after" sAfter fAfter fdAfter) (bAfter : Binds K fdAfter ["_law_state_here", "_law_edit_here"] []) (gAfter : mg "_law_after" = some (.ref fAfter))
    (FEdit : Fun K "_law_edit" "_law_edit" sEdit fEdit fdEdit) (bEdit : Binds K fdEdit ["_law_deck_here", "_law_state_here"] []) (gEdit : mg "_law_edit" = some (.ref fEdit))
    (FRight : Fun K "_law_right" "_law_right" sRight fRight fdRight) (bRight : Binds K fdRight ["_law_table", "_law_state_here", "_law_edits"] []) (gRight : mg "_law_right" = some (.ref fRight))
    (FLWay : Fun K "_law_way" "_law_way" sLWay fLWay fdLWay) (bLWay : Binds K fdLWay ["_law_panel_here", "_law_start", "_law_goal"] []) (gLWay : mg "_law_way" = some (.ref fLWay))
    (FNoV : Fun K "_law_no_version" "_law_no_version" sNoV fNoV fdNoV) (bNoV : Binds K fdNoV ["_law_table", "_law_past"] []) (gNoV : mg "_law_no_version" = some (.ref fNoV))
    (FShown : Fun K "_law_shown" "_law_shown" sShown fShown fdShown) (bShown : Binds K fdShown ["_law_table", "_law_past", "_law_goal"] []) (gShown : mg "_law_shown" = some (.ref fShown))
    (FDue : Fun K "_law_due" "_law_due" sDue fDue fdDue) (bDue : Binds K fdDue ["_law_state_here", "_law_goal"] []) (gDue : mg "_law_due" = some (.ref fDue))
    (FAttd : Fun K "_law_attempted" "_law_attempted" sAttd fAttd fdAttd) (bAttd : Binds K fdAttd ["_law_table", "_law_batch_here"] []) (gAttd : mg "_law_attempted" = some (.ref fAttd))
    (FFail : Fun K "_law_failing" "_law_failing" sFail fFail fdFail) (bFail : Binds K fdFail ["_law_deck_here", "_law_state_here"] []) (gFail : mg "_law_failing" = some (.ref fFail))
    (FBad : Fun K "_law_bad" "_law_bad" sBad fBad fdBad) (bBad : Binds K fdBad ["_law_deck_here"] []) (gBad : mg "_law_bad" = some (.ref fBad))
    (FBatch : Fun K "_law_batch" "_law_batch" sBatch fBatch fdBatch) (bBatch : Binds K fdBatch ["_law_deck_here", "_law_state_here"] []) (gBatch : mg "_law_batch" = some (.ref fBatch))
    (m_ValueError : mg "ValueError" = none) (m_abs : mg "abs" = none) (m_any : mg "any" = none) (m_bool : mg "bool" = none) (m_enumerate : mg "enumerate" = none) (m_int : mg "int" = none) (m_isinstance : mg "isinstance" = none) (m_len : mg "len" = none) (m_list : mg "list" = none) (m_min : mg "min" = none) (m_range : mg "range" = none) (m_repr : mg "repr" = none) (m_sorted : mg "sorted" = none) (m_str : mg "str" = none) (m_tuple : mg "tuple" = none) {C CV CU CR CBs CBe dV CP C2 : Addr} (T : TxtD K mg C) (DX : DM P w K mg base C CV CU CR CBs CBe dV CP C2) (W : WNo K dV) : FnG P w K mg base (20) f fd ["_law_script"] (spLaw K) := by
  have DX0 := DX
  obtain ⟨fInitD, fdInitD, bInitD, MkD, GInitD, fState, fdState, dsState, vState, kbState, bState, hState, GState, fWayTo, fdWayTo, dsWayTo, vWayTo, kbWayTo, bWayTo, hWayTo, GWayTo, fUndo, fdUndo, bUndo, hUndo, GUndo, fEdits, fdEdits, bEdits, hEdits, GEdits, fLenD, fdLenD, bLenD, xLenD, yLenD, GLenD, fStrD, fdStrD, bStrD, xStrD, yStrD, GStrD, fAt, fdAt, dsAt, vAt, bAt, kbAt, hAt, GAt, YV, YA⟩ := DX0
  have GDeck : FnOk P w K mg base CX0 (1) fDeck fdDeck ["_law_script"] (spDeck K) := ok_deck FDeck m_abs
  have GPanel : FnOk P w K mg base CX0 (2) fPanel fdPanel ["_law_deck_here", "_law_most"] (spPanel K) := ok_Panel FPanel FDraw bDraw gDraw m_len m_list m_min m_range m_tuple
  have GState0 : FnOk P w K mg base CX0 (2) fState0 fdState0 ["_law_deck_here", "_law_n"] (spState0 K) := ok_State0 FState0 FDraw bDraw gDraw m_len m_range m_tuple
  have GDraw : FnOk P w K mg base CX0 (1) fDraw fdDraw ["_law_deck_here", "_law_many"] spDraw := ok_draw FDraw m_len
  have GShown : FnG P w K mg base (14) fShown fdShown ["_law_table", "_law_past", "_law_goal"] (spShown K C) := ok_Shown FShown m_repr T DX
  have GDue : FnG P w K mg base (14) fDue fdDue ["_law_state_here", "_law_goal"] (spDue K) := ok_Due FDue FPressed bPressed gPressed FLWay bLWay gLWay m_len m_range m_repr m_sorted m_tuple T DX
  have GBatch : FnOk P w K mg base CX0 (3) fBatch fdBatch ["_law_deck_here", "_law_state_here"] (spBatch K dV) := ok_Batch FBatch FDraw bDraw gDraw FPressed bPressed gPressed FChanged bChanged gChanged FAfter bAfter gAfter FEdit bEdit gEdit FFail bFail gFail FBad bBad gBad m_int m_len m_range m_sorted m_tuple
  have GAttd : FnOk P w K mg base CX0 (10) fAttd fdAttd ["_law_table", "_law_batch_here"] (spAttd K C dV) := ok_Attd FAttd m_isinstance m_ValueError m_len T DX
  have GNoV : FnOk P w K mg base CX0 (4) fNoV fdNoV ["_law_table", "_law_past"] (spNoV K C) := ok_NoV FNoV  T DX
  have GRight : FnG P w K mg base (14) fRight fdRight ["_law_table", "_law_state_here", "_law_edits"] (spRight K C) := ok_Right FRight m_len m_repr m_str m_tuple T DX
  refine okG F scLaw (fun vs H Q E h => ?_) (fun cdv A outer s H vs Q E gd hr h => ?_)
  · obtain ⟨s, ns, rfl, _⟩ := h
    rfl
  · obtain ⟨sc, ns, rfl, hS, hlen, q⟩ := h
    refine ⟨_, pss_cons (ps_set (i := 1) scLaw.nd rfl (.inl rfl) (pe_call GDeck (hr.mono (by omega)) (by rfl) gDeck FDeck.kp bDeck .nil pass0 (pa_cons (pv 0) pa_nil)))
      (pss_cons (ps_set (i := 2) scLaw.nd rfl (.inl rfl) (pe_call GPanel (hr.mono (by omega)) (by rfl) gPanel FPanel.kp bPanel .nil pass0 (pa_cons (pv 1) (pa_cons pe_int pa_nil))))
      (pss_cons (ps_set (i := 3) scLaw.nd rfl (.inl rfl) (pe_callB (show CallR _ _ (rLenG K) from cr_lenG) (by rfl) m_len PySem.boot_len (pa_cons (pv 2) pa_nil)))
      (pss_cons (ps_par (i := 4) (j := 5) rfl scLaw.nd rfl rfl (by decide) rfl rfl (pa_cons (pe_lst (pa_cons (pe_lst (pa_cons (pv 2) (pa_cons (pe_call GState0 (hr.mono (by omega)) (by rfl) gState0 FState0.kp bState0 .nil pass0 (pa_cons (pv 1) (pa_cons (pv 3) pa_nil))) pa_nil))) pa_nil)) (pa_cons (pe_lst pa_nil) pa_nil)) (by rfl))
      (pss_cons (ps_set (i := 6) scLaw.nd rfl (.inl rfl) (pe_make MkD GInitD (hr.mono (by omega)) (by rfl) T.g bInitD .nil pass0 (pa_cons (pe_ix (show IxR _ (rIxL K) from ix_list) (pe_ix (show IxR _ (rIxL K) from ix_list) (pv 4) pe_int (fun _ _ => rfl)) pe_int (fun _ _ => rfl)) (pa_cons (pe_ix (show IxR _ (rIxL K) from ix_list) (pe_ix (show IxR _ (rIxL K) from ix_list) (pv 4) pe_int (fun _ _ => rfl)) pe_int (fun _ _ => rfl)) pa_nil))))
      (pss_cons (ps_for PassesOwn.never rfl (pi_range1 (by rfl) m_range (pa_cons (pe_op op_add pe_int (pe_call GDraw (hr.mono (by omega)) (by rfl) gDraw FDraw.kp bDraw .nil pass0 (pa_cons (pv 1) (pa_cons pe_int pa_nil)))) pa_nil)) (pg_name (i := 7) scLaw.nd rfl (Or.inl rfl)) (pss_cons (ps_set (i := 8) scLaw.nd rfl (.inl rfl) (pe_call GState0 (hr.mono (by omega)) (by rfl) gState0 FState0.kp bState0 .nil pass0 (pa_cons (pv 1) (pa_cons (pv 3) pa_nil))))
      (pss_cons (ps_if (pt_cmpR op_ne (pe_callG GShown gd (hr.mono (by omega)) (by rfl) gShown FShown.kp bShown (pa_cons (pv 6) (pa_cons pe_non (pa_cons (pv 8) pa_nil)))) (pe_callG GDue gd (hr.mono (by omega)) (by rfl) gDue FDue.kp bDue (pa_cons (pe_ix (show IxR _ (rIxL K) from ix_list) (pv 4) (pe_un un_neg pe_int) (fun _ _ => rfl)) (pa_cons (pv 8) pa_nil))) (nomark _)) (pss_one (ps_ret pe_bl)) pss_nil)
      (pss_cons (ps_if (PW.pt (pw_and (pt_cmpR (show OpR _ _ rNeE1 from op_neE1 hr.units) (pv 5) (pe_lst pa_nil) (nomark _)) (pw_and1 (pt_cmpR op_eq (pe_call GDraw (hr.mono (by omega)) (by rfl) gDraw FDraw.kp bDraw .nil pass0 (pa_cons (pv 1) (pa_cons pe_int pa_nil))) pe_int (nomark _))))) (pss_cons (ps_expr (show PE _ _ (tBM0 K "list" rPop _) from pe_bm0 PySem.F.plainAttrs_list PySem.F.slot_list_pop PySem.F.type_list_pop mt_pop (pv 5)))
      (pss_cons (ps_expr (show PE _ _ (tBM0 K "list" rPop _) from pe_bm0 PySem.F.plainAttrs_list PySem.F.slot_list_pop PySem.F.type_list_pop mt_pop (pv 4)))
      (pss_one (ps_if (pt_cmpR op_ne (pe_meth0 (pv 6) T.cl hUndo GUndo (hr.mono (by omega)) bUndo .nil passX) (pe_callB (show CallR _ _ (rLenG K) from cr_lenG) (by rfl) m_len PySem.boot_len (pa_cons (pv 5) pa_nil)) (nomark _)) (pss_one (ps_ret pe_bl)) pss_nil)))) pss_nil)
      (pss_cons (ps_asg (pe_call GBatch (hr.mono (by omega)) (by rfl) gBatch FBatch.kp bBatch .nil pass0 (pa_cons (pv 1) (pa_cons (pe_ix (show IxR _ (rIxL K) from ix_list) (pv 4) (pe_un un_neg pe_int) (fun _ _ => rfl)) pa_nil))) (pg_unl rfl (pgs_cons (pg_name (i := 9) scLaw.nd rfl (Or.inl rfl)) (pgs_cons (pg_name (i := 10) scLaw.nd rfl (Or.inl rfl)) (pgs_cons (pg_name (i := 11) scLaw.nd rfl (Or.inl rfl)) pgs_nil)))))
      (pss_cons (ps_if (pt_cmpR op_isN (pv 11) pe_non (by rfl)) (pss_cons (ps_par (i := 5) (j := 4) rfl scLaw.nd rfl rfl (by decide) rfl rfl (pa_cons (pe_op op_cat (pv 5) (pv 9)) (pa_cons (pe_op op_cat (pv 4) (pe_slice (show SlR _ (rSlL K) from sl_list) (pv 10) (po_some pe_int) po_none)) pa_nil)) (by rfl))
      (pss_one (ps_set (i := 11) scLaw.nd rfl (.inl rfl) (pe_callB (show CallR _ _ (rLenG K) from cr_lenG) (by rfl) m_len PySem.boot_len (pa_cons (pv 9) pa_nil))))) pss_nil)
      (pss_cons (ps_set (i := 12) scLaw.nd rfl (.inl rfl) (pe_ix (show IxR _ (rIxL K) from ix_list) (pe_lst (pa_cons (pv 9) (pa_cons (pe_callTy (show CallR _ _ (rTupG K) from cr_tupG) (by rfl) m_tuple (by decide +kernel) (pa_cons (pv 9) pa_nil)) pa_nil))) (pe_call GDraw (hr.mono (by omega)) (by rfl) gDraw FDraw.kp bDraw .nil pass0 (pa_cons (pv 1) (pa_cons pe_int pa_nil))) (fun _ _ => rfl)))
      (pss_cons (ps_set (i := 13) scLaw.nd rfl (.inl rfl) (pe_callB (show CallR _ _ (rReprA K) from cr_reprA gd hr) (by rfl) m_repr (by decide +kernel) (pa_cons (pv 12) pa_nil)))
      (pss_cons (ps_if (PW.pt (pw_or (pt_cmpR op_ne (pe_callB (show CallR _ _ (rReprA K) from cr_reprA gd hr) (by rfl) m_repr (by decide +kernel) (pa_cons (pe_call GAttd (hr.mono (by omega)) (by rfl) gAttd FAttd.kp bAttd .nil pass0 (pa_cons (pv 6) (pa_cons (pv 12) pa_nil))) pa_nil)) (pe_callB (show CallR _ _ (rReprA K) from cr_reprA gd hr) (by rfl) m_repr (by decide +kernel) (pa_cons (pv 11) pa_nil)) (nomark _)) (pw_or1 (pt_cmpR op_ne (pe_callB (show CallR _ _ (rReprA K) from cr_reprA gd hr) (by rfl) m_repr (by decide +kernel) (pa_cons (pv 12) pa_nil)) (pv 13) (nomark _))))) (pss_one (ps_ret pe_bl)) pss_nil)
      (pss_cons (ps_if (pt_val (pe_callB (show CallR _ _ (rIsi K) from call_isi) (by rfl) m_isinstance (by decide +kernel) (pa_cons (pv 12) (pa_cons (pe_bltn (v := .ty "list") (by rfl) m_list (by decide +kernel) rfl) pa_nil)))) (pss_one (ps_expr (show PE _ _ (tBM0 K "list" rClear _) from pe_bm0 PySem.F.plainAttrs_list PySem.F.slot_list_clear PySem.F.type_list_clear mt_clear (pv 12)))) pss_nil)
      (pss_cons (ps_set (i := 14) scLaw.nd rfl (.inl rfl) (pe_ix (show IxR _ (rIxL K) from ix_list) (pe_lst (pa_cons pe_non (pa_cons pe_str (pa_cons pe_int (pa_cons pe_dnewK (pa_cons pe_bl (pa_cons (pe_op op_rep (pe_lst (pa_cons (pe_tup (pa_cons pe_str pa_nil)) pa_nil)) pe_int) (pa_cons (pe_op (show OpR _ _ (rRepA K) from op_repA) (pe_tup (pa_cons pe_non pa_nil)) pe_int) pa_nil)))))))) (pe_call GDraw (hr.mono (by omega)) (by rfl) gDraw FDraw.kp bDraw .nil pass0 (pa_cons (pv 1) (pa_cons pe_int pa_nil))) (fun _ _ => rfl)))
      (pss_cons (ps_if (PW.pt (pw_or (pt_cmpR (show OpR _ _ (rNeD K) from op_neD hr.units) (pe_call GAttd (hr.mono (by omega)) (by rfl) gAttd FAttd.kp bAttd .nil pass0 (pa_cons (pv 6) (pa_cons (pv 14) pa_nil))) (pe_lst (pa_cons pe_str pa_nil)) (nomark _)) (pw_or1 (pt_not (pt_val (pe_call GNoV (hr.mono (by omega)) (by rfl) gNoV FNoV.kp bNoV .nil pass0 (pa_cons (pv 6) (pa_cons (pe_op op_add (pe_callB (show CallR _ _ (rLenG K) from cr_lenG) (by rfl) m_len PySem.boot_len (pa_cons (pv 5) pa_nil)) pe_int) pa_nil)))))))) (pss_one (ps_ret pe_bl)) pss_nil)
      (pss_cons (ps_set (i := 15) scLaw.nd rfl (.inl rfl) (pe_call GDraw (hr.mono (by omega)) (by rfl) gDraw FDraw.kp bDraw .nil pass0 (pa_cons (pv 1) (pa_cons (pe_callB (show CallR _ _ (rLenG K) from cr_lenG) (by rfl) m_len PySem.boot_len (pa_cons (pv 4) pa_nil)) pa_nil))))
      (pss_cons (ps_for PassesOwn.never rfl (show PI _ _ _ (iList K _) from pi_list (pe_lst (pa_cons (pe_tup (pa_cons pe_non (pa_cons (pe_ix (show IxR _ (rIxL K) from ix_list) (pv 4) (pe_un un_neg pe_int) (fun _ _ => rfl)) pa_nil))) (pa_cons (pe_tup (pa_cons (pv 15) (pa_cons (pe_ix (show IxR _ (rIxL K) from ix_list) (pv 4) (pv 15) (fun _ _ => rfl)) pa_nil))) pa_nil)))) (pg_tup rfl (pgs_cons (pg_name (i := 16) scLaw.nd rfl (Or.inl rfl)) (pgs_cons (pg_name (i := 17) scLaw.nd rfl (Or.inl rfl)) pgs_nil))) (pss_one (ps_if (pt_cmpR op_ne (pe_callG GShown gd (hr.mono (by omega)) (by rfl) gShown FShown.kp bShown (pa_cons (pv 6) (pa_cons (pv 16) (pa_cons (pv 8) pa_nil)))) (pe_callG GDue gd (hr.mono (by omega)) (by rfl) gDue FDue.kp bDue (pa_cons (pv 17) (pa_cons (pv 8) pa_nil))) (nomark _)) (pss_one (ps_ret pe_bl)) pss_nil)))
      (pss_one (ps_if (pt_not (pt_val (pe_callG GRight gd (hr.mono (by omega)) (by rfl) gRight FRight.kp bRight (pa_cons (pv 6) (pa_cons (pe_ix (show IxR _ (rIxL K) from ix_list) (pv 4) (pe_un un_neg pe_int) (fun _ _ => rfl)) (pa_cons (pv 5) pa_nil)))))) (pss_one (ps_ret pe_bl)) pss_nil))))))))))))))))
      (pss_cons (ps_for PassesOwn.never rfl (pi_range3 (by rfl) m_range (pa_cons (pe_op op_sub (pe_callB (show CallR _ _ (rLenG K) from cr_lenG) (by rfl) m_len PySem.boot_len (pa_cons (pv 5) pa_nil)) pe_int) (pa_cons (pe_un un_neg pe_int) (pa_cons (pe_un un_neg pe_int) pa_nil)))) (pg_name (i := 18) scLaw.nd rfl (Or.inl rfl)) (pss_one (ps_if (PW.pt (pw_or (pt_cmpR op_ne (pe_meth0 (pv 6) T.cl hUndo GUndo (hr.mono (by omega)) bUndo .nil passX) (pv 18) (nomark _)) (pw_or1 (pt_not (pt_val (pe_callG GRight gd (hr.mono (by omega)) (by rfl) gRight FRight.kp bRight (pa_cons (pv 6) (pa_cons (pe_ix (show IxR _ (rIxL K) from ix_list) (pv 4) (pv 18) (fun _ _ => rfl)) (pa_cons (pe_slice (show SlR _ (rSlL K) from sl_list) (pv 5) po_none (po_some (pv 18))) pa_nil))))))))) (pss_one (ps_ret pe_bl)) pss_nil)))
      (pss_one (ps_ret pe_bl)))))))), ?_⟩
    refine ⟨.ref sc, rfl, sc, ns, rfl, hS, hlen, fun H1 a c s1 D1 => ?_⟩
    refine ⟨.ref a, rfl, a, c, 5000, 6, rfl, D1.less (by omega), by decide, by decide, fun H3 vp pan0 b3 D3 dp hg0 _ => ?_⟩
    obtain ⟨p, rfl, hp⟩ := panT_dp dp
    have few0 := hg0.few
    have hlp0 : (pan0.map dInts).length = pan0.length := List.length_map _
    refine gs_set1 (K := K) (gv_lenT (gv_var rfl hp.dp)) fun vn H4 s4 dn => ?_
    cases dn
    rw [hlp0]
    refine ⟨.ref p, rfl, .ref a, rfl, .int (pan0.length : Int), rfl, a, c, 4900, pan0.length, rfl, (D3.same s4).less (by omega), few0, fun H5 l st0 b5 D5 el hst0 => ?_⟩
    have hp5 := (hp.same s4).kp (Kp.but (D3.same s4) b5)
    refine ⟨by show 2 ≤ sizeLine; decide, fun B nB => ?_⟩
    have sB := same_new (o := .lst [.ref p, .ref l]) nB
    refine ⟨by show 1 ≤ sizeLine; decide, fun S nS => ?_⟩
    have sS := same_new (o := .lst [.ref B]) nS
    refine ⟨Nat.zero_le _, fun E nE => ⟨_, _, rfl, ?_⟩⟩
    have sE := same_new (o := .lst []) nE
    have s6 := (sB.trans sS).trans sE
    have eB6 := sE _ _ (sS _ _ (upd_same (a := B) (H := H5) (o := .lst [.ref p, .ref l])))
    have eS6 := sE _ _ (upd_same (a := S) (o := .lst [.ref B]))
    have eE6 : (upd (upd (upd H5 B (.lst [.ref p, .ref l])) S (.lst [.ref B])) E (.lst [])) E = some (.lst []) := upd_same
    have fB := D5.fresh nB
    have fS := (D5.same sB).fresh nS
    have fE := ((D5.same sB).same sS).fresh nE
    have BS : B ≠ S := ne_of_none (upd_same (a := B) (H := H5) (o := .lst [.ref p, .ref l])) nS
    have BE : B ≠ E := ne_of_none (sS _ _ (upd_same (a := B) (H := H5) (o := .lst [.ref p, .ref l]))) nE
    have SE : S ≠ E := ne_of_none (upd_same (a := S) (o := .lst [.ref B])) nE
    generalize upd (upd (upd H5 B (.lst [.ref p, .ref l])) S (.lst [.ref B])) E (.lst []) = H6 at s6 eB6 eS6 eE6 ⊢
    refine ⟨.ref S, rfl, S, _, _, .ref B, rfl, rfl, .inl (.inl eS6), rfl, B, _, _, .ref p, rfl, rfl, .inl (.inl eB6), rfl, .ref S, rfl, S, _, _, .ref B, rfl, rfl, .inl (.inl eS6), rfl, B, _, _, .ref l, rfl, rfl, .inl (.inl eB6), rfl, fun t tx nt ntx net => ?_⟩
    have st' : Same H6 (upd (upd H6 tx (.own t)) t (.ins C tx [])) := fun b ob e => by rw [upd_ne (ne_of_none e nt), upd_ne (ne_of_none e ntx)]; exact e
    have s7 := s6.trans st'
    refine ⟨t, p, l, tx, pan0, st0, rfl, upd_same, hp5.same s7, hg0, s7 _ _ el, hst0, fun H8 b8 G8 => ⟨rfl, ?_⟩⟩
    have k8 := b8.kp (upd_same (a := t))
    have I8 : IV K C H8 a c t S E 4900 pan0 st0 [] (stsM pan0 st0 []) [] := by
      refine ⟨b8.deck upd_same (D5.same s7), G8, ⟨[B], b8 _ _ (ne_of_none eS6 nt) (st' _ _ eS6), .cons ⟨⟨fB.1, fB.2, BS, BE⟩, .ref p, l, b8 _ _ (ne_of_none eB6 nt) (st' _ _ eB6), ((hp5.same s7).kp k8).dp, k8.1 _ _ (s7 _ _ el)⟩ .nil⟩, ⟨[], b8 _ _ (ne_of_none eE6 nt) (st' _ _ eE6), .nil⟩, (fun d hd => by cases hd), fS.1, fS.2, fE.1, fE.2, SE⟩
    clear hp hp5 hst0 G8 el eB6 eS6 eE6
    refine ⟨.ref a, rfl, a, c, 4700, 4, rfl, I8.dk.less (by omega), by decide, by decide, fun HA r bA DA r0 r1 => ⟨1, r, rfl, rfl, 1 + r, rfl, by omega, by omega, ?_⟩⟩
    have IA := I8.but bA DA
    obtain ⟨n, hn, hn2⟩ : ∃ n : Nat, (1 + r).toNat = n ∧ n ≤ 4 := ⟨_, rfl, by omega⟩
    rw [hn]
    refine for_range (n := n) (fun j σ H' => ∃ (M E : Addr) (pan : List (List Int)) (st : List Int) (past : List (PyData × List (List Int) × List Int)) (x7 x8 x9 x10 x11 x12 x13 x14 x15 x16 x17 : Option V), IV K C H' a c t M E (4700 - 600 * j) pan st past (stsM pan st past) (past.map (·.1)) ∧ (∀ y ∈ stsM pan st past, y.1.length = pan0.length) ∧ past.length ≤ 8 * j ∧ σ = [some (.ref sc), some (.ref a), some (.ref p), some (.int (pan0.length : Int)), some (.ref M), some (.ref E), some (.ref t), x7, x8, x9, x10, x11, x12, x13, x14, x15, x16, x17, none])
      ⟨S, E, pan0, st0, [], none, none, none, none, none, none, none, none, none, none, none, IA, (fun y hy => by rw [List.mem_singleton.mp hy]), Nat.zero_le _, rfl⟩ (fun j σ HB hj hP => ?_) (fun σ HB hP => ?_)
    · clear I8 IA
      obtain ⟨M, E, pan, st, past, x7, x8, x9, x10, x11, x12, x13, x14, x15, x16, x17, IB, vl, pl, rfl⟩ := hP
      refine ⟨.ref a, rfl, .int (pan0.length : Int), rfl, a, c, 4700 - 600 * j - 50, pan0.length, rfl, IB.dk.less (by omega), few0, fun HC g gl bC DC eg hgl => ?_⟩
      have YC : J48 K C HC a c t M E g (4700 - 600 * j - 50) pan0.length gl pan st past := ⟨IB.but bC DC, vl, eg⟩
      clear IB bC DC eg vl
      obtain ⟨us, u, eMu, un, su⟩ := YC.iv.lastA
      have hnow : (pan, st) ∈ stsM pan st past := List.mem_append_right _ List.mem_cons_self
      refine gs_no (gvt_test (K := K) (gv_neS (gv_Shown (t := t) (g := g) (i := 6) (j := 8) rfl rfl gv_non (.inl rfl) YC.iv.de rfl hnow YC.eg (by rw [YC.now]; exact hgl)) (gv_DueL (j := 4) (k := 8) rfl rfl rfl eMu su YC.eg YC.iv.de.good YC.iv.de.asc))) (by rw [decide_eq_true rfl]; rfl) fun HD sD => ?_
      have YD := YC.same sD
      clear YC eMu su sD
      refine gs_seqJ (J := fun σ' H' => ∃ (pan : List (List Int)) (st : List Int) (past : List (PyData × List (List Int) × List Int)), J48 K C H' a c t M E g (4700 - 600 * j - 60) pan0.length gl pan st past ∧ past.length ≤ 8 * j ∧ σ' = [some (.ref sc), some (.ref a), some (.ref p), some (.int (pan0.length : Int)), some (.ref M), some (.ref E), some (.ref t), some (.int (0 + (j : Int))), some (.ref g), x9, x10, x11, x12, x13, x14, x15, x16, x17, none]) (fun σ' HE hJ => ?_) (fun hk2 => ?_)
      · skip
        clear YD
        obtain ⟨pan, st, past, YE, pl, rfl⟩ := hJ
        obtain ⟨us, u, eMu, un, su⟩ := YE.iv.lastA
        have hgE := YE.iv.de.good
        have hsE := YE.iv.de.asc
        refine ⟨.ref a, rfl, .ref M, rfl, 1, rfl, M, _, _, .ref u, rfl, rfl, .inl (.inl eMu), at_last, a, c, u, 4700 - 600 * j - 450, pan, st, rfl, YE.iv.dk.less (by omega), un.1, un.2, su, hgE, hsE, W, fun HF R B2 B0 L dv evs2 bs2 ds es pan' st' xs bF DF eR nB2 nL nR sp2 eB2 dB2 eL hbs2 nb2 BR => ?_⟩
        refine ⟨R, _, rfl, .inl (.inl eR), rfl, .ref B2, [.ref L, dv], rfl, .ref L, [dv], rfl, dv, [], rfl, rfl, ?_⟩
        dsimp only
        have YF := YE.but bF DF
        have fB2 := YE.iv.dk.fresh nB2
        obtain ⟨bsE, eME, hbsE⟩ := YE.iv.sl
        have eMF : HF M = some (.lst (bsE.map V.ref)) := bF _ _ YE.iv.ne.1 YE.iv.ne.2.1 eME
        have nbE : ∀ b ∈ bsE, b ≠ B2 := fun b hb z => by
          obtain ⟨y, _, hy⟩ := paired_memL hbsE hb
          obtain ⟨_, _, _, h1, _⟩ := hy
          rw [z, nB2] at h1; cases h1
        have BM : B2 ≠ M := Ne.symm (ne_of_none eME nB2)
        have BE : B2 ≠ E := by obtain ⟨_, e, _⟩ := YE.iv.ed; exact Ne.symm (ne_of_none e nB2)
        have evl2 : evs2.length = es.length := dB2.length
        refine gs_seqJ (J := fun σ' H' => ∃ (M2 E2 : Addr) (pan2 : List (List Int)) (st2 : List Int) (past2 : List (PyData × List (List Int) × List Int)) (due : V), H48 K C H' a c t M2 E2 g B2 (4700 - 600 * j - 450) pan0.length gl pan st past pan2 st2 past2 evs2 es ∧ past2.length ≤ 8 * (j + 1) ∧ ((due = .int (es.length : Nat) ∧ Eds pan st es pan2 st2 xs ∧ past2 = past ++ xs) ∨ (pan2 = pan ∧ st2 = st ∧ past2 = past ∧ DueB pan st es H' due)) ∧ σ' = [some (.ref sc), some (.ref a), some (.ref p), some (.int (pan0.length : Int)), some (.ref M2), some (.ref E2), some (.ref t), some (.int (0 + (j : Int))), some (.ref g), some (.ref B2), some (.ref L), some due, x12, x13, x14, x15, x16, x17, none]) (fun σ' HG hJ => ?_) (fun hk3 => ?_)
        · clear YE YF eMu su eMF nbE BM BE eB2 dB2 eL hbs2 bF
          obtain ⟨M, E, pan2, st2, past2, due, YG, pl2, hdue, rfl⟩ := hJ
          have dl := BR.dl
          have el := BR.len
          refine ⟨.ref B2, rfl, .ref B2, rfl, B2, evs2, rfl, .inl ⟨.inl (.inl YG.eb), fun Tq nT => ⟨by show 2 ≤ sizeLine; decide, fun G nG => ?_⟩⟩⟩
          have sT := same_new (o := .tup evs2) nT
          have sG := same_new (o := .lst [.ref B2, .ref Tq]) nG
          have eT : upd HG Tq (.tup evs2) Tq = some (.tup evs2) := upd_same
          have eG : upd (upd HG Tq (.tup evs2)) G (.lst [.ref B2, .ref Tq]) G = some (.lst [.ref B2, .ref Tq]) := upd_same
          have eT := sG _ _ eT
          have YH := (YG.same sT).same sG
          have fG := (YG.iv.dk.same sT).fresh nG
          have hdueH : (due = .int (es.length : Nat) ∧ Eds pan st es pan2 st2 xs ∧ past2 = past ++ xs) ∨ (pan2 = pan ∧ st2 = st ∧ past2 = past ∧ DueB pan st es (upd (upd HG Tq (.tup evs2)) G (.lst [.ref B2, .ref Tq])) due) := hdue.imp_right fun ⟨z1, z2, z3, z4⟩ => ⟨z1, z2, z3, z4.imp fun D ws _ e => sG _ _ (sT _ _ e)⟩
          generalize upd (upd HG Tq (.tup evs2)) G (.lst [.ref B2, .ref Tq]) = HH at YH eT eG hdueH ⊢
          clear YG hdue sT sG nT nG
          refine ⟨.ref a, rfl, a, c, 4700 - 600 * j - 455, 2, rfl, YH.iv.dk.less (by omega), by decide, by decide, fun HI r2 bI DI r20 r21 => ?_⟩
          have YI := YH.but bI DI
          have eGI := bI _ _ fG.1 fG.2 eG
          have eTI := (Kp.but YH.iv.dk bI).1 _ _ eT
          have hdue : (due = .int (es.length : Nat) ∧ Eds pan st es pan2 st2 xs ∧ past2 = past ++ xs) ∨ (pan2 = pan ∧ st2 = st ∧ past2 = past ∧ DueB pan st es HI due) := hdueH.imp_right fun ⟨z1, z2, z3, z4⟩ => ⟨z1, z2, z3, z4.but YH.iv.dk bI⟩
          clear YH hdueH eG eT bI
          obtain ⟨gv, dg, hgv, hdg, hsq, hshq, hty⟩ : ∃ gv dg, atI [.ref B2, .ref Tq] r2 = some gv ∧ Dq K (NAC a c) HI gv dg ∧ seqD dg = some es ∧ Shq 60 sizeLine dg ∧ ((gv = .ref B2 ∧ dg = .list es) ∨ dg = .tuple es) := by
            have sh := BR.sh
            rcases (by omega : r2 = 0 ∨ r2 = 1) with rfl | rfl
            · exact ⟨.ref B2, .list es, rfl, .lst sp2 (fun z => z.elim YI.ne.1 YI.ne.2.1) YI.eb YI.db, rfl, (Shq.list sh el).mono (by decide) (Nat.le_of_lt (small5 (by decide))), .inl ⟨rfl, rfl⟩⟩
            · exact ⟨.ref Tq, .tuple es, rfl, .tup (.inl (.inl eTI)) YI.db, rfl, (Shq.tuple sh el).mono (by decide) (Nat.le_of_lt (small5 (by decide))), .inr rfl⟩
          refine ⟨G, _, _, gv, rfl, rfl, .inl (.inl eGI), hgv, ?_⟩
          refine ⟨gv, rfl, .inr ⟨NAC a c, gv, dg, rfl, hdg, hshq, ?_⟩⟩
          have few2 : past.length + es.length ≤ 60 := by omega
          have hw : ∀ ds', seqD dg = some ds' → ∀ x ∈ ds', WdOk K dV x := fun ds' e => by rw [hsq] at e; cases e; exact BR.wd
          unfold gName
          dsimp only
          refine gs_seqJ (J := fun σ' H' => H48 K C H' a c t M E g B2 (4700 - 600 * j - 455) pan0.length gl pan2 st2 past2 pan2 st2 past2 evs2 es ∧ Dq K (NAC a c) H' gv dg ∧ σ' = [some (.ref sc), some (.ref a), some (.ref p), some (.int (pan0.length : Int)), some (.ref M), some (.ref E), some (.ref t), some (.int (0 + (j : Int))), some (.ref g), some (.ref B2), some (.ref L), some due, some gv, some (.str dg.shown), x14, x15, x16, x17, none]) (fun σ' HJ hJ => ?_) (fun hk4 => ?_)
          rotate_left
          · refine YI.iv.de.at fun dx fs e1 _ => ?_
            rcases hdue with ⟨hdu, hE, hpa⟩ | ⟨hp1, hp2, hp3, ⟨D, gs, b, rs, hdv, eD, hes, hgs, hb⟩ | ⟨D, gs, b, rs, p2, s2, x2, hdv, eD, hes, hall, hE2, hR2⟩⟩
            · subst hdu hpa
              refine ⟨.ref t, rfl, gv, rfl, NAC a c, t, pan, st, past, gv, dg, rfl, YI.iv.de, by omega, .inl hdg, hw, .inr ⟨es, hsq, by omega, few2, .inr ⟨ed_eds hE, .inl ⟨pan2, st2, xs, hE, fun HJ bJ DJ => ?_⟩⟩⟩⟩
              have YJ := YI.do bJ DJ
              exact .inr ⟨NAC a c, .int (es.length : Nat), .int (es.length : Nat), rfl, .int _, sh_num (by omega), ⟨.int (es.length : Nat), rfl, .inr ⟨NAC a c, .int (es.length : Nat), .int (es.length : Nat), rfl, .int _, sh_num (by omega), rfl, false, by rw [decide_eq_true rfl]; rfl, iteF ⟨gv, rfl, .inr ⟨NAC a c, gv, dg, rfl, hdg.butO e1 bJ, hshq, .str dg.shown, rfl, rfl, false, by rw [decide_eq_true rfl]; rfl, iteF (next_of (hk4 _ _ ⟨YJ, hdg.butO e1 bJ, rfl⟩))⟩⟩⟩⟩⟩
            · subst hp1 hp2 hp3 hdv
              have gl10 : gs.length ≤ 10 := by rw [hes, List.length_append, List.length_cons] at el; omega
              refine ⟨.ref t, rfl, gv, rfl, NAC a c, t, pan2, st2, past2, gv, dg, rfl, YI.iv.de, by omega, .inl hdg, hw, .inr ⟨es, hsq, by omega, few2, .inl ⟨gs.length, b, by rw [hes]; simp, hb, fun j y hj e => hgs y (List.mem_of_getElem? (by rw [hes, List.getElem?_append_left hj] at e; exact e)), fun HJ R s eR => ?_⟩⟩⟩
              have YJ := YI.same s
              exact .inl (.inl (.inl ⟨R, dueD "bad edit" gs.length, rfl, dq_due eR, (sh_due (.inl rfl) gl10).sh, (sh_due (.inl rfl) gl10).nd, (sh_due (.inl rfl) gl10).dp, (sh_due (.inl rfl) gl10).ln, ⟨.ref D, rfl, .inl (.inl (.inl ⟨D, dueD "bad edit" gs.length, rfl, dq_due (s _ _ eD), (sh_due (.inl rfl) gl10).sh, (sh_due (.inl rfl) gl10).nd, (sh_due (.inl rfl) gl10).dp, (sh_due (.inl rfl) gl10).ln, rfl, false, by rw [decide_eq_true rfl]; rfl, iteF ⟨gv, rfl, .inr ⟨NAC a c, gv, dg, rfl, Dq.same s _ _ hdg, hshq, .str dg.shown, rfl, rfl, false, by rw [decide_eq_true rfl]; rfl, iteF (next_of (hk4 _ _ ⟨YJ, Dq.same s _ _ hdg, rfl⟩))⟩⟩⟩))⟩⟩))
            · subst hp1 hp2 hp3 hdv
              have gl10 : gs.length ≤ 10 := by rw [hes, List.length_append, List.length_cons] at el; omega
              refine ⟨.ref t, rfl, gv, rfl, NAC a c, t, pan2, st2, past2, gv, dg, rfl, YI.iv.de, by omega, .inl hdg, hw, .inr ⟨es, hsq, by omega, few2, .inr ⟨hall, .inr ⟨gs, b, rs, hes, p2, s2, x2, hE2, hR2, fun HJ R bJ DJ eR => ?_⟩⟩⟩⟩
              have YJ := YI.do bJ DJ
              exact .inl (.inl (.inl ⟨R, dueD "rejected" gs.length, rfl, dq_due eR, (sh_due (.inr rfl) gl10).sh, (sh_due (.inr rfl) gl10).nd, (sh_due (.inr rfl) gl10).dp, (sh_due (.inr rfl) gl10).ln, ⟨.ref D, rfl, .inl (.inl (.inl ⟨D, dueD "rejected" gs.length, rfl, dq_due (bJ _ _ (ne_of eD e1 (by intro z; cases z)) eD), (sh_due (.inr rfl) gl10).sh, (sh_due (.inr rfl) gl10).nd, (sh_due (.inr rfl) gl10).dp, (sh_due (.inr rfl) gl10).ln, rfl, false, by rw [decide_eq_true rfl]; rfl, iteF ⟨gv, rfl, .inr ⟨NAC a c, gv, dg, rfl, hdg.butO e1 bJ, hshq, .str dg.shown, rfl, rfl, false, by rw [decide_eq_true rfl]; rfl, iteF (next_of (hk4 _ _ ⟨YJ, hdg.butO e1 bJ, rfl⟩))⟩⟩⟩))⟩⟩))
          clear YI hdue hdg
          obtain ⟨YJ, hdg, rfl⟩ := hJ
          refine gs_seqJ (J := fun σ' H' => J48 K C H' a c t M E g (4700 - 600 * j - 455) pan0.length gl pan2 st2 past2 ∧ σ' = [some (.ref sc), some (.ref a), some (.ref p), some (.int (pan0.length : Int)), some (.ref M), some (.ref E), some (.ref t), some (.int (0 + (j : Int))), some (.ref g), some (.ref B2), some (.ref L), some due, some gv, some (.str dg.shown), x14, x15, x16, x17, none]) (fun σ' HK hJ => ?_) (fun hk5 => ?_)
          rotate_left
          · rcases hty with ⟨hgv2, hdg2⟩ | hdg2
            · subst hgv2
              refine ⟨.ref B2, rfl, .ref B2, .ty "list", .type "list", .type "list", true, rfl, .ty _, .base (.lst YJ.eb), kit_ty (show kitB "list" "list" = some true by decide +kernel), true, rfl, iteT ?_⟩
              exact ⟨.ref B2, rfl, .inl ⟨rfl, _, .inl (.inl YJ.eb)⟩, B2, evs2, rfl, rfl, YJ.eb, hk5 _ _ ⟨⟨YJ.iv.setO YJ.eb YJ.ne.1 YJ.ne.2.1 YJ.ne.2.2.1 YJ.ne.2.2.2 YJ.nb, YJ.vl, (Kp.upd YJ.eb).1 _ _ YJ.eg⟩, rfl⟩⟩
            · have ty := hdg.ty
              rw [hdg2] at ty
              refine ⟨gv, rfl, gv, .ty "list", .type "tuple", .type "list", false, rfl, .ty _, ty, kit_ty (show kitB "tuple" "list" = some false by decide +kernel), false, rfl, iteF (next_of (hk5 _ _ ⟨⟨YJ.iv, YJ.vl, YJ.eg⟩, rfl⟩))⟩
          obtain ⟨YK, rfl⟩ := hJ
          clear YJ hdg hty
          -- the odd one
          refine fun dd nd => ⟨by show 1 ≤ sizeLine; decide, fun t1 nt1 => ⟨by show 1 ≤ sizeLine; decide, fun l1 nl1 => ⟨l1, 21, [.ref t1], rfl, rfl, upd_same, by decide, by decide, Nat.le_of_lt (small5 (by show 1 * 21 ≤ 100000; decide)), fun p6 np6 => ⟨by show 1 ≤ sizeLine; decide, fun t2 nt2 => ⟨t2, .non, 21, rfl, rfl, .inl (.inl upd_same), by decide, fun p7 H7 s7 e7 => ⟨by show 7 ≤ sizeLine; decide, fun G2 nG2 => ?_⟩⟩⟩⟩⟩⟩
          have sd := same_new (o := .dK []) nd
          have st1 := same_new (o := .tup [.str "undo"]) nt1
          have sl1 := same_new (o := .lst [.ref t1]) nl1
          have s61 := same_new (o := .lst (List.replicate (21 : Int).toNat [.ref t1]).flatten) np6
          have st2 := same_new (o := .tup [.non]) nt2
          have sG2 := same_new (o := .lst [.non, .str "undo", .int 5, .ref dd, .bl true, .ref p6, .ref p7]) nG2
          have q4 : Dq K (NAC a c) (upd HK dd (.dK [])) (.ref dd) (.dict []) := .dct0 upd_same
          have q6 : DqAll K (NAC a c) (upd (upd HK dd (.dK [])) t1 (.tup [.str "undo"])) (List.replicate 21 (.ref t1)) (List.replicate 21 (.tuple [.str "undo"])) := dqAll_rep (.tup (.inl (.inl upd_same)) (.cons (.str _) .nil)) 21
          have e6 : upd (upd (upd (upd HK dd (.dK [])) t1 (.tup [.str "undo"])) l1 (.lst [.ref t1])) p6 (.lst (List.replicate (21 : Int).toNat [.ref t1]).flatten) p6 = some (.lst (List.replicate 21 (.ref t1))) := upd_same
          have q7 : Dq K (NAC a c) H7 (.ref p7) (.tuple (List.replicate 21 .none)) := .tup e7 (dqAll_rep .non 21)
          have sA := ((((sl1.trans s61).trans st2).trans s7).trans sG2)
          have YL := YK.same ((sd.trans st1).trans sA)
          have f6 := (YK.iv.dk.same ((sd.trans st1).trans sl1)).fresh np6
          have fG2 := (YK.iv.dk.same ((((((sd.trans st1).trans sl1).trans s61).trans st2).trans s7))).fresh nG2
          have q4 := Dq.same (st1.trans sA) _ _ q4
          have q6 := Dq.sameAll sA _ _ q6
          have e6 := sG2 _ _ (s7 _ _ (st2 _ _ e6))
          have q7 := Dq.same sG2 _ _ q7
          have eG2 : upd H7 G2 (.lst [.non, .str "undo", .int 5, .ref dd, .bl true, .ref p6, .ref p7]) G2 = some (.lst [.non, .str "undo", .int 5, .ref dd, .bl true, .ref p6, .ref p7]) := upd_same
          generalize upd H7 G2 (.lst [.non, .str "undo", .int 5, .ref dd, .bl true, .ref p6, .ref p7]) = HL at YL q4 q6 e6 q7 eG2 ⊢
          clear YK sd st1 sl1 s61 st2 sG2 sA s7 e7
          refine ⟨.ref a, rfl, a, c, 4700 - 600 * j - 460, 7, rfl, YL.iv.dk.less (by omega), by decide, by decide, fun HM r3 bM DM r30 r31 => ?_⟩
          have YM := YL.but bM DM
          have eG3 := bM _ _ fG2.1 fG2.2 eG2
          have q4 := Dq.but (N := NAC a c) (.inl rfl) (.inr rfl) YL.iv.dk bM q4
          have q6 := DqAll.but (N := NAC a c) (.inl rfl) (.inr rfl) YL.iv.dk bM q6
          have q7 := Dq.but (N := NAC a c) (.inl rfl) (.inr rfl) YL.iv.dk bM q7
          have e6 := bM _ _ f6.1 f6.2 e6
          obtain ⟨ov, od, hov, hod, hbig⟩ : ∃ ov od, atI [.non, .str "undo", .int 5, .ref dd, .bl true, .ref p6, .ref p7] r3 = some ov ∧ DqO K (NAC a c) HM ov od ∧ (∀ ds, seqD od = some ds → 20 < ds.length ∧ ∀ x ∈ ds, WdOk K dV x) := by
            rcases (by omega : r3 = 0 ∨ r3 = 1 ∨ r3 = 2 ∨ r3 = 3 ∨ r3 = 4 ∨ r3 = 5 ∨ r3 = 6) with rfl | rfl | rfl | rfl | rfl | rfl | rfl
            · exact ⟨.non, .none, rfl, .inl .non, fun ds e => by cases e⟩
            · exact ⟨.str "undo", .str "undo", rfl, .inl (.str _), fun ds e => by cases e⟩
            · exact ⟨.int 5, .int 5, rfl, .inl (.int _), fun ds e => by cases e⟩
            · exact ⟨.ref dd, .dict [], rfl, .inl q4, fun ds e => by cases e⟩
            · exact ⟨.bl true, .bool true, rfl, .inl (.bl _), fun ds e => by cases e⟩
            · refine ⟨.ref p6, .list (List.replicate 21 (.tuple [.str "undo"])), rfl, .inr ⟨p6, _, _, rfl, rfl, e6, q6⟩, fun ds e => ?_⟩
              obtain rfl := Option.some.inj e
              exact ⟨by decide, fun x hx => by rw [List.eq_of_mem_replicate hx]; exact wd_tup (.inr W.u)⟩
            · refine ⟨.ref p7, .tuple (List.replicate 21 .none), rfl, .inl q7, fun ds e => ?_⟩
              obtain rfl := Option.some.inj e
              exact ⟨by decide, fun x hx => by rw [List.eq_of_mem_replicate hx]; exact wd_no fun _ _ z => by cases z⟩
          refine ⟨G2, _, _, ov, rfl, rfl, .inl (.inl eG3), hov, ?_⟩
          dsimp only
          clear q4 q6 q7 e6 eG2 eG3 YL hov
          have hnow2 : (pan2, st2) ∈ stsM pan2 st2 past2 := List.mem_append_right _ List.mem_cons_self
          obtain ⟨evsM, eEM, dEM⟩ := YM.iv.ed
          refine gs_no (gvt_or (gvt_test (K := K) (gv_neD (gv_OddA (i := 6) (j := 14) (N := NAC a c) (past := past2) rfl rfl YM.iv.de (by omega) hod hbig) (gv_lst (gva_cons gv_str gva_nil)) (by decide +kernel) (by decide +kernel))) (fun HN sN _ => gvt_not (gvt_b (gv_NoV (K := K) (i := 6) rfl (YM.iv.de.same sN) ((gv_add (gv_lenL (gv_var (i := 5) rfl (.lst (.inl (.inl (sN _ _ eEM))) (dEM.sm sN)))) gv_int).to (by rw [List.length_map]; rfl)))))) (by decide +kernel) fun HN sN => ?_
          have YN := YM.same sN
          clear YM eEM dEM hod sN
          obtain ⟨bsN, eMN, hbsN⟩ := YN.iv.sl
          have blN : bsN.length = past2.length + 1 := by rw [hbsN.length, sts_len]
          refine ⟨.ref a, rfl, (gv_lenL1 (K := K) (i := 4) rfl eMN).at fun vn HP sP dn => ?_⟩
          cases dn
          rw [List.length_map, blN]
          have YP := YN.same sP
          refine ⟨a, c, 4700 - 600 * j - 470, ((past2.length + 1 : Nat) : Int), rfl, YP.iv.dk.less (by omega), by omega, by omega, fun HR rv bR DR rv0 rv1 => ?_⟩
          have YR := YP.but bR DR
          clear YN YP eMN hbsN sP bR
          obtain ⟨jv, rfl⟩ : ∃ jv : Nat, rv = (jv : Int) := ⟨rv.toNat, by omega⟩
          obtain ⟨bs, eM, hbs⟩ := YR.iv.sl
          obtain ⟨us, u, ebs, hus, hu⟩ := prSplit (show Paired (InAt K HR a c M E) bs (past2.map (·.2) ++ [(pan2, st2)]) from hbs)
          obtain ⟨un, hu⟩ := hu
          have su : StA K HR u (pan2, st2) := hu
          have eM' : HR M = some (.lst (us.map V.ref ++ [.ref u])) := by rw [eM, ebs, List.map_append]; rfl
          obtain ⟨y, hy⟩ : ∃ y, (stsM pan2 st2 past2)[jv]? = some y := ⟨_, List.getElem?_eq_getElem (by rw [sts_len]; omega)⟩
          have hym := List.mem_of_getElem? hy
          have gy := good_sts YR.iv.de hym
          obtain ⟨b, hb, bn, hbA⟩ := prGet hbs hy
          have sb : StA K HR b y := hbA
          refine ⟨.ref M, rfl, 1, rfl, M, _, _, .ref u, rfl, rfl, .inl (.inl eM'), at_last, by show 2 ≤ sizeLine; decide, fun q1 nq1 => ?_⟩
          have sq1 := same_new (o := .tup [.non, .ref u]) nq1
          refine ⟨.int (jv : Int), rfl, .ref M, rfl, .int (jv : Int), rfl, M, _, _, .ref b, rfl, rfl, .inl (.inl (sq1 _ _ eM)), atI_nat (by rw [List.getElem?_map, hb]; rfl), by show 2 ≤ sizeLine; decide, fun q2 nq2 => ?_⟩
          have sq2 := same_new (o := .tup [.int (jv : Int), .ref b]) nq2
          refine ⟨by show 2 ≤ sizeLine; decide, fun G5 nG5 => ?_⟩
          have sG5 := same_new (o := .lst [.ref q1, .ref q2]) nG5
          have eq1 := sG5 _ _ (sq2 _ _ (upd_same (a := q1) (H := HR) (o := .tup [.non, .ref u])))
          have eq2 := sG5 _ _ (upd_same (a := q2) (H := upd HR q1 (.tup [.non, .ref u])) (o := .tup [.int (jv : Int), .ref b]))
          have eG5 : upd (upd (upd HR q1 (.tup [.non, .ref u])) q2 (.tup [.int (jv : Int), .ref b])) G5 (.lst [.ref q1, .ref q2]) G5 = some (.lst [.ref q1, .ref q2]) := upd_same
          have sS := (sq1.trans sq2).trans sG5
          have YS := YR.same sS
          have su := su.same sS
          have sb := sb.same sS
          have eM' := sS _ _ eM'
          generalize upd (upd (upd HR q1 (.tup [.non, .ref u])) q2 (.tup [.int (jv : Int), .ref b])) G5 (.lst [.ref q1, .ref q2]) = HS at YS eq1 eq2 eG5 su sb eM' ⊢
          clear YR hbs hus hu sS sG5 sq1 sq2 nq1 nq2 nG5 eM
          refine ⟨G5, rfl, ⟨_, .inl (.inl eG5)⟩, ?_⟩
          refine for_list (xs := [.ref q1, .ref q2]) (fun i σ H' => Same HS H' ∧ ∃ x16 x17, σ = [some (.ref sc), some (.ref a), some (.ref p), some (.int (pan0.length : Int)), some (.ref M), some (.ref E), some (.ref t), some (.int (0 + (j : Int))), some (.ref g), some (.ref B2), some (.ref L), some due, some gv, some (.str dg.shown), some ov, some (.int (jv : Int)), x16, x17, none]) ⟨Same.refl _, _, _, rfl⟩ (fun i σ H' _ hP => .inl (.inl (hP.1 _ _ eG5))) (fun i x σ H' hx hP => ?_) (fun σ H' hP => ?_)
          · obtain ⟨sH, x16, x17, rfl⟩ := hP
            have YT := YS.same sH
            match i, hx with
            | 0, hx =>
              cases hx
              refine ⟨q1, _, rfl, .inl (.inl (sH _ _ eq1)), rfl, .non, [.ref u], rfl, .ref u, [], rfl, rfl, ?_⟩
              refine gs_noN (gvt_test (K := K) (gv_neS (gv_Shown (t := t) (g := g) (i := 6) (j := 8) rfl rfl (gv_var (i := 16) rfl .non) (.inl rfl) YT.iv.de rfl hnow2 YT.eg (by rw [YT.now]; exact hgl)) (gv_DueV (j := 17) (k := 8) (y := (pan2, st2)) rfl rfl (su.same sH) YT.eg YT.iv.de.good YT.iv.de.asc))) (by rw [decide_eq_true rfl]; rfl) fun HU sU => ?_
              exact ⟨sH.trans sU, _, _, rfl⟩
            | 1, hx =>
              cases hx
              refine ⟨q2, _, rfl, .inl (.inl (sH _ _ eq2)), rfl, .int (jv : Int), [.ref b], rfl, .ref b, [], rfl, rfl, ?_⟩
              refine gs_noN (gvt_test (K := K) (gv_neS (gv_Shown (t := t) (g := g) (i := 6) (j := 8) rfl rfl (gv_var (i := 16) rfl (.int (jv : Int))) (.inr ⟨_, rfl⟩) YT.iv.de ((verM_sts _ _ _ (by omega)).trans hy) hym YT.eg (by rw [YT.vl _ hym]; exact hgl)) (gv_DueV (j := 17) (k := 8) (y := y) rfl rfl (sb.same sH) YT.eg gy.1 gy.2))) (by rw [decide_eq_true rfl]; rfl) fun HU sU => ?_
              exact ⟨sH.trans sU, _, _, rfl⟩
            | i + 2, hx => cases hx
          obtain ⟨sH, x16, x17, rfl⟩ := hP
          have YT := YS.same sH
          obtain ⟨vp, lq, eu, dvp, elq⟩ := su.same sH
          obtain ⟨evs, eE, dE⟩ := YT.iv.ed
          refine gs_noN (gvt_not (gvt_b (gv_Right0 (K := K) (t := t) (S := M) (Ed := E) (u := u) (i := 6) (j := 4) (l := 5) rfl rfl rfl rfl YT.iv.de (by omega) YT.few (sH _ _ eM') (.lst (.inl (.inl eu)) (.cons dvp (.cons (dp_ints (.inl (.inl elq))) .nil))) (.lst (.inl (.inl eE)) dE)))) rfl fun HV sV => ?_
          have YV := YT.same sV
          exact ⟨M, E, pan2, st2, past2, _, _, _, _, _, _, _, _, _, _, _, YV.iv.less (by omega), YV.vl, pl2, rfl⟩
    
        · refine ⟨dv, rfl, rfl, _, rfl, ite2 (fun hn => ?_) (fun hn => ?_)⟩
          · obtain rfl : dv = .non := of_decide_eq_true hn
            obtain ⟨_, rfl⟩ : V.non = .non ∧ es = ds := by
              rcases BR.out with h | ⟨_, _, _, _, h, _⟩ | ⟨_, _, _, _, _, _, _, h, _⟩
              · exact h
              · cases h
              · cases h
            obtain ⟨evs, eE, dE⟩ := YF.iv.ed
            obtain ⟨bsG, eMG, hbsG⟩ := YF.iv.sl
            have evl : evs.length = past.length := by rw [dE.length, List.length_map]
            have bsGl : bsG.length = past.length + 1 := by rw [hbsG.length, sts_len]
            have dl := BR.dl
            have bsl : bs2.length = es.length := by
              have := hbs2.length
              rw [List.length_drop, List.length_append, List.length_map] at this
              have xl := BR.eds.len
              simp at this
              omega
            refine ⟨.ref E, rfl, .ref B2, rfl, E, B2, _, _, rfl, rfl, eE, eB2, ?_, fun E2 nE2 => ?_⟩
            · rw [evl, evl2]; exact Nat.le_of_lt (small5 (by omega))
            have s1 := same_new (o := .lst (evs ++ evs2)) nE2
            refine ⟨.ref M, rfl, .ref L, rfl, 1, rfl, L, _, rfl, .inl (.inl (s1 _ _ eL)), fun P2 nP2 => ?_⟩
            rw [cut_1]
            have s2 := same_new (o := .lst (bs2.map V.ref)) nP2
            refine ⟨M, P2, _, _, rfl, rfl, s2 _ _ (s1 _ _ eMG), upd_same, ?_, fun M2 nM2 => ⟨_, _, rfl, ?_⟩⟩
            · rw [List.length_map, List.length_map, bsGl, bsl]; exact Nat.le_of_lt (small5 (by omega))
            have s3 := same_new (o := .lst (bsG.map V.ref ++ bs2.map V.ref)) nM2
            have s13 := (s1.trans s2).trans s3
            have YH := YF.same s13
            have fE2 := YF.iv.dk.fresh nE2
            have fM2 := (YF.iv.dk.same (s1.trans s2)).fresh nM2
            have eE2 := s3 _ _ (s2 _ _ (upd_same (a := E2) (H := HF) (o := .lst (evs ++ evs2))))
            have eM2 : (upd (upd (upd HF E2 (.lst (evs ++ evs2))) P2 (.lst (bs2.map V.ref))) M2 (.lst (bsG.map V.ref ++ bs2.map V.ref))) M2 = some (.lst (bsG.map V.ref ++ bs2.map V.ref)) := upd_same
            have ME2 : M2 ≠ E2 := Ne.symm (ne_of_none (s2 _ _ (upd_same (a := E2) (H := HF) (o := .lst (evs ++ evs2)))) nM2)
            have nM20 : HF M2 = none := (s1.trans s2).free nM2
            have hbsH : Paired (InAt K (upd (upd (upd HF E2 (.lst (evs ++ evs2))) P2 (.lst (bs2.map V.ref))) M2 (.lst (bsG.map V.ref ++ bs2.map V.ref))) a c M2 E2) bsG (stsM pan st past) := paired_imp (fun x y' hx => by
              obtain ⟨n, vp, l, h1, h2, h3⟩ := hx
              exact ⟨⟨n.1, n.2.1, ne_of_none h1 nM20, ne_of_none h1 nE2⟩, vp, l, s13 _ _ h1, h2.sm s13, s13 _ _ h3⟩) hbsG
            have hbs2H : Paired (InAt K (upd (upd (upd HF E2 (.lst (evs ++ evs2))) P2 (.lst (bs2.map V.ref))) M2 (.lst (bsG.map V.ref ++ bs2.map V.ref))) a c M2 E2) bs2 ((xs.map (·.2) ++ [(pan', st')]).drop 1) := paired_imp (fun x y' hx => by
              obtain ⟨n, vp, l, h1, h2, h3⟩ := hx
              have fx := YE.iv.dk.fresh n.1
              exact ⟨⟨fx.1, fx.2, ne_of_none h1 nM20, ne_of_none h1 nE2⟩, vp, l, s13 _ _ h1, h2.sm s13, s13 _ _ h3⟩) hbs2
            have dEH := dE.sm s13
            have dBH := (dq_dpAll es evs2 (eds_lf BR.eds) dB2).sm s13
            have eBH := s13 _ _ eB2
            have dqH := Dq.sameAll s13 _ _ dB2
            have BM2 : B2 ≠ M2 := ne_of_none eB2 nM20
            have BE2 : B2 ≠ E2 := ne_of_none eB2 nE2
            generalize (upd (upd (upd HF E2 (.lst (evs ++ evs2))) P2 (.lst (bs2.map V.ref))) M2 (.lst (bsG.map V.ref ++ bs2.map V.ref))) = HH at YH eE2 eM2 hbsH hbs2H dEH dBH eBH dqH s13 ⊢
            have est : stsM pan' st' (past ++ xs) = stsM pan st past ++ (xs.map (·.2) ++ [(pan', st')]).drop 1 := by
              have := eds_head BR.eds
              unfold stsM
              rw [List.map_append, List.append_assoc, this]
              simp
            refine ⟨.ref B2, rfl, B2, evs2, rfl, .inl (.inl (.inl eBH)), ?_⟩
            have eM2' : HH M2 = some (.lst ((bsG ++ bs2).map V.ref)) := by rw [List.map_append]; exact eM2
            refine hk3 _ _ ⟨M2, E2, pan', st', past ++ xs, _, ⟨⟨YH.iv.dk, YH.iv.de, ⟨bsG ++ bs2, eM2', ?_⟩, ⟨evs ++ evs2, eE2, ?_⟩, fun d hd => ?_, fM2.1, fM2.2, fE2.1, fE2.2, ME2⟩, fun y hy => ?_, YH.eg, eBH, dqH, ⟨fB2.1, fB2.2, BM2, BE2⟩, nb_of eM2' fun b hb => ?_⟩, ?_, .inl ⟨by rw [evl2], BR.eds, rfl⟩, rfl⟩
            · rw [est]; exact prApp hbsH hbs2H
            · rw [List.map_append, eds_fst BR.eds]; exact DpAll.append dEH dBH
            · rw [List.map_append, eds_fst BR.eds] at hd
              rcases List.mem_append.mp hd with hd | hd
              · exact YH.iv.lfe d hd
              · exact eds_shw BR.eds hgE d hd
            · rw [est] at hy
              rcases List.mem_append.mp hy with hy | hy
              · exact YH.vl y hy
              · rw [eds_vl BR.eds hgE y (List.mem_of_mem_drop hy)]; exact YH.now
            · rcases List.mem_append.mp hb with hb | hb
              · have : bsG = bsE := refs_inj (by have := eMG.symm.trans eMF; injection this with z; injection z)
                exact nbE b (this ▸ hb)
              · exact nb2 b hb
            · rw [List.length_append, BR.eds.len]; omega
          · have hdue : DueB pan st es HF dv := by
              rcases BR.out with h | h | h
              · exact absurd (decide_eq_true h.1) hn
              · exact .inl h
              · exact .inr h
            refine hk3 _ _ ⟨M, E, pan, st, past, dv, ⟨YF.iv, YF.vl, YF.eg, eB2, dB2, ⟨fB2.1, fB2.2, BM, BE⟩, nb_of eMF nbE⟩, by omega, .inr ⟨rfl, rfl, rfl, hdue⟩, rfl⟩
      · skip
        obtain ⟨evs0, eE0, dE0⟩ := YD.iv.ed
        refine if_and (gvt_neE (i := 5) rfl eE0) (fun he HE sE => hk2 _ _ ⟨pan, st, past, (YD.same sE).less (by omega), pl, rfl⟩) (fun hne HE sE => ?_)
        have YE := YD.same sE
        refine ⟨.ref a, rfl, a, c, 4700 - 600 * j - 55, 3, rfl, YE.iv.dk.less (by omega), by decide, by decide, fun HF rr bF DF r30 r31 => ⟨rfl, _, rfl, ite2 (fun _ => ?_) (fun _ => hk2 _ _ ⟨pan, st, past, (YE.but bF DF).less (by omega), pl, rfl⟩)⟩⟩
        rcases List.eq_nil_or_concat past with rfl | ⟨past', y, ep⟩
        · cases dE0; cases hne
        rw [List.concat_eq_append] at ep
        have YF := YE.but bF DF
        clear YD YE dE0 eE0
        obtain ⟨evs, eE, dE⟩ := YF.iv.ed
        have evl : evs.length = past'.length + 1 := by rw [dE.length, List.length_map, ep, List.length_append]; rfl
        obtain ⟨ev0, ev1, hev⟩ : ∃ l x, evs = l ++ [x] := ⟨_, _, (List.dropLast_concat_getLast (by intro z; rw [z] at evl; simp at evl)).symm⟩
        refine ⟨.ref E, rfl, .inl ⟨rfl, _, .inl (.inl eE)⟩, E, evs, ev1, rfl, rfl, eE, ?_, ?_⟩
        · rw [hev, List.length_append]; simp
        have dE2 : DpAll K HF ev0 (past'.map (·.1)) := by
          rw [hev, ep, List.map_append] at dE
          exact dpAll_left dE (by rw [hev, List.length_append] at evl; rw [List.length_map]; simp at evl; omega)
        have IE := YF.iv.setE (evs' := evs.dropLast) (es' := past'.map (·.1)) eE (fun H' k => by rw [hev, List.dropLast_concat]; exact dpAll_kp k _ _ (lfAll_of fun x hx => (YF.iv.lfe x (by rw [ep, List.map_append]; exact List.mem_append_left _ hx)).1) dE2) (fun x hx => YF.iv.lfe x (by rw [ep, List.map_append]; exact List.mem_append_left _ hx))
        have egG := (Kp.upd (o := .lst evs.dropLast) eE).1 _ _ YF.eg
        have vlF := YF.vl
        generalize upd HF E (.lst evs.dropLast) = HG at IE egG ⊢
        clear YF
        obtain ⟨bs2, eS2, hbs2⟩ := IE.sl
        obtain ⟨us2, u2, ebs2, hus2, _⟩ := prSplit (show Paired (InAt K HG a c M E) bs2 (past.map (·.2) ++ [(pan, st)]) from hbs2)
        refine ⟨.ref M, rfl, .inl ⟨rfl, _, .inl (.inl eS2)⟩, M, bs2.map V.ref, .ref u2, rfl, rfl, eS2, ?_, ?_⟩
        · rw [ebs2, List.map_append, List.length_append]; simp
        have IF := IE.setS (bs' := us2) (ys' := past.map (·.2)) eS2 hus2
        have edl : (bs2.map V.ref).dropLast = us2.map V.ref := by rw [ebs2, List.map_append]; exact List.dropLast_concat
        rw [edl]
        have egH := (Kp.upd (o := .lst (us2.map V.ref)) eS2).1 _ _ egG
        generalize upd HG M (.lst (us2.map V.ref)) = HH at IF egH ⊢
        clear IE egG
        have hDH := IF.de
        refine hDH.at fun dx fs e1 l1 => ?_
        refine ⟨.ref t, rfl, t, dx, fs, rfl, e1, l1 _ (by decide +kernel), t, pan, st, past, rfl, hDH, fun past'' y' ep' HI bI GI => ?_, fun z => absurd (ep.symm.trans z) (by simp)⟩
        obtain ⟨rfl, rfl⟩ : past'' = past' ∧ y' = y := by
          have := List.append_inj' (ep'.symm.trans ep) rfl
          exact ⟨this.1, by injection this.2⟩
        have II := IF.do bI GI
        have egI := (bI.kp e1).1 _ _ egH
        obtain ⟨evs3, eE3, dE3⟩ := II.ed
        refine (gv_lenL (K := K) (gv_var (i := 5) rfl (.lst (.inl (.inl eE3)) dE3))).at fun vn HJ sJ dn => ?_
        cases dn
        rw [List.length_map]
        refine ⟨rfl, false, by rw [decide_eq_true rfl]; rfl, iteF (next_of ?_)⟩
        have e1' : stsM y'.2.1 y'.2.2 past'' = past.map (·.2) := by rw [ep, List.map_append]; rfl
        refine hk2 _ _ ⟨y'.2.1, y'.2.2, past'', ⟨?_, fun z hz => vlF z ?_, sJ _ _ egI⟩, by rw [ep, List.length_append] at pl; omega, rfl⟩
        · rw [e1']; exact (II.same sJ).less (by omega)
        · rw [e1'] at hz; exact List.mem_append_left _ hz
    · skip
      obtain ⟨M, E, panP, stP, P0, x7, x8, x9, x10, x11, x12, x13, x14, x15, x16, x17, IB, vl, pl, rfl⟩ := hP
      have few : P0.length ≤ 32 := by omega
      obtain ⟨evs, eE, dE⟩ := IB.ed
      have evl : evs.length = P0.length := by rw [dE.length, List.length_map]
      refine (gv_lenL1 (K := K) (i := 5) rfl eE).at fun vn HC sC dn => ?_
      cases dn
      rw [evl]
      have IC := IB.same sC
      clear eE dE evl IB
      have hn : ((P0.length : Int) - 1 - (-1)).toNat = P0.length := by omega
      have rg := RgC.neg (i := (P0.length : Int) - 1) (j := -1) (by omega) (by omega) (by omega) (by omega)
      rw [hn] at rg
      refine ⟨(P0.length : Nat), 1, rfl, rfl, 1, rfl, 1, rfl, (P0.length : Int) - 1, -1, -1, P0.length, rfl, rg, ?_⟩
      refine for_rangeC (n := P0.length) (fun i σ H' => ∃ (pan : List (List Int)) (st : List Int) (x18 : Option V), IV K C H' a c t M E (4700 - 600 * n) pan st (P0.take (P0.length - i)) (stsM panP stP P0) (P0.map (·.1)) ∧ (stsM panP stP P0)[P0.length - i]? = some (pan, st) ∧ σ = [some (.ref sc), some (.ref a), some (.ref p), some (.int (pan0.length : Int)), some (.ref M), some (.ref E), some (.ref t), x7, x8, x9, x10, x11, x12, x13, x14, x15, x16, x17, x18])
        ⟨panP, stP, _, by rw [Nat.sub_zero, List.take_length]; exact IC, by rw [Nat.sub_zero]; unfold stsM; rw [List.getElem?_append_right (by rw [List.length_map]; omega), List.length_map, Nat.sub_self]; rfl, rfl⟩ (fun i σ HF hi hP => ?_) (fun σ HF hP => q HF)
      obtain ⟨pan, st, x18, IF, hy, rfl⟩ := hP
      obtain ⟨k, hk, hk2⟩ : ∃ k : Nat, P0.length - i = k + 1 ∧ P0.length - (i + 1) = k := ⟨P0.length - (i + 1), by omega, rfl⟩
      have ek : (P0.length : Int) - 1 + (i : Nat) * (-1) = (k : Int) := by omega
      rw [ek]
      obtain ⟨x, hx⟩ : ∃ x, P0[k]? = some x := ⟨_, List.getElem?_eq_getElem (by omega)⟩
      have et : P0.take (P0.length - i) = P0.take k ++ [x] := by rw [hk]; exact take_getLast hx
      have hyk : (stsM panP stP P0)[k]? = some x.2 := by
        unfold stsM
        rw [List.getElem?_append_left (by rw [List.length_map]; omega), List.getElem?_map, hx]; rfl
      have tl : (P0.take k).length = k := by rw [List.length_take]; omega
      refine IF.de.at fun dx fs e l => ⟨.ref t, rfl, t, dx, fs, rfl, e, l _ (by decide +kernel), t, pan, st, _, rfl, IF.de, fun past' y ep HG bG GG => ?_, fun z => ?_⟩
      rotate_left
      · rw [et] at z; simp at z
      rw [et] at ep
      obtain ⟨rfl, ey⟩ := List.append_inj' ep rfl
      cases ey
      refine ⟨.int (k : Int), rfl, rfl, _, rfl, ?_⟩
      rw [show decide (V.int ((P0.take k).length : Nat) = V.int (k : Int)) = true from decide_eq_true (by rw [tl])]
      refine iteF ?_
      have IG := IF.do bG GG
      obtain ⟨bs, eM, hbs⟩ := IG.sl
      obtain ⟨evs, eE, dE⟩ := IG.ed
      have evl : evs.length = P0.length := by rw [dE.length, List.length_map]
      obtain ⟨b, hb, bn, vp, lq, eu, dvp, elq⟩ := prGet hbs hyk
      refine (gvt_not (gvt_b (gv_RightK (K := K) (i := 6) (j := 4) (l := 5) (o := 18) (u := b) rfl rfl rfl rfl IG.de (by omega) (fun z hz => (IG.lfe _ (List.mem_map_of_mem (List.mem_of_mem_take hz))).2) eM (by rw [List.getElem?_map, hb]; rfl) (.lst (.inl (.inl eu)) (.cons dvp (.cons (dp_ints (.inl (.inl elq))) .nil))) eE dE (by rw [List.map_take]) (by omega)))).at fun HH sH => ?_
      refine iteF ?_
      exact ⟨x.2.1, x.2.2, _, by rw [hk2]; exact IG.same sH, by rw [hk2]; exact hyk, rfl⟩
end
end K48
namespace K48
open PySem PySem.Spec PyProof.Rows L2 Pr
theorem all_mk {l : PySem.W.OpenLaw} {w : World} {K : PySem.W.Frag} {h : Heap} {mg : Str → Option Value} {fa f1 f2 f3 f4 f5 f6 f7 f8 f9 f10 f11 f12 f13 f14 f15 f16 f17 f18 f19 f20 f21 f22 f23 f24 f25 f26 f27 f28 f29 f30 f31 f32 f33 f34 f35 : Addr} (X : K.In h) (G : h.Ns mainGlobals mg) (hfa : mg "law" = some (.ref fa))
    {od1 an1 od2 an2 od3 an3 od4 an4 od5 an5 od6 an6 od7 an7 od8 an8 od9 an9 od10 an10 od11 an11 od12 an12 od13 an13 od14 an14 od15 an15 od16 an16 od17 an17 od18 an18 od19 an19 od20 an20 od21 an21 od22 an22 od23 an23 od24 an24 od25 an25 od26 an26 od27 an27 od28 an28 od29 an29 od30 an30 od31 an31 od32 an32 od33 an33 od34 an34 od35 an35 : Option Addr} {sl1 sl2 sl3 sl4 sl5 sl6 sl7 sl8 sl9 sl10 sl11 sl12 sl13 sl14 sl15 sl16 sl17 sl18 sl19 sl20 sl21 sl22 sl23 sl24 sl25 sl26 sl27 sl28 sl29 sl30 sl31 sl32 sl33 sl34 sl35 : Array (Option Value)} {oc1 kV1 dc1 pm1 cd1 ct1 oc2 kV2 dc2 pm2 cd2 ct2 oc3 kV3 dc3 pm3 cd3 ct3 oc4 kV4 dc4 pm4 cd4 ct4 oc5 kV5 dc5 pm5 cd5 ct5 oc6 kV6 dc6 pm6 cd6 ct6 oc7 kV7 dc7 pm7 cd7 ct7 oc8 kV8 dc8 pm8 cd8 ct8 oc9 kV9 dc9 pm9 cd9 ct9 oc10 kV10 dc10 pm10 cd10 ct10 oc11 kV11 dc11 pm11 cd11 ct11 oc12 kV12 dc12 pm12 cd12 ct12 oc13 kV13 dc13 pm13 cd13 ct13 oc14 kV14 dc14 pm14 cd14 ct14 oc15 kV15 dc15 pm15 cd15 ct15 oc16 kV16 dc16 pm16 cd16 ct16 oc17 kV17 dc17 pm17 cd17 ct17 oc18 kV18 dc18 pm18 cd18 ct18 oc19 kV19 dc19 pm19 cd19 ct19 oc20 kV20 dc20 pm20 cd20 ct20 oc21 kV21 dc21 pm21 cd21 ct21 oc22 kV22 dc22 pm22 cd22 ct22 oc23 kV23 dc23 pm23 cd23 ct23 oc24 kV24 dc24 pm24 cd24 ct24 oc25 kV25 dc25 pm25 cd25 ct25 oc26 kV26 dc26 pm26 cd26 ct26 oc27 kV27 dc27 pm27 cd27 ct27 oc28 kV28 dc28 pm28 cd28 ct28 oc29 kV29 dc29 pm29 cd29 ct29 oc30 kV30 dc30 pm30 cd30 ct30 oc31 kV31 dc31 pm31 cd31 ct31 oc32 kV32 dc32 pm32 cd32 ct32 oc33 kV33 dc33 pm33 cd33 ct33 oc34 kV34 dc34 pm34 cd34 ct34 oc35 kV35 dc35 pm35 cd35 ct35 : Value}
    (a1 : PySem.W.nsIn K mainGlobals "with_list" = some (some (.ref f1))) (l1 : K.lookup f1 = some ⟨oc1, od1, .func (PySem.W.fnOf "with_list" "with_list" (defArgs sWl) (defBody sWl) (defScope sWl) .none kV1 dc1 pm1 an1 cd1 ct1), sl1⟩) (c1 : PySem.W.codeIn K cd1 "with_list" = true) (k1 : PySem.W.keepIn K (.ref f1) = true)
    (a2 : PySem.W.nsIn K mainGlobals "linked" = some (some (.ref f2))) (l2 : K.lookup f2 = some ⟨oc2, od2, .func (PySem.W.fnOf "linked" "linked" (defArgs sLi) (defBody sLi) (defScope sLi) .none kV2 dc2 pm2 an2 cd2 ct2), sl2⟩) (c2 : PySem.W.codeIn K cd2 "linked" = true) (k2 : PySem.W.keepIn K (.ref f2) = true)
    (a3 : PySem.W.nsIn K mainGlobals "unlinked" = some (some (.ref f3))) (l3 : K.lookup f3 = some ⟨oc3, od3, .func (PySem.W.fnOf "unlinked" "unlinked" (defArgs sUn) (defBody sUn) (defScope sUn) .none kV3 dc3 pm3 an3 cd3 ct3), sl3⟩) (c3 : PySem.W.codeIn K cd3 "unlinked" = true) (k3 : PySem.W.keepIn K (.ref f3) = true)
    (a4 : PySem.W.nsIn K mainGlobals "is_button" = some (some (.ref f4))) (l4 : K.lookup f4 = some ⟨oc4, od4, .func (PySem.W.fnOf "is_button" "is_button" (defArgs sBtn) (defBody sBtn) (defScope sBtn) .none kV4 dc4 pm4 an4 cd4 ct4), sl4⟩) (c4 : PySem.W.codeIn K cd4 "is_button" = true) (k4 : PySem.W.keepIn K (.ref f4) = true)
    (a5 : PySem.W.nsIn K mainGlobals "is_button_tuple" = some (some (.ref f5))) (l5 : K.lookup f5 = some ⟨oc5, od5, .func (PySem.W.fnOf "is_button_tuple" "is_button_tuple" (defArgs sBtnT) (defBody sBtnT) (defScope sBtnT) .none kV5 dc5 pm5 an5 cd5 ct5), sl5⟩) (c5 : PySem.W.codeIn K cd5 "is_button_tuple" = true) (k5 : PySem.W.keepIn K (.ref f5) = true)
    (a6 : PySem.W.nsIn K mainGlobals "panel_error" = some (some (.ref f6))) (l6 : K.lookup f6 = some ⟨oc6, od6, .func (PySem.W.fnOf "panel_error" "panel_error" (defArgs sPErr) (defBody sPErr) (defScope sPErr) .none kV6 dc6 pm6 an6 cd6 ct6), sl6⟩) (c6 : PySem.W.codeIn K cd6 "panel_error" = true) (k6 : PySem.W.keepIn K (.ref f6) = true)
    (a7 : PySem.W.nsIn K mainGlobals "press_button" = some (some (.ref f7))) (l7 : K.lookup f7 = some ⟨oc7, od7, .func (PySem.W.fnOf "press_button" "press_button" (defArgs sPress) (defBody sPress) (defScope sPress) .none kV7 dc7 pm7 an7 cd7 ct7), sl7⟩) (c7 : PySem.W.codeIn K cd7 "press_button" = true) (k7 : PySem.W.keepIn K (.ref f7) = true)
    (a8 : PySem.W.nsIn K mainGlobals "releases_any" = some (some (.ref f8))) (l8 : K.lookup f8 = some ⟨oc8, od8, .func (PySem.W.fnOf "releases_any" "releases_any" (defArgs sAny) (defBody sAny) (defScope sAny) .none kV8 dc8 pm8 an8 cd8 ct8), sl8⟩) (c8 : PySem.W.codeIn K cd8 "releases_any" = true) (k8 : PySem.W.keepIn K (.ref f8) = true)
    (a9 : PySem.W.nsIn K mainGlobals "held_buttons" = some (some (.ref f9))) (l9 : K.lookup f9 = some ⟨oc9, od9, .func (PySem.W.fnOf "held_buttons" "held_buttons" (defArgs sHeld) (defBody sHeld) (defScope sHeld) .none kV9 dc9 pm9 an9 cd9 ct9), sl9⟩) (c9 : PySem.W.codeIn K cd9 "held_buttons" = true) (k9 : PySem.W.keepIn K (.ref f9) = true)
    (a10 : PySem.W.nsIn K mainGlobals "check_panel" = some (some (.ref f10))) (l10 : K.lookup f10 = some ⟨oc10, od10, .func (PySem.W.fnOf "check_panel" "check_panel" (defArgs sChkP) (defBody sChkP) (defScope sChkP) .none kV10 dc10 pm10 an10 cd10 ct10), sl10⟩) (c10 : PySem.W.codeIn K cd10 "check_panel" = true) (k10 : PySem.W.keepIn K (.ref f10) = true)
    (a11 : PySem.W.nsIn K mainGlobals "check_state" = some (some (.ref f11))) (l11 : K.lookup f11 = some ⟨oc11, od11, .func (PySem.W.fnOf "check_state" "check_state" (defArgs sChkS) (defBody sChkS) (defScope sChkS) .none kV11 dc11 pm11 an11 cd11 ct11), sl11⟩) (c11 : PySem.W.codeIn K cd11 "check_state" = true) (k11 : PySem.W.keepIn K (.ref f11) = true)
    (a12 : PySem.W.nsIn K mainGlobals "check_button" = some (some (.ref f12))) (l12 : K.lookup f12 = some ⟨oc12, od12, .func (PySem.W.fnOf "check_button" "check_button" (defArgs sChkB) (defBody sChkB) (defScope sChkB) .none kV12 dc12 pm12 an12 cd12 ct12), sl12⟩) (c12 : PySem.W.codeIn K cd12 "check_button" = true) (k12 : PySem.W.keepIn K (.ref f12) = true)
    (a13 : PySem.W.nsIn K mainGlobals "is_version" = some (some (.ref f13))) (l13 : K.lookup f13 = some ⟨oc13, od13, .func (PySem.W.fnOf "is_version" "is_version" (defArgs sIsV) (defBody sIsV) (defScope sIsV) .none kV13 dc13 pm13 an13 cd13 ct13), sl13⟩) (c13 : PySem.W.codeIn K cd13 "is_version" = true) (k13 : PySem.W.keepIn K (.ref f13) = true)
    (a14 : PySem.W.nsIn K mainGlobals "shortest_rows" = some (some (.ref f14))) (l14 : K.lookup f14 = some ⟨oc14, od14, .func (PySem.W.fnOf "shortest_rows" "shortest_rows" (defArgs sRows) (defBody sRows) (defScope sRows) .none kV14 dc14 pm14 an14 cd14 ct14), sl14⟩) (c14 : PySem.W.codeIn K cd14 "shortest_rows" = true) (k14 : PySem.W.keepIn K (.ref f14) = true)
    (a15 : PySem.W.nsIn K mainGlobals "shortest_way" = some (some (.ref f15))) (l15 : K.lookup f15 = some ⟨oc15, od15, .func (PySem.W.fnOf "shortest_way" "shortest_way" (defArgs sWay) (defBody sWay) (defScope sWay) .none kV15 dc15 pm15 an15 cd15 ct15), sl15⟩) (c15 : PySem.W.codeIn K cd15 "shortest_way" = true) (k15 : PySem.W.keepIn K (.ref f15) = true)
    (a16 : PySem.W.nsIn K mainGlobals "is_edit" = some (some (.ref f16))) (l16 : K.lookup f16 = some ⟨oc16, od16, .func (PySem.W.fnOf "is_edit" "is_edit" (defArgs sIsE) (defBody sIsE) (defScope sIsE) .none kV16 dc16 pm16 an16 cd16 ct16), sl16⟩) (c16 : PySem.W.codeIn K cd16 "is_edit" = true) (k16 : PySem.W.keepIn K (.ref f16) = true)
    (a17 : PySem.W.nsIn K mainGlobals "copied_batch" = some (some (.ref f17))) (l17 : K.lookup f17 = some ⟨oc17, od17, .func (PySem.W.fnOf "copied_batch" "copied_batch" (defArgs sCopy) (defBody sCopy) (defScope sCopy) .none kV17 dc17 pm17 an17 cd17 ct17), sl17⟩) (c17 : PySem.W.codeIn K cd17 "copied_batch" = true) (k17 : PySem.W.keepIn K (.ref f17) = true)
    (a18 : PySem.W.nsIn K mainGlobals "_law_deck" = some (some (.ref f18))) (l18 : K.lookup f18 = some ⟨oc18, od18, .func (PySem.W.fnOf "_law_deck" "_law_deck" (defArgs sDeck) (defBody sDeck) (defScope sDeck) .none kV18 dc18 pm18 an18 cd18 ct18), sl18⟩) (c18 : PySem.W.codeIn K cd18 "_law_deck" = true) (k18 : PySem.W.keepIn K (.ref f18) = true)
    (a19 : PySem.W.nsIn K mainGlobals "_law_draw" = some (some (.ref f19))) (l19 : K.lookup f19 = some ⟨oc19, od19, .func (PySem.W.fnOf "_law_draw" "_law_draw" (defArgs sDraw) (defBody sDraw) (defScope sDraw) .none kV19 dc19 pm19 an19 cd19 ct19), sl19⟩) (c19 : PySem.W.codeIn K cd19 "_law_draw" = true) (k19 : PySem.W.keepIn K (.ref f19) = true)
    (a20 : PySem.W.nsIn K mainGlobals "_law_panel" = some (some (.ref f20))) (l20 : K.lookup f20 = some ⟨oc20, od20, .func (PySem.W.fnOf "_law_panel" "_law_panel" (defArgs sPanel) (defBody sPanel) (defScope sPanel) .none kV20 dc20 pm20 an20 cd20 ct20), sl20⟩) (c20 : PySem.W.codeIn K cd20 "_law_panel" = true) (k20 : PySem.W.keepIn K (.ref f20) = true)
    (a21 : PySem.W.nsIn K mainGlobals "_law_state" = some (some (.ref f21))) (l21 : K.lookup f21 = some ⟨oc21, od21, .func (PySem.W.fnOf "_law_state" "_law_state" (defArgs sState0) (defBody sState0) (defScope sState0) .none kV21 dc21 pm21 an21 cd21 ct21), sl21⟩) (c21 : PySem.W.codeIn K cd21 "_law_state" = true) (k21 : PySem.W.keepIn K (.ref f21) = true)
    (a22 : PySem.W.nsIn K mainGlobals "_law_pressed" = some (some (.ref f22))) (l22 : K.lookup f22 = some ⟨oc22, od22, .func (PySem.W.fnOf "_law_pressed" "_law_pressed" (defArgs sPressed) (defBody sPressed) (defScope sPressed) .none kV22 dc22 pm22 an22 cd22 ct22), sl22⟩) (c22 : PySem.W.codeIn K cd22 "_law_pressed" = true) (k22 : PySem.W.keepIn K (.ref f22) = true)
    (a23 : PySem.W.nsIn K mainGlobals "_law_changed" = some (some (.ref f23))) (l23 : K.lookup f23 = some ⟨oc23, od23, .func (PySem.W.fnOf "_law_changed" "_law_changed" (defArgs sChanged) (defBody sChanged) (defScope sChanged) .none kV23 dc23 pm23 an23 cd23 ct23), sl23⟩) (c23 : PySem.W.codeIn K cd23 "_law_changed" = true) (k23 : PySem.W.keepIn K (.ref f23) = true)
    (a24 : PySem.W.nsIn K mainGlobals "_law_after" = some (some (.ref f24))) (l24 : K.lookup f24 = some ⟨oc24, od24, .func (PySem.W.fnOf "_law_after" "_law_after" (defArgs sAfter) (defBody sAfter) (defScope sAfter) .none kV24 dc24 pm24 an24 cd24 ct24), sl24⟩) (c24 : PySem.W.codeIn K cd24 "_law_after" = true) (k24 : PySem.W.keepIn K (.ref f24) = true)
    (a25 : PySem.W.nsIn K mainGlobals "_law_edit" = some (some (.ref f25))) (l25 : K.lookup f25 = some ⟨oc25, od25, .func (PySem.W.fnOf "_law_edit" "_law_edit" (defArgs sEdit) (defBody sEdit) (defScope sEdit) .none kV25 dc25 pm25 an25 cd25 ct25), sl25⟩) (c25 : PySem.W.codeIn K cd25 "_law_edit" = true) (k25 : PySem.W.keepIn K (.ref f25) = true)
    (a26 : PySem.W.nsIn K mainGlobals "_law_right" = some (some (.ref f26))) (l26 : K.lookup f26 = some ⟨oc26, od26, .func (PySem.W.fnOf "_law_right" "_law_right" (defArgs sRight) (defBody sRight) (defScope sRight) .none kV26 dc26 pm26 an26 cd26 ct26), sl26⟩) (c26 : PySem.W.codeIn K cd26 "_law_right" = true) (k26 : PySem.W.keepIn K (.ref f26) = true)
    (a27 : PySem.W.nsIn K mainGlobals "_law_way" = some (some (.ref f27))) (l27 : K.lookup f27 = some ⟨oc27, od27, .func (PySem.W.fnOf "_law_way" "_law_way" (defArgs sLWay) (defBody sLWay) (defScope sLWay) .none kV27 dc27 pm27 an27 cd27 ct27), sl27⟩) (c27 : PySem.W.codeIn K cd27 "_law_way" = true) (k27 : PySem.W.keepIn K (.ref f27) = true)
    (a28 : PySem.W.nsIn K mainGlobals "_law_no_version" = some (some (.ref f28))) (l28 : K.lookup f28 = some ⟨oc28, od28, .func (PySem.W.fnOf "_law_no_version" "_law_no_version" (defArgs sNoV) (defBody sNoV) (defScope sNoV) .none kV28 dc28 pm28 an28 cd28 ct28), sl28⟩) (c28 : PySem.W.codeIn K cd28 "_law_no_version" = true) (k28 : PySem.W.keepIn K (.ref f28) = true)
    (a29 : PySem.W.nsIn K mainGlobals "_law_shown" = some (some (.ref f29))) (l29 : K.lookup f29 = some ⟨oc29, od29, .func (PySem.W.fnOf "_law_shown" "_law_shown" (defArgs sShown) (defBody sShown) (defScope sShown) .none kV29 dc29 pm29 an29 cd29 ct29), sl29⟩) (c29 : PySem.W.codeIn K cd29 "_law_shown" = true) (k29 : PySem.W.keepIn K (.ref f29) = true)
    (a30 : PySem.W.nsIn K mainGlobals "_law_due" = some (some (.ref f30))) (l30 : K.lookup f30 = some ⟨oc30, od30, .func (PySem.W.fnOf "_law_due" "_law_due" (defArgs sDue) (defBody sDue) (defScope sDue) .none kV30 dc30 pm30 an30 cd30 ct30), sl30⟩) (c30 : PySem.W.codeIn K cd30 "_law_due" = true) (k30 : PySem.W.keepIn K (.ref f30) = true)
    (a31 : PySem.W.nsIn K mainGlobals "_law_attempted" = some (some (.ref f31))) (l31 : K.lookup f31 = some ⟨oc31, od31, .func (PySem.W.fnOf "_law_attempted" "_law_attempted" (defArgs sAttd) (defBody sAttd) (defScope sAttd) .none kV31 dc31 pm31 an31 cd31 ct31), sl31⟩) (c31 : PySem.W.codeIn K cd31 "_law_attempted" = true) (k31 : PySem.W.keepIn K (.ref f31) = true)
    (a32 : PySem.W.nsIn K mainGlobals "_law_failing" = some (some (.ref f32))) (l32 : K.lookup f32 = some ⟨oc32, od32, .func (PySem.W.fnOf "_law_failing" "_law_failing" (defArgs sFail) (defBody sFail) (defScope sFail) .none kV32 dc32 pm32 an32 cd32 ct32), sl32⟩) (c32 : PySem.W.codeIn K cd32 "_law_failing" = true) (k32 : PySem.W.keepIn K (.ref f32) = true)
    (a33 : PySem.W.nsIn K mainGlobals "_law_bad" = some (some (.ref f33))) (l33 : K.lookup f33 = some ⟨oc33, od33, .func (PySem.W.fnOf "_law_bad" "_law_bad" (defArgs sBad) (defBody sBad) (defScope sBad) .none kV33 dc33 pm33 an33 cd33 ct33), sl33⟩) (c33 : PySem.W.codeIn K cd33 "_law_bad" = true) (k33 : PySem.W.keepIn K (.ref f33) = true)
    (a34 : PySem.W.nsIn K mainGlobals "_law_batch" = some (some (.ref f34))) (l34 : K.lookup f34 = some ⟨oc34, od34, .func (PySem.W.fnOf "_law_batch" "_law_batch" (defArgs sBatch) (defBody sBatch) (defScope sBatch) .none kV34 dc34 pm34 an34 cd34 ct34), sl34⟩) (c34 : PySem.W.codeIn K cd34 "_law_batch" = true) (k34 : PySem.W.keepIn K (.ref f34) = true)
    (a35 : PySem.W.nsIn K mainGlobals "law" = some (some (.ref f35))) (l35 : K.lookup f35 = some ⟨oc35, od35, .func (PySem.W.fnOf "law" "law" (defArgs sLaw) (defBody sLaw) (defScope sLaw) .none kV35 dc35 pm35 an35 cd35 ct35), sl35⟩) (c35 : PySem.W.codeIn K cd35 "law" = true) (k35 : PySem.W.keepIn K (.ref f35) = true)
    {tk_MAX_BUTTONS tk_BATCH : Tok} (y_MAX_BUTTONS : PySem.W.nsIn K mainGlobals "MAX_BUTTONS" = some (some (.int 10 tk_MAX_BUTTONS))) (y_BATCH : PySem.W.nsIn K mainGlobals "BATCH" = some (some (.int 20 tk_BATCH)))
    {C CV CU CR CBs CBe dV CP C2 : Addr} {tkD : Tok} {fShow : Addr} {ocShow kVShow dcShow pmShow cdShow ctShow : Value} {odShow anShow : Option Addr} {slShow : Array (Option Value)} {fInitD : Addr} {ocInitD kVInitD dcInitD pmInitD cdInitD ctInitD : Value} {odInitD anInitD : Option Addr} {slInitD : Array (Option Value)} {fState : Addr} {ocState dcState pmState cdState ctState : Value} {odState anState : Option Addr} {slState : Array (Option Value)} {aKState : Addr} {fWayTo : Addr} {ocWayTo dcWayTo pmWayTo cdWayTo ctWayTo : Value} {odWayTo anWayTo : Option Addr} {slWayTo : Array (Option Value)} {aKWayTo : Addr} {fFree : Addr} {ocFree kVFree dcFree pmFree cdFree ctFree : Value} {odFree anFree : Option Addr} {slFree : Array (Option Value)} {fUndo : Addr} {ocUndo kVUndo dcUndo pmUndo cdUndo ctUndo : Value} {odUndo anUndo : Option Addr} {slUndo : Array (Option Value)} {fEdits : Addr} {ocEdits kVEdits dcEdits pmEdits cdEdits ctEdits : Value} {odEdits anEdits : Option Addr} {slEdits : Array (Option Value)} {fLenD : Addr} {ocLenD kVLenD dcLenD pmLenD cdLenD ctLenD : Value} {odLenD anLenD : Option Addr} {slLenD : Array (Option Value)} {fStrD : Addr} {ocStrD kVStrD dcStrD pmStrD cdStrD ctStrD : Value} {odStrD anStrD : Option Addr} {slStrD : Array (Option Value)} {fRoom : Addr} {ocRoom kVRoom dcRoom pmRoom cdRoom ctRoom : Value} {odRoom anRoom : Option Addr} {slRoom : Array (Option Value)} {fAdd : Addr} {ocAdd kVAdd dcAdd pmAdd cdAdd ctAdd : Value} {odAdd anAdd : Option Addr} {slAdd : Array (Option Value)} {fPressX : Addr} {ocPressX kVPressX dcPressX pmPressX cdPressX ctPressX : Value} {odPressX anPressX : Option Addr} {slPressX : Array (Option Value)} {fLink0X : Addr} {ocLink0X kVLink0X dcLink0X pmLink0X cdLink0X ctLink0X : Value} {odLink0X anLink0X : Option Addr} {slLink0X : Array (Option Value)} {fChgX : Addr} {ocChgX kVChgX dcChgX pmChgX cdChgX ctChgX : Value} {odChgX anChgX : Option Addr} {slChgX : Array (Option Value)} {fLinkX : Addr} {ocLinkX kVLinkX dcLinkX pmLinkX cdLinkX ctLinkX : Value} {odLinkX anLinkX : Option Addr} {slLinkX : Array (Option Value)} {fUnlinkX : Addr} {ocUnlinkX kVUnlinkX dcUnlinkX pmUnlinkX cdUnlinkX ctUnlinkX : Value} {odUnlinkX anUnlinkX : Option Addr} {slUnlinkX : Array (Option Value)} {fDoEditX : Addr} {ocDoEditX kVDoEditX dcDoEditX pmDoEditX cdDoEditX ctDoEditX : Value} {odDoEditX anDoEditX : Option Addr} {slDoEditX : Array (Option Value)} {fDoBatchX : Addr} {ocDoBatchX kVDoBatchX dcDoBatchX pmDoBatchX cdDoBatchX ctDoBatchX : Value} {odDoBatchX anDoBatchX : Option Addr} {slDoBatchX : Array (Option Value)} {fAttempt : Addr} {ocAttempt dcAttempt pmAttempt cdAttempt ctAttempt : Value} {odAttempt anAttempt : Option Addr} {slAttempt : Array (Option Value)} {aKAttempt : Addr} {nmV qqV : Str} {NnV : Addr} {bsV : List Value} {snV : List Str} {subV : List Value} {abV : Bool} {colV : Option Bool} {ddV : Option Addr} {q0V q1V q2V q3V q5V : Option Value} {fIV : Addr} {ocIV kVIV dcIV pmIV cdIV ctIV : Value} {odIV anIV : Option Addr} {slIV : Array (Option Value)} {nmN qqN : Str} {NnN : Addr} {bsN : List Value} {snN : List Str} {subN : List Value} {abN : Bool} {colN : Option Bool} {ddN : Option Addr} {q0N q1N q2N q3N q5N : Option Value} {fIN : Addr} {ocIN kVIN dcIN pmIN cdIN ctIN : Value} {odIN anIN : Option Addr} {slIN : Array (Option Value)} {nmS qqS : Str} {NnS : Addr} {bsS : List Value} {snS : List Str} {subS : List Value} {abS : Bool} {colS : Option Bool} {ddS : Option Addr} {q0S q1S q2S q3S q5S : Option Value} {fIS : Addr} {ocIS kVIS dcIS pmIS cdIS ctIS : Value} {odIS anIS : Option Addr} {slIS : Array (Option Value)} {nmR qqR : Str} {NnR : Addr} {bsR : List Value} {snR : List Str} {subR : List Value} {abR : Bool} {colR : Option Bool} {ddR : Option Addr} {q0R q1R q2R q3R q5R : Option Value} {fIR : Addr} {ocIR kVIR dcIR pmIR cdIR ctIR : Value} {odIR anIR : Option Addr} {slIR : Array (Option Value)} {nmE qqE : Str} {NnE : Addr} {bsE : List Value} {snE : List Str} {subE : List Value} {abE : Bool} {colE : Option Bool} {ddE : Option Addr} {q0E q1E q2E q3E q5E : Option Value} {fIE : Addr} {ocIE kVIE dcIE pmIE cdIE ctIE : Value} {odIE anIE : Option Addr} {slIE : Array (Option Value)} {CN CS CC CT : Addr} {tv1 tv2 tv3 : Tok} 
    (uD : PySem.W.nsIn K mainGlobals "Desk" = some (some (.ref C)))
    (pgD : PySem.W.plainGet K C Str.empty = true)
    (hdD : PySem.W.hasDictIn K C = true)
    (poD : PySem.W.plainOver K C = true)
    (saD : PySem.W.findIn K (.ref C) "__setattr__" = some (some (.builtin "object.__setattr__")))
    (mkD : PySem.W.makesIn K C = true)
    (kcD : PySem.W.keepIn K (.ref C) = true)
    (nAD : PySem.W.findIn K (.ref C) "past" = some none)
    (nWD : PySem.W.findIn K (.ref C) "watched" = some none)
    (nPD : PySem.W.findIn K (.ref C) "panel" = some none)
    (nLD : PySem.W.findIn K (.ref C) "latched" = some none)
    (nHD : PySem.W.findIn K (.ref C) "held" = some none)
    (cM : PySem.W.findIn K (.ref C) "MOST_EDITS" = some (some (.int 60 tkD)))
    (cG : PySem.W.specialIn K (.int 60 tkD) "__get__" = some none)
    (cC : PySem.W.copiedNames.contains ("MOST_EDITS" : Str) = false)
    (wShow : PySem.W.findIn K (.ref C) "show" = some (some (.ref fShow)))
    (vfShow : PySem.W.isFn K (.ref fShow) = true)
    (lShow : K.lookup fShow = some ⟨ocShow, odShow, .func (PySem.W.fnOf "show" "Desk.show" (defArgs sShow) (defBody sShow) (defScope sShow) .none kVShow dcShow pmShow anShow cdShow ctShow), slShow⟩)
    (cShow : PySem.W.codeIn K cdShow "Desk.show" = true)
    (kShow : PySem.W.keepIn K (.ref fShow) = true)
    (wInitD : PySem.W.findIn K (.ref C) "__init__" = some (some (.ref fInitD)))
    (vfInitD : PySem.W.isFn K (.ref fInitD) = true)
    (lInitD : K.lookup fInitD = some ⟨ocInitD, odInitD, .func (PySem.W.fnOf "__init__" "Desk.__init__" (defArgs sInitD) (defBody sInitD) (defScope sInitD) .none kVInitD dcInitD pmInitD anInitD cdInitD ctInitD), slInitD⟩)
    (cInitD : PySem.W.codeIn K cdInitD "Desk.__init__" = true)
    (kInitD : PySem.W.keepIn K (.ref fInitD) = true)
    (wState : PySem.W.findIn K (.ref C) "state" = some (some (.ref fState)))
    (vfState : PySem.W.isFn K (.ref fState) = true)
    (lState : K.lookup fState = some ⟨ocState, odState, .func (PySem.W.fnOf "state" "Desk.state" (defArgs sState) (defBody sState) (defScope sState) .none (.ref aKState) dcState pmState anState cdState ctState), slState⟩)
    (cState : PySem.W.codeIn K cdState "Desk.state" = true)
    (kState : PySem.W.keepIn K (.ref fState) = true)
    (eKState : PySem.W.nsIn K aKState "version" = some (some .none))
    (wWayTo : PySem.W.findIn K (.ref C) "way_to" = some (some (.ref fWayTo)))
    (vfWayTo : PySem.W.isFn K (.ref fWayTo) = true)
    (lWayTo : K.lookup fWayTo = some ⟨ocWayTo, odWayTo, .func (PySem.W.fnOf "way_to" "Desk.way_to" (defArgs sWayTo) (defBody sWayTo) (defScope sWayTo) .none (.ref aKWayTo) dcWayTo pmWayTo anWayTo cdWayTo ctWayTo), slWayTo⟩)
    (cWayTo : PySem.W.codeIn K cdWayTo "Desk.way_to" = true)
    (kWayTo : PySem.W.keepIn K (.ref fWayTo) = true)
    (eKWayTo : PySem.W.nsIn K aKWayTo "version" = some (some .none))
    (wFree : PySem.W.findIn K (.ref C) "check_free" = some (some (.ref fFree)))
    (vfFree : PySem.W.isFn K (.ref fFree) = true)
    (lFree : K.lookup fFree = some ⟨ocFree, odFree, .func (PySem.W.fnOf "check_free" "Desk.check_free" (defArgs sFree) (defBody sFree) (defScope sFree) .none kVFree dcFree pmFree anFree cdFree ctFree), slFree⟩)
    (cFree : PySem.W.codeIn K cdFree "Desk.check_free" = true)
    (kFree : PySem.W.keepIn K (.ref fFree) = true)
    (wUndo : PySem.W.findIn K (.ref C) "undo" = some (some (.ref fUndo)))
    (vfUndo : PySem.W.isFn K (.ref fUndo) = true)
    (lUndo : K.lookup fUndo = some ⟨ocUndo, odUndo, .func (PySem.W.fnOf "undo" "Desk.undo" (defArgs sUndo) (defBody sUndo) (defScope sUndo) .none kVUndo dcUndo pmUndo anUndo cdUndo ctUndo), slUndo⟩)
    (cUndo : PySem.W.codeIn K cdUndo "Desk.undo" = true)
    (kUndo : PySem.W.keepIn K (.ref fUndo) = true)
    (wEdits : PySem.W.findIn K (.ref C) "edits" = some (some (.ref fEdits)))
    (vfEdits : PySem.W.isFn K (.ref fEdits) = true)
    (lEdits : K.lookup fEdits = some ⟨ocEdits, odEdits, .func (PySem.W.fnOf "edits" "Desk.edits" (defArgs sEdits) (defBody sEdits) (defScope sEdits) .none kVEdits dcEdits pmEdits anEdits cdEdits ctEdits), slEdits⟩)
    (cEdits : PySem.W.codeIn K cdEdits "Desk.edits" = true)
    (kEdits : PySem.W.keepIn K (.ref fEdits) = true)
    (wLenD : PySem.W.findIn K (.ref C) "__len__" = some (some (.ref fLenD)))
    (vfLenD : PySem.W.isFn K (.ref fLenD) = true)
    (lLenD : K.lookup fLenD = some ⟨ocLenD, odLenD, .func (PySem.W.fnOf "__len__" "Desk.__len__" (defArgs sLenD) (defBody sLenD) (defScope sLenD) .none kVLenD dcLenD pmLenD anLenD cdLenD ctLenD), slLenD⟩)
    (cLenD : PySem.W.codeIn K cdLenD "Desk.__len__" = true)
    (kLenD : PySem.W.keepIn K (.ref fLenD) = true)
    (wStrD : PySem.W.findIn K (.ref C) "__str__" = some (some (.ref fStrD)))
    (vfStrD : PySem.W.isFn K (.ref fStrD) = true)
    (lStrD : K.lookup fStrD = some ⟨ocStrD, odStrD, .func (PySem.W.fnOf "__str__" "Desk.__str__" (defArgs sStrD) (defBody sStrD) (defScope sStrD) .none kVStrD dcStrD pmStrD anStrD cdStrD ctStrD), slStrD⟩)
    (cStrD : PySem.W.codeIn K cdStrD "Desk.__str__" = true)
    (kStrD : PySem.W.keepIn K (.ref fStrD) = true)
    (wRoom : PySem.W.findIn K (.ref C) "check_room" = some (some (.ref fRoom)))
    (vfRoom : PySem.W.isFn K (.ref fRoom) = true)
    (lRoom : K.lookup fRoom = some ⟨ocRoom, odRoom, .func (PySem.W.fnOf "check_room" "Desk.check_room" (defArgs sRoom) (defBody sRoom) (defScope sRoom) .none kVRoom dcRoom pmRoom anRoom cdRoom ctRoom), slRoom⟩)
    (cRoom : PySem.W.codeIn K cdRoom "Desk.check_room" = true)
    (kRoom : PySem.W.keepIn K (.ref fRoom) = true)
    (wAdd : PySem.W.findIn K (.ref C) "add_edit" = some (some (.ref fAdd)))
    (vfAdd : PySem.W.isFn K (.ref fAdd) = true)
    (lAdd : K.lookup fAdd = some ⟨ocAdd, odAdd, .func (PySem.W.fnOf "add_edit" "Desk.add_edit" (defArgs sAdd) (defBody sAdd) (defScope sAdd) .none kVAdd dcAdd pmAdd anAdd cdAdd ctAdd), slAdd⟩)
    (cAdd : PySem.W.codeIn K cdAdd "Desk.add_edit" = true)
    (kAdd : PySem.W.keepIn K (.ref fAdd) = true)
    (wPressX : PySem.W.findIn K (.ref C) "press" = some (some (.ref fPressX)))
    (vfPressX : PySem.W.isFn K (.ref fPressX) = true)
    (lPressX : K.lookup fPressX = some ⟨ocPressX, odPressX, .func (PySem.W.fnOf "press" "Desk.press" (defArgs sPressX) (defBody sPressX) (defScope sPressX) .none kVPressX dcPressX pmPressX anPressX cdPressX ctPressX), slPressX⟩)
    (cPressX : PySem.W.codeIn K cdPressX "Desk.press" = true)
    (kPressX : PySem.W.keepIn K (.ref fPressX) = true)
    (wLink0X : PySem.W.findIn K (.ref C) "check_link" = some (some (.ref fLink0X)))
    (vfLink0X : PySem.W.isFn K (.ref fLink0X) = true)
    (lLink0X : K.lookup fLink0X = some ⟨ocLink0X, odLink0X, .func (PySem.W.fnOf "check_link" "Desk.check_link" (defArgs sLink0X) (defBody sLink0X) (defScope sLink0X) .none kVLink0X dcLink0X pmLink0X anLink0X cdLink0X ctLink0X), slLink0X⟩)
    (cLink0X : PySem.W.codeIn K cdLink0X "Desk.check_link" = true)
    (kLink0X : PySem.W.keepIn K (.ref fLink0X) = true)
    (wChgX : PySem.W.findIn K (.ref C) "change_panel" = some (some (.ref fChgX)))
    (vfChgX : PySem.W.isFn K (.ref fChgX) = true)
    (lChgX : K.lookup fChgX = some ⟨ocChgX, odChgX, .func (PySem.W.fnOf "change_panel" "Desk.change_panel" (defArgs sChgX) (defBody sChgX) (defScope sChgX) .none kVChgX dcChgX pmChgX anChgX cdChgX ctChgX), slChgX⟩)
    (cChgX : PySem.W.codeIn K cdChgX "Desk.change_panel" = true)
    (kChgX : PySem.W.keepIn K (.ref fChgX) = true)
    (wLinkX : PySem.W.findIn K (.ref C) "link" = some (some (.ref fLinkX)))
    (vfLinkX : PySem.W.isFn K (.ref fLinkX) = true)
    (lLinkX : K.lookup fLinkX = some ⟨ocLinkX, odLinkX, .func (PySem.W.fnOf "link" "Desk.link" (defArgs sLinkX) (defBody sLinkX) (defScope sLinkX) .none kVLinkX dcLinkX pmLinkX anLinkX cdLinkX ctLinkX), slLinkX⟩)
    (cLinkX : PySem.W.codeIn K cdLinkX "Desk.link" = true)
    (kLinkX : PySem.W.keepIn K (.ref fLinkX) = true)
    (wUnlinkX : PySem.W.findIn K (.ref C) "unlink" = some (some (.ref fUnlinkX)))
    (vfUnlinkX : PySem.W.isFn K (.ref fUnlinkX) = true)
    (lUnlinkX : K.lookup fUnlinkX = some ⟨ocUnlinkX, odUnlinkX, .func (PySem.W.fnOf "unlink" "Desk.unlink" (defArgs sUnlinkX) (defBody sUnlinkX) (defScope sUnlinkX) .none kVUnlinkX dcUnlinkX pmUnlinkX anUnlinkX cdUnlinkX ctUnlinkX), slUnlinkX⟩)
    (cUnlinkX : PySem.W.codeIn K cdUnlinkX "Desk.unlink" = true)
    (kUnlinkX : PySem.W.keepIn K (.ref fUnlinkX) = true)
    (wDoEditX : PySem.W.findIn K (.ref C) "do_edit" = some (some (.ref fDoEditX)))
    (vfDoEditX : PySem.W.isFn K (.ref fDoEditX) = true)
    (lDoEditX : K.lookup fDoEditX = some ⟨ocDoEditX, odDoEditX, .func (PySem.W.fnOf "do_edit" "Desk.do_edit" (defArgs sDoEditX) (defBody sDoEditX) (defScope sDoEditX) .none kVDoEditX dcDoEditX pmDoEditX anDoEditX cdDoEditX ctDoEditX), slDoEditX⟩)
    (cDoEditX : PySem.W.codeIn K cdDoEditX "Desk.do_edit" = true)
    (kDoEditX : PySem.W.keepIn K (.ref fDoEditX) = true)
    (wDoBatchX : PySem.W.findIn K (.ref C) "do_batch" = some (some (.ref fDoBatchX)))
    (vfDoBatchX : PySem.W.isFn K (.ref fDoBatchX) = true)
    (lDoBatchX : K.lookup fDoBatchX = some ⟨ocDoBatchX, odDoBatchX, .func (PySem.W.fnOf "do_batch" "Desk.do_batch" (defArgs sDoBatchX) (defBody sDoBatchX) (defScope sDoBatchX) .none kVDoBatchX dcDoBatchX pmDoBatchX anDoBatchX cdDoBatchX ctDoBatchX), slDoBatchX⟩)
    (cDoBatchX : PySem.W.codeIn K cdDoBatchX "Desk.do_batch" = true)
    (kDoBatchX : PySem.W.keepIn K (.ref fDoBatchX) = true)
    (wAttempt : PySem.W.findIn K (.ref C) "attempt" = some (some (.ref fAttempt)))
    (vfAttempt : PySem.W.isFn K (.ref fAttempt) = true)
    (lAttempt : K.lookup fAttempt = some ⟨ocAttempt, odAttempt, .func (PySem.W.fnOf "attempt" "Desk.attempt" (defArgs sAttempt) (defBody sAttempt) (defScope sAttempt) .none (.ref aKAttempt) dcAttempt pmAttempt anAttempt cdAttempt ctAttempt), slAttempt⟩)
    (cAttempt : PySem.W.codeIn K cdAttempt "Desk.attempt" = true)
    (kAttempt : PySem.W.keepIn K (.ref fAttempt) = true)
    (eKAttempt : PySem.W.nsIn K aKAttempt "watch" = some (some .none))
    (uCV : PySem.W.nsIn K mainGlobals "NoVersion" = some (some (.ref CV)))
    (xLV : K.lookup CV = some (excClassObj nmV qqV CV NnV bsV [.type "LookupError", .type "Exception", .type "BaseException", .type "object"] true snV subV abV colV ddV q0V q1V q2V q3V q5V "LookupError.__new__"))
    (saV : PySem.W.findIn K (.ref CV) "__setattr__" = some (some (.builtin "object.__setattr__")))
    (exCV : PySem.W.subIn K (.ref CV) (.type "BaseException") = some true)
    (tyCV : PySem.W.typeIn K (.ref CV) = some (.type "type"))
    (kCV : PySem.W.keepIn K (.ref CV) = true)
    (iCV : PySem.W.findIn K (.ref CV) "__init__" = some (some (.ref fIV)))
    (tIV : PySem.W.typeIn K (.ref fIV) = some (.type "function"))
    (noNV : PySem.W.findIn K (.ref CV) "value" = some none)
    (lIV : K.lookup fIV = some ⟨ocIV, odIV, .func (PySem.W.fnOf "__init__" "NoVersion.__init__" (defArgs sInitV) (defBody sInitV) (defScope sInitV) .none kVIV dcIV pmIV anIV cdIV ctIV), slIV⟩)
    (cIV : PySem.W.codeIn K cdIV "NoVersion.__init__" = true)
    (kIV : PySem.W.keepIn K (.ref fIV) = true)
    (hgV : PySem.W.findIn K (.ref CV) "__getattribute__" = some (some (.builtin "BaseException.__getattribute__")))
    (hkV : PySem.W.findIn K (.ref CV) "__getattr__" = some none)
    (hdV : PySem.W.hasDictIn K CV = true)
    (sPV : PySem.W.subIn K (.ref CV) (.ref CV) = some true)
    (u_PanelError : PySem.W.nsIn K mainGlobals "PanelError" = some (some (.ref CP)))
    (u_Busy : PySem.W.nsIn K mainGlobals "Busy" = some (some (.ref C2)))
    (u_TooManyEdits : PySem.W.nsIn K mainGlobals "TooManyEdits" = some (some (.ref CT)))
    (uCN : PySem.W.nsIn K mainGlobals "NoButton" = some (some (.ref CN)))
    (xLN : K.lookup CN = some (excClassObj nmN qqN CN NnN bsN [.type "LookupError", .type "Exception", .type "BaseException", .type "object"] true snN subN abN colN ddN q0N q1N q2N q3N q5N "LookupError.__new__"))
    (saN : PySem.W.findIn K (.ref CN) "__setattr__" = some (some (.builtin "object.__setattr__")))
    (exCN : PySem.W.subIn K (.ref CN) (.type "BaseException") = some true)
    (tyCN : PySem.W.typeIn K (.ref CN) = some (.type "type"))
    (kCN : PySem.W.keepIn K (.ref CN) = true)
    (iCN : PySem.W.findIn K (.ref CN) "__init__" = some (some (.ref fIN)))
    (tIN : PySem.W.typeIn K (.ref fIN) = some (.type "function"))
    (noNN : PySem.W.findIn K (.ref CN) "value" = some none)
    (lIN : K.lookup fIN = some ⟨ocIN, odIN, .func (PySem.W.fnOf "__init__" "NoButton.__init__" (defArgs sInitN) (defBody sInitN) (defScope sInitN) .none kVIN dcIN pmIN anIN cdIN ctIN), slIN⟩)
    (cIN : PySem.W.codeIn K cdIN "NoButton.__init__" = true)
    (kIN : PySem.W.keepIn K (.ref fIN) = true)
    (hgN : PySem.W.findIn K (.ref CN) "__getattribute__" = some (some (.builtin "BaseException.__getattribute__")))
    (hkN : PySem.W.findIn K (.ref CN) "__getattr__" = some none)
    (hdN : PySem.W.hasDictIn K CN = true)
    (sPN : PySem.W.subIn K (.ref CN) (.ref CN) = some true)
    (uCS : PySem.W.nsIn K mainGlobals "SameButton" = some (some (.ref CS)))
    (xLS : K.lookup CS = some (excClassObj nmS qqS CS NnS bsS [.ref CP, .type "ValueError", .type "Exception", .type "BaseException", .type "object"] true snS subS abS colS ddS q0S q1S q2S q3S q5S "ValueError.__new__"))
    (saS : PySem.W.findIn K (.ref CS) "__setattr__" = some (some (.builtin "object.__setattr__")))
    (exCS : PySem.W.subIn K (.ref CS) (.type "BaseException") = some true)
    (tyCS : PySem.W.typeIn K (.ref CS) = some (.type "type"))
    (kCS : PySem.W.keepIn K (.ref CS) = true)
    (iCS : PySem.W.findIn K (.ref CS) "__init__" = some (some (.ref fIS)))
    (tIS : PySem.W.typeIn K (.ref fIS) = some (.type "function"))
    (noNS : PySem.W.findIn K (.ref CS) "value" = some none)
    (lIS : K.lookup fIS = some ⟨ocIS, odIS, .func (PySem.W.fnOf "__init__" "SameButton.__init__" (defArgs sInitS) (defBody sInitS) (defScope sInitS) .none kVIS dcIS pmIS anIS cdIS ctIS), slIS⟩)
    (cIS : PySem.W.codeIn K cdIS "SameButton.__init__" = true)
    (kIS : PySem.W.keepIn K (.ref fIS) = true)
    (hgS : PySem.W.findIn K (.ref CS) "__getattribute__" = some (some (.builtin "BaseException.__getattribute__")))
    (hkS : PySem.W.findIn K (.ref CS) "__getattr__" = some none)
    (hdS : PySem.W.hasDictIn K CS = true)
    (sPS : PySem.W.subIn K (.ref CS) (.ref CS) = some true)
    (uCR : PySem.W.nsIn K mainGlobals "Rejected" = some (some (.ref CR)))
    (xLR : K.lookup CR = some (excClassObj nmR qqR CR NnR bsR [.ref CP, .type "ValueError", .type "Exception", .type "BaseException", .type "object"] true snR subR abR colR ddR q0R q1R q2R q3R q5R "ValueError.__new__"))
    (saR : PySem.W.findIn K (.ref CR) "__setattr__" = some (some (.builtin "object.__setattr__")))
    (exCR : PySem.W.subIn K (.ref CR) (.type "BaseException") = some true)
    (tyCR : PySem.W.typeIn K (.ref CR) = some (.type "type"))
    (kCR : PySem.W.keepIn K (.ref CR) = true)
    (iCR : PySem.W.findIn K (.ref CR) "__init__" = some (some (.ref fIR)))
    (tIR : PySem.W.typeIn K (.ref fIR) = some (.type "function"))
    (noNR : PySem.W.findIn K (.ref CR) "index" = some none)
    (lIR : K.lookup fIR = some ⟨ocIR, odIR, .func (PySem.W.fnOf "__init__" "Rejected.__init__" (defArgs sInitR) (defBody sInitR) (defScope sInitR) .none kVIR dcIR pmIR anIR cdIR ctIR), slIR⟩)
    (cIR : PySem.W.codeIn K cdIR "Rejected.__init__" = true)
    (kIR : PySem.W.keepIn K (.ref fIR) = true)
    (hgR : PySem.W.findIn K (.ref CR) "__getattribute__" = some (some (.builtin "BaseException.__getattribute__")))
    (hkR : PySem.W.findIn K (.ref CR) "__getattr__" = some none)
    (hdR : PySem.W.hasDictIn K CR = true)
    (sPR : PySem.W.subIn K (.ref CR) (.ref CR) = some true)
    (uCE : PySem.W.nsIn K mainGlobals "BadEdit" = some (some (.ref CBe)))
    (xLE : K.lookup CBe = some (excClassObj nmE qqE CBe NnE bsE [.ref CP, .type "ValueError", .type "Exception", .type "BaseException", .type "object"] true snE subE abE colE ddE q0E q1E q2E q3E q5E "ValueError.__new__"))
    (saE : PySem.W.findIn K (.ref CBe) "__setattr__" = some (some (.builtin "object.__setattr__")))
    (exCE : PySem.W.subIn K (.ref CBe) (.type "BaseException") = some true)
    (tyCE : PySem.W.typeIn K (.ref CBe) = some (.type "type"))
    (kCE : PySem.W.keepIn K (.ref CBe) = true)
    (iCE : PySem.W.findIn K (.ref CBe) "__init__" = some (some (.ref fIE)))
    (tIE : PySem.W.typeIn K (.ref fIE) = some (.type "function"))
    (noNE : PySem.W.findIn K (.ref CBe) "index" = some none)
    (lIE : K.lookup fIE = some ⟨ocIE, odIE, .func (PySem.W.fnOf "__init__" "BadEdit.__init__" (defArgs sInitE) (defBody sInitE) (defScope sInitE) .none kVIE dcIE pmIE anIE cdIE ctIE), slIE⟩)
    (cIE : PySem.W.codeIn K cdIE "BadEdit.__init__" = true)
    (kIE : PySem.W.keepIn K (.ref fIE) = true)
    (hgE : PySem.W.findIn K (.ref CBe) "__getattribute__" = some (some (.builtin "BaseException.__getattribute__")))
    (hkE : PySem.W.findIn K (.ref CBe) "__getattr__" = some none)
    (hdE : PySem.W.hasDictIn K CBe = true)
    (sPE : PySem.W.subIn K (.ref CBe) (.ref CBe) = some true)
    (u_NoChange : PySem.W.nsIn K mainGlobals "NoChange" = some (some (.ref CC)))
    (q_NoChange : PySem.W.excIn K CC [.type "ValueError", .type "Exception", .type "BaseException", .type "object"] "ValueError.__new__" = true)
    (kp_NoChange : PySem.W.keepIn K (.ref CC) = true)
    (s_NoChange : PySem.W.subIn K (.ref CC) (.type "BaseException") = some true)
    (t_NoChange : PySem.W.typeIn K (.ref CC) = some (.type "type"))
    (u_BadEdits : PySem.W.nsIn K mainGlobals "BadEdits" = some (some (.ref CBs)))
    (q_BadEdits : PySem.W.excIn K CBs [.type "ValueError", .type "Exception", .type "BaseException", .type "object"] "ValueError.__new__" = true)
    (kp_BadEdits : PySem.W.keepIn K (.ref CBs) = true)
    (s_BadEdits : PySem.W.subIn K (.ref CBs) (.type "BaseException") = some true)
    (t_BadEdits : PySem.W.typeIn K (.ref CBs) = some (.type "type"))
    (u_NothingToUndo : PySem.W.nsIn K mainGlobals "NothingToUndo" = some (some (.ref CU)))
    (q_NothingToUndo : PySem.W.excIn K CU [.type "ValueError", .type "Exception", .type "BaseException", .type "object"] "ValueError.__new__" = true)
    (kp_NothingToUndo : PySem.W.keepIn K (.ref CU) = true)
    (s_NothingToUndo : PySem.W.subIn K (.ref CU) (.type "BaseException") = some true)
    (t_NothingToUndo : PySem.W.typeIn K (.ref CU) = some (.type "type"))
    (haR : PySem.W.findIn K (.ref CR) "__class__" = some (some (.builtin "object.__class__")))
    (hnR : PySem.W.specialIn K (.builtin "object.__class__") "__get__" = some (some (.builtin "getset_descriptor.__get__")))
    (htR : PySem.W.takesIn K (.builtin "object.__class__") = some true)
    (hmR : PySem.W.mroIn K CR (.type "object") = some true)
    (haE : PySem.W.findIn K (.ref CBe) "__class__" = some (some (.builtin "object.__class__")))
    (hnE : PySem.W.specialIn K (.builtin "object.__class__") "__get__" = some (some (.builtin "getset_descriptor.__get__")))
    (htE : PySem.W.takesIn K (.builtin "object.__class__") = some true)
    (hmE : PySem.W.mroIn K CBe (.type "object") = some true)
    (hg_BadEdits : PySem.W.findIn K (.ref CBs) "__getattribute__" = some (some (.builtin "BaseException.__getattribute__")))
    (hk_BadEdits : PySem.W.findIn K (.ref CBs) "__getattr__" = some none)
    (hd_BadEdits : PySem.W.hasDictIn K CBs = true)
    (ha_BadEdits : PySem.W.findIn K (.ref CBs) "__class__" = some (some (.builtin "object.__class__")))
    (hn_BadEdits : PySem.W.specialIn K (.builtin "object.__class__") "__get__" = some (some (.builtin "getset_descriptor.__get__")))
    (ht_BadEdits : PySem.W.takesIn K (.builtin "object.__class__") = some true)
    (hm_BadEdits : PySem.W.mroIn K CBs (.type "object") = some true)
    (xP : PySem.W.subIn K (.ref CP) (.type "BaseException") = some true)
    (dP : PySem.W.hasDictIn K CP = true)
    (tP : PySem.W.typeIn K (.ref CP) = some (.type "type"))
    (sP_Rejected : PySem.W.subIn K (.ref CR) (.ref CP) = some true)
    (sP_BadEdit : PySem.W.subIn K (.ref CBe) (.ref CP) = some true)
    (sP_BadEdits : PySem.W.subIn K (.ref CBs) (.ref CP) = some true)
    (yVR : PySem.W.kitOne K (.ref CR) (.type "ValueError") = some true)
    (yTR : PySem.W.kitAny K (.ref CR) [.ref C2, .ref CU] = some false)
    (yVE : PySem.W.kitOne K (.ref CBe) (.type "ValueError") = some true)
    (yTE : PySem.W.kitAny K (.ref CBe) [.ref C2, .ref CU] = some false)
    (yVS : PySem.W.kitOne K (.ref CBs) (.type "ValueError") = some true)
    (yTS : PySem.W.kitAny K (.ref CBs) [.ref C2, .ref CU] = some false)
    (yRE : PySem.W.kitOne K (.ref CR) (.ref CBe) = some false)
    (yRS : PySem.W.kitOne K (.ref CR) (.ref CBs) = some false)
    (yER : PySem.W.kitOne K (.ref CBe) (.ref CR) = some false)
    (yES : PySem.W.kitOne K (.ref CBe) (.ref CBs) = some false)
    (ySR : PySem.W.kitOne K (.ref CBs) (.ref CR) = some false)
    (ySE : PySem.W.kitOne K (.ref CBs) (.ref CBe) = some false)
    (xN : PySem.W.exmAny K (.ref CN) [.ref CT, .ref CN, .ref CS, .ref CC] = some true)
    (xS : PySem.W.exmAny K (.ref CS) [.ref CT, .ref CN, .ref CS, .ref CC] = some true)
    (xC : PySem.W.exmAny K (.ref CC) [.ref CT, .ref CN, .ref CS, .ref CC] = some true)
    (uVA : PySem.W.nsIn K mainGlobals "VALUES" = some (some (.ref dV)))
    (kVA : He.dicW K dV = some (He.keysIn w.params ["press", "link", "unlink"]))
    (v1A : PySem.W.nsIn K dV "press" = some (some (.int 1 tv1)))
    (v2A : PySem.W.nsIn K dV "link" = some (some (.int 2 tv2)))
    (v3A : PySem.W.nsIn K dV "unlink" = some (some (.int 2 tv3)))
    (w0A : PySem.W.nsIn K dV "undo" = some none)
    (w1A : PySem.W.nsIn K dV "Press" = some none)
    (w2A : PySem.W.nsIn K dV "attempt" = some none)
    (w3A : PySem.W.nsIn K dV "held" = some none)
    (z1 : PySem.W.nsIn K mainGlobals "ValueError" = some none) (z2 : PySem.W.nsIn K mainGlobals "abs" = some none) (z3 : PySem.W.nsIn K mainGlobals "any" = some none) (z4 : PySem.W.nsIn K mainGlobals "bool" = some none) (z5 : PySem.W.nsIn K mainGlobals "enumerate" = some none) (z6 : PySem.W.nsIn K mainGlobals "int" = some none) (z7 : PySem.W.nsIn K mainGlobals "isinstance" = some none) (z8 : PySem.W.nsIn K mainGlobals "len" = some none) (z9 : PySem.W.nsIn K mainGlobals "list" = some none) (z10 : PySem.W.nsIn K mainGlobals "min" = some none) (z11 : PySem.W.nsIn K mainGlobals "range" = some none) (z12 : PySem.W.nsIn K mainGlobals "repr" = some none) (z13 : PySem.W.nsIn K mainGlobals "sorted" = some none) (z14 : PySem.W.nsIn K mainGlobals "str" = some none) (z15 : PySem.W.nsIn K mainGlobals "tuple" = some none) :
    ∃ fd : FuncData, (∀ (s : Shared) (v : Value), BindsTo s fd ⟨[v], []⟩ [("_law_script", v)]) ∧ ∀ base : Heap, K.In base → base.Ns mainGlobals mg → FnG l.prog w K mg base 20 fa fd ["_law_script"] (spLaw K) := by
  have e := hfa.symm.trans (PySem.W.mg_of X G a35)
  cases e
  have F1 := fun_mk (st := sWl) l1 c1 k1
  have F2 := fun_mk (st := sLi) l2 c2 k2
  have F3 := fun_mk (st := sUn) l3 c3 k3
  have F4 := fun_mk (st := sBtn) l4 c4 k4
  have F5 := fun_mk (st := sBtnT) l5 c5 k5
  have F6 := fun_mk (st := sPErr) l6 c6 k6
  have F7 := fun_mk (st := sPress) l7 c7 k7
  have F8 := fun_mk (st := sAny) l8 c8 k8
  have F9 := fun_mk (st := sHeld) l9 c9 k9
  have F10 := fun_mk (st := sChkP) l10 c10 k10
  have F11 := fun_mk (st := sChkS) l11 c11 k11
  have F12 := fun_mk (st := sChkB) l12 c12 k12
  have F13 := fun_mk (st := sIsV) l13 c13 k13
  have F14 := fun_mk (st := sRows) l14 c14 k14
  have F15 := fun_mk (st := sWay) l15 c15 k15
  have F16 := fun_mk (st := sIsE) l16 c16 k16
  have F17 := fun_mk (st := sCopy) l17 c17 k17
  have F18 := fun_mk (st := sDeck) l18 c18 k18
  have F19 := fun_mk (st := sDraw) l19 c19 k19
  have F20 := fun_mk (st := sPanel) l20 c20 k20
  have F21 := fun_mk (st := sState0) l21 c21 k21
  have F22 := fun_mk (st := sPressed) l22 c22 k22
  have F23 := fun_mk (st := sChanged) l23 c23 k23
  have F24 := fun_mk (st := sAfter) l24 c24 k24
  have F25 := fun_mk (st := sEdit) l25 c25 k25
  have F26 := fun_mk (st := sRight) l26 c26 k26
  have F27 := fun_mk (st := sLWay) l27 c27 k27
  have F28 := fun_mk (st := sNoV) l28 c28 k28
  have F29 := fun_mk (st := sShown) l29 c29 k29
  have F30 := fun_mk (st := sDue) l30 c30 k30
  have F31 := fun_mk (st := sAttd) l31 c31 k31
  have F32 := fun_mk (st := sFail) l32 c32 k32
  have F33 := fun_mk (st := sBad) l33 c33 k33
  have F34 := fun_mk (st := sBatch) l34 c34 k34
  have F35 := fun_mk (st := sLaw) l35 c35 k35
  have b1 := F1.binds (ps := ["panel", "button", "released"]) fun _ _ _ _ _ _ us hl => match us, hl with | [_, _, _], _ => rfl
  have b2 := F2.binds (ps := ["panel", "one", "other"]) fun _ _ _ _ _ _ us hl => match us, hl with | [_, _, _], _ => rfl
  have b3 := F3.binds (ps := ["panel", "one", "other"]) fun _ _ _ _ _ _ us hl => match us, hl with | [_, _, _], _ => rfl
  have b4 := F4.binds (ps := ["value", "many"]) fun _ _ _ _ _ _ us hl => match us, hl with | [_, _], _ => rfl
  have b5 := F5.binds (ps := ["value", "many"]) fun _ _ _ _ _ _ us hl => match us, hl with | [_, _], _ => rfl
  have b6 := F6.binds (ps := ["value"]) fun _ _ _ _ _ _ us hl => match us, hl with | [_], _ => rfl
  have b7 := F7.binds (ps := ["panel", "state", "button"]) fun _ _ _ _ _ _ us hl => match us, hl with | [_, _, _], _ => rfl
  have b8 := F8.binds (ps := ["panel", "button", "others"]) fun _ _ _ _ _ _ us hl => match us, hl with | [_, _, _], _ => rfl
  have b9 := F9.binds (ps := ["panel", "state"]) fun _ _ _ _ _ _ us hl => match us, hl with | [_, _], _ => rfl
  have b10 := F10.binds (ps := ["value"]) fun _ _ _ _ _ _ us hl => match us, hl with | [_], _ => rfl
  have b11 := F11.binds (ps := ["panel", "value"]) fun _ _ _ _ _ _ us hl => match us, hl with | [_, _], _ => rfl
  have b12 := F12.binds (ps := ["panel", "value"]) fun _ _ _ _ _ _ us hl => match us, hl with | [_, _], _ => rfl
  have b13 := F13.binds (ps := ["value", "latest"]) fun _ _ _ _ _ _ us hl => match us, hl with | [_, _], _ => rfl
  have b14 := F14.binds (ps := ["panel", "first", "step"]) fun _ _ _ _ _ _ us hl => match us, hl with | [_, _, _], _ => rfl
  have b15 := F15.binds (ps := ["panel", "start", "goal"]) fun _ _ _ _ _ _ us hl => match us, hl with | [_, _, _], _ => rfl
  have b16 := F16.binds (ps := ["value"]) fun _ _ _ _ _ _ us hl => match us, hl with | [_], _ => rfl
  have b17 := F17.binds (ps := ["value"]) fun _ _ _ _ _ _ us hl => match us, hl with | [_], _ => rfl
  have b18 := F18.binds (ps := ["_law_script"]) fun _ _ _ _ _ _ us hl => match us, hl with | [_], _ => rfl
  have b19 := F19.binds (ps := ["_law_deck_here", "_law_many"]) fun _ _ _ _ _ _ us hl => match us, hl with | [_, _], _ => rfl
  have b20 := F20.binds (ps := ["_law_deck_here", "_law_most"]) fun _ _ _ _ _ _ us hl => match us, hl with | [_, _], _ => rfl
  have b21 := F21.binds (ps := ["_law_deck_here", "_law_n"]) fun _ _ _ _ _ _ us hl => match us, hl with | [_, _], _ => rfl
  have b22 := F22.binds (ps := ["_law_panel_here", "_law_state_here", "_law_button"]) fun _ _ _ _ _ _ us hl => match us, hl with | [_, _, _], _ => rfl
  have b23 := F23.binds (ps := ["_law_panel_here", "_law_one", "_law_other", "_law_is_link"]) fun _ _ _ _ _ _ us hl => match us, hl with | [_, _, _, _], _ => rfl
  have b24 := F24.binds (ps := ["_law_state_here", "_law_edit_here"]) fun _ _ _ _ _ _ us hl => match us, hl with | [_, _], _ => rfl
  have b25 := F25.binds (ps := ["_law_deck_here", "_law_state_here"]) fun _ _ _ _ _ _ us hl => match us, hl with | [_, _], _ => rfl
  have b26 := F26.binds (ps := ["_law_table", "_law_state_here", "_law_edits"]) fun _ _ _ _ _ _ us hl => match us, hl with | [_, _, _], _ => rfl
  have b27 := F27.binds (ps := ["_law_panel_here", "_law_start", "_law_goal"]) fun _ _ _ _ _ _ us hl => match us, hl with | [_, _, _], _ => rfl
  have b28 := F28.binds (ps := ["_law_table", "_law_past"]) fun _ _ _ _ _ _ us hl => match us, hl with | [_, _], _ => rfl
  have b29 := F29.binds (ps := ["_law_table", "_law_past", "_law_goal"]) fun _ _ _ _ _ _ us hl => match us, hl with | [_, _, _], _ => rfl
  have b30 := F30.binds (ps := ["_law_state_here", "_law_goal"]) fun _ _ _ _ _ _ us hl => match us, hl with | [_, _], _ => rfl
  have b31 := F31.binds (ps := ["_law_table", "_law_batch_here"]) fun _ _ _ _ _ _ us hl => match us, hl with | [_, _], _ => rfl
  have b32 := F32.binds (ps := ["_law_deck_here", "_law_state_here"]) fun _ _ _ _ _ _ us hl => match us, hl with | [_, _], _ => rfl
  have b33 := F33.binds (ps := ["_law_deck_here"]) fun _ _ _ _ _ _ us hl => match us, hl with | [_], _ => rfl
  have b34 := F34.binds (ps := ["_law_deck_here", "_law_state_here"]) fun _ _ _ _ _ _ us hl => match us, hl with | [_, _], _ => rfl
  have FShow := fun_mk (st := sShow) lShow cShow kShow
  have bShow := FShow.binds (ps := ["self", "panel", "latched"]) fun _ _ _ _ _ _ us hl => match us, hl with | [_, _, _], _ => rfl
  have hShow : Meth K C "show" fShow := ⟨wShow, vfShow, kShow⟩
  have FInitD := fun_mk (st := sInitD) lInitD cInitD kInitD
  have bInitD := FInitD.binds (ps := ["self", "panel", "state"]) fun _ _ _ _ _ _ us hl => match us, hl with | [_, _, _], _ => rfl
  have FState : FunD K "state" "Desk.state" (defArgs sState) (defBody sState) (defScope sState) [] [("version", .non)] fState _ := ⟨⟨ocState, odState, .none, .ref aKState, dcState, pmState, anState, cdState, ctState, slState, rfl, lState, cState, .inl ⟨rfl, rfl⟩, .inr ⟨aKState, rfl, fun q hq => by cases List.mem_singleton.mp hq; exact ⟨.none, eKState, rfl⟩⟩⟩, kState⟩
  obtain ⟨dsState, vState, bState⟩ := FState.binds0 (ps := ["self", "version"]) 1 (by simp) rfl fun D doc pm an cdv ct us ks hu hk => match us, hu, ks, hk with | [_], _, [_], _ => ⟨_, _, _, _, _, _, rfl, rfl, rfl⟩
  have kbState : KBn K _ ["self", "version"] 1 ["version"] (fun us ws => us ++ ws) (fun vs zs => vs ++ zs) := kb_one FState 1 "version" (by simp) fun D doc pm an cdv ct us v hu => match us, hu with | [_], _ => rfl
  have hState : Meth K C "state" fState := ⟨wState, vfState, kState⟩
  have FWayTo : FunD K "way_to" "Desk.way_to" (defArgs sWayTo) (defBody sWayTo) (defScope sWayTo) [] [("version", .non)] fWayTo _ := ⟨⟨ocWayTo, odWayTo, .none, .ref aKWayTo, dcWayTo, pmWayTo, anWayTo, cdWayTo, ctWayTo, slWayTo, rfl, lWayTo, cWayTo, .inl ⟨rfl, rfl⟩, .inr ⟨aKWayTo, rfl, fun q hq => by cases List.mem_singleton.mp hq; exact ⟨.none, eKWayTo, rfl⟩⟩⟩, kWayTo⟩
  obtain ⟨dsWayTo, vWayTo, bWayTo⟩ := FWayTo.binds0 (ps := ["self", "goal", "version"]) 2 (by simp) rfl fun D doc pm an cdv ct us ks hu hk => match us, hu, ks, hk with | [_, _], _, [_], _ => ⟨_, _, _, _, _, _, rfl, rfl, rfl⟩
  have kbWayTo : KBn K _ ["self", "goal", "version"] 2 ["version"] (fun us ws => us ++ ws) (fun vs zs => vs ++ zs) := kb_one FWayTo 2 "version" (by simp) fun D doc pm an cdv ct us v hu => match us, hu with | [_, _], _ => rfl
  have hWayTo : Meth K C "way_to" fWayTo := ⟨wWayTo, vfWayTo, kWayTo⟩
  have FFree := fun_mk (st := sFree) lFree cFree kFree
  have bFree := FFree.binds (ps := ["self"]) fun _ _ _ _ _ _ us hl => match us, hl with | [_], _ => rfl
  have hFree : Meth K C "check_free" fFree := ⟨wFree, vfFree, kFree⟩
  have FUndo := fun_mk (st := sUndo) lUndo cUndo kUndo
  have bUndo := FUndo.binds (ps := ["self"]) fun _ _ _ _ _ _ us hl => match us, hl with | [_], _ => rfl
  have hUndo : Meth K C "undo" fUndo := ⟨wUndo, vfUndo, kUndo⟩
  have FEdits := fun_mk (st := sEdits) lEdits cEdits kEdits
  have bEdits := FEdits.binds (ps := ["self"]) fun _ _ _ _ _ _ us hl => match us, hl with | [_], _ => rfl
  have hEdits : Meth K C "edits" fEdits := ⟨wEdits, vfEdits, kEdits⟩
  have FLenD := fun_mk (st := sLenD) lLenD cLenD kLenD
  have bLenD := FLenD.binds (ps := ["self"]) fun _ _ _ _ _ _ us hl => match us, hl with | [_], _ => rfl
  have FStrD := fun_mk (st := sStrD) lStrD cStrD kStrD
  have bStrD := FStrD.binds (ps := ["self"]) fun _ _ _ _ _ _ us hl => match us, hl with | [_], _ => rfl
  have FRoom := fun_mk (st := sRoom) lRoom cRoom kRoom
  have bRoom := FRoom.binds (ps := ["self"]) fun _ _ _ _ _ _ us hl => match us, hl with | [_], _ => rfl
  have hRoom : Meth K C "check_room" fRoom := ⟨wRoom, vfRoom, kRoom⟩
  have FAdd := fun_mk (st := sAdd) lAdd cAdd kAdd
  have bAdd := FAdd.binds (ps := ["self", "edit", "panel", "latched"]) fun _ _ _ _ _ _ us hl => match us, hl with | [_, _, _, _], _ => rfl
  have hAdd : Meth K C "add_edit" fAdd := ⟨wAdd, vfAdd, kAdd⟩
  have FPressX := fun_mk (st := sPressX) lPressX cPressX kPressX
  have bPressX := FPressX.binds (ps := ["self", "button"]) fun _ _ _ _ _ _ us hl => match us, hl with | [_, _], _ => rfl
  have hPressX : Meth K C "press" fPressX := ⟨wPressX, vfPressX, kPressX⟩
  have FLink0X := fun_mk (st := sLink0X) lLink0X cLink0X kLink0X
  have bLink0X := FLink0X.binds (ps := ["self", "one", "other"]) fun _ _ _ _ _ _ us hl => match us, hl with | [_, _, _], _ => rfl
  have hLink0X : Meth K C "check_link" fLink0X := ⟨wLink0X, vfLink0X, kLink0X⟩
  have FChgX := fun_mk (st := sChgX) lChgX cChgX kChgX
  have bChgX := FChgX.binds (ps := ["self", "edit", "panel"]) fun _ _ _ _ _ _ us hl => match us, hl with | [_, _, _], _ => rfl
  have hChgX : Meth K C "change_panel" fChgX := ⟨wChgX, vfChgX, kChgX⟩
  have FLinkX := fun_mk (st := sLinkX) lLinkX cLinkX kLinkX
  have bLinkX := FLinkX.binds (ps := ["self", "one", "other"]) fun _ _ _ _ _ _ us hl => match us, hl with | [_, _, _], _ => rfl
  have hLinkX : Meth K C "link" fLinkX := ⟨wLinkX, vfLinkX, kLinkX⟩
  have FUnlinkX := fun_mk (st := sUnlinkX) lUnlinkX cUnlinkX kUnlinkX
  have bUnlinkX := FUnlinkX.binds (ps := ["self", "one", "other"]) fun _ _ _ _ _ _ us hl => match us, hl with | [_, _, _], _ => rfl
  have hUnlinkX : Meth K C "unlink" fUnlinkX := ⟨wUnlinkX, vfUnlinkX, kUnlinkX⟩
  have FDoEditX := fun_mk (st := sDoEditX) lDoEditX cDoEditX kDoEditX
  have bDoEditX := FDoEditX.binds (ps := ["self", "index", "edit"]) fun _ _ _ _ _ _ us hl => match us, hl with | [_, _, _], _ => rfl
  have hDoEditX : Meth K C "do_edit" fDoEditX := ⟨wDoEditX, vfDoEditX, kDoEditX⟩
  have FDoBatchX := fun_mk (st := sDoBatchX) lDoBatchX cDoBatchX kDoBatchX
  have bDoBatchX := FDoBatchX.binds (ps := ["self", "batch", "watch"]) fun _ _ _ _ _ _ us hl => match us, hl with | [_, _, _], _ => rfl
  have hDoBatchX : Meth K C "do_batch" fDoBatchX := ⟨wDoBatchX, vfDoBatchX, kDoBatchX⟩
  have FAttempt : FunD K "attempt" "Desk.attempt" (defArgs sAttempt) (defBody sAttempt) (defScope sAttempt) [] [("watch", .non)] fAttempt _ := ⟨⟨ocAttempt, odAttempt, .none, .ref aKAttempt, dcAttempt, pmAttempt, anAttempt, cdAttempt, ctAttempt, slAttempt, rfl, lAttempt, cAttempt, .inl ⟨rfl, rfl⟩, .inr ⟨aKAttempt, rfl, fun q hq => by cases List.mem_singleton.mp hq; exact ⟨.none, eKAttempt, rfl⟩⟩⟩, kAttempt⟩
  obtain ⟨dsAttempt, vAttempt, bAttempt⟩ := FAttempt.binds0 (ps := ["self", "edits", "watch"]) 2 (by simp) rfl fun D doc pm an cdv ct us ks hu hk => match us, hu, ks, hk with | [_, _], _, [_], _ => ⟨_, _, _, _, _, _, rfl, rfl, rfl⟩
  have kbAttempt : KBn K _ ["self", "edits", "watch"] 2 ["watch"] (fun us ws => us ++ ws) (fun vs zs => vs ++ zs) := kb_one FAttempt 2 "watch" (by simp) fun D doc pm an cdv ct us v hu => match us, hu with | [_, _], _ => rfl
  have hAttempt : Meth K C "attempt" fAttempt := ⟨wAttempt, vfAttempt, kAttempt⟩
  have T : TxtD K mg C := ⟨⟨pgD, hdD, poD, saD⟩, nAD, nWD, nPD, nLD, nHD, ⟨_, cM, ⟨tkD, rfl⟩, cG, cC⟩, PySem.W.mg_of X G uD⟩
  have FWl := F1
  have bWl := b1
  have gWl := PySem.W.mg_of X G a1
  have FLi := F2
  have bLi := b2
  have gLi := PySem.W.mg_of X G a2
  have FUn := F3
  have bUn := b3
  have gUn := PySem.W.mg_of X G a3
  have FBtn := F4
  have bBtn := b4
  have gBtn := PySem.W.mg_of X G a4
  have FBtnT := F5
  have bBtnT := b5
  have gBtnT := PySem.W.mg_of X G a5
  have FPErr := F6
  have bPErr := b6
  have gPErr := PySem.W.mg_of X G a6
  have FPress := F7
  have bPress := b7
  have gPress := PySem.W.mg_of X G a7
  have FAny := F8
  have bAny := b8
  have gAny := PySem.W.mg_of X G a8
  have FHeld := F9
  have bHeld := b9
  have gHeld := PySem.W.mg_of X G a9
  have FChkP := F10
  have bChkP := b10
  have gChkP := PySem.W.mg_of X G a10
  have FChkS := F11
  have bChkS := b11
  have gChkS := PySem.W.mg_of X G a11
  have FChkB := F12
  have bChkB := b12
  have gChkB := PySem.W.mg_of X G a12
  have FIsV := F13
  have bIsV := b13
  have gIsV := PySem.W.mg_of X G a13
  have FRows := F14
  have bRows := b14
  have gRows := PySem.W.mg_of X G a14
  have FWay := F15
  have bWay := b15
  have gWay := PySem.W.mg_of X G a15
  have FIsE := F16
  have bIsE := b16
  have gIsE := PySem.W.mg_of X G a16
  have FCopy := F17
  have bCopy := b17
  have gCopy := PySem.W.mg_of X G a17
  have FDeck := F18
  have bDeck := b18
  have gDeck := PySem.W.mg_of X G a18
  have FDraw := F19
  have bDraw := b19
  have gDraw := PySem.W.mg_of X G a19
  have FPanel := F20
  have bPanel := b20
  have gPanel := PySem.W.mg_of X G a20
  have FState0 := F21
  have bState0 := b21
  have gState0 := PySem.W.mg_of X G a21
  have FPressed := F22
  have bPressed := b22
  have gPressed := PySem.W.mg_of X G a22
  have FChanged := F23
  have bChanged := b23
  have gChanged := PySem.W.mg_of X G a23
  have FAfter := F24
  have bAfter := b24
  have gAfter := PySem.W.mg_of X G a24
  have FEdit := F25
  have bEdit := b25
  have gEdit := PySem.W.mg_of X G a25
  have FRight := F26
  have bRight := b26
  have gRight := PySem.W.mg_of X G a26
  have FLWay := F27
  have bLWay := b27
  have gLWay := PySem.W.mg_of X G a27
  have FNoV := F28
  have bNoV := b28
  have gNoV := PySem.W.mg_of X G a28
  have FShown := F29
  have bShown := b29
  have gShown := PySem.W.mg_of X G a29
  have FDue := F30
  have bDue := b30
  have gDue := PySem.W.mg_of X G a30
  have FAttd := F31
  have bAttd := b31
  have gAttd := PySem.W.mg_of X G a31
  have FFail := F32
  have bFail := b32
  have gFail := PySem.W.mg_of X G a32
  have FBad := F33
  have bBad := b33
  have gBad := PySem.W.mg_of X G a33
  have FBatch := F34
  have bBatch := b34
  have gBatch := PySem.W.mg_of X G a34
  have m_ValueError := PySem.W.mg_none_of X G z1
  have m_abs := PySem.W.mg_none_of X G z2
  have m_any := PySem.W.mg_none_of X G z3
  have m_bool := PySem.W.mg_none_of X G z4
  have m_enumerate := PySem.W.mg_none_of X G z5
  have m_int := PySem.W.mg_none_of X G z6
  have m_isinstance := PySem.W.mg_none_of X G z7
  have m_len := PySem.W.mg_none_of X G z8
  have m_list := PySem.W.mg_none_of X G z9
  have m_min := PySem.W.mg_none_of X G z10
  have m_range := PySem.W.mg_none_of X G z11
  have m_repr := PySem.W.mg_none_of X G z12
  have m_sorted := PySem.W.mg_none_of X G z13
  have m_str := PySem.W.mg_none_of X G z14
  have m_tuple := PySem.W.mg_none_of X G z15
  have y_MAX := PySem.W.mg_of X G y_MAX_BUTTONS
  have y_BATCH := PySem.W.mg_of X G y_BATCH
  have FIV := fun_mk (st := sInitV) lIV cIV kIV
  have bIV := FIV.binds (ps := ["self", "value"]) fun _ _ _ _ _ _ us hl => match us, hl with | [_, _], _ => rfl
  have TV : ExL K mg "NoVersion" "value" "NoVersion.__init__" sInitV CV fIV _ := { oex := ⟨⟨nmV, qqV, NnV, bsV, snV, subV, abV, colV, ddV, q0V, q1V, q2V, q3V, q5V, xLV⟩, saV, exCV, tyCV, kCV⟩, iC := iCV, tI := tIV, noN := noNV, g := PySem.W.mg_of X G uCV, FI := FIV, bI := bIV }
  have YV : TryV K mg CV := ⟨⟨hgV, hkV, exCV, hdV⟩, PySem.W.mg_of X G uCV, PySem.W.exm_ref exCV hdV tyCV sPV, noNV⟩
  have FIN := fun_mk (st := sInitN) lIN cIN kIN
  have bIN := FIN.binds (ps := ["self", "value"]) fun _ _ _ _ _ _ us hl => match us, hl with | [_, _], _ => rfl
  have TN : ExL K mg "NoButton" "value" "NoButton.__init__" sInitN CN fIN _ := { oex := ⟨⟨nmN, qqN, NnN, bsN, snN, subN, abN, colN, ddN, q0N, q1N, q2N, q3N, q5N, xLN⟩, saN, exCN, tyCN, kCN⟩, iC := iCN, tI := tIN, noN := noNN, g := PySem.W.mg_of X G uCN, FI := FIN, bI := bIN }
  have FIS := fun_mk (st := sInitS) lIS cIS kIS
  have bIS := FIS.binds (ps := ["self", "value"]) fun _ _ _ _ _ _ us hl => match us, hl with | [_, _], _ => rfl
  have TS : ExF K mg "SameButton" "value" "SameButton.__init__" sInitS CS fIS _ := { oex := ⟨⟨nmS, qqS, NnS, bsS, _, snS, subS, abS, colS, ddS, q0S, q1S, q2S, q3S, q5S, xLS, by first | rfl | decide +kernel⟩, saS, exCS, tyCS, kCS⟩, iC := iCS, tI := tIS, noN := noNS, g := PySem.W.mg_of X G uCS, FI := FIS, bI := bIS }
  have FIR := fun_mk (st := sInitR) lIR cIR kIR
  have bIR := FIR.binds (ps := ["self", "index"]) fun _ _ _ _ _ _ us hl => match us, hl with | [_, _], _ => rfl
  have TR : ExF K mg "Rejected" "index" "Rejected.__init__" sInitR CR fIR _ := { oex := ⟨⟨nmR, qqR, NnR, bsR, _, snR, subR, abR, colR, ddR, q0R, q1R, q2R, q3R, q5R, xLR, by first | rfl | decide +kernel⟩, saR, exCR, tyCR, kCR⟩, iC := iCR, tI := tIR, noN := noNR, g := PySem.W.mg_of X G uCR, FI := FIR, bI := bIR }
  have FIE := fun_mk (st := sInitE) lIE cIE kIE
  have bIE := FIE.binds (ps := ["self", "index"]) fun _ _ _ _ _ _ us hl => match us, hl with | [_, _], _ => rfl
  have TE : ExF K mg "BadEdit" "index" "BadEdit.__init__" sInitE CBe fIE _ := { oex := ⟨⟨nmE, qqE, NnE, bsE, _, snE, subE, abE, colE, ddE, q0E, q1E, q2E, q3E, q5E, xLE, by first | rfl | decide +kernel⟩, saE, exCE, tyCE, kCE⟩, iC := iCE, tI := tIE, noN := noNE, g := PySem.W.mg_of X G uCE, FI := FIE, bI := bIE }
  have T_NoChange : Ex0 K mg "NoChange" CC := ⟨q_NoChange, PySem.W.mg_of X G u_NoChange, kp_NoChange, s_NoChange, t_NoChange⟩
  have T_BadEdits : Ex0 K mg "BadEdits" CBs := ⟨q_BadEdits, PySem.W.mg_of X G u_BadEdits, kp_BadEdits, s_BadEdits, t_BadEdits⟩
  have T_NothingToUndo : Ex0 K mg "NothingToUndo" CU := ⟨q_NothingToUndo, PySem.W.mg_of X G u_NothingToUndo, kp_NothingToUndo, s_NothingToUndo, t_NothingToUndo⟩
  have YA : TryA K mg CP CR CBe CBs C2 CU := { gP := PySem.W.mg_of X G u_PanelError, gR := PySem.W.mg_of X G uCR, gE := PySem.W.mg_of X G uCE, gS := PySem.W.mg_of X G u_BadEdits, g2 := PySem.W.mg_of X G u_Busy, gU := PySem.W.mg_of X G u_NothingToUndo, excR := ⟨hgR, hkR, exCR, hdR, haR, hnR, htR, hmR⟩, mR := PySem.W.exm_ref xP dP tP sP_Rejected, kVR := yVR, kTR := yTR, excE := ⟨hgE, hkE, exCE, hdE, haE, hnE, htE, hmE⟩, mE := PySem.W.exm_ref xP dP tP sP_BadEdit, kVE := yVE, kTE := yTE, excS := ⟨hg_BadEdits, hk_BadEdits, s_BadEdits, hd_BadEdits, ha_BadEdits, hn_BadEdits, ht_BadEdits, hm_BadEdits⟩, mS := PySem.W.exm_ref xP dP tP sP_BadEdits, kVS := yVS, kTS := yTS, kRE := yRE, kRS := yRS, kER := yER, kES := yES, kSR := ySR, kSE := ySE, xfR := ⟨hgR, hkR, exCR, hdR⟩, noR := noNR, xfE := ⟨hgE, hkE, exCE, hdE⟩, noE := noNE }
  have VA : KVal K w mg dV := ⟨PySem.W.mg_of X G uVA, He.dicW_ok kVA, ⟨_, v1A⟩, ⟨_, v2A⟩, ⟨_, v3A⟩⟩
  have W : WNo K dV := ⟨w0A, w1A, w2A, w3A⟩
  have TBE := TE
  have gT := PySem.W.mg_of X G u_TooManyEdits
  exact ⟨_, fun s v => .of_eq rfl, fun base _ _ => ok_law F35 F1 b1 (PySem.W.mg_of X G a1) F2 b2 (PySem.W.mg_of X G a2) F3 b3 (PySem.W.mg_of X G a3) F4 b4 (PySem.W.mg_of X G a4) F5 b5 (PySem.W.mg_of X G a5) F6 b6 (PySem.W.mg_of X G a6) F7 b7 (PySem.W.mg_of X G a7) F8 b8 (PySem.W.mg_of X G a8) F9 b9 (PySem.W.mg_of X G a9) F10 b10 (PySem.W.mg_of X G a10) F11 b11 (PySem.W.mg_of X G a11) F12 b12 (PySem.W.mg_of X G a12) F13 b13 (PySem.W.mg_of X G a13) F14 b14 (PySem.W.mg_of X G a14) F15 b15 (PySem.W.mg_of X G a15) F16 b16 (PySem.W.mg_of X G a16) F17 b17 (PySem.W.mg_of X G a17) F18 b18 (PySem.W.mg_of X G a18) F19 b19 (PySem.W.mg_of X G a19) F20 b20 (PySem.W.mg_of X G a20) F21 b21 (PySem.W.mg_of X G a21) F22 b22 (PySem.W.mg_of X G a22) F23 b23 (PySem.W.mg_of X G a23) F24 b24 (PySem.W.mg_of X G a24) F25 b25 (PySem.W.mg_of X G a25) F26 b26 (PySem.W.mg_of X G a26) F27 b27 (PySem.W.mg_of X G a27) F28 b28 (PySem.W.mg_of X G a28) F29 b29 (PySem.W.mg_of X G a29) F30 b30 (PySem.W.mg_of X G a30) F31 b31 (PySem.W.mg_of X G a31) F32 b32 (PySem.W.mg_of X G a32) F33 b33 (PySem.W.mg_of X G a33) F34 b34 (PySem.W.mg_of X G a34) (PySem.W.mg_none_of X G z1) (PySem.W.mg_none_of X G z2) (PySem.W.mg_none_of X G z3) (PySem.W.mg_none_of X G z4) (PySem.W.mg_none_of X G z5) (PySem.W.mg_none_of X G z6) (PySem.W.mg_none_of X G z7) (PySem.W.mg_none_of X G z8) (PySem.W.mg_none_of X G z9) (PySem.W.mg_none_of X G z10) (PySem.W.mg_none_of X G z11) (PySem.W.mg_none_of X G z12) (PySem.W.mg_none_of X G z13) (PySem.W.mg_none_of X G z14) (PySem.W.mg_none_of X G z15) T ⟨fInitD, _, bInitD, ⟨mkD, wInitD, vfInitD, kcD⟩, ok_InitD FInitD T FBtn bBtn gBtn FBtnT bBtnT gBtnT FPErr bPErr gPErr FAny bAny gAny FHeld bHeld gHeld FChkP bChkP gChkP FChkS bChkS gChkS FShow bShow hShow m_any m_bool m_enumerate m_int m_isinstance m_len m_tuple y_MAX, fState, _, dsState, vState, kbState, bState, hState, ok_State FState T TV FBtn bBtn gBtn FIsV bIsV gIsV m_bool m_int m_isinstance m_len, fWayTo, _, dsWayTo, vWayTo, kbWayTo, bWayTo, hWayTo, ok_WayTo FWayTo T FBtn bBtn gBtn FBtnT bBtnT gBtnT FPress bPress gPress FChkS bChkS gChkS FRows bRows gRows FWay bWay gWay kbState hState (ok_State FState T TV FBtn bBtn gBtn FIsV bIsV gIsV m_bool m_int m_isinstance m_len) m_bool m_int m_isinstance m_len m_range m_sorted m_tuple, fUndo, _, bUndo, hUndo, ok_Undo FUndo T T_NothingToUndo FAny bAny gAny FHeld bHeld gHeld FFree bFree hFree FShow bShow hShow m_any m_len m_tuple, fEdits, _, bEdits, hEdits, ok_Edits FEdits T   m_tuple, fLenD, _, bLenD, wLenD, vfLenD, ok_LenD FLenD T   m_len, fStrD, _, bStrD, wStrD, vfStrD, ok_StrD FStrD T   m_len, fAttempt, _, dsAttempt, vAttempt, bAttempt, kbAttempt, hAttempt, ok_AttemptX FAttempt T TN TS T_NoChange TR gT xN xS xC T_BadEdits TBE FWl bWl gWl FLi bLi gLi FUn bUn gUn FBtn bBtn gBtn FPress bPress gPress FAny bAny gAny FHeld bHeld gHeld FChkB bChkB gChkB FIsE bIsE gIsE FCopy bCopy gCopy FFree bFree hFree FRoom bRoom hRoom FShow bShow hShow FAdd bAdd hAdd FPressX bPressX hPressX FLink0X bLink0X hLink0X FChgX bChgX hChgX FLinkX bLinkX hLinkX FUnlinkX bUnlinkX hUnlinkX FDoEditX bDoEditX hDoEditX FDoBatchX bDoBatchX hDoBatchX m_any m_bool m_enumerate m_int m_isinstance m_len m_list m_sorted m_str m_tuple VA y_BATCH, YV, YA⟩ W⟩
end K48
open PySem PySem.W PyProof.Rows
theorem PySem.Challenge.cw_pressrelease_k48_batches_attempted_holds : PySem.Challenge.rw_pressrelease_k48_batches_attempted.Holds := by
  w_on; o_law; k_head; (case hw => w_witness2)
  k_fill
  refine Pr.walkG (l := PySem.Challenge.rw_pressrelease_k48_batches_attempted) (n := 63) (k := 20) (x := "_law_script") (sp := K48.spLaw) rfl (by decide) rfl ⟨rfl, by decide, by decide⟩ (fun w h Y => PySem.W.kIn_of Y) ?F (fun _ _ a ns hl _ _ hS => ⟨a, ns, rfl, hS, hl, fun _ => rfl⟩)
  case F =>
    intro w mg fa h KX G hmg
    refine' K48.all_mk KX G hmg ?a1 ?l1 ?c1 ?k1 ?a2 ?l2 ?c2 ?k2 ?a3 ?l3 ?c3 ?k3 ?a4 ?l4 ?c4 ?k4 ?a5 ?l5 ?c5 ?k5 ?a6 ?l6 ?c6 ?k6 ?a7 ?l7 ?c7 ?k7 ?a8 ?l8 ?c8 ?k8 ?a9 ?l9 ?c9 ?k9 ?a10 ?l10 ?c10 ?k10 ?a11 ?l11 ?c11 ?k11 ?a12 ?l12 ?c12 ?k12 ?a13 ?l13 ?c13 ?k13 ?a14 ?l14 ?c14 ?k14 ?a15 ?l15 ?c15 ?k15 ?a16 ?l16 ?c16 ?k16 ?a17 ?l17 ?c17 ?k17 ?a18 ?l18 ?c18 ?k18 ?a19 ?l19 ?c19 ?k19 ?a20 ?l20 ?c20 ?k20 ?a21 ?l21 ?c21 ?k21 ?a22 ?l22 ?c22 ?k22 ?a23 ?l23 ?c23 ?k23 ?a24 ?l24 ?c24 ?k24 ?a25 ?l25 ?c25 ?k25 ?a26 ?l26 ?c26 ?k26 ?a27 ?l27 ?c27 ?k27 ?a28 ?l28 ?c28 ?k28 ?a29 ?l29 ?c29 ?k29 ?a30 ?l30 ?c30 ?k30 ?a31 ?l31 ?c31 ?k31 ?a32 ?l32 ?c32 ?k32 ?a33 ?l33 ?c33 ?k33 ?a34 ?l34 ?c34 ?k34 ?a35 ?l35 ?c35 ?k35 ?y_MAX_BUTTONS ?y_BATCH ?uD ?pgD ?hdD ?poD ?saD ?mkD ?kcD ?nAD ?nWD ?nPD ?nLD ?nHD ?cM ?cG ?cC ?wShow ?vfShow ?lShow ?cShow ?kShow ?wInitD ?vfInitD ?lInitD ?cInitD ?kInitD ?wState ?vfState ?lState ?cState ?kState ?eKState ?wWayTo ?vfWayTo ?lWayTo ?cWayTo ?kWayTo ?eKWayTo ?wFree ?vfFree ?lFree ?cFree ?kFree ?wUndo ?vfUndo ?lUndo ?cUndo ?kUndo ?wEdits ?vfEdits ?lEdits ?cEdits ?kEdits ?wLenD ?vfLenD ?lLenD ?cLenD ?kLenD ?wStrD ?vfStrD ?lStrD ?cStrD ?kStrD ?wRoom ?vfRoom ?lRoom ?cRoom ?kRoom ?wAdd ?vfAdd ?lAdd ?cAdd ?kAdd ?wPressX ?vfPressX ?lPressX ?cPressX ?kPressX ?wLink0X ?vfLink0X ?lLink0X ?cLink0X ?kLink0X ?wChgX ?vfChgX ?lChgX ?cChgX ?kChgX ?wLinkX ?vfLinkX ?lLinkX ?cLinkX ?kLinkX ?wUnlinkX ?vfUnlinkX ?lUnlinkX ?cUnlinkX ?kUnlinkX ?wDoEditX ?vfDoEditX ?lDoEditX ?cDoEditX ?kDoEditX ?wDoBatchX ?vfDoBatchX ?lDoBatchX ?cDoBatchX ?kDoBatchX ?wAttempt ?vfAttempt ?lAttempt ?cAttempt ?kAttempt ?eKAttempt ?uCV ?xLV ?saV ?exCV ?tyCV ?kCV ?iCV ?tIV ?noNV ?lIV ?cIV ?kIV ?hgV ?hkV ?hdV ?sPV ?u_PanelError ?u_Busy ?u_TooManyEdits ?uCN ?xLN ?saN ?exCN ?tyCN ?kCN ?iCN ?tIN ?noNN ?lIN ?cIN ?kIN ?hgN ?hkN ?hdN ?sPN ?uCS ?xLS ?saS ?exCS ?tyCS ?kCS ?iCS ?tIS ?noNS ?lIS ?cIS ?kIS ?hgS ?hkS ?hdS ?sPS ?uCR ?xLR ?saR ?exCR ?tyCR ?kCR ?iCR ?tIR ?noNR ?lIR ?cIR ?kIR ?hgR ?hkR ?hdR ?sPR ?uCE ?xLE ?saE ?exCE ?tyCE ?kCE ?iCE ?tIE ?noNE ?lIE ?cIE ?kIE ?hgE ?hkE ?hdE ?sPE ?u_NoChange ?q_NoChange ?kp_NoChange ?s_NoChange ?t_NoChange ?u_BadEdits ?q_BadEdits ?kp_BadEdits ?s_BadEdits ?t_BadEdits ?u_NothingToUndo ?q_NothingToUndo ?kp_NothingToUndo ?s_NothingToUndo ?t_NothingToUndo ?haR ?hnR ?htR ?hmR ?haE ?hnE ?htE ?hmE ?hg_BadEdits ?hk_BadEdits ?hd_BadEdits ?ha_BadEdits ?hn_BadEdits ?ht_BadEdits ?hm_BadEdits ?xP ?dP ?tP ?sP_Rejected ?sP_BadEdit ?sP_BadEdits ?yVR ?yTR ?yVE ?yTE ?yVS ?yTS ?yRE ?yRS ?yER ?yES ?ySR ?ySE ?xN ?xS ?xC ?uVA ?kVA ?v1A ?v2A ?v3A ?w0A ?w1A ?w2A ?w3A ?z1 ?z2 ?z3 ?z4 ?z5 ?z6 ?z7 ?z8 ?z9 ?z10 ?z11 ?z12 ?z13 ?z14 ?z15
    (case a1 => k_is); (case l1 => k_is); (case c1 => k_is); (case k1 => k_is); (case a2 => k_is); (case l2 => k_is); (case c2 => k_is); (case k2 => k_is); (case a3 => k_is); (case l3 => k_is); (case c3 => k_is); (case k3 => k_is)
    (case a4 => k_is); (case l4 => k_is); (case c4 => k_is); (case k4 => k_is); (case a5 => k_is); (case l5 => k_is); (case c5 => k_is); (case k5 => k_is); (case a6 => k_is); (case l6 => k_is); (case c6 => k_is); (case k6 => k_is)
    (case a7 => k_is); (case l7 => k_is); (case c7 => k_is); (case k7 => k_is); (case a8 => k_is); (case l8 => k_is); (case c8 => k_is); (case k8 => k_is); (case a9 => k_is); (case l9 => k_is); (case c9 => k_is); (case k9 => k_is)
    (case a10 => k_is); (case l10 => k_is); (case c10 => k_is); (case k10 => k_is); (case a11 => k_is); (case l11 => k_is); (case c11 => k_is); (case k11 => k_is); (case a12 => k_is); (case l12 => k_is); (case c12 => k_is); (case k12 => k_is)
    (case a13 => k_is); (case l13 => k_is); (case c13 => k_is); (case k13 => k_is); (case a14 => k_is); (case l14 => k_is); (case c14 => k_is); (case k14 => k_is); (case a15 => k_is); (case l15 => k_is); (case c15 => k_is); (case k15 => k_is)
    (case a16 => k_is); (case l16 => k_is); (case c16 => k_is); (case k16 => k_is); (case a17 => k_is); (case l17 => k_is); (case c17 => k_is); (case k17 => k_is); (case a18 => k_is); (case l18 => k_is); (case c18 => k_is); (case k18 => k_is)
    (case a19 => k_is); (case l19 => k_is); (case c19 => k_is); (case k19 => k_is); (case a20 => k_is); (case l20 => k_is); (case c20 => k_is); (case k20 => k_is); (case a21 => k_is); (case l21 => k_is); (case c21 => k_is); (case k21 => k_is)
    (case a22 => k_is); (case l22 => k_is); (case c22 => k_is); (case k22 => k_is); (case a23 => k_is); (case l23 => k_is); (case c23 => k_is); (case k23 => k_is); (case a24 => k_is); (case l24 => k_is); (case c24 => k_is); (case k24 => k_is)
    (case a25 => k_is); (case l25 => k_is); (case c25 => k_is); (case k25 => k_is); (case a26 => k_is); (case l26 => k_is); (case c26 => k_is); (case k26 => k_is); (case a27 => k_is); (case l27 => k_is); (case c27 => k_is); (case k27 => k_is)
    (case a28 => k_is); (case l28 => k_is); (case c28 => k_is); (case k28 => k_is); (case a29 => k_is); (case l29 => k_is); (case c29 => k_is); (case k29 => k_is); (case a30 => k_is); (case l30 => k_is); (case c30 => k_is); (case k30 => k_is)
    (case a31 => k_is); (case l31 => k_is); (case c31 => k_is); (case k31 => k_is); (case a32 => k_is); (case l32 => k_is); (case c32 => k_is); (case k32 => k_is); (case a33 => k_is); (case l33 => k_is); (case c33 => k_is); (case k33 => k_is)
    (case a34 => k_is); (case l34 => k_is); (case c34 => k_is); (case k34 => k_is); (case a35 => k_is); (case l35 => k_is); (case c35 => k_is); (case k35 => k_is); (case y_MAX_BUTTONS => k_is); (case y_BATCH => k_is); (case uD => first | k_is | k_exc | rfl | decide +kernel); (case pgD => first | k_is | k_exc | rfl | decide +kernel)
    (case hdD => first | k_is | k_exc | rfl | decide +kernel); (case poD => first | k_is | k_exc | rfl | decide +kernel); (case saD => first | k_is | k_exc | rfl | decide +kernel); (case mkD => first | k_is | k_exc | rfl | decide +kernel); (case kcD => first | k_is | k_exc | rfl | decide +kernel); (case nAD => first | k_is | k_exc | rfl | decide +kernel); (case nWD => first | k_is | k_exc | rfl | decide +kernel); (case nPD => first | k_is | k_exc | rfl | decide +kernel); (case nLD => first | k_is | k_exc | rfl | decide +kernel); (case nHD => first | k_is | k_exc | rfl | decide +kernel); (case cM => first | k_is | k_exc | rfl | decide +kernel); (case cG => first | k_is | k_exc | rfl | decide +kernel)
    (case cC => first | k_is | k_exc | rfl | decide +kernel); (case wShow => first | k_is | k_exc | rfl | decide +kernel); (case vfShow => first | k_is | k_exc | rfl | decide +kernel); (case lShow => first | k_is | k_exc | rfl | decide +kernel); (case cShow => first | k_is | k_exc | rfl | decide +kernel); (case kShow => first | k_is | k_exc | rfl | decide +kernel); (case wInitD => first | k_is | k_exc | rfl | decide +kernel); (case vfInitD => first | k_is | k_exc | rfl | decide +kernel); (case lInitD => first | k_is | k_exc | rfl | decide +kernel); (case cInitD => first | k_is | k_exc | rfl | decide +kernel); (case kInitD => first | k_is | k_exc | rfl | decide +kernel); (case wState => first | k_is | k_exc | rfl | decide +kernel)
    (case vfState => first | k_is | k_exc | rfl | decide +kernel); (case lState => first | k_is | k_exc | rfl | decide +kernel); (case cState => first | k_is | k_exc | rfl | decide +kernel); (case kState => first | k_is | k_exc | rfl | decide +kernel); (case eKState => first | k_is | k_exc | rfl | decide +kernel); (case wWayTo => first | k_is | k_exc | rfl | decide +kernel); (case vfWayTo => first | k_is | k_exc | rfl | decide +kernel); (case lWayTo => first | k_is | k_exc | rfl | decide +kernel); (case cWayTo => first | k_is | k_exc | rfl | decide +kernel); (case kWayTo => first | k_is | k_exc | rfl | decide +kernel); (case eKWayTo => first | k_is | k_exc | rfl | decide +kernel); (case wFree => first | k_is | k_exc | rfl | decide +kernel)
    (case vfFree => first | k_is | k_exc | rfl | decide +kernel); (case lFree => first | k_is | k_exc | rfl | decide +kernel); (case cFree => first | k_is | k_exc | rfl | decide +kernel); (case kFree => first | k_is | k_exc | rfl | decide +kernel); (case wUndo => first | k_is | k_exc | rfl | decide +kernel); (case vfUndo => first | k_is | k_exc | rfl | decide +kernel); (case lUndo => first | k_is | k_exc | rfl | decide +kernel); (case cUndo => first | k_is | k_exc | rfl | decide +kernel); (case kUndo => first | k_is | k_exc | rfl | decide +kernel); (case wEdits => first | k_is | k_exc | rfl | decide +kernel); (case vfEdits => first | k_is | k_exc | rfl | decide +kernel); (case lEdits => first | k_is | k_exc | rfl | decide +kernel)
    (case cEdits => first | k_is | k_exc | rfl | decide +kernel); (case kEdits => first | k_is | k_exc | rfl | decide +kernel); (case wLenD => first | k_is | k_exc | rfl | decide +kernel); (case vfLenD => first | k_is | k_exc | rfl | decide +kernel); (case lLenD => first | k_is | k_exc | rfl | decide +kernel); (case cLenD => first | k_is | k_exc | rfl | decide +kernel); (case kLenD => first | k_is | k_exc | rfl | decide +kernel); (case wStrD => first | k_is | k_exc | rfl | decide +kernel); (case vfStrD => first | k_is | k_exc | rfl | decide +kernel); (case lStrD => first | k_is | k_exc | rfl | decide +kernel); (case cStrD => first | k_is | k_exc | rfl | decide +kernel); (case kStrD => first | k_is | k_exc | rfl | decide +kernel)
    (case wRoom => first | k_is | k_exc | rfl | decide +kernel); (case vfRoom => first | k_is | k_exc | rfl | decide +kernel); (case lRoom => first | k_is | k_exc | rfl | decide +kernel); (case cRoom => first | k_is | k_exc | rfl | decide +kernel); (case kRoom => first | k_is | k_exc | rfl | decide +kernel); (case wAdd => first | k_is | k_exc | rfl | decide +kernel); (case vfAdd => first | k_is | k_exc | rfl | decide +kernel); (case lAdd => first | k_is | k_exc | rfl | decide +kernel); (case cAdd => first | k_is | k_exc | rfl | decide +kernel); (case kAdd => first | k_is | k_exc | rfl | decide +kernel); (case wPressX => first | k_is | k_exc | rfl | decide +kernel); (case vfPressX => first | k_is | k_exc | rfl | decide +kernel)
    (case lPressX => first | k_is | k_exc | rfl | decide +kernel); (case cPressX => first | k_is | k_exc | rfl | decide +kernel); (case kPressX => first | k_is | k_exc | rfl | decide +kernel); (case wLink0X => first | k_is | k_exc | rfl | decide +kernel); (case vfLink0X => first | k_is | k_exc | rfl | decide +kernel); (case lLink0X => first | k_is | k_exc | rfl | decide +kernel); (case cLink0X => first | k_is | k_exc | rfl | decide +kernel); (case kLink0X => first | k_is | k_exc | rfl | decide +kernel); (case wChgX => first | k_is | k_exc | rfl | decide +kernel); (case vfChgX => first | k_is | k_exc | rfl | decide +kernel); (case lChgX => first | k_is | k_exc | rfl | decide +kernel); (case cChgX => first | k_is | k_exc | rfl | decide +kernel)
    (case kChgX => first | k_is | k_exc | rfl | decide +kernel); (case wLinkX => first | k_is | k_exc | rfl | decide +kernel); (case vfLinkX => first | k_is | k_exc | rfl | decide +kernel); (case lLinkX => first | k_is | k_exc | rfl | decide +kernel); (case cLinkX => first | k_is | k_exc | rfl | decide +kernel); (case kLinkX => first | k_is | k_exc | rfl | decide +kernel); (case wUnlinkX => first | k_is | k_exc | rfl | decide +kernel); (case vfUnlinkX => first | k_is | k_exc | rfl | decide +kernel); (case lUnlinkX => first | k_is | k_exc | rfl | decide +kernel); (case cUnlinkX => first | k_is | k_exc | rfl | decide +kernel); (case kUnlinkX => first | k_is | k_exc | rfl | decide +kernel); (case wDoEditX => first | k_is | k_exc | rfl | decide +kernel)
    (case vfDoEditX => first | k_is | k_exc | rfl | decide +kernel); (case lDoEditX => first | k_is | k_exc | rfl | decide +kernel); (case cDoEditX => first | k_is | k_exc | rfl | decide +kernel); (case kDoEditX => first | k_is | k_exc | rfl | decide +kernel); (case wDoBatchX => first | k_is | k_exc | rfl | decide +kernel); (case vfDoBatchX => first | k_is | k_exc | rfl | decide +kernel); (case lDoBatchX => first | k_is | k_exc | rfl | decide +kernel); (case cDoBatchX => first | k_is | k_exc | rfl | decide +kernel); (case kDoBatchX => first | k_is | k_exc | rfl | decide +kernel); (case wAttempt => first | k_is | k_exc | rfl | decide +kernel); (case vfAttempt => first | k_is | k_exc | rfl | decide +kernel); (case lAttempt => first | k_is | k_exc | rfl | decide +kernel)
    (case cAttempt => first | k_is | k_exc | rfl | decide +kernel); (case kAttempt => first | k_is | k_exc | rfl | decide +kernel); (case eKAttempt => first | k_is | k_exc | rfl | decide +kernel); (case uCV => first | k_is | k_exc | rfl | decide +kernel); (case xLV => first | k_is | k_exc | rfl | decide +kernel); (case saV => first | k_is | k_exc | rfl | decide +kernel); (case exCV => first | k_is | k_exc | rfl | decide +kernel); (case tyCV => first | k_is | k_exc | rfl | decide +kernel); (case kCV => first | k_is | k_exc | rfl | decide +kernel); (case iCV => first | k_is | k_exc | rfl | decide +kernel); (case tIV => first | k_is | k_exc | rfl | decide +kernel); (case noNV => first | k_is | k_exc | rfl | decide +kernel)
    (case lIV => first | k_is | k_exc | rfl | decide +kernel); (case cIV => first | k_is | k_exc | rfl | decide +kernel); (case kIV => first | k_is | k_exc | rfl | decide +kernel); (case hgV => first | k_is | k_exc | rfl | decide +kernel); (case hkV => first | k_is | k_exc | rfl | decide +kernel); (case hdV => first | k_is | k_exc | rfl | decide +kernel); (case sPV => first | k_is | k_exc | rfl | decide +kernel); (case u_PanelError => first | k_is | k_exc | rfl | decide +kernel); (case u_Busy => first | k_is | k_exc | rfl | decide +kernel); (case u_TooManyEdits => first | k_is | k_exc | rfl | decide +kernel); (case uCN => first | k_is | k_exc | rfl | decide +kernel); (case xLN => first | k_is | k_exc | rfl | decide +kernel)
    (case saN => first | k_is | k_exc | rfl | decide +kernel); (case exCN => first | k_is | k_exc | rfl | decide +kernel); (case tyCN => first | k_is | k_exc | rfl | decide +kernel); (case kCN => first | k_is | k_exc | rfl | decide +kernel); (case iCN => first | k_is | k_exc | rfl | decide +kernel); (case tIN => first | k_is | k_exc | rfl | decide +kernel); (case noNN => first | k_is | k_exc | rfl | decide +kernel); (case lIN => first | k_is | k_exc | rfl | decide +kernel); (case cIN => first | k_is | k_exc | rfl | decide +kernel); (case kIN => first | k_is | k_exc | rfl | decide +kernel); (case hgN => first | k_is | k_exc | rfl | decide +kernel); (case hkN => first | k_is | k_exc | rfl | decide +kernel)
    (case hdN => first | k_is | k_exc | rfl | decide +kernel); (case sPN => first | k_is | k_exc | rfl | decide +kernel); (case uCS => first | k_is | k_exc | rfl | decide +kernel); (case xLS => first | k_is | k_exc | rfl | decide +kernel); (case saS => first | k_is | k_exc | rfl | decide +kernel); (case exCS => first | k_is | k_exc | rfl | decide +kernel); (case tyCS => first | k_is | k_exc | rfl | decide +kernel); (case kCS => first | k_is | k_exc | rfl | decide +kernel); (case iCS => first | k_is | k_exc | rfl | decide +kernel); (case tIS => first | k_is | k_exc | rfl | decide +kernel); (case noNS => first | k_is | k_exc | rfl | decide +kernel); (case lIS => first | k_is | k_exc | rfl | decide +kernel)
    (case cIS => first | k_is | k_exc | rfl | decide +kernel); (case kIS => first | k_is | k_exc | rfl | decide +kernel); (case hgS => first | k_is | k_exc | rfl | decide +kernel); (case hkS => first | k_is | k_exc | rfl | decide +kernel); (case hdS => first | k_is | k_exc | rfl | decide +kernel); (case sPS => first | k_is | k_exc | rfl | decide +kernel); (case uCR => first | k_is | k_exc | rfl | decide +kernel); (case xLR => first | k_is | k_exc | rfl | decide +kernel); (case saR => first | k_is | k_exc | rfl | decide +kernel); (case exCR => first | k_is | k_exc | rfl | decide +kernel); (case tyCR => first | k_is | k_exc | rfl | decide +kernel); (case kCR => first | k_is | k_exc | rfl | decide +kernel)
    (case iCR => first | k_is | k_exc | rfl | decide +kernel); (case tIR => first | k_is | k_exc | rfl | decide +kernel); (case noNR => first | k_is | k_exc | rfl | decide +kernel); (case lIR => first | k_is | k_exc | rfl | decide +kernel); (case cIR => first | k_is | k_exc | rfl | decide +kernel); (case kIR => first | k_is | k_exc | rfl | decide +kernel); (case hgR => first | k_is | k_exc | rfl | decide +kernel); (case hkR => first | k_is | k_exc | rfl | decide +kernel); (case hdR => first | k_is | k_exc | rfl | decide +kernel); (case sPR => first | k_is | k_exc | rfl | decide +kernel); (case uCE => first | k_is | k_exc | rfl | decide +kernel); (case xLE => first | k_is | k_exc | rfl | decide +kernel)
    (case saE => first | k_is | k_exc | rfl | decide +kernel); (case exCE => first | k_is | k_exc | rfl | decide +kernel); (case tyCE => first | k_is | k_exc | rfl | decide +kernel); (case kCE => first | k_is | k_exc | rfl | decide +kernel); (case iCE => first | k_is | k_exc | rfl | decide +kernel); (case tIE => first | k_is | k_exc | rfl | decide +kernel); (case noNE => first | k_is | k_exc | rfl | decide +kernel); (case lIE => first | k_is | k_exc | rfl | decide +kernel); (case cIE => first | k_is | k_exc | rfl | decide +kernel); (case kIE => first | k_is | k_exc | rfl | decide +kernel); (case hgE => first | k_is | k_exc | rfl | decide +kernel); (case hkE => first | k_is | k_exc | rfl | decide +kernel)
    (case hdE => first | k_is | k_exc | rfl | decide +kernel); (case sPE => first | k_is | k_exc | rfl | decide +kernel); (case u_NoChange => first | k_is | k_exc | rfl | decide +kernel); (case q_NoChange => first | k_is | k_exc | rfl | decide +kernel); (case kp_NoChange => first | k_is | k_exc | rfl | decide +kernel); (case s_NoChange => first | k_is | k_exc | rfl | decide +kernel); (case t_NoChange => first | k_is | k_exc | rfl | decide +kernel); (case u_BadEdits => first | k_is | k_exc | rfl | decide +kernel); (case q_BadEdits => first | k_is | k_exc | rfl | decide +kernel); (case kp_BadEdits => first | k_is | k_exc | rfl | decide +kernel); (case s_BadEdits => first | k_is | k_exc | rfl | decide +kernel); (case t_BadEdits => first | k_is | k_exc | rfl | decide +kernel)
    (case u_NothingToUndo => first | k_is | k_exc | rfl | decide +kernel); (case q_NothingToUndo => first | k_is | k_exc | rfl | decide +kernel); (case kp_NothingToUndo => first | k_is | k_exc | rfl | decide +kernel); (case s_NothingToUndo => first | k_is | k_exc | rfl | decide +kernel); (case t_NothingToUndo => first | k_is | k_exc | rfl | decide +kernel); (case haR => first | k_is | k_exc | rfl | decide +kernel); (case hnR => first | k_is | k_exc | rfl | decide +kernel); (case htR => first | k_is | k_exc | rfl | decide +kernel); (case hmR => first | k_is | k_exc | rfl | decide +kernel); (case haE => first | k_is | k_exc | rfl | decide +kernel); (case hnE => first | k_is | k_exc | rfl | decide +kernel); (case htE => first | k_is | k_exc | rfl | decide +kernel)
    (case hmE => first | k_is | k_exc | rfl | decide +kernel); (case hg_BadEdits => first | k_is | k_exc | rfl | decide +kernel); (case hk_BadEdits => first | k_is | k_exc | rfl | decide +kernel); (case hd_BadEdits => first | k_is | k_exc | rfl | decide +kernel); (case ha_BadEdits => first | k_is | k_exc | rfl | decide +kernel); (case hn_BadEdits => first | k_is | k_exc | rfl | decide +kernel); (case ht_BadEdits => first | k_is | k_exc | rfl | decide +kernel); (case hm_BadEdits => first | k_is | k_exc | rfl | decide +kernel); (case xP => first | k_is | k_exc | rfl | decide +kernel); (case dP => first | k_is | k_exc | rfl | decide +kernel); (case tP => first | k_is | k_exc | rfl | decide +kernel); (case sP_Rejected => first | k_is | k_exc | rfl | decide +kernel)
    (case sP_BadEdit => first | k_is | k_exc | rfl | decide +kernel); (case sP_BadEdits => first | k_is | k_exc | rfl | decide +kernel); (case yVR => first | k_is | k_exc | rfl | decide +kernel); (case yTR => first | k_is | k_exc | rfl | decide +kernel); (case yVE => first | k_is | k_exc | rfl | decide +kernel); (case yTE => first | k_is | k_exc | rfl | decide +kernel); (case yVS => first | k_is | k_exc | rfl | decide +kernel); (case yTS => first | k_is | k_exc | rfl | decide +kernel); (case yRE => first | k_is | k_exc | rfl | decide +kernel); (case yRS => first | k_is | k_exc | rfl | decide +kernel); (case yER => first | k_is | k_exc | rfl | decide +kernel); (case yES => first | k_is | k_exc | rfl | decide +kernel)
    (case ySR => first | k_is | k_exc | rfl | decide +kernel); (case ySE => first | k_is | k_exc | rfl | decide +kernel); (case xN => first | k_is | k_exc | rfl | decide +kernel); (case xS => first | k_is | k_exc | rfl | decide +kernel); (case xC => first | k_is | k_exc | rfl | decide +kernel); (case uVA => first | k_is | k_exc | rfl | decide +kernel); (case kVA => first | k_is | k_exc | rfl | decide +kernel); (case v1A => first | k_is | k_exc | rfl | decide +kernel); (case v2A => first | k_is | k_exc | rfl | decide +kernel); (case v3A => first | k_is | k_exc | rfl | decide +kernel); (case w0A => first | k_is | k_exc | rfl | decide +kernel); (case w1A => first | k_is | k_exc | rfl | decide +kernel)
    (case w2A => first | k_is | k_exc | rfl | decide +kernel); (case w3A => first | k_is | k_exc | rfl | decide +kernel); (case z1 => k_is); (case z2 => k_is); (case z3 => k_is); (case z4 => k_is); (case z5 => k_is); (case z6 => k_is); (case z7 => k_is); (case z8 => k_is); (case z9 => k_is); (case z10 => k_is)
    (case z11 => k_is); (case z12 => k_is); (case z13 => k_is); (case z14 => k_is); (case z15 => k_is)
