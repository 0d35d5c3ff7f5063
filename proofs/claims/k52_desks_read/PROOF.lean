import PyProof.Rows.All
import Wide.All
import OpenK.AllK
import Wide.FinOn
import HandS.ForMost
import HandS.TupMul
import HandS.TupAny
import HandS.SetFor
import HandS.Walk
import HandS.EndBits
import KE.GoesEnum
import PyProof.ReprRoads
import HandS.Zip
import HandS.NoneIn
import HandS.Strs
import PyProof.ListNew
import HandS.IsInst
import HandS.Conv
import PyProof.Rows.CountFlat
import HandS.More
import KE.DataMinMax
import HandS.Star
import HandS.SortRule
import HandS.NamedTupSort
import HandS.TupLe
import KE.KSortTup
import KE.SortData
import HandS.CallLocal
import KE.KDictDisplayH
import HandS.Style
import HandS.Dict
import KE.KExcIs
import HandS.Exc
import HandS.ExcIs
import HandS.ExcInit
import HandS.ExcField
import HandS.ExcOwn
import HandS.WordsExc
import HandS.RaiseMore
import HandS.DictComp
import HandS.FStr
import PyProof.StrLaws
import PyProof.StrLawsRepr
import HandS.Text
import PyProof.StrOps2
import KE.IntTextLaws
import PyProof.Rows.StrFirst
import KE.KCallOwn
import HandS.Call
import HandS.List
import HandS.Defaults
import HandS.MakeKwOnly
import HandS.CallSlots
import PyProof.InstStoreFacts
import PyProof.ExcBaseAll.LookupError
import HandS.Base
import HandS.Words
import HandS.Nested
import HandS.ClsMeth
import KE.KSuper
import HandS.HeadHook3
import PySem.Challenge.RW_pressrelease_k52_desks_read
set_option Elab.async false
set_option linter.all false
set_option maxRecDepth 100000
set_option maxHeartbeats 4000000
set_option genInjectivity false
set_option genSizeOfSpec false
namespace Pr
open PySem PySem.Spec PyProof.Rows L2
structure FnG (P : Program) (w : World) (K : PySem.W.Frag) (mg : Str → Option Value) (base : Heap) (k : Nat) (f : Addr) (fd : FuncData) (ps : List Str) (sp : Sp) : Prop where
  len : ∀ vs H Q E, sp vs H Q E → vs.length = ps.length
  go : ∀ (A : Around) (outer : List Env) (s : Shared) (H : Hp) (args : Args) (us : List Value) (vs : List V) (Q : VK) (E : XK), A.guards = some [] → Room k A →
    Env0 P w K mg base A outer s H → BindsTo s fd args (ps.zip us) → Vals vs us → sp vs H Q E →
    codeAny (model P w) A (.call (.ref f) args) (CR CX0 outer P w H s Q E) s
section
variable {P : Program} {w : World} {K : PySem.W.Frag} {mg : Str → Option Value} {base : Heap}
/-- a def by its body, where no repr is under way -/
theorem okG {x qual : Str} {st : Stmt} {f : Addr} {fd : FuncData} {N ps : List Str} {k : Nat} {sp : Sp} (F : Fun K x qual st f fd) (S : FnScope N ps (defScope st))
    (len : ∀ vs H Q E, sp vs H Q E → vs.length = ps.length)
    (body : ∀ (cdv : Value) (A : Around) (outer : List Env) (s : Shared) (H : Hp) (vs : List V) (Q : VK) (E : XK), A.guards = some [] →
      Room k (A.deeper (envOfC qual (defScope st) s.heap.objs.size f cdv)) → sp vs H Q E →
      ∃ t, PSs (cxOf CX0 P w K mg base N qual (defScope st) f cdv A outer s H E).nox (defBody st) t ∧ t { nx := fun _ H' => Q .non H', rt := Q } (start N vs) H) :
    FnG P w K mg base (k + 1) f fd ps sp := by
  obtain ⟨oc, od, kV, doc, pm, an, cdv, ct, osl, rfl, lk, hcd⟩ := F.ex
  refine ⟨len, fun A outer s H args us vs Q E hg hr e0 hb r hsp => ?_⟩
  have hin : K.In s.heap := e0.mod.kin.keeps fun b o e => (e0.bs b o e).1
  have hlm : s.heap.NoLimit := e0.mod.nolimit.keeps fun b o e => (e0.bs b o e).1
  refine codeAny_call_function hr.depth (hin _ _ lk) rfl S.co S.gen rfl (PySem.W.codeRec_of hin hcd) (hb _ _ _ _ ?_)
  refine wpAny_newFunctionEnv_cells S.kind (fun ⟨n, v⟩ hy => ?_) fun env he s1 x => ?_
  · rcases S.par n (List.of_mem_zip hy).1 with q | q
    · exact .inl q
    · exact .inr ⟨q, PySem.W.cellsFrom_some _ _ _ (.inl q)⟩
  · subst he
    refine ⟨hlm.keeps x.toInCall.keep, codeAny_func ?_⟩
    obtain ⟨t, ht, hq⟩ := body cdv A outer s H vs Q E hg (hr.deeper _) hsp
    have I := inv_start (CX := CX0) (E := E) S hr.hd e0 (len _ _ _ _ hsp) r x
    refine wpAny_mono (ht.nox.run [] s1 (start N vs) H _ I hq) (fun fl s' hs => ?_) fun e s' hs => hs
    cases fl with
    | ret u => obtain ⟨v, σ', H', J, rv, q⟩ := hs; exact ⟨v, H', J.os, J.bare, J.base, J.hok, rv, q⟩
    | next => obtain ⟨σ', H', J, q⟩ := hs; exact ⟨V.non, H', J.os, J.bare, J.base, J.hok, rfl, q⟩
    | brk => obtain ⟨_, _, _, q⟩ := hs; exact q.elim
    | cont => obtain ⟨_, _, _, q⟩ := hs; exact q.elim
end
section
variable {X : Cx} {k : Nat} {f : Addr} {fd : FuncData} {ps : List Str} {sp : Sp} {x : Str} {p pos : Pos} {e : Expr} {es : List Expr} {t : TA}
/-- f(e, ..) of such a def -/
theorem pe_callG (F : FnG X.prog X.w X.K X.mg X.base k f fd ps sp) (gd : X.A.guards = some []) (hr : Room k X.A) (hg : Gl X x) (hm : X.mg x = some (.ref f)) (hk : PySem.W.keepIn X.K (.ref f) = true) (hb : Binds X.K fd ps [])
    (ha : PA X (e :: es) t) (hdb : (x == ("__debug__" : Str)) = false := by decide) (he : starEach (e :: es) X.env = (false, eval e X.env) :: starEach es X.env := by rfl)
    (hpl : (backTo pos (starEach es X.env)).any (·.1) = false := by rfl) : PE X (.Call (.Name x p) (e :: es) [] pos) (tCall sp [] E0 t) := by
  refine ⟨fun pins s σ H Q I h => wpAny_Call_Name_kw (ld_glob I hg hm ?_ hdb)⟩
  refine PySem.W.callWith_K (h₀ := X.base) I.ok.mod.kin hk (thn (ha.run pos pins s σ H _ I h) fun us s1 ⟨vs, H1, I1, r, q⟩ => ⟨I1.kIn, ?_⟩) he hpl
  have q1 : sp vs H1 Q E0 := by
    have q0 : sp (vs ++ []) H1 Q E0 := q
    rwa [List.append_nil] at q0
  have hl : us.length = ps.length := by rw [← r.length]; exact F.len _ _ _ _ q1
  have hb1 : BindsTo s1 fd ⟨us, []⟩ (ps.zip us) := by
    have := hb s1 us I1.kIn (by rw [List.append_nil]; exact hl)
    rwa [List.append_nil] at this
  refine wpAny_call (codeAny_mono (F.go X.A X.stack s1 H1 ⟨us, []⟩ us vs Q E0 gd hr I1.env0 hb1 r q1) fun r' s' hq => ?_)
  cases r' with
  | error e' => exact hq.elim
  | ok fl =>
    cases fl with
    | ret u => exact I1.after hq
    | next => exact hq.elim
    | brk => exact hq.elim
    | cont => exact hq.elim
end
def rRepr (K : PySem.W.Frag) : List V → Hp → VK → Prop := fun xs H Q => ∃ (a : Addr) (d : PyData), xs = [.ref a] ∧ Dp K H (.ref a) d ∧ d.showable = true ∧ d.hasDict = false ∧ d.depth ≤ 60 ∧ d.shown.length ≤ sizeLine ∧ Q (.str d.shown) H
theorem call_repr {X : Cx} {k : Nat} (gd : X.A.guards = some []) (hr : Room k X.A) : CallR X (.builtin "repr") (rRepr X.K) := by
  intro pins s σ H xs us Q I rv h
  obtain ⟨a, d, rfl, hd, hs, hn, hdep, hz, q⟩ := h
  obtain ⟨u, rfl, rx⟩ := vals1 rv
  cases rx
  obtain ⟨as, r⟩ := Dp.reads I d _ _ hd rfl
  exact repr_of_reads' r hs (PyData.noDict_hsm hn) gd (by have := hr.un; omega) (fun _ _ e => e) (fun h' t tk hk => ⟨.str d.shown, H, I.kept hk, ⟨t, rfl⟩, q⟩) hz
theorem lawG {P : Program} {w : World} {K : PySem.W.Frag} {mg mb : Str → Option Value} {k : Nat} {fa a : Addr} {fd : FuncData} {x : Str} {sp : Sp} {s1 : Shared} {vs : List Value} {ns : List Int}
    (kin : K.In s1.heap) (nsg : s1.heap.Ns mainGlobals mg) (nsb : s1.heap.Ns builtinsNs mb) (bb : ∀ y : Str, y ≠ "__name__" → mb y = bootBuiltins y) (lim : s1.heap.NoLimit) (g0 : s1.gens = #[])
    (la : s1.heap.get? a = some { cls := .type "list", data := .seq vs.toArray }) (hints : IntsAre vs ns) (few : ns.length ≤ sizeLine) (rm : Room k callerA)
    (F : ∀ base : Heap, K.In base → base.Ns mainGlobals mg → FnG P w K mg base k fa fd [x] sp) (bd : ∀ (s : Shared) (u : Value), BindsTo s fd ⟨[u], []⟩ [(x, u)])
    (wish : ∀ H : Hp, Only H → SqL K H a (ns.map V.int) → sp [.ref a] H (fun v _ => v = .bl true) E0) :
    codeAny (model P w) callerA (.call (.ref fa) ⟨[.ref a], []⟩) (fun r s' => r = .ok (.ret (.bool true)) ∧ OldK s1.heap s'.heap ∧ s'.os = s1.os ∧ AllBare s'.gens) s1 := by
  have rv := vals_ints hints
  have lv := hints.length
  have main : ∀ H : Hp, Only H → SqL K H a (ns.map V.int) → HOk P w H s1.heap → (∀ b, H b ≠ none → b = a) → (H a ≠ none → K.lookup a = none) →
      codeAny (model P w) callerA (.call (.ref fa) ⟨[.ref a], []⟩) (fun r s' => r = .ok (.ret (.bool true)) ∧ OldK s1.heap s'.heap ∧ s'.os = s1.os ∧ AllBare s'.gens) s1 := by
    intro H hO hS hok hA hK
    have out : ∀ {b : Addr} {o : Obj} {es : Array DictEntry} {ep : Nat}, s1.heap.get? b = some o → o.data = .dict es ep → H b = none := fun {b o es ep} e d => by
      cases q : H b with
      | none => rfl
      | some u =>
        obtain rfl : b = a := hA b (by rw [q]; simp)
        rw [la] at e; cases e
        exact nomatch (show Data.seq vs.toArray _ = Data.dict es ep from d)
    have nsH : ∀ {b : Addr} {m : Str → Option Value}, s1.heap.Ns b m → (hidT s1.heap H).Ns b m := fun {b m} ⟨o, es, ep, e, d, r⟩ => ⟨o, es, ep, hidT_get e (out e d), d, r⟩
    have kinH : K.In (hidT s1.heap H) := fun b o e => hidT_get (kin b o e) (by
      cases q : H b with
      | none => rfl
      | some u =>
        obtain rfl : b = a := hA b (by rw [q]; simp)
        rw [hK (by rw [q]; simp)] at e; cases e)
    have md : Mod K mg (hidT s1.heap H) := ⟨kinH, nsH nsg, ⟨mb, nsH nsb, bb⟩, let ⟨mc, h1, h2⟩ := lim; ⟨mc, nsH h1, h2⟩⟩
    have e0 : Env0 P w K mg (hidT s1.heap H) callerA [] s1 H :=
      ⟨rfl, md, fun b o e => of_hidT e, Nat.le_of_eq (hidT_size _ _), trivial, fun b hb => absurd (show b ∈ ([] : List Addr) from hb) (by simp), hok, .of_eq g0⟩
    refine codeAny_mono ((F _ kinH (nsH nsg)).go callerA [] s1 H ⟨[.ref a], []⟩ [.ref a] [.ref a] _ _ rfl rm e0 (bd s1 (.ref a)) (.cons rfl .nil) (wish H hO hS)) fun r s' h => ?_
    cases r with
    | error e => exact h.elim
    | ok fl =>
      cases fl with
      | next => exact h.elim
      | brk => exact h.elim
      | cont => exact h.elim
      | ret u =>
        obtain ⟨v, H', os, bare, un, hok', r', q⟩ := h
        obtain rfl : v = .bl true := q
        obtain rfl : u = Value.bool true := r'
        refine ⟨rfl, OldK.of_keep fun b o e => ?_, os, bare⟩
        rcases hO b with z | ⟨ob, xs, z⟩
        · exact un.keep b o e z (fun y => absurd (show b ∈ ([] : List Addr) from y) (by simp)) (by simp)
        · have e1 := (hok b _ z).1
          rw [e] at e1; cases e1
          exact (hok' b _ (un.frzs b o _ z)).1
  cases hk : K.lookup a with
  | some o =>
    have e := kin a o hk
    rw [la] at e
    cases e
    exact main (fun _ => none) (fun _ => .inl rfl) (.inr ⟨_, vs.toArray, _, hk, rfl, rfl, rfl, by rw [List.size_toArray, lv]; exact few, by simpa using rv⟩)
      (fun b u z => nomatch (show (none : Option HO) = some u from z)) (fun b z => absurd rfl z) fun z => absurd rfl z
  | none =>
    refine main (upd (fun _ => none) a (.frz { cls := .type "list", data := .seq vs.toArray } (.lst (ns.map V.int)))) (fun b => ?_) (.inl (.inr ⟨_, upd_same⟩)) (fun b u z => ?_) (fun b z => ?_) fun _ => hk
    · by_cases hb : b = a
      · subst hb; exact .inr ⟨_, _, upd_same⟩
      · exact .inl (upd_ne hb)
    · by_cases hb : b = a
      · subst hb
        rw [upd_same] at z
        cases z
        exact ⟨la, by rw [List.length_map]; exact few, vs, _, rv, la⟩
      · rw [upd_ne hb] at z; cases z
    · by_cases hb : b = a
      · exact hb
      · exact absurd (upd_ne hb) z
/-- the goal that k_head leaves, from the law's promise -/
theorem walkG {l : PySem.W.OpenLaw} {n k : Nat} {q : Program} {loose : List Str} {XP : (Str → Option Value) → Heap → Prop} {YP : World → Heap → Prop} {d : DefRec} {K : Params → PySem.W.Frag} {sp : PySem.W.Frag → Sp} {x : Str}
    (hn : l.most = some n) (hn2 : n ≤ sizeLine) (hdf : d.params.defaults = []) (hr : Room k callerA) (hY : ∀ (w : World) (h : Heap), YP w h → (K w.params).In h)
    (F : ∀ (w : World) (mg : Str → Option Value) (fa : Addr) (h : Heap), (K w.params).In h → h.Ns mainGlobals mg → mg d.name = some (.ref fa) →
      ∃ fd : FuncData, (∀ (s : Shared) (u : Value), BindsTo s fd ⟨[u], []⟩ [(x, u)]) ∧ ∀ base : Heap, (K w.params).In base → base.Ns mainGlobals mg → FnG l.prog w (K w.params) mg base k fa fd [x] (sp (K w.params)))
    (hsp : ∀ (K : PySem.W.Frag) (H : Hp) (a : Addr) (ns : List Int), ns.length ≤ n → (∀ z ∈ ns, Builtin.Int.intBits z ≤ 1048576) → Only H → SqL K H a (ns.map V.int) → sp K [.ref a] H (fun v _ => v = .bl true) E0) :
    PySem.W.WalkO q loose XP YP l.row.toRowW d [] (fun f vs => PySem.call f vs) := by
  refine Att.attach_callB hn hdf fun w s0 s1 mg mb fa o pm cd doc a vs ns G Y ho hd hcd hmg hobj hints hlen hbits hg => ?_
  obtain ⟨fd, hb, hF⟩ := F w mg fa _ (hY w _ Y) G.T.g hmg
  exact lawG (hY w _ Y) G.T.g G.T.b G.T.builtins G.T.nolimit hg hobj hints (Nat.le_trans hlen hn2) hr hF hb fun H hO hS => hsp (K w.params) H a ns hlen hbits hO hS
end Pr
namespace Pr
open PySem PySem.Spec PyProof.Rows L2
/-- a tuple of which it is known that it has no attributes of its own -/
def FT (H : Hp) (a : Addr) (xs : List V) : Prop := ∃ o : Obj, H a = some (.frz o (.tup xs)) ∧ o.dict = none
theorem FT.sq {K : PySem.W.Frag} {H : Hp} {a : Addr} {xs : List V} (h : FT H a xs) : SqT K H a xs := let ⟨o, e, _⟩ := h; .inl (.inr ⟨o, e⟩)
theorem FT.same {H H' : Hp} {a : Addr} {xs : List V} (e : Same H H') (h : FT H a xs) : FT H' a xs := let ⟨o, q, z⟩ := h; ⟨o, e _ _ q, z⟩
theorem same_sqT {K : PySem.W.Frag} {H H' : Hp} {a : Addr} {xs : List V} (e : Same H H') (h : SqT K H a xs) : SqT K H' a xs := by
  rcases h with (h | ⟨o, h⟩) | h
  · exact .inl (.inl (e _ _ h))
  · exact .inl (.inr ⟨o, e _ _ h⟩)
  · exact .inr h
section
variable {X : Cx}
def rTupF (K : PySem.W.Frag) : List V → Hp → VK → Prop := fun xs H Q => ∃ p ys, xs = [.ref p] ∧ SqL K H p ys ∧ ∀ l o, H l = none → o.dict = none → Q (.ref l) (upd H l (.frz o (.tup ys)))
theorem call_tupF : CallR X (.type "tuple") (rTupF X.K) := by
  intro pins s σ H xs us Q I r h
  obtain ⟨p, ys, rfl, hq, q⟩ := h
  obtain ⟨u, rfl, rx⟩ := vals1 r
  cases rx
  obtain ⟨its, r', pl, hz⟩ := I.list hq
  have hlen := r'.length
  refine call_tuple_list pl.isList (fun h' kp => ?_) (by simp only [List.size_toArray] <;> omega)
  have I1 : Inv X pins σ H { s with heap := h' } := I.kept (t' := s.toks) kp
  have I2 := I1.laid (t' := s.toks) (h' := h'.push { cls := .type "tuple", data := .seq its.toArray }) (a := h'.objs.size)
    (o := .frz { cls := .type "tuple", data := .seq its.toArray } (.tup ys)) (fun b o e => Heap.get?_push_of_some _ e) (Nat.le_refl _) ⟨Heap.get?_push_size _ rfl, hz, its, r', IsTup.new _ _⟩
  exact ⟨.ref h'.objs.size, _, I2, rfl, q _ _ (I1.hok.fresh (Nat.le_refl _)) rfl⟩
end
theorem tup_mul0 (l : Addr) (y : Value) (n : Nat) (dd : Option Addr) (sl : Array (Option Value)) (u : Tok) :
    Meets (Builtin.«tuple.__mul__» ⟨[.ref l, .int 0 u], []⟩) (fun _ R s => s.heap.get? l = some { cls := .type "tuple", dict := dd, data := .seq #[y] n, slots := sl } ∧
      R (.ok (.ret (Value.ref s.heap.objs.size))) { s with heap := s.heap.push { cls := Value.type "tuple", data := Data.seq #[] }, toks := s.toks }) :=
  .of_wp fun prog w A R s h => by
    obtain ⟨hp, g, d, tk, os⟩ := s
    obtain ⟨hl, h⟩ := h
    have f1 := AutoSeq1.idx_int
    wp_walk using AutoSeq1.wpAny_loadPart' hl
    exact ⟨_, rfl, h⟩
theorem tup_mul1 (l : Addr) (y : Value) (n : Nat) (dd : Option Addr) (sl : Array (Option Value)) (u : Tok) :
    Meets (Builtin.«tuple.__mul__» ⟨[.ref l, .int 1 u], []⟩) (fun _ R s => s.heap.get? l = some { cls := .type "tuple", dict := dd, data := .seq #[y] n, slots := sl } ∧ R (.ok (.ret (.ref l))) s) :=
  .of_wp fun prog w A R s h => by
    obtain ⟨hp, g, d, tk, os⟩ := s
    obtain ⟨hl, h⟩ := h
    have f1 := AutoSeq1.idx_int
    wp_walk using AutoSeq1.wpAny_loadPart' hl
    exact ⟨_, rfl, h⟩
section
variable {X : Cx}
def rRep1 (K : PySem.W.Frag) : R2 := fun x y H Q => ∃ l v, x = .ref l ∧ SqT K H l [v] ∧ ((y = .int 1 ∧ Q (.ref l) H) ∨ (y = .int 0 ∧ ∀ p, H p = none → Q (.ref p) (upd H p (.tup []))))
theorem op_rep1 : OpR X (binaryOp .Mult) (rRep1 X.K) := by
  intro pins s σ H x y v u Q I rx ry h
  obtain ⟨l, z, rfl, hT, h⟩ := h
  cases rx
  obtain ⟨its, r, ⟨⟨cls, dd, data, sl⟩, ho, hc, n, hd⟩, hs⟩ := I.tuple hT
  simp only at hc hd
  subst hc hd
  obtain ⟨a, rfl, ra⟩ := vals1 r
  rcases h with ⟨rfl, q⟩ | ⟨rfl, q⟩
  · obtain ⟨t, rfl⟩ := ry
    refine wpAny_binaryOp_repeat_ref (T := "tuple") (U := "int") (by decide) ⟨_, ho, rfl⟩ (fun s' => typeIs_int s' 1 t) noFill_tuple_mul F.fills_int_mul F.slot_int_rmul repeat_tuple F.slot_int_index.lookup
      (call_meets F.slot_int_rmul (typeIs_int s 1 t) F.entry_int_rmul (F.args_int_rmul_2 _ _) (int_rmul_tuple 1 t l #[a] n dd sl)
        ⟨ho, rfl, ⟨_, ho, rfl⟩, call_meets F.slot_tuple_mul ⟨_, ho, rfl⟩ F.entry_tuple_mul (F.args_tuple_mul_2 _ _) (tup_mul1 l a n dd sl t) ⟨ho, ?_⟩⟩)
    exact ⟨.ref l, H, I, rfl, q⟩
  · obtain ⟨t, rfl⟩ := ry
    refine wpAny_binaryOp_repeat_ref (T := "tuple") (U := "int") (by decide) ⟨_, ho, rfl⟩ (fun s' => typeIs_int s' 0 t) noFill_tuple_mul F.fills_int_mul F.slot_int_rmul repeat_tuple F.slot_int_index.lookup
      (call_meets F.slot_int_rmul (typeIs_int s 0 t) F.entry_int_rmul (F.args_int_rmul_2 _ _) (int_rmul_tuple 0 t l #[a] n dd sl)
        ⟨ho, rfl, ⟨_, ho, rfl⟩, call_meets F.slot_tuple_mul ⟨_, ho, rfl⟩ F.entry_tuple_mul (F.args_tuple_mul_2 _ _) (tup_mul0 l a n dd sl t) ⟨ho, ?_⟩⟩)
    refine ⟨.ref s.heap.objs.size, _, I.laid (t' := s.toks) (o := .tup []) (fun b ob q => Heap.get?_push_of_some _ q) (Nat.le_refl _) ?_, rfl, q _ (I.hok.fresh (Nat.le_refl _))⟩
    exact ⟨Nat.zero_le _, [], .nil, IsTup.new _ _⟩
end
theorem enum_newT (l : Addr) (items : Array Value) (n : Nat) (dct : Option Addr) (sl : Array (Option Value)) :
    Meets (Builtin.«enumerate.__new__» ⟨[.type "enumerate", .ref l], []⟩) (fun _ R s => s.heap.get? l = some { cls := .type "tuple", dict := dct, data := .seq items n, slots := sl } ∧
      R (.ok (.ret (.ref (s.heap.push { cls := .type "tuple_iterator", data := .fields #[.ref l, .int 0 0] }).objs.size)))
        { s with heap := (s.heap.push { cls := .type "tuple_iterator", data := .fields #[.ref l, .int 0 0] }).push { cls := .type "enumerate", data := .fields #[.none, .bool false, .ref s.heap.objs.size, rawInt 0, .none, .none] } }) :=
  .of_wp fun prog w A R s h => by
    obtain ⟨hp, g, d, tk, os⟩ := s; obtain ⟨hl, h⟩ := h
    have hsub := sub_enumerate
    have hL : Heap.IsTuple (Shared.heap ⟨hp, g, d, tk, os⟩) l items := ⟨_, hl, rfl, n, rfl⟩
    wp_walk using AutoSeq1.wpAny_loadPart' hl
    refine wpAny_stack_any fun st => wpAny_pure ?_
    split
    · rename_i c _ _ _ _ _
      cases (c == Value.type "enumerate") <;> (wp_walk using AutoSeq1.wpAny_loadPart' hl, wpAny_pyIter_tuple hL; exact ⟨_, rfl, h⟩)
    · wp_walk using AutoSeq1.wpAny_loadPart' hl, wpAny_pyIter_tuple hL
      exact ⟨_, rfl, h⟩
theorem call_enumT {prog : Program} {w : World} {A : Around} {E : Value → Shared → Prop} {s : Shared} {l : Addr} {items : Array Value} {Q : Value → Shared → Prop} (hL : s.heap.IsTuple l items)
    (h : ∀ h', IsEnum h' (s.heap.objs.size + 1) s.heap.objs.size 0 .none → h'.IsTupleIter s.heap.objs.size l 0 → h'.objs.size = s.heap.objs.size + 2 →
      (∀ b o, s.heap.get? b = some o → h'.get? b = some o) → Q (.ref (s.heap.objs.size + 1)) { s with heap := h' }) :
    wpAny (model prog w) A (call (.type "enumerate") [.ref l]) Q E s := by
  obtain ⟨⟨c, dct, dt, sl⟩, hl, hc, n, hd⟩ := hL
  simp only at hc hd
  subst hc hd
  refine callType_new F.called_enumerate (by decide) (F.typeCall_enumerate_1 _) (F.newCall_enumerate_1 _) (fun obj => F.args_object_init_2 obj _) F.entry_enumerate_new (enum_newT l items n dct sl) ⟨hl, ?_⟩
  generalize ho : ({ cls := .type "tuple_iterator", data := .fields #[.ref l, .int 0 0] } : Obj) = o1
  have f1 : o1.isFreed = false := by rw [← ho]; rfl
  generalize hp : ({ cls := .type "enumerate", data := .fields #[.none, .bool false, .ref s.heap.objs.size, rawInt 0, .none, .none] } : Obj) = o2
  have f2 : o2.isFreed = false := by rw [← hp]; rfl
  have hz : (s.heap.push o1).objs.size = s.heap.objs.size + 1 := Heap.size_push ..
  have hg := Heap.get?_push_size (s.heap.push o1) (o := o2) f2
  show _ ∧ _
  rw [hz] at hg ⊢
  have he : IsEnum ((s.heap.push o1).push o2) (s.heap.objs.size + 1) s.heap.objs.size 0 .none := by rw [hp.symm] at hg ⊢; exact hg
  refine ⟨⟨_, he, rfl⟩, h _ he ⟨_, Heap.get?_push_of_some _ (Heap.get?_push_size _ f1), by rw [← ho], by rw [← ho]; rfl⟩ (by rw [Heap.size_push, hz]) fun b o x => Heap.get?_push_of_some _ (Heap.get?_push_of_some _ x)⟩
/-- the tuple at a, each item in a new pair -/
def Itet (K : PySem.W.Frag) (a : Addr) : It :=
  ⟨fun i H => ∃ (xs : List V) (x : V), SqT K H a xs ∧ xs[i]? = some x, fun i H v H' => ∃ T x, v = .ref T ∧ H T = none ∧ H' = upd H T (.tup [.int (i : Nat), x]) ∧ ∀ xs, SqT K H a xs → xs[i]? = some x,
    fun i H => ∃ xs : List V, SqT K H a xs ∧ xs.length ≤ i⟩
theorem turn_enumT {P : Program} {w : World} {K : PySem.W.Frag} {elts : List Expr} {kk : Nat} {tpos : Pos} (a e it : Addr) :
    Turn P w K (.Tuple elts kk tpos) (Itet K a) [e, it] e (fun i h => (∃ old, IsEnum h e it ((i : Nat) : Int) old) ∧ h.IsTupleIter it a i ∧ e ≠ it) where
  mem := by simp
  obj := fun i h st b hb => by
    obtain ⟨⟨old, he⟩, ⟨o, ho, hc, hd⟩, _⟩ := st
    rcases (show b = e ∨ b = it by simpa using hb) with rfl | rfl
    · exact ⟨_, he, fun v q => nomatch q⟩
    · exact ⟨o, ho, fun v q => by rw [hd] at q; cases q⟩
  keep := fun i h h' st k => let ⟨⟨old, he⟩, hi, hne⟩ := st; ⟨⟨old, k e (by simp) _ he⟩, hi.at fun o q => k it (by simp) o q, hne⟩
  item := by
    intro X hP hw hK hc i pins s σ H E I hf st hg
    subst hP hw hK
    obtain ⟨⟨old, he⟩, hit, hne⟩ := st
    obtain ⟨xs, x, hq, hx⟩ := hg
    obtain ⟨its, rv, pt, hz⟩ := I.tuple hq
    have hT : s.heap.IsTuple a its.toArray := pt
    obtain ⟨u, hu, ru⟩ := rv.get hx
    have hel : e < s.heap.objs.size := Heap.lt_size he
    have hil : it < s.heap.objs.size := by obtain ⟨_, q, _⟩ := hit; exact Heap.lt_size q
    have nai : a ≠ it := fun z => by
      subst z
      obtain ⟨o1, q1, c1, _⟩ := hit
      obtain ⟨o2, q2, c2, _⟩ := hT
      rw [q1] at q2; cases q2
      rw [c1] at c2; exact absurd c2 (by decide)
    have nea : e ≠ a := fun z => by
      subst z
      obtain ⟨o2, q2, c2, _⟩ := hT
      have he' : s.heap.get? e = _ := he
      rw [he'] at q2; cases q2
      exact absurd (show Value.type "enumerate" = Value.type "tuple" from c2) (by decide)
    have hi : i < its.toArray.size := by
      have := (List.getElem?_eq_some_iff.mp hu).1
      simpa using this
    refine wpAny_pyNext_enum_itemD (Draws.tuple (A := X.A.in1) (I.ok.hd hc) it a nai its.toArray) he ⟨hit, hT⟩ hi hne (by simp [hne, nea]) fun y h' tk hy ho hit' hT' hsz hk => ?_
    obtain rfl : y = u := by
      have hy' : its.toArray[i]? = some y := hy
      rw [List.getElem?_toArray, hu] at hy'
      exact (Option.some.inj hy').symm
    refine ⟨_, rfl, wpAny_letOwnedTupleGo_enum (s := { s with heap := h', toks := tk + 1 }) ho fun h'' he' sb => ?_⟩
    have hT2 : h''.get? s.heap.objs.size = some { cls := .type "tuple", data := .seq #[.int i tk, y] } := (sb.2 _ (Nat.ne_of_gt hel)).trans hT'
    have new : ObjOk X.prog X.w (upd H s.heap.objs.size (.tup [.int (i : Nat), x])) h'' s.heap.objs.size (.tup [.int (i : Nat), x]) :=
      ⟨by show 2 ≤ sizeLine; decide, [.int i tk, y], .cons ⟨_, rfl⟩ (.cons ru .nil), ⟨_, hT2, rfl, _, rfl⟩⟩
    have I1 := I.turnedNew (t' := tk + 1) (ch := [e, it]) (fun b ob hb q => (sb.2 b (fun z => hb (by simp [z]))).trans (hk b ob (fun z => hb (by simp [z])) (fun z => hb (by simp [z])) q)) hf (Nat.le_refl _) new
    refine ⟨.ref s.heap.objs.size, _, I1, rfl, ⟨_, x, rfl, I.hok.fresh (Nat.le_refl _), rfl, fun ys hys => by rw [I.tuple_inj hys hq]; exact hx⟩, ⟨⟨y, ?_⟩, hit'.1.at fun o q => (sb.2 it (Ne.symm hne)).trans q, hne⟩, fun b hb => ?_⟩
    · rw [show ((i + 1 : Nat) : Int) = (i : Int) + 1 by omega]; exact he'
    · have hb' : b < s.heap.objs.size := by
        rcases (show b = e ∨ b = it by simpa using hb) with rfl | rfl
        · exact hel
        · exact hil
      rw [upd_ne (Nat.ne_of_lt hb')]
      exact (hf b hb).1
  done := by
    intro X hP hw hK hc i pins s σ H E I hf st hg
    subst hP hw hK
    obtain ⟨⟨old, he⟩, hit, hne⟩ := st
    obtain ⟨xs, hq, hx⟩ := hg
    obtain ⟨its, rv, pt, hz⟩ := I.tuple hq
    have hT : s.heap.IsTuple a its.toArray := pt
    obtain ⟨f0, f1, f2, f3, f4, f5⟩ := hf it (by simp)
    have hl := rv.length
    have hT : s.TypeIs (.ref e) "enumerate" := ⟨_, he, rfl⟩
    unfold pyNext
    refine wpAny_bind (wpAny_attempt (wpAny_callSpecial?_slot (name := Str.ofString "__next__") hT F.slot_enumerate_next (wpAny_call_entry F.slot_enumerate_next hT F.entry_enumerate_next ?_ (F.args_enumerate_next_1 _))))
    show wpAny _ _ (field (.ref e) 2 >>= _) _ _ _
    refine wpAny_bind (wpAny_field he rfl (x := .ref it) rfl ?_)
    refine wpAny_bind (wpAny_nextOf_tuple_end (I.ok.hd hc) hit pt (by simp; omega) fun h' x eb hx' => ?_)
    obtain ⟨o, ho, hcx⟩ := hx'
    refine wpAny_bind (wpAny_isInstance (T := "StopIteration") (b := true) ⟨o, ho, hcx⟩ isSubtype_stop ?_)
    exact wpAny_pure ⟨rfl, I.turned (t' := s.toks) (fun b o hb q => eb b o hb q) f0 f1 f3 f4 f5⟩
  self := fun A i s Q E st h => let ⟨⟨_, he⟩, _⟩ := st; wpAny_pyIter_enum he h
def iEnumT (K : PySem.W.Frag) (ta : TA) : TI := fun σ H R => ta σ H fun vs H1 => ∃ a xs, vs = [.ref a] ∧ SqT K H1 a xs ∧ R (Itet K a) H1
theorem pi_enumT {X : Cx} {e : Expr} {ta : TA} {p pos tpos : Pos} {elts : List Expr} {kk : Nat} (hg : Gl X "enumerate") (hm : X.mg "enumerate" = none) (ha : PA X [e] ta)
    (hs : starEach [e] X.env = [(false, eval e X.env)] := by rfl) : PI X (.Tuple elts kk tpos) (.Call (.Name "enumerate" p) [e] [] pos) (iEnumT X.K ta) := by
  refine ⟨fun pins s σ H R I h => Call_ (ld_blt I hg hm boot_enumerate (PyProof.Rows.callWith_type1 (thn (ha.run pos pins s σ H _ I h) fun us s1 ⟨vs, H1, I1, r1, a, xs, ex, hq, q⟩ => ?_) hs rfl))⟩
  subst ex
  obtain ⟨u, rfl, rx⟩ := vals1 r1
  cases rx
  obtain ⟨its, rv, pt, hz⟩ := I1.tuple hq
  refine call_enumT pt fun h' he hit hsz hk => wpAny_pyIter_enum he ?_
  refine ⟨s1.heap.objs.size + 1, [s1.heap.objs.size + 1, s1.heap.objs.size], _, _, H1, rfl, I1.kept (t' := s1.toks) hk, turn_enumT a (s1.heap.objs.size + 1) s1.heap.objs.size, ⟨⟨.none, he⟩, hit, Nat.succ_ne_self _⟩, fun b hb => ?_, q⟩
  have hle : s1.heap.objs.size ≤ b := by
    rcases (show b = s1.heap.objs.size + 1 ∨ b = s1.heap.objs.size by simpa using hb) with rfl | rfl
    · exact Nat.le_add_right _ _
    · exact Nat.le_refl _
  exact I1.fpOk hle (I1.hok.fresh hle)
theorem walk_enumT {K : PySem.W.Frag} {a : Addr} {xs : List V} : Walk (Itet K a) xs.length (fun H => SqT K H a xs) (YPair (fun i => some (.int (i : Nat))) (fun i => xs[i]?)) := by
  refine ⟨fun i _ hi q => ⟨xs, xs[i], q, by simp [hi]⟩, fun _ q => ⟨xs, q, Nat.le_refl _⟩, fun i H v H' _ q y => ?_⟩
  obtain ⟨T, x, h1, h2, h3, h4⟩ := y
  exact ⟨T, .int (i : Nat), x, h1, h2, h3, rfl, h4 xs q⟩
end Pr
namespace Pr
open PySem PySem.Spec PyProof.Rows L2
structure Shw (dep n : Nat) (d : PyData) : Prop where
  sh : d.showable = true
  nd : d.hasDict = false
  dp : d.depth ≤ dep
  ln : d.shown.length ≤ n
theorem Shw.mono {dep dep' n n' : Nat} {d : PyData} (h : Shw dep n d) (h1 : dep ≤ dep') (h2 : n ≤ n') : Shw dep' n' d := ⟨h.sh, h.nd, Nat.le_trans h.dp h1, Nat.le_trans h.ln h2⟩
theorem Shw.int {i : Int} {k : Nat} (h0 : 0 ≤ i) (hk : 0 < k) (hk2 : k ≤ 100) (h : i < 10 ^ k) : Shw 0 k (.int i) := by
  refine ⟨?_, by simp only [PyData.hasDict], by simp [PyData.depth], ?_⟩
  · simp only [PyData.showable, decide_eq_true_eq]
    by_cases hz : i.natAbs = 0
    · rw [hz]; decide
    · refine (Nat.log2_lt hz).mpr ?_
      have h1 : (i.natAbs : Int) < ((10 ^ k : Nat) : Int) := by
        rw [Int.natCast_pow]
        have : ((i.natAbs : Nat) : Int) = i := Int.natAbs_of_nonneg h0
        rw [this]; exact h
      have h2 : i.natAbs < 10 ^ k := by exact_mod_cast h1
      have h3 : (10 : Nat) ^ k ≤ 10 ^ 100 := Nat.pow_le_pow_right (by decide) hk2
      have h4 : (10 : Nat) ^ 100 < 2 ^ 1920 := by decide +kernel
      omega
  · simp only [PyData.shown]
    exact toString_length_le h0 hk h
theorem shownAll_map : ∀ ds : List PyData, PyData.shownAll ds = ds.map PyData.shown
  | [] => rfl
  | d :: r => by simp only [PyData.shownAll, List.map_cons, shownAll_map r]
theorem piled_le {n : Nat} : ∀ {ds : List PyData}, (∀ d ∈ ds, d.shown.length ≤ n) → piled (ds.map PyData.shown) ≤ ds.length * (n + 2)
  | [], _ => by simp [piled_nil]
  | d :: r, h => by
    have h1 := piled_le (ds := r) fun x hx => h x (List.mem_cons_of_mem _ hx)
    have h2 := h d List.mem_cons_self
    rw [List.map_cons, piled_cons, List.length_cons, Nat.succ_mul]
    omega
theorem showAll_of {dep n : Nat} : ∀ {ds : List PyData}, (∀ d ∈ ds, Shw dep n d) → PyData.showableAll ds = true ∧ PyData.hasDictAll ds = false ∧ PyData.depthAll ds ≤ dep
  | [], _ => ⟨by simp only [PyData.showableAll], by simp only [PyData.hasDictAll], by simp [PyData.depthAll]⟩
  | d :: r, h => by
    obtain ⟨h1, h2, h3⟩ := showAll_of (ds := r) fun x hx => h x (List.mem_cons_of_mem _ hx)
    have g := h d List.mem_cons_self
    refine ⟨by simp only [PyData.showableAll, g.sh, h1, Bool.and_self], by simp only [PyData.hasDictAll, g.nd, h2, Bool.or_self], ?_⟩
    simp only [PyData.depthAll]
    exact Nat.max_le.mpr ⟨g.dp, h3⟩
theorem tupleText_len (ts : List Str) : (tupleText ts).length ≤ piled ts + 3 := by
  unfold tupleText
  rw [strLen_append, strLen_append]
  have e1 : (("(" : Str)).length = 1 := by decide +kernel
  have e2 : ((if ts.length == 1 then ",)" else ")" : String) : Str).length ≤ 2 := by
    cases ts.length == 1 <;> decide +kernel
  by_cases h : ts = []
  · subst h
    have : (Str.join ", " ([] : List Str)).length = 0 := by decide +kernel
    omega
  · have := join_length_add ts h
    omega
theorem textFrom_le : ∀ (ts : List Str) (k : Nat) (acc : Str), (textFrom k acc ts).length ≤ acc.length + piled ts
  | [], k, acc => by simp [textFrom, piled_nil]
  | t :: r, k, acc => by
    have h := textFrom_le r (k + 1) (acc ++ (if k > 0 then ", " else "" : String) ++ t)
    rw [piled_cons]
    show (textFrom (k + 1) _ r).length ≤ _
    have e : ((if k > 0 then ", " else "" : String) : Str).length ≤ 2 := by split <;> decide +kernel
    rw [strLen_append, strLen_append] at h
    omega
theorem listText_len (ts : List Str) : (listText ts).length ≤ piled ts + 2 := by
  unfold listText
  rw [strLen_append]
  have h := textFrom_le ts 0 "["
  have e1 : (("[" : Str)).length = 1 := by decide +kernel
  have e2 : (("]" : Str)).length = 1 := by decide +kernel
  omega
theorem Shw.tuple {dep n m : Nat} {ds : List PyData} (h : ∀ d ∈ ds, Shw dep n d) (hm : ds.length ≤ m) : Shw (dep + 1) (m * (n + 2) + 3) (.tuple ds) := by
  obtain ⟨h1, h2, h3⟩ := showAll_of h
  refine ⟨by simp only [PyData.showable, h1], by simp only [PyData.hasDict, h2], by simp only [PyData.depth]; omega, ?_⟩
  simp only [PyData.shown]
  rw [shownAll_map]
  have a1 := tupleText_len (ds.map PyData.shown)
  have a2 := piled_le fun d hd => (h d hd).ln
  have a3 : ds.length * (n + 2) ≤ m * (n + 2) := Nat.mul_le_mul_right _ hm
  omega
theorem Shw.list {dep n m : Nat} {ds : List PyData} (h : ∀ d ∈ ds, Shw dep n d) (hm : ds.length ≤ m) : Shw (dep + 1) (m * (n + 2) + 3) (.list ds) := by
  obtain ⟨h1, h2, h3⟩ := showAll_of h
  refine ⟨by simp only [PyData.showable, h1], by simp only [PyData.hasDict, h2], by simp only [PyData.depth]; omega, ?_⟩
  simp only [PyData.shown]
  rw [shownAll_map]
  have a1 := listText_len (ds.map PyData.shown)
  have a2 := piled_le fun d hd => (h d hd).ln
  have a3 : ds.length * (n + 2) ≤ m * (n + 2) := Nat.mul_le_mul_right _ hm
  omega
/-- only what stands at a and c may have changed -/
def But (a c : Addr) (H H' : Hp) : Prop := ∀ b o, b ≠ a → b ≠ c → H b = some o → H' b = some o
theorem But.refl (a c : Addr) (H : Hp) : But a c H H := fun _ _ _ _ h => h
theorem But.trans {a c : Addr} {H H1 H2 : Hp} (x : But a c H H1) (y : But a c H1 H2) : But a c H H2 := fun b o h1 h2 h => y b o h1 h2 (x b o h1 h2 h)
theorem But.of {a c : Addr} {H H' : Hp} (x : Same H H') : But a c H H' := fun b o _ _ h => x b o h
theorem same_new {H : Hp} {p : Addr} {o : HO} (h : H p = none) : Same H (upd H p o) := fun b x e => by
  rw [upd_ne (ne_of_none e h)]; exact e
/-- the deck at a, its cells at c, m draws may still be made -/
def Deck (H : Hp) (a c : Addr) (m : Nat) : Prop :=
  ∃ (cells : List Int) (n : Nat), H a = some (.lst [.ref c, .int (n : Int)]) ∧ H c = some (.lst (cells.map V.int)) ∧ a ≠ c ∧ cells.length ≤ 63 ∧ n + m ≤ 1000000
theorem Deck.same {H H' : Hp} {a c : Addr} {m : Nat} (e : Same H H') (h : Deck H a c m) : Deck H' a c m :=
  let ⟨cs, n, h1, h2, h3⟩ := h; ⟨cs, n, e _ _ h1, e _ _ h2, h3⟩
theorem Deck.less {H : Hp} {a c : Addr} {m m' : Nat} (h : Deck H a c m) (z : m' ≤ m) : Deck H a c m' :=
  let ⟨cs, n, h1, h2, h3, h4, h5⟩ := h; ⟨cs, n, h1, h2, h3, h4, by omega⟩
theorem Deck.apart {H : Hp} {a c : Addr} {m : Nat} (h : Deck H a c m) {b : Addr} {o : HO} (e : H b = some o) (ho : ∀ xs, o ≠ .lst xs) : b ≠ a ∧ b ≠ c := by
  obtain ⟨cs, n, h1, h2, _⟩ := h
  exact ⟨ne_of e h1 (ho _), ne_of e h2 (ho _)⟩
theorem Deck.fresh {H : Hp} {a c : Addr} {m : Nat} (h : Deck H a c m) {b : Addr} (e : H b = none) : b ≠ a ∧ b ≠ c := by
  obtain ⟨cs, n, h1, h2, _⟩ := h
  exact ⟨Ne.symm (ne_of_none h1 e), Ne.symm (ne_of_none h2 e)⟩
/-- a panel at p -/
def PanAt (H : Hp) (p : Addr) (pan : List (List Int)) : Prop := ∃ qs : List Addr, FT H p (qs.map V.ref) ∧ Paired (fun q l => FT H q (l.map V.int)) qs pan
theorem PanAt.same {H H' : Hp} {p : Addr} {pan : List (List Int)} (e : Same H H') (h : PanAt H p pan) : PanAt H' p pan :=
  let ⟨qs, h1, h2⟩ := h; ⟨qs, h1.same e, h2.mono fun _ _ x => x.same e⟩
theorem paired_get {α β : Type} {F : α → β → Prop} : ∀ {l1 : List α} {l2 : List β}, Paired F l1 l2 → ∀ (i : Nat) (y : β), l2[i]? = some y → ∃ x, l1[i]? = some x ∧ F x y
  | _, _, .nil, i, y, h => by simp at h
  | _, _, .cons r t, 0, y, h => by simp at h; subst h; exact ⟨_, rfl, r⟩
  | _, _, .cons r t, i + 1, y, h => by
    obtain ⟨x, h1, h2⟩ := paired_get t i y (by simpa using h)
    exact ⟨x, by simpa using h1, h2⟩
/-- what the document calls a panel of at most ten buttons -/
structure Good (pan : List (List Int)) : Prop where
  pos : 1 ≤ pan.length
  few : pan.length ≤ 10
  up : ∀ l ∈ pan, l.Pairwise (· < ·)
  rng : ∀ l ∈ pan, ∀ x ∈ l, 0 ≤ x ∧ x < (pan.length : Int)
  own : ∀ (i : Nat) (l : List Int), pan[i]? = some l → (i : Int) ∉ l
def dInts (l : List Int) : PyData := .tuple (l.map PyData.int)
def dPan (pan : List (List Int)) : PyData := .tuple (pan.map dInts)
section
variable {K : PySem.W.Frag} {H : Hp}
theorem dpAll_ints : ∀ l : List Int, DpAll K H (l.map V.int) (l.map PyData.int)
  | [] => .nil
  | x :: r => .cons (.int x) (dpAll_ints r)
theorem dp_ints {q : Addr} {l : List Int} (h : SqT K H q (l.map V.int)) : Dp K H (.ref q) (dInts l) := .tup h (dpAll_ints l)
theorem dpAll_pan : ∀ {qs : List Addr} {pan : List (List Int)}, Paired (fun q l => FT H q (l.map V.int)) qs pan → DpAll K H (qs.map V.ref) (pan.map dInts)
  | _, _, .nil => .nil
  | _, _, .cons r t => .cons (dp_ints r.sq) (dpAll_pan t)
theorem PanAt.dp {p : Addr} {pan : List (List Int)} (h : PanAt H p pan) : Dp K H (.ref p) (dPan pan) := by
  obtain ⟨qs, h1, h2⟩ := h
  exact .tup h1.sq (dpAll_pan h2)
end
theorem pw_length {n : Nat} : ∀ {l : List Int} {lo : Int}, l.Pairwise (· < ·) → (∀ x ∈ l, lo ≤ x ∧ x < lo + n) → l.length ≤ n := by
  induction n with
  | zero =>
    intro l lo _ h
    cases l with
    | nil => exact Nat.le_refl _
    | cons x r => have := h x List.mem_cons_self; omega
  | succ n ih =>
    intro l lo hp h
    cases l with
    | nil => exact Nat.zero_le _
    | cons x r =>
      have hx := h x List.mem_cons_self
      rw [List.pairwise_cons] at hp
      have := ih (l := r) (lo := lo + 1) hp.2 fun y hy => by
        have h1 := hp.1 y hy
        have h2 := h y (List.mem_cons_of_mem _ hy)
        omega
      rw [List.length_cons]; omega
theorem shw_ints {l : List Int} {m : Nat} (hl : l.length ≤ m) (h : ∀ x ∈ l, 0 ≤ x ∧ x < 10) : Shw 1 (m * 3 + 3) (dInts l) := by
  refine Shw.tuple (fun d hd => ?_) (by rw [List.length_map]; exact hl)
  obtain ⟨x, hx, rfl⟩ := List.mem_map.mp hd
  exact Shw.int (h x hx).1 (by decide) (by decide) (h x hx).2
theorem Good.shw {pan : List (List Int)} (g : Good pan) : Shw 2 353 (dPan pan) := by
  have := Shw.tuple (dep := 1) (n := 33) (m := 10) (ds := pan.map dInts) (fun d hd => ?_) (by rw [List.length_map]; exact g.few)
  · exact this
  · obtain ⟨l, hl, rfl⟩ := List.mem_map.mp hd
    have hf := g.few
    refine shw_ints (m := 10) (pw_length (n := 10) (lo := 0) (g.up l hl) fun x hx => ?_) fun x hx => ?_
    · have := g.rng l hl x hx; omega
    · have := g.rng l hl x hx; omega
end Pr
namespace Pr
open PySem PySem.Spec PyProof.Rows L2
def intL (n : Nat) : List Int := (List.range n).map fun i : Nat => (i : Int)
theorem mem_intL {n : Nat} {x : Int} : x ∈ intL n ↔ 0 ≤ x ∧ x < (n : Int) := by
  unfold intL
  rw [List.mem_map]
  constructor
  · rintro ⟨i, hi, rfl⟩
    have := List.mem_range.mp hi
    omega
  · rintro ⟨h0, h1⟩
    exact ⟨x.toNat, List.mem_range.mpr (by omega), Int.toNat_of_nonneg h0⟩
theorem intL_up (n : Nat) : (intL n).Pairwise (· < ·) := by
  unfold intL
  rw [List.pairwise_map]
  exact List.pairwise_lt_range.imp fun {a b} (h : a < b) => by omega
/-- a state of n buttons -/
structure Asc (n : Nat) (st : List Int) : Prop where
  up : st.Pairwise (· < ·)
  rng : ∀ x ∈ st, 0 ≤ x ∧ x < (n : Int)
theorem Asc.nil (n : Nat) : Asc n [] := ⟨List.Pairwise.nil, fun _ h => by cases h⟩
theorem Asc.filter (n : Nat) (f : Int → Bool) : Asc n ((intL n).filter f) := ⟨(intL_up n).filter f, fun _ h => mem_intL.mp (List.mem_filter.mp h).1⟩
theorem Asc.len {n : Nat} {st : List Int} (h : Asc n st) : st.length ≤ n := pw_length (lo := 0) h.up fun x hx => by have := h.rng x hx; omega
theorem asc_ext : ∀ {l1 l2 : List Int}, l1.Pairwise (· < ·) → l2.Pairwise (· < ·) → (∀ x, x ∈ l1 ↔ x ∈ l2) → l1 = l2
  | [], [], _, _, _ => rfl
  | [], y :: r, _, _, h => absurd ((h y).mpr List.mem_cons_self) (by simp)
  | x :: r, [], _, _, h => absurd ((h x).mp List.mem_cons_self) (by simp)
  | x :: r, y :: t, h1, h2, h => by
    rw [List.pairwise_cons] at h1 h2
    have exy : x = y := by
      rcases List.mem_cons.mp ((h x).mp List.mem_cons_self) with e | e
      · exact e
      · rcases List.mem_cons.mp ((h y).mpr List.mem_cons_self) with e' | e'
        · exact e'.symm
        · have a1 := h2.1 x e
          have a2 := h1.1 y e'
          omega
    subst exy
    have : r = t := asc_ext h1.2 h2.2 fun z => by
      constructor
      · intro hz
        rcases List.mem_cons.mp ((h z).mp (List.mem_cons_of_mem _ hz)) with e | e
        · have := h1.1 z hz; omega
        · exact e
      · intro hz
        rcases List.mem_cons.mp ((h z).mpr (List.mem_cons_of_mem _ hz)) with e | e
        · have := h2.1 z hz; omega
        · exact e
    rw [this]
theorem Asc.eq {n : Nat} {st : List Int} (h : Asc n st) : (intL n).filter (fun x => decide (x ∈ st)) = st :=
  asc_ext ((intL_up n).filter _) h.up fun x => by
    rw [List.mem_filter, decide_eq_true_eq, mem_intL]
    exact ⟨fun q => q.2, fun q => ⟨h.rng x q, q⟩⟩
end Pr
namespace Pr
open PySem PySem.Spec PyProof.Rows L2
abbrev wSame : Str := "same"
abbrev wOn : Str := "on"
abbrev wOff : Str := "off"
/-- a press of b behind, where c had the word w -/
def wordM (pan : List (List Int)) (c : Int) (w : Str) (b : Int) : Str := if b = c then wOn else if c ∈ pan.getD b.toNat [] then wOff else w
def wordsM (pan : List (List Int)) (row : List Int) (c : Int) : Str := row.foldl (wordM pan c) wSame
def effM (pan : List (List Int)) (row : List Int) : List Str := (List.range pan.length).map fun c : Nat => wordsM pan row (c : Int)
def onM (l : List Int) (b : Int) (c : Nat) : Str := if (c : Int) ∈ l then wOff else if (c : Int) = b then wOn else wSame
def pressW (pan : List (List Int)) (b : Int) : List Str := (List.range pan.length).map (onM (pan.getD b.toNat []) b)
def joinM (xs ys : List Str) : List Str := List.zipWith (fun e l => if l = wSame then e else l) xs ys
theorem effM_len (pan : List (List Int)) (row : List Int) : (effM pan row).length = pan.length := by unfold effM; rw [List.length_map, List.length_range]
theorem pressW_len (pan : List (List Int)) (b : Int) : (pressW pan b).length = pan.length := by unfold pressW; rw [List.length_map, List.length_range]
theorem joinM_len {xs ys : List Str} (h : xs.length = ys.length) : (joinM xs ys).length = ys.length := by unfold joinM; rw [List.length_zipWith, h, Nat.min_self]
theorem effM_nil (pan : List (List Int)) : effM pan [] = List.replicate pan.length wSame := by
  unfold effM
  show (List.range pan.length).map (fun _ => wSame) = _
  rw [List.map_const', List.length_range]
theorem set_map_range {α : Type} (f : Nat → α) (n j : Nat) (v : α) : ((List.range n).map f).set j v = (List.range n).map fun c => if c = j then v else f c := by
  refine List.ext_getElem? fun i => ?_
  rw [List.getElem?_set, List.getElem?_map]
  by_cases h : i < n
  · rw [List.getElem?_map, List.getElem?_range h, List.length_map, List.length_range]
    by_cases e : j = i
    · subst e; rw [if_pos rfl, if_pos h]; simp
    · rw [if_neg e]; simp [Ne.symm e]
  · rw [List.getElem?_map, List.getElem?_eq_none (by rw [List.length_range]; omega), List.length_map, List.length_range]
    by_cases e : j = i
    · subst e; rw [if_pos rfl, if_neg h]; rfl
    · rw [if_neg e]; rfl
theorem replicate_map_range {α : Type} (n : Nat) (v : α) : List.replicate n v = (List.range n).map fun _ => v := by
  rw [List.map_const', List.length_range]
def dStrs (l : List Str) : PyData := .tuple (l.map PyData.str)
theorem dpAll_strs {K : PySem.W.Frag} {H : Hp} : ∀ l : List Str, DpAll K H (l.map V.str) (l.map PyData.str)
  | [] => .nil
  | x :: r => .cons (.str x) (dpAll_strs r)
theorem dp_strs {K : PySem.W.Frag} {H : Hp} {q : Addr} {l : List Str} (h : SqT K H q (l.map V.str)) : Dp K H (.ref q) (dStrs l) := .tup h (dpAll_strs l)
theorem rep_flat {α : Type} (n : Nat) (v : α) : (List.replicate n [v]).flatten = List.replicate n v := by
  induction n with
  | zero => rfl
  | succ n ih => rw [List.replicate_succ, List.flatten_cons, ih]; rfl
theorem walk_zipT {K : PySem.W.Frag} {a b : Addr} {xs ys : List V} {n : Nat} (hn : n = min xs.length ys.length) : Walk (RZ.ItzT K a b) n (fun H => SqT K H a xs ∧ SqT K H b ys) (YPair (fun i => xs[i]?) (fun i => ys[i]?)) := by
  subst hn
  refine ⟨fun i _ hi q => ?_, fun _ q => ⟨xs, ys, q.1, q.2, by omega⟩, fun i H v H' _ q y => ?_⟩
  · have h1 : i < xs.length := by omega
    have h2 : i < ys.length := by omega
    exact ⟨xs, ys, xs[i], ys[i], q.1, q.2, by simp [h1], by simp [h2]⟩
  · obtain ⟨T, x, z, h1, h2, h3, h4, h5⟩ := y
    exact ⟨T, x, z, h1, h2, h3, h4 xs q.1, h5 ys q.2⟩
theorem str_get {os : List Str} {k : Nat} {x : V} (h : (os.map V.str)[k]? = some x) : ∃ z, os[k]? = some z ∧ x = .str z := by
  rw [List.getElem?_map] at h
  cases e : os[k]? with
  | none => rw [e] at h; cases h
  | some z => rw [e] at h; exact ⟨z, rfl, (Option.some.inj h).symm⟩
theorem int_get {os : List Int} {k : Nat} {x : V} (h : (os.map V.int)[k]? = some x) : ∃ z, os[k]? = some z ∧ x = .int z := by
  rw [List.getElem?_map] at h
  cases e : os[k]? with
  | none => rw [e] at h; cases h
  | some z => rw [e] at h; exact ⟨z, rfl, (Option.some.inj h).symm⟩
theorem joinM_get {xs ys : List Str} {i : Nat} {x y : Str} (hx : xs[i]? = some x) (hy : ys[i]? = some y) : (joinM xs ys)[i]? = some (if y = wSame then x else y) := by
  unfold joinM
  rw [List.getElem?_zipWith, hx, hy]
theorem ixN_nat {n j : Nat} (h : j < n) : ixN n (j : Int) = some j := by
  unfold ixN
  rw [if_pos (by omega), if_pos (by omega)]; rfl
theorem gen_heap {X : Hp} {R : Hp → Prop} (C : Hp → Prop) (hX : C X) (h : ∀ H', C H' → R H') : R X := h X hX
theorem gen_name {i : Nat} {v : V} {σ : L2.St} {X : Hp} {D : L2.St → Hp → Prop} (C : Hp → Prop) (hX : C X) (h : ∀ H', C H' → gName i v σ H' D) : gName i v σ X D := h X hX
theorem tyes {σ : L2.St} {H : Hp} {Q : Bool → Hp → Prop} (h : Q true H) : tYes σ H Q := h
theorem inV_ints {b : Int} (l : List Int) : inV (.int b) (l.map V.int) = decide (b ∈ l) := by
  unfold inV
  rw [List.any_map, Bool.eq_iff_iff, List.any_eq_true, decide_eq_true_eq]
  constructor
  · rintro ⟨x, hx, e⟩
    have e' : x = b := by simpa [eqV] using e
    rw [← e']; exact hx
  · intro h
    exact ⟨b, h, by simp [eqV]⟩
theorem flat_ints : ∀ l : List Int, (l.map V.int).all flatV = true
  | [] => rfl
  | x :: r => by rw [List.map_cons, List.all_cons, flat_ints r]; rfl
end Pr
namespace Pr
open PySem PySem.Spec PyProof.Rows L2
end Pr
namespace Pr
open PySem PySem.Spec PyProof.Rows L2
def PanT (K : PySem.W.Frag) (H : Hp) (p : Addr) (pan : List (List Int)) : Prop := ∃ qs : List Addr, SqT K H p (qs.map V.ref) ∧ Paired (fun q l => SqT K H q (l.map V.int)) qs pan
section
variable {K : PySem.W.Frag} {H H' : Hp} {p : Addr} {pan : List (List Int)}
theorem PanT.same (e : Same H H') (h : PanT K H p pan) : PanT K H' p pan :=
  let ⟨qs, h1, h2⟩ := h; ⟨qs, same_sqT e h1, h2.mono fun _ _ x => same_sqT e x⟩
theorem PanAt.t (h : PanAt H p pan) : PanT K H p pan :=
  let ⟨qs, h1, h2⟩ := h; ⟨qs, h1.sq, h2.mono fun _ _ x => x.sq⟩
theorem panT_at (h : PanT K H p pan) {b : Int} (h0 : 0 ≤ b) (h1 : b < (pan.length : Int)) :
    ∃ (qs : List Addr) (q : Addr), SqT K H p (qs.map V.ref) ∧ atI (qs.map V.ref) b = some (.ref q) ∧ SqT K H q ((pan.getD b.toNat []).map V.int) ∧ qs.length = pan.length := by
  obtain ⟨qs, hq, hqs⟩ := h
  obtain ⟨n, rfl⟩ : ∃ n : Nat, b = (n : Int) := ⟨b.toNat, (Int.toNat_of_nonneg h0).symm⟩
  have hn : n < pan.length := by omega
  obtain ⟨q', g1, g2⟩ := paired_get hqs n pan[n] (List.getElem?_eq_getElem hn)
  refine ⟨qs, q', hq, atI_nat (by rw [List.getElem?_map, g1]; rfl), ?_, hqs.length⟩
  rw [Int.toNat_natCast, List.getD_eq_getElem?_getD, List.getElem?_eq_getElem hn]
  exact g2
theorem PanT.len (h : PanT K H p pan) : ∃ xs : List V, SqT K H p xs ∧ xs.length = pan.length :=
  let ⟨qs, h1, h2⟩ := h; ⟨_, h1, by rw [List.length_map, h2.length]⟩
theorem dpAll_panT : ∀ {qs : List Addr} {pan : List (List Int)}, Paired (fun q l => SqT K H q (l.map V.int)) qs pan → DpAll K H (qs.map V.ref) (pan.map dInts)
  | _, _, .nil => .nil
  | _, _, .cons r t => .cons (dp_ints r) (dpAll_panT t)
theorem PanT.dp (h : PanT K H p pan) : Dp K H (.ref p) (dPan pan) := let ⟨_, h1, h2⟩ := h; .tup h1 (dpAll_panT h2)
end
end Pr
namespace Pr
open PySem PySem.Spec PyProof.Rows L2
def Rel (pan : List (List Int)) (st : List Int) (x y : Int) : Prop := x ∈ st ∧ y ∈ st ∧ y ∈ pan.getD x.toNat []
def Pth (pan : List (List Int)) (st : List Int) : Nat → Int → Int → Prop
  | 0, x, y => x = y
  | m + 1, x, y => ∃ z, Rel pan st x z ∧ Pth pan st m z y
section
variable {pan : List (List Int)} {st : List Int}
theorem Pth.join : ∀ {a b : Nat} {x y z : Int}, Pth pan st a x y → Pth pan st b y z → Pth pan st (a + b) x z
  | 0, b, x, y, z, h1, h2 => by rw [Nat.zero_add]; rw [show x = y from h1]; exact h2
  | a + 1, b, x, y, z, ⟨u, r, h1⟩, h2 => by
    rw [show a + 1 + b = (a + b) + 1 by omega]
    exact ⟨u, r, Pth.join h1 h2⟩
theorem Pth.split : ∀ {a b : Nat} {x z : Int}, Pth pan st (a + b) x z → ∃ y, Pth pan st a x y ∧ Pth pan st b y z
  | 0, b, x, z, h => ⟨x, rfl, by rw [Nat.zero_add] at h; exact h⟩
  | a + 1, b, x, z, h => by
    rw [show a + 1 + b = (a + b) + 1 by omega] at h
    obtain ⟨u, r, h⟩ := h
    obtain ⟨y, h1, h2⟩ := Pth.split h
    exact ⟨y, ⟨u, r, h1⟩, h2⟩
theorem Pth.one {x y : Int} (r : Rel pan st x y) : Pth pan st 1 x y := ⟨y, r, rfl⟩
theorem Pth.ends : ∀ {m : Nat} {x y : Int}, Pth pan st (m + 1) x y → x ∈ st ∧ y ∈ st
  | 0, x, y, ⟨z, r, h⟩ => ⟨r.1, by rw [← show z = y from h]; exact r.2.1⟩
  | m + 1, x, y, ⟨z, r, h⟩ => ⟨r.1, (Pth.ends h).2⟩
end
def Closed (pan : List (List Int)) (C : List Int) : Prop := ∀ b ∈ C, ∃ c ∈ pan.getD b.toNat [], c ∈ C
structure IsHeld (pan : List (List Int)) (st hs : List Int) : Prop where
  up : hs.Pairwise (· < ·)
  sub : ∀ x ∈ hs, x ∈ st
  closed : Closed pan hs
  most : ∀ C : List Int, Closed pan C → (∀ x ∈ C, x ∈ st) → ∀ x ∈ C, x ∈ hs
def relB (pan : List (List Int)) (os : List Int) (b : Int) : Bool := (pan.getD b.toNat []).any fun c => decide (c ∈ os)
theorem relB_iff {pan : List (List Int)} {os : List Int} {b : Int} : relB pan os b = true ↔ ∃ c ∈ pan.getD b.toNat [], c ∈ os := by
  unfold relB
  rw [List.any_eq_true]
  exact ⟨fun ⟨c, h1, h2⟩ => ⟨c, h1, of_decide_eq_true h2⟩, fun ⟨c, h1, h2⟩ => ⟨c, h1, decide_eq_true h2⟩⟩
/-- on the way to the held buttons -/
structure Hold (pan : List (List Int)) (st hs : List Int) : Prop where
  up : hs.Pairwise (· < ·)
  sub : ∀ x ∈ hs, x ∈ st
  most : ∀ C : List Int, Closed pan C → (∀ x ∈ C, x ∈ st) → ∀ x ∈ C, x ∈ hs
theorem Hold.step {pan : List (List Int)} {st hs : List Int} (h : Hold pan st hs) : Hold pan st (hs.filter (relB pan hs)) := by
  refine ⟨h.up.filter _, fun x hx => h.sub x (List.mem_filter.mp hx).1, fun C hC hs' x hx => List.mem_filter.mpr ⟨h.most C hC hs' x hx, relB_iff.mpr ?_⟩⟩
  obtain ⟨c, h1, h2⟩ := hC x hx
  exact ⟨c, h1, h.most C hC hs' c h2⟩
theorem Hold.done {pan : List (List Int)} {st hs : List Int} (h : Hold pan st hs) (hl : ¬ (hs.filter (relB pan hs)).length < hs.length) : IsHeld pan st hs := by
  have e : (hs.filter (relB pan hs)).length = hs.length := Nat.le_antisymm (List.length_filter_le _ _) (by omega)
  exact ⟨h.up, h.sub, fun b hb => relB_iff.mp (List.length_filter_eq_length_iff.mp e b hb), h.most⟩
/-- rows[x] holds the ends of ways of at most 2 ^ k links, and ends of ways only -/
structure Rch (pan : List (List Int)) (st : List Int) (k : Nat) (rows : List (List Int)) : Prop where
  len : rows.length = pan.length
  sound : ∀ (x : Nat) (l : List Int) (y : Int), rows[x]? = some l → y ∈ l → ∃ m, 1 ≤ m ∧ Pth pan st m (x : Int) y
  full : ∀ (x : Nat) (l : List Int) (y : Int) (m : Nat), rows[x]? = some l → 1 ≤ m → m ≤ 2 ^ k → Pth pan st m (x : Int) y → y ∈ l
theorem Rch.rng {pan : List (List Int)} {st : List Int} {k : Nat} {rows : List (List Int)} (h : Rch pan st k rows) (hs : ∀ x ∈ st, 0 ≤ x ∧ x < (pan.length : Int)) {x : Nat} {l : List Int} (hl : rows[x]? = some l) {y : Int} (hy : y ∈ l) : 0 ≤ y ∧ y < (pan.length : Int) := by
  obtain ⟨m, hm, p⟩ := h.sound x l y hl hy
  obtain ⟨m, rfl⟩ : ∃ k, m = k + 1 := ⟨m - 1, by omega⟩
  exact hs y (Pth.ends p).2
end Pr
namespace K52
open PySem PySem.Spec PyProof.Rows L2 Pr
def topS (i : Nat) : Stmt := PySem.Challenge.pw_pressrelease_k52_desks_read.main.body.getD i (.Pass ⟨0, 0, 0, 0⟩)
abbrev sNo : Stmt := topS 14
abbrev sPressE : Stmt := topS 15
abbrev sJoin : Stmt := topS 16
abbrev sWith : Stmt := topS 17
abbrev sBtn : Stmt := topS 19
abbrev sBtnT : Stmt := topS 20
abbrev sPErr : Stmt := topS 21
abbrev sPress : Stmt := topS 22
abbrev sAny : Stmt := topS 24
abbrev sHeld : Stmt := topS 25
abbrev sWordsOf : Stmt := topS 27
abbrev sByText : Stmt := topS 28
abbrev sPList : Stmt := topS 29
abbrev sParse : Stmt := topS 30
abbrev sChkP : Stmt := topS 32
abbrev sChkS : Stmt := topS 33
abbrev sChkB : Stmt := topS 34
abbrev sKAft : Stmt := topS 36
abbrev sDeck : Stmt := topS 41
abbrev sDraw : Stmt := topS 42
abbrev sPanel : Stmt := topS 43
abbrev sRight : Stmt := topS 44
abbrev sNum : Stmt := topS 45
abbrev sLList : Stmt := topS 46
abbrev sDue : Stmt := topS 47
abbrev sLPanT : Stmt := topS 48
abbrev sRead : Stmt := topS 49
abbrev sLaw : Stmt := topS 50
theorem scDeck : FnScope ["_law_script", "_law_cell"] ["_law_script"] (defScope sDeck) := ⟨rfl, rfl, rfl, by decide +kernel, rfl, by decide +kernel, by decide +kernel⟩
theorem scDraw : FnScope ["_law_deck_here", "_law_many", "_law_cell", "_law_place"] ["_law_deck_here", "_law_many"] (defScope sDraw) := ⟨rfl, rfl, rfl, by decide +kernel, rfl, by decide +kernel, by decide +kernel⟩
theorem cut_ints (ns : List Int) (lo hi : Option Int) : ∃ ms : List Int, cutV (ns.map V.int) lo hi = ms.map V.int ∧ ms.length ≤ ns.length := by
  refine ⟨(ns.drop (HT.sIx ns.length 0 lo)).take (HT.sIx ns.length ns.length hi - HT.sIx ns.length 0 lo), ?_, ?_⟩
  · unfold cutV
    rw [List.length_map, List.map_take, List.map_drop]
  · rw [List.length_take, List.length_drop]; omega
section
variable {P : Program} {w : World} {K : PySem.W.Frag} {mg : Str → Option Value} {base : Heap}
def spDeck (K : PySem.W.Frag) : Sp := fun vs H Q _ => ∃ (s : Addr) (ns : List Int), vs = [.ref s] ∧ SqL K H s (ns.map V.int) ∧ ns.length ≤ 63 ∧
  ∀ H' a c, Same H H' → Deck H' a c 1000000 → Q (.ref a) H'
theorem ok_deck {f : Addr} {fd : FuncData} {k : Nat} (F : Fun K "_law_deck" "_law_deck" sDeck f fd) (ma : mg "abs" = none) : FnOk P w K mg base CX0 (k + 1) f fd ["_law_script"] (spDeck K) := by
  refine F.ok scDeck (fun vs H Q E h => ?_) (fun cdv A outer s H vs Q E hr h => ?_)
  · obtain ⟨s, ns, rfl, _⟩ := h
    rfl
  · obtain ⟨sa, ns, rfl, hS, hlen, q⟩ := h
    refine ⟨_, pss_one (ps_ret (pe_lst (pa_cons
      (pe_lc (own := [("_law_cell", 1)]) (g := gName 1) (tt := tYes) rfl scDeck.nd (pi_list (pe_slice sl_list (pv 0) po_none (po_some pe_int)))
        (blkOk_by (own := [("_law_cell", 1)]) (N := ["_law_script", "_law_cell"]) (sc := defScope sDeck) (by decide +kernel))
        (fun _ _ _ _ _ => pg_name (i := 1) scDeck.nd rfl (Or.inl rfl)) (fun _ _ _ _ _ => pts_nil)
        (fun _ _ _ _ _ => pe_callB call_abs (by rfl) ma (by decide +kernel) (pa_cons (pv 1) pa_nil)))
      (pa_cons pe_int pa_nil)))), ?_⟩
    refine ⟨.ref sa, rfl, 63, rfl, sa, ns.map V.int, rfl, hS, fun l nl => ?_⟩
    obtain ⟨ms, em, lm⟩ := cut_ints ns none (some 63)
    rw [em]
    have s1 : Same H (upd H l (.lst (ms.map V.int))) := same_new nl
    refine ⟨l, rfl, ⟨_, .inl (.inl upd_same)⟩, fun D nD => ?_⟩
    refine lc_list (xs := ms.map V.int) (fun i H3 => Same (upd H l (.lst (ms.map V.int))) H3 ∧ ∃ cells : List Int, cells.length = i ∧ H3 D = some (.lst (cells.map V.int)))
      ⟨same_new nD, [], rfl, upd_same⟩ (fun i H3 _ hP => hP.1.seq (.inl (.inl upd_same))) (fun i x H3 hx hP => ?_) (fun H3 hP => ?_)
    · obtain ⟨sm, cells, hc, eD⟩ := hP
      rw [List.getElem?_map] at hx
      obtain ⟨z, hz, rfl⟩ : ∃ z, ms[i]? = some z ∧ x = V.int z := by
        cases e : ms[i]? with
        | none => rw [e] at hx; cases hx
        | some z => rw [e] at hx; exact ⟨z, rfl, (Option.some.inj hx).symm⟩
      have hi : i < ms.length := (List.getElem?_eq_some_iff.mp hz).1
      refine ⟨rfl, tyes (iteT ⟨_, rfl, _, rfl, cells.map V.int, eD, ?_, ?_, cells ++ [if z < 0 then -z else z], ?_, ?_⟩)⟩
      · rw [List.length_map]; exact small1000 (by omega)
      · intro b o e
        rw [upd_ne (ne_of_none e nD)]
        exact sm _ _ e
      · rw [List.length_append, hc]; rfl
      · rw [upd_same, List.map_append]; rfl
    · obtain ⟨sm, cells, hc, eD⟩ := hP
      rw [List.length_map] at hc
      refine ⟨by show 2 ≤ sizeLine; decide, fun p np => ?_⟩
      have nDp : D ≠ p := ne_of_none eD np
      refine q _ p D ((s1.trans sm).trans (same_new np)) ⟨cells, 0, upd_same, ?_, Ne.symm nDp, by omega, by omega⟩
      rw [upd_ne nDp]; exact eD
def spDraw : Sp := fun vs H Q _ => ∃ (a c : Addr) (m : Nat) (lim : Int), vs = [.ref a, .int lim] ∧ Deck H a c (m + 1) ∧ 0 < lim ∧ lim < 1000000 ∧
  ∀ H' r, But a c H H' → Deck H' a c m → 0 ≤ r → r < lim → Q (.int r) H'
theorem ok_draw {f : Addr} {fd : FuncData} {k : Nat} (F : Fun K "_law_draw" "_law_draw" sDraw f fd) (ml : mg "len" = none) : FnOk P w K mg base CX0 (k + 1) f fd ["_law_deck_here", "_law_many"] spDraw := by
  refine F.ok scDraw (fun vs H Q E h => ?_) (fun cdv A outer s H vs Q E hr h => ?_)
  · obtain ⟨a, c, m, lim, rfl, _⟩ := h
    rfl
  · obtain ⟨a, c, m, lim, rfl, hD, l0, l1, q⟩ := h
    refine ⟨_, pss_cons (ps_asg (pe_op op_add (pe_ix ix_list (pv 0) pe_int (fun _ _ => rfl)) pe_int) (pg_sub (pv 0) pe_int set_list))
      (pss_cons (ps_set (i := 2) scDraw.nd rfl (.inl rfl) pe_int)
      (pss_cons (ps_set (i := 3) scDraw.nd rfl (.inl rfl) (pe_un un_neg pe_int))
      (pss_cons (ps_if (pt_cmpR op_gt (pe_callB call_len_seq (by rfl) ml PySem.boot_len (pa_cons (pe_ix ix_list (pv 0) pe_int (fun _ _ => rfl)) pa_nil)) pe_int (nomark _))
        (pss_cons (ps_set (i := 3) scDraw.nd rfl (.inl rfl) (pe_op op_mod (pe_ix ix_list (pv 0) pe_int (fun _ _ => rfl)) (pe_callB call_len_seq (by rfl) ml PySem.boot_len (pa_cons (pe_ix ix_list (pv 0) pe_int (fun _ _ => rfl)) pa_nil))))
          (pss_one (ps_set (i := 2) scDraw.nd rfl (.inl rfl) (pe_ix ix_list (pe_ix ix_list (pv 0) pe_int (fun _ _ => rfl)) (pv 3) (fun _ _ => rfl)))))
        pss_nil)
      (pss_cons (ps_if (pt_cmpR op_ge (pv 2) (pe_op op_pow pe_int pe_int) (nomark _))
        (pss_cons (ps_asg (pe_op op_fdiv (pv 2) (pv 1)) (pg_sub (pe_ix ix_list (pv 0) pe_int (fun _ _ => rfl)) (pv 3) set_list))
          (pss_one (ps_ret (pe_op op_mod (pv 2) (pv 1)))))
        pss_nil)
      (pss_one (ps_ret (pe_op op_mod (pe_op op_mod (pe_op op_pow (pe_op op_add (pe_op op_add (pe_op op_mod (pv 2) pe_int) (pe_op op_mul pe_int (pe_ix ix_list (pv 0) pe_int (fun _ _ => rfl)))) pe_int) pe_int) pe_int) (pv 1)))))))), ?_⟩
    obtain ⟨cells, n, ha, hc, nac, hlen, hn⟩ := hD
    refine ⟨.ref a, rfl, a, _, 1, .int n, rfl, rfl, .inl (.inl ha), atI_nat (j := 1) rfl, n, 1, rfl, rfl, .ref a, rfl, a, _, 1, 1, rfl, rfl, ha, rfl, ?_⟩
    refine gen_heap (fun H1 => H1 a = some (.lst [.ref c, .int ((n : Int) + 1)]) ∧ H1 c = some (.lst (cells.map V.int)) ∧ But a c H H1) ⟨upd_same, by rw [upd_ne (Ne.symm nac)]; exact hc, fun b o h1 _ e => by rw [upd_ne h1]; exact e⟩ fun H1 ⟨ha1, hc1, b1⟩ => ?_
    refine ⟨1, rfl, ?_⟩
    have ha2 := ha1
    have hc2 := hc1
    have b2 := b1
    have hcs : SqL K H1 c (cells.map V.int) := .inl (.inl hc2)
    have has : SqL K H1 a [.ref c, .int ((n : Int) + 1)] := .inl (.inl ha2)
    -- the end of the walk, from any cell
    have fin : ∀ (z ix : Int) (j : Nat), (10 ^ 18 ≤ z → ixN cells.length ix = some j) →
        tSeq (tIfS (tTest (tOp (rI0 fun i j => V.bl (decide (j ≤ i))) (tVar 2) (tOp (rI CPow fun i j => V.int (i ^ j.toNat)) (tC (V.int 10)) (tC (V.int 18)))))
          (tSeq (tAsg (tOp (rI CDiv fun i j => V.int (i / j)) (tVar 2) (tVar 1)) (gSub (tOp (rIxL K) (tVar 0) (tC (V.int 0))) (tVar 3) rSetL))
            (tRet (tOp (rI (fun x j => 0 < j) fun i j => V.int (i % j)) (tVar 2) (tVar 1)))) tNext)
        (tRet (tOp (rI (fun x j => 0 < j) fun i j => V.int (i % j)) (tOp (rI (fun x j => 0 < j) fun i j => V.int (i % j)) (tOp (rI CPow fun i j => V.int (i ^ j.toNat))
          (tOp (rI0 fun i j => V.int (i + j)) (tOp (rI0 fun i j => V.int (i + j)) (tOp (rI (fun x j => 0 < j) fun i j => V.int (i % j)) (tVar 2) (tC (V.int 2147483587)))
            (tOp (rI CMul fun i j => V.int (i * j)) (tC (V.int 7919)) (tOp (rIxL K) (tVar 0) (tC (V.int 1))))) (tC (V.int 1))) (tC (V.int 5))) (tC (V.int 2147483647))) (tVar 1)))
        { nx := fun _ H' => Q .non H', rt := Q } [some (.ref a), some (.int lim), some (.int z), some (.int ix)] H1 := by
      intro z ix j hj
      refine ⟨.int z, rfl, 10, 18, rfl, rfl, ⟨by decide, by decide, by decide⟩, z, _, rfl, rfl, _, rfl, ite2 (fun e => ?_) (fun e => ?_)⟩
      · have ez : (10 : Int) ^ 18 ≤ z := of_decide_eq_true e
        refine ⟨.int z, rfl, .int lim, rfl, z, lim, rfl, rfl, ⟨l0, by omega⟩, .ref a, rfl, a, _, 0, .ref c, rfl, rfl, has, rfl, .int ix, rfl, c, _, ix, j, rfl, rfl, hc2, by rw [List.length_map]; exact hj ez,
          .int z, rfl, .int lim, rfl, z, lim, rfl, rfl, l0, ?_⟩
        refine q _ _ (b2.trans fun b o _ h2 e => by rw [upd_ne h2]; exact e) ⟨cells.set j (z / lim), n + 1, ?_, ?_, nac, by rw [List.length_set]; exact hlen, by omega⟩ (Int.emod_nonneg _ (by omega)) (Int.emod_lt_of_pos _ l0)
        · rw [upd_ne nac, ha2]; rfl
        · rw [upd_same, List.map_set]
      · have m1 : 0 ≤ z % 2147483587 := Int.emod_nonneg _ (by decide)
        have m2 : z % 2147483587 < 2147483587 := Int.emod_lt_of_pos _ (by decide)
        refine ⟨.int z, rfl, z, 2147483587, rfl, rfl, (by show (0 : Int) < 2147483587; decide), .ref a, rfl, a, _, 1, .int ((n : Int) + 1), rfl, rfl, has, rfl, 7919, (n : Int) + 1, rfl, rfl, .inl ⟨by decide, by decide⟩, _, _, rfl, rfl, _, 1, rfl, rfl, _, 5, rfl, rfl, ⟨by decide, by decide, ?_⟩,
          _, 2147483647, rfl, rfl, (by show (0 : Int) < 2147483647; decide), .int lim, rfl, _, lim, rfl, rfl, l0, ?_⟩
        · omega
        · exact q _ _ b2 ⟨cells, n + 1, by rw [ha2]; rfl, hc2, nac, hlen, by omega⟩ (Int.emod_nonneg _ (by omega)) (Int.emod_lt_of_pos _ l0)
    refine ⟨.ref a, rfl, a, _, 0, .ref c, rfl, rfl, has, rfl, c, _, rfl, .inl hcs, _, 0, rfl, rfl, _, rfl, ite2 (fun e => ?_) (fun e => ?_)⟩
    · have ez : (0 : Int) < ((cells.map V.int).length : Int) := of_decide_eq_true e
      rw [List.length_map] at ez
      have l2 := Int.emod_nonneg ((n : Int) + 1) (show ((cells.length : Int)) ≠ 0 by omega)
      have l3 := Int.emod_lt_of_pos ((n : Int) + 1) ez
      obtain ⟨j, hj⟩ : ∃ j : Nat, ((n : Int) + 1) % (cells.length : Int) = (j : Int) := ⟨_, (Int.toNat_of_nonneg l2).symm⟩
      have hjl : j < cells.length := by omega
      have gj : (cells.map V.int)[j]? = some (.int cells[j]) := by rw [List.getElem?_map, List.getElem?_eq_getElem hjl]; rfl
      refine ⟨.ref a, rfl, a, _, 1, .int ((n : Int) + 1), rfl, rfl, has, rfl, .ref a, rfl, a, _, 0, .ref c, rfl, rfl, has, rfl, c, _, rfl, .inl hcs, _, _, rfl, rfl, by rw [List.length_map]; exact ez, ?_⟩
      refine ⟨.ref a, rfl, a, _, 0, .ref c, rfl, rfl, has, rfl, _, rfl, c, _, _, _, rfl, rfl, hcs, by rw [List.length_map, hj]; exact atI_nat gj, ?_⟩
      rw [List.length_map]
      refine fin _ (((n : Int) + 1) % (cells.length : Int)) j fun _ => ?_
      rw [hj]
      unfold ixN
      rw [if_pos (by omega), if_pos (by omega)]; rfl
    · refine fin 0 (-1) 0 fun h => ?_
      exact absurd h (by decide)
end
end K52
namespace Pr
open PySem PySem.Spec PyProof.Rows L2
mutual
inductive Dq (K : PySem.W.Frag) (N : Addr → Prop) (H : Hp) : V → PyData → Prop
  | non : Dq K N H .non .none
  | bl (b : Bool) : Dq K N H (.bl b) (.bool b)
  | int (i : Int) : Dq K N H (.int i) (.int i)
  | str (x : Str) : Dq K N H (.str x) (.str x)
  | lst {l : Addr} {xs : List V} {ds : List PyData} : l ≠ sysModules → ¬ N l → H l = some (.lst xs) → DqAll K N H xs ds → Dq K N H (.ref l) (.list ds)
  | tup {l : Addr} {xs : List V} {ds : List PyData} : SqT K H l xs → DqAll K N H xs ds → Dq K N H (.ref l) (.tuple ds)
  | dct0 {l : Addr} : H l = some (.dK []) → Dq K N H (.ref l) (.dict [])
  | dct1 {l : Addr} {x : Str} {i : Int} : H l = some (.dK [(Sum.inr x, .int i)]) → Dq K N H (.ref l) (.dict [(.str x, .int i)])
inductive DqAll (K : PySem.W.Frag) (N : Addr → Prop) (H : Hp) : List V → List PyData → Prop
  | nil : DqAll K N H [] []
  | cons {v : V} {vs : List V} {d : PyData} {ds : List PyData} : Dq K N H v d → DqAll K N H vs ds → DqAll K N H (v :: vs) (d :: ds)
end
section
variable {K : PySem.W.Frag} {N : Addr → Prop} {a c : Addr} {H H' : Hp}
theorem DqAll.length : ∀ {vs : List V} {ds : List PyData}, DqAll K N H vs ds → vs.length = ds.length
  | _, _, .nil => rfl
  | _, _, .cons _ t => by rw [List.length_cons, List.length_cons, t.length]
theorem DqAll.append : ∀ {vs us : List V} {ds es : List PyData}, DqAll K N H vs ds → DqAll K N H us es → DqAll K N H (vs ++ us) (ds ++ es)
  | _, _, _, _, .nil, h => h
  | _, _, _, _, .cons r t, h => .cons r (t.append h)
theorem DqAll.get : ∀ {vs : List V} {ds : List PyData}, DqAll K N H vs ds → ∀ (i : Nat) (v : V), vs[i]? = some v → ∃ d, ds[i]? = some d ∧ Dq K N H v d
  | _, _, .nil, i, v, h => by simp at h
  | _, _, .cons r t, 0, v, h => by simp at h; subst h; exact ⟨_, rfl, r⟩
  | _, _, .cons r t, i + 1, v, h => by
    obtain ⟨d, h1, h2⟩ := t.get i v (by simpa using h)
    exact ⟨d, by simpa using h1, h2⟩
theorem DqAll.take : ∀ (n : Nat) {vs : List V} {ds : List PyData}, DqAll K N H vs ds → DqAll K N H (vs.take n) (ds.take n)
  | 0, _, _, _ => by simpa using DqAll.nil
  | n + 1, _, _, .nil => .nil
  | n + 1, _, _, .cons r t => .cons r (t.take n)
theorem DqAll.drop : ∀ (n : Nat) {vs : List V} {ds : List PyData}, DqAll K N H vs ds → DqAll K N H (vs.drop n) (ds.drop n)
  | 0, _, _, h => h
  | n + 1, _, _, .nil => .nil
  | n + 1, _, _, .cons r t => t.drop n
theorem DqAll.rep (n : Nat) {vs : List V} {ds : List PyData} (h : DqAll K N H vs ds) : DqAll K N H (List.replicate n vs).flatten (List.replicate n ds).flatten := by
  induction n with
  | zero => exact .nil
  | succ n ih => rw [List.replicate_succ, List.replicate_succ, List.flatten_cons, List.flatten_cons]; exact h.append ih
theorem dqAll_ints : ∀ l : List Int, DqAll K N H (l.map V.int) (l.map PyData.int)
  | [] => .nil
  | x :: r => .cons (.int x) (dqAll_ints r)
theorem dq_ints {q : Addr} {l : List Int} (h : SqT K H q (l.map V.int)) : Dq K N H (.ref q) (dInts l) := .tup h (dqAll_ints l)
mutual
theorem Dq.keep (hs : ∀ l o, ¬ N l → H l = some o → H' l = some o) (ht : ∀ l xs, SqT K H l xs → SqT K H' l xs) (hk : ∀ l kvs, H l = some (.dK kvs) → H' l = some (.dK kvs)) : ∀ (d : PyData) (v : V), Dq K N H v d → Dq K N H' v d
  | .none, _, h => by cases h; exact .non
  | .bool b, _, h => by cases h; exact .bl b
  | .int i, _, h => by cases h; exact .int i
  | .str x, _, h => by cases h; exact .str x
  | .list ds, _, h => by
    cases h with
    | lst h1 h2 e q => exact .lst h1 h2 (hs _ _ h2 e) (Dq.keepAll hs ht hk ds _ q)
  | .tuple ds, _, h => by
    cases h with
    | tup e q => exact .tup (ht _ _ e) (Dq.keepAll hs ht hk ds _ q)
  | .dict kvs, _, h => by
    cases h with
    | dct0 e => exact .dct0 (hk _ _ e)
    | dct1 e => exact .dct1 (hk _ _ e)
theorem Dq.keepAll (hs : ∀ l o, ¬ N l → H l = some o → H' l = some o) (ht : ∀ l xs, SqT K H l xs → SqT K H' l xs) (hk : ∀ l kvs, H l = some (.dK kvs) → H' l = some (.dK kvs)) : ∀ (ds : List PyData) (vs : List V), DqAll K N H vs ds → DqAll K N H' vs ds
  | [], _, h => by cases h; exact .nil
  | d :: ds, _, h => by
    cases h with
    | cons r t => exact .cons (Dq.keep hs ht hk d _ r) (Dq.keepAll hs ht hk ds _ t)
end
mutual
theorem Dq.same (e : Same H H') : ∀ (d : PyData) (v : V), Dq K N H v d → Dq K N H' v d
  | .none, _, h => by cases h; exact .non
  | .bool b, _, h => by cases h; exact .bl b
  | .int i, _, h => by cases h; exact .int i
  | .str x, _, h => by cases h; exact .str x
  | .list ds, _, h => by
    cases h with
    | lst h1 h2 q r => exact .lst h1 h2 (e _ _ q) (Dq.sameAll e ds _ r)
  | .tuple ds, _, h => by
    cases h with
    | tup q r => exact .tup (same_sqT e q) (Dq.sameAll e ds _ r)
  | .dict kvs, _, h => by
    cases h with
    | dct0 q => exact .dct0 (e _ _ q)
    | dct1 q => exact .dct1 (e _ _ q)
theorem Dq.sameAll (e : Same H H') : ∀ (ds : List PyData) (vs : List V), DqAll K N H vs ds → DqAll K N H' vs ds
  | [], _, h => by cases h; exact .nil
  | d :: ds, _, h => by
    cases h with
    | cons r t => exact .cons (Dq.same e d _ r) (Dq.sameAll e ds _ t)
end
/-- its built-in type -/
def tyD : PyData → String
  | .none => "NoneType"
  | .bool _ => "bool"
  | .int _ => "int"
  | .str _ => "str"
  | .list _ => "list"
  | .tuple _ => "tuple"
  | .dict _ => "dict"
theorem tyT {l : Addr} {xs : List V} (h : SqT K H l xs) : TyX K H (.ref l) (.type "tuple") := by
  rcases h with (h | ⟨o, h⟩) | ⟨o, its, n, h, hc, _⟩
  · exact .base (.tup h)
  · exact .fTuple h
  · exact .kTuple h hc
theorem Dq.ty {v : V} {d : PyData} (h : Dq K N H v d) : TyX K H v (.type (tyD d)) := by
  cases h with
  | non => exact .base .non
  | bl b => exact .base (.bl b)
  | int i => exact .base (.int i)
  | str x => exact .base (.str x)
  | lst _ _ e _ => exact .base (.lst e)
  | tup e _ => exact tyT e
  | dct0 e => exact .base (.dK e)
  | dct1 e => exact .base (.dK e)
end
section
variable {X : Cx} {pins : List (Addr × Obj)} {σ : L2.St} {H : Hp} {s : Shared} {N : Addr → Prop}
mutual
theorem Dq.reads (I : Inv X pins σ H s) : ∀ (d : PyData) (v : V) (u : Value), Dq X.K N H v d → RelV v u → ∃ as, Reads s.heap u d as ∧ sysModules ∉ as
  | .none, _, _, h, r => by
    cases h; cases r; exact ⟨_, Reads.none, by simp⟩
  | .bool b, _, _, h, r => by
    cases h; cases r; exact ⟨_, Reads.bool b, by simp⟩
  | .int i, _, _, h, r => by
    cases h; obtain ⟨t, rfl⟩ := r; exact ⟨_, Reads.int i t, by simp⟩
  | .str x, _, _, h, r => by
    cases h; obtain ⟨t, rfl⟩ := r; exact ⟨_, Reads.str x t, by simp⟩
  | .list ds, _, _, h, r => by
    cases h with
    | lst h1 _ hs ha =>
      cases r
      obtain ⟨_, its, n, rv, ho⟩ := I.hok _ _ hs
      obtain ⟨as, hr, hn⟩ := Dq.readsAll I ds _ its ha rv
      exact ⟨_, Reads.list ho rfl rfl hr, by simp [hn, Ne.symm h1]⟩
  | .tuple ds, _, _, h, r => by
    cases h with
    | tup hs ha =>
      cases r
      obtain ⟨its, rv, ⟨o, ho, hc, n, hd⟩, _⟩ := I.tuple hs
      obtain ⟨as, hr, hn⟩ := Dq.readsAll I ds _ its ha rv
      exact ⟨_, Reads.tuple ho hc hd hr, hn⟩
  | .dict _, _, _, h, r => by
    cases h with
    | dct0 e =>
      cases r
      obtain ⟨_, ns, vs, kv, o, es, ep, ho, hc, hd, _, hp, _⟩ := I.hok _ _ e
      cases kv
      have he : es.toList = [] := by cases hes : es.toList with
        | nil => rfl
        | cons x y => rw [hes] at hp; cases hp
      have ns' := of_decide_eq_false (show decide (_ = sysModules) = false by simpa using ns)
      refine ⟨_, Reads.dict (kvs := []) ho hc.1 hd (by rw [he]; exact .nil) (by rw [he]; exact .nil), ?_⟩
      simp [Ne.symm ns']
    | @dct1 l x i e =>
      cases r
      obtain ⟨_, ns, vs, kv, o, es, ep, ho, hc, hd, _, hp, _⟩ := I.hok _ _ e
      cases kv with
      | @cons p q l1 l2 kq kr =>
        cases kr
        obtain ⟨h1, t, h2⟩ := kq
        obtain ⟨en, he, hk, hv⟩ : ∃ en, es.toList = [en] ∧ keyIs q.1 en.key = true ∧ en.val = q.2 := by
          cases hes : es.toList with
          | nil => rw [hes] at hp; cases hp
          | cons x y =>
            rw [hes] at hp
            cases hp with
            | cons p1 p2 p3 => cases p3; exact ⟨x, rfl, p1, p2⟩
        have h1' : (Sum.inr x : Key) = q.1 := h1
        rw [← h1'] at hk
        obtain ⟨t', hk'⟩ := Value.isStrOf_shape (show Value.isStrOf x en.key = true from hk)
        have ns' := of_decide_eq_false (show decide (_ = sysModules) = false by simpa using ns)
        refine ⟨_, Reads.dict (kvs := [(.str x, .int i)]) ho hc.1 hd (as := [] ++ []) (bs := [] ++ []) ?_ ?_, ?_⟩
        · rw [he]; show ReadsAll _ [en.key] _ _; rw [hk']; exact .cons (.str x t') .nil
        · rw [he]; show ReadsAll _ [en.val] _ _; rw [hv, h2]; exact .cons (.int i t) .nil
        · simp [Ne.symm ns']
theorem Dq.readsAll (I : Inv X pins σ H s) : ∀ (ds : List PyData) (vs : List V) (us : List Value), DqAll X.K N H vs ds → Vals vs us → ∃ as, ReadsAll s.heap us ds as ∧ sysModules ∉ as
  | [], _, _, h, r => by
    cases h; cases r; exact ⟨_, ReadsAll.nil, by simp⟩
  | d :: ds, _, _, h, r => by
    cases h with
    | cons h1 h2 =>
      cases r with
      | cons r1 r2 =>
        obtain ⟨as, q1, n1⟩ := Dq.reads I d _ _ h1 r1
        obtain ⟨bs, q2, n2⟩ := Dq.readsAll I ds _ _ h2 r2
        exact ⟨_, ReadsAll.cons q1 q2, by simp [n1, n2]⟩
end
end
structure Shq (dep n : Nat) (d : PyData) : Prop where
  sh : d.showable = true
  dp : d.depth ≤ dep
  ln : d.shown.length ≤ n
theorem Shq.mono {dep dep' n n' : Nat} {d : PyData} (h : Shq dep n d) (h1 : dep ≤ dep') (h2 : n ≤ n') : Shq dep' n' d := ⟨h.sh, Nat.le_trans h.dp h1, Nat.le_trans h.ln h2⟩
theorem shqAll {dep n : Nat} : ∀ {ds : List PyData}, (∀ d ∈ ds, Shq dep n d) → PyData.showableAll ds = true ∧ PyData.depthAll ds ≤ dep
  | [], _ => ⟨by simp only [PyData.showableAll], by simp [PyData.depthAll]⟩
  | d :: r, h => by
    obtain ⟨h1, h3⟩ := shqAll (ds := r) fun x hx => h x (List.mem_cons_of_mem _ hx)
    have g := h d List.mem_cons_self
    refine ⟨by simp only [PyData.showableAll, g.sh, h1, Bool.and_self], ?_⟩
    simp only [PyData.depthAll]
    exact Nat.max_le.mpr ⟨g.dp, h3⟩
theorem Shq.tuple {dep n m : Nat} {ds : List PyData} (h : ∀ d ∈ ds, Shq dep n d) (hm : ds.length ≤ m) : Shq (dep + 1) (m * (n + 2) + 3) (.tuple ds) := by
  obtain ⟨h1, h3⟩ := shqAll h
  refine ⟨by simp only [PyData.showable, h1], by simp only [PyData.depth]; omega, ?_⟩
  simp only [PyData.shown]
  rw [shownAll_map]
  have a1 := tupleText_len (ds.map PyData.shown)
  have a2 := piled_le fun d hd => (h d hd).ln
  have a3 : ds.length * (n + 2) ≤ m * (n + 2) := Nat.mul_le_mul_right _ hm
  omega
theorem Shq.list {dep n m : Nat} {ds : List PyData} (h : ∀ d ∈ ds, Shq dep n d) (hm : ds.length ≤ m) : Shq (dep + 1) (m * (n + 2) + 3) (.list ds) := by
  obtain ⟨h1, h3⟩ := shqAll h
  refine ⟨by simp only [PyData.showable, h1], by simp only [PyData.depth]; omega, ?_⟩
  simp only [PyData.shown]
  rw [shownAll_map]
  have a1 := listText_len (ds.map PyData.shown)
  have a2 := piled_le fun d hd => (h d hd).ln
  have a3 : ds.length * (n + 2) ≤ m * (n + 2) := Nat.mul_le_mul_right _ hm
  omega
def rReprQ (K : PySem.W.Frag) : List V → Hp → VK → Prop := fun xs H Q => ∃ (N : Addr → Prop) (v : V) (d : PyData), xs = [v] ∧ Dq K N H v d ∧ Shq 60 sizeLine d ∧ Q (.str d.shown) H
theorem call_reprQ {X : Cx} {k : Nat} (gd : X.A.guards = some []) (hr : Room k X.A) : CallR X (.builtin "repr") (rReprQ X.K) := by
  intro pins s σ H xs us Q I rv h
  obtain ⟨N, v, d, rfl, hd, hs, q⟩ := h
  obtain ⟨u, rfl, rx⟩ := vals1 rv
  have isref : ∀ (l : Addr), v = .ref l → wpAny (model X.prog X.w) X.A (call (.builtin "repr") [u]) (EP X pins σ Q) X.xe s := fun l e => by
    subst e
    obtain ⟨as, r, hn⟩ := Dq.reads I d _ _ hd rx
    obtain rfl : u = .ref l := rx
    exact repr_of_reads' r hs.sh (fun _ => hn) gd (by have := hr.un; have := hs.dp; omega) (fun _ _ e => e) (fun h' t tk hk => ⟨.str d.shown, H, I.kept hk, ⟨t, rfl⟩, q⟩) hs.ln
  cases hd with
  | non => obtain rfl : u = .none := rx; exact PySem.P.repr_of_none ⟨.str "None", H, I.tok _, ⟨_, rfl⟩, by simpa only [PyData.shown] using q⟩
  | bl b => obtain rfl : u = .bool b := rx; exact PySem.P.repr_of_bool ⟨.str _, H, I.tok _, ⟨_, rfl⟩, by simpa only [PyData.shown] using q⟩
  | int i =>
    obtain ⟨t, rfl⟩ := rx
    have h1 : i.natAbs.log2 < 1920 := by simpa only [PyData.showable, decide_eq_true_eq] using hs.sh
    exact PySem.P.repr_of_int h1 ⟨.str _, H, I.tok _, ⟨_, rfl⟩, by simpa only [PyData.shown] using q⟩
  | str x =>
    obtain ⟨t, rfl⟩ := rx
    have h1 : (reprText x).length ≤ sizeLine := by simpa only [PyData.shown] using hs.ln
    exact PySem.P.repr_of_str ⟨.str _, H, I.tok _, ⟨_, rfl⟩, by simpa only [PyData.shown] using q⟩ h1
  | lst _ _ _ _ => exact isref _ rfl
  | tup _ _ => exact isref _ rfl
  | dct0 _ => exact isref _ rfl
  | dct1 _ => exact isref _ rfl
end Pr
namespace Pr
open PySem PySem.Spec PyProof.Rows L2
section
variable {X : Cx} {es : List Expr} {t : TA} {pos : Pos}
/-- a list that stands apart from the modules' table -/
def tLstG (t : TA) : TE := fun σ H Q => t σ H fun xs H1 => xs.length ≤ sizeLine ∧ ∀ p, H1 p = none → p ≠ sysModules → Q (.ref p) (upd H1 p (.lst xs))
theorem pe_lstG (h : PA X es t) : PE X (.List es pos) (tLstG t) := by
  refine ⟨fun pins s σ H Q I hq => wpAny_List_spliced (thn (h.run pos pins s σ H _ I hq) fun us s1 ⟨xs, H1, I1, r, z, q⟩ => ⟨by rw [← r.length]; exact z, ?_⟩)⟩
  refine ⟨.ref s1.heap.objs.size, upd H1 s1.heap.objs.size (.lst xs), I1.laid (t' := s1.toks) (fun b u e => Heap.get?_push_of_some _ e) (Nat.le_refl _) ⟨z, us, 0, r, Heap.get?_push_size _ rfl⟩, rfl,
    q _ (I1.hok.fresh (Nat.le_refl _)) (Nat.ne_of_gt I1.big)⟩
end
end Pr
namespace Pr
open PySem PySem.Spec PyProof.Rows L2
section
variable {X : Cx}
def tTupF (t : TA) : TE := fun σ H Q => t σ H fun xs H1 => xs.length ≤ sizeLine ∧ ∀ p o, H1 p = none → o.dict = none → Q (.ref p) (upd H1 p (.frz o (.tup xs)))
theorem pe_tupF {es : List Expr} {t : TA} {x1 : Nat} {pos : Pos} (h : PA X es t) : PE X (.Tuple es x1 pos) (tTupF t) :=
  ⟨fun pins s σ H Q I hq => wpAny_Tuple_spliced (thn (h.run pos pins s σ H _ I hq) fun us s1 ⟨xs, H1, I1, r, z, q⟩ => ⟨r.length ▸ z,
    ⟨.ref s1.heap.objs.size, _, I1.laid (t' := s1.toks) (o := .frz { cls := .type "tuple", data := .seq us.toArray } (.tup xs)) (fun _ _ e => Heap.get?_push_of_some _ e) (Nat.le_refl _) ⟨Heap.get?_push_size _ rfl, z, us, r, IsTup.new _ _⟩, rfl,
      q _ _ (I1.hok.fresh (Nat.le_refl _)) rfl⟩⟩)⟩
/-- (v,) * k of a known tuple -/
def rRepF : R2 := fun x y H Q => ∃ (l : Addr) (v : V) (k : Nat), x = .ref l ∧ y = .int (k : Int) ∧ FT H l [v] ∧ 1 ≤ k ∧ k ≤ 1000 ∧ ∀ p H', Same H H' → FT H' p (List.replicate k v) → Q (.ref p) H'
theorem op_repF : OpR X (binaryOp .Mult) rRepF := by
  intro pins s σ H x y u1 u2 Q I rx ry h
  obtain ⟨l, v, k, rfl, rfl, hF, h1, h2, q⟩ := h
  by_cases e1 : k = 1
  · subst e1
    exact op_rep1 pins s σ H _ _ u1 u2 Q I rx ry ⟨l, v, rfl, hF.sq, .inl ⟨rfl, q l H (Same.refl _) hF⟩⟩
  · cases rx
    obtain ⟨tk, rfl⟩ := ry
    obtain ⟨its, r, ⟨⟨cls, dd, data, sl⟩, ho, hc, n, hd⟩, hs⟩ := I.tuple (hF.sq (K := X.K))
    simp only at hc hd
    subst hc hd
    obtain ⟨a, rfl, ra⟩ := vals1 r
    have big : (List.replicate k [a]).flatten.length ≤ sizeLine := by
      rw [rep_flat, List.length_replicate, sizeLine_eq]; omega
    have sz : (([a] : List Value).toArray.size : Int) * (k : Int) = (k : Int) := by
      show (1 : Int) * (k : Int) = _
      omega
    have big2 : (List.foldl (fun x1 x2 => x1 ++ x2) #[] (List.replicate ((k : Int)).toNat ([a] : List Value).toArray)).size ≤ sizeLine := by
      rw [size_rep, List.size_toArray, Int.toNat_natCast]; exact big
    refine wpAny_binaryOp_repeat_ref (T := "tuple") (U := "int") (by decide) ⟨_, ho, rfl⟩ (fun s' => typeIs_int s' (k : Int) tk) noFill_tuple_mul F.fills_int_mul F.slot_int_rmul repeat_tuple F.slot_int_index.lookup ?_
    refine call_meets F.slot_int_rmul (typeIs_int s (k : Int) tk) F.entry_int_rmul (F.args_int_rmul_2 _ _) (int_rmul_tuple (k : Int) tk l _ n dd sl) ⟨ho, rfl, ⟨_, ho, rfl⟩, ?_⟩
    refine call_meets F.slot_tuple_mul ⟨_, ho, rfl⟩ F.entry_tuple_mul (F.args_tuple_mul_2 _ _) (tuple_mulW l _ n dd sl (k : Int) tk ?_ ?_ ?_ ?_ ?_ big2) ⟨ho, ?_⟩
    · rw [decide_eq_false (by omega), decide_eq_false (by omega)]; rfl
    · show (false || ((k : Int) == 1)) = false
      rw [Bool.false_or]; exact beq_eq_false_iff_ne.mpr (by omega)
    · rw [decide_eq_false (by omega)]; rfl
    · rw [sz]; omega
    · unfold Builtin.Tuple.tupleTooMany
      rw [sz, sizeLine_eq]; exact decide_eq_false (by omega)
    · rw [size_rep, Int.toNat_natCast]
      have rr := r.rep k
      refine ⟨.ref s.heap.objs.size, _, I.laid (t' := s.toks) (o := .frz { cls := .type "tuple", data := .seq (List.replicate k [a]).flatten.toArray } (.tup (List.replicate k [v]).flatten)) (fun _ _ e => Heap.get?_push_of_some _ e) (Nat.le_refl _) ⟨Heap.get?_push_size _ rfl, ?_, _, rr, IsTup.new _ _⟩, rfl,
        q _ _ (same_new (I.hok.fresh (Nat.le_refl _))) ⟨_, by rw [upd_same, rep_flat (v := v)], rfl⟩⟩
      rw [rep_flat, List.length_replicate, sizeLine_eq]; omega
/-- t + u, one way on -/
def rCatS (K : PySem.W.Frag) : R2 := fun x y H Q => ∃ a b xs ys, x = .ref a ∧ y = .ref b ∧ SqT K H a xs ∧ SqT K H b ys ∧ xs.length + ys.length ≤ sizeLine ∧ ∀ p H', Same H H' → SqT K H' p (xs ++ ys) → Q (.ref p) H'
theorem op_catS : OpR X (binaryOp .Add) (rCatS X.K) := by
  intro pins s σ H x y u1 u2 Q I rx ry h
  obtain ⟨a, b, xs, ys, rfl, rfl, ha, hb, hz, q⟩ := h
  refine op_catA pins s σ H _ _ u1 u2 Q I rx ry ⟨a, b, xs, ys, rfl, rfl, ha, hb, hz, fun e => q b H (Same.refl _) ?_, fun _ e => q a H (Same.refl _) ?_, fun _ _ p np => q p _ (same_new np) (.inl (.inl upd_same))⟩
  · rw [e]; exact hb
  · rw [e, List.append_nil]; exact ha
/-- t[lo:hi], one way on -/
def rSlS (K : PySem.W.Frag) : V → Option Int → Option Int → Hp → VK → Prop := fun x lo hi H Q => ∃ a xs, x = .ref a ∧ SqT K H a xs ∧ ∀ p H', Same H H' → SqT K H' p (cutV xs lo hi) → Q (.ref p) H'
theorem sl_tupS : SlR X (rSlS X.K) := by
  intro pins s σ H x v vl vu lo hi sl Q I rx hs pl pu h
  obtain ⟨a, xs, rfl, ha, q⟩ := h
  refine sl_tupA pins s σ H _ v vl vu lo hi sl Q I rx hs pl pu ⟨a, xs, rfl, ha, fun e => q a H (Same.refl _) ?_, fun _ p np => q p _ (same_new np) (.inl (.inl upd_same))⟩
  have : cutV xs lo hi = xs := by
    unfold cutV
    rw [e.1, e.2, List.drop_zero, Nat.sub_zero, List.take_length]
  rw [this]; exact ha
end
end Pr
namespace Pr
open PySem PySem.Spec PyProof.Rows L2
end Pr
namespace Pr
open PySem PySem.Spec PyProof.Rows L2
theorem list_neL1 (l : Addr) (items : Array Value) (n : Nat) (b : Addr) (items2 : Array Value) (n2 : Nat) (hc0 : (items.size != items2.size) = true) :
    Meets (Builtin.«list.__ne__» ⟨[.ref l, .ref b], []⟩) (fun _ R s => s.heap.get? l = some { cls := .type "list", dict := none, data := .seq items n, slots := #[] } ∧ s.heap.get? b = some { cls := .type "list", dict := none, data := .seq items2 n2, slots := #[] } ∧ R (.ok (.ret (Value.bool (CmpOp.NotEq == CmpOp.NotEq)))) { s with heap := s.heap, toks := s.toks }) :=
  .of_wp fun prog w A R s h => by
    obtain ⟨hp, g, d, tk, os⟩ := s; obtain ⟨hl, hb, h⟩ := h
    have f3 := AutoSeq1.sub_list_list
    wp_walk using AutoSeq1.wpAny_loadPart' hl, AutoSeq1.wpAny_loadPart' hb
    exact ⟨_, rfl, h⟩
section
variable {X : Cx}
/-- xs != [], two lists that stand -/
def rNeE1 : R2 := fun x y H Q => ∃ l b xs, x = .ref l ∧ y = .ref b ∧ H l = some (.lst xs) ∧ H b = some (.lst []) ∧ Q (.bl (!xs.isEmpty)) H
theorem op_neE1 (hu : X.A.units + 64 < cLine) : OpR X (compareOp .NotEq) rNeE1 := by
  intro pins s σ H x y v u Q I rx ry h
  obtain ⟨l, b, xs, rfl, rfl, hl, hb, q⟩ := h
  by_cases e : xs = []
  · subst e
    exact op_neD hu pins s σ H _ _ v u Q I rx ry ⟨.list [], .list [], .lst (.inl (.inl hl)) .nil, .lst (.inl (.inl hb)) .nil, rfl, rfl, q⟩
  · cases rx
    cases ry
    obtain ⟨_, its, n, rv, ho⟩ := I.hok _ _ hl
    obtain ⟨_, its2, n2, rv2, ho2⟩ := I.hok _ _ hb
    cases rv2
    have hlen := rv.length
    have hne : its.toArray.size ≠ 0 := by
      rw [List.size_toArray, ← hlen]
      exact fun z => e (List.eq_nil_of_length_eq_zero z)
    have q' : Q (.bl true) H := by
      have : xs.isEmpty = false := by
        cases xs with
        | nil => exact absurd rfl e
        | cons _ _ => rfl
      rw [this] at q; exact q
    exact richCompare_meets_room (op := .NotEq) ⟨_, ho, rfl⟩ ⟨_, ho2, rfl⟩ PySem.F.slot_list_ne PySem.F.entry_list_ne (PySem.F.args_list_ne_2 _ _) (list_neL1 l its.toArray n b ([] : List Value).toArray n2 (by simpa using hne))
      ⟨ho, ho2, show Value.bool (CmpOp.NotEq == CmpOp.NotEq) ≠ Value.notImplemented ∧ _ from ⟨(fun z => nomatch z), .bl true, H, I, rfl, q'⟩⟩ (by omega)
end
end Pr
namespace Pr
open PySem PySem.Spec PyProof.Rows L2
mutual
def lf : PyData → Bool
  | .list _ => false
  | .dict _ => false
  | .tuple ds => lfAll ds
  | .none => true
  | .bool _ => true
  | .int _ => true
  | .str _ => true
def lfAll : List PyData → Bool
  | [] => true
  | d :: r => lf d && lfAll r
end
theorem lfAll_of {ds : List PyData} (h : ∀ d ∈ ds, lf d = true) : lfAll ds = true := by
  induction ds with
  | nil => simp [lfAll]
  | cons d r ih => simp [lfAll, h d List.mem_cons_self, ih fun x hx => h x (List.mem_cons_of_mem _ hx)]
theorem lf_tup {ds : List PyData} (h : ∀ d ∈ ds, lf d = true) : lf (.tuple ds) = true := by simp only [lf]; exact lfAll_of h
theorem lf_ints (l : List Int) : lf (dInts l) = true := lf_tup fun d hd => by
  obtain ⟨x, _, rfl⟩ := List.mem_map.mp hd
  simp only [lf]
theorem lf_pan (p : List (List Int)) : lf (dPan p) = true := lf_tup fun d hd => by
  obtain ⟨x, _, rfl⟩ := List.mem_map.mp hd
  exact lf_ints x
theorem lf_strs (l : List Str) : lf (dStrs l) = true := lf_tup fun d hd => by
  obtain ⟨x, _, rfl⟩ := List.mem_map.mp hd
  simp only [lf]
def Kp (H H' : Hp) : Prop := (∀ b xs, H b = some (.tup xs) → H' b = some (.tup xs)) ∧ ∀ b o u, H b = some (.frz o u) → H' b = some (.frz o u)
theorem Kp.refl (H : Hp) : Kp H H := ⟨fun _ _ h => h, fun _ _ _ h => h⟩
theorem Kp.trans {H H1 H2 : Hp} (x : Kp H H1) (y : Kp H1 H2) : Kp H H2 := ⟨fun b xs h => y.1 b xs (x.1 b xs h), fun b o u h => y.2 b o u (x.2 b o u h)⟩
theorem Kp.of {H H' : Hp} (x : Same H H') : Kp H H' := ⟨fun b xs h => x b _ h, fun b o u h => x b _ h⟩
theorem Kp.upd {H : Hp} {D : Addr} {xs : List V} {o : HO} (h : H D = some (.lst xs)) : Kp H (upd H D o) :=
  ⟨fun b ys e => by rw [upd_ne (ne_of e h (by intro z; cases z))]; exact e, fun b q u e => by rw [upd_ne (ne_of e h (by intro z; cases z))]; exact e⟩
theorem Kp.but {H H' : Hp} {a c : Addr} {m : Nat} (d : Deck H a c m) (b : But a c H H') : Kp H H' :=
  ⟨fun p xs e => let q := d.apart e (fun _ => by intro z; cases z); b _ _ q.1 q.2 e, fun p o u e => let q := d.apart e (fun _ => by intro z; cases z); b _ _ q.1 q.2 e⟩
theorem FT.kp {H H' : Hp} {a : Addr} {xs : List V} (e : Kp H H') (h : FT H a xs) : FT H' a xs := let ⟨o, q, z⟩ := h; ⟨o, e.2 _ _ _ q, z⟩
theorem PanAt.kp {H H' : Hp} {p : Addr} {pan : List (List Int)} (e : Kp H H') (h : PanAt H p pan) : PanAt H' p pan :=
  let ⟨qs, h1, h2⟩ := h; ⟨qs, h1.kp e, h2.mono fun _ _ x => x.kp e⟩
section
variable {K : PySem.W.Frag} {H H' : Hp}
theorem sqT_kp {a : Addr} {xs : List V} (e : Kp H H') (h : SqT K H a xs) : SqT K H' a xs := by
  rcases h with (h | ⟨o, h⟩) | h
  · exact .inl (.inl (e.1 _ _ h))
  · exact .inl (.inr ⟨o, e.2 _ _ _ h⟩)
  · exact .inr h
mutual
theorem dp_same (e : Same H H') : ∀ (d : PyData) (v : V), Dp K H v d → Dp K H' v d
  | .none, _, h => by cases h; exact .non
  | .bool _, _, h => by cases h; exact .bl _
  | .int _, _, h => by cases h; exact .int _
  | .str _, _, h => by cases h; exact .str _
  | .list ds, _, h => by cases h with | lst q r => exact .lst (e.seq q) (dpAll_same e ds _ r)
  | .tuple ds, _, h => by cases h with | tup q r => exact .tup (same_sqT e q) (dpAll_same e ds _ r)
  | .dict _, _, h => by cases h
theorem dpAll_same (e : Same H H') : ∀ (ds : List PyData) (vs : List V), DpAll K H vs ds → DpAll K H' vs ds
  | [], _, h => by cases h; exact .nil
  | d :: r, _, h => by cases h with | cons x y => exact .cons (dp_same e d _ x) (dpAll_same e r _ y)
end
mutual
theorem dp_kp (e : Kp H H') : ∀ (d : PyData) (v : V), lf d = true → Dp K H v d → Dp K H' v d
  | .none, _, _, h => by cases h; exact .non
  | .bool _, _, _, h => by cases h; exact .bl _
  | .int _, _, _, h => by cases h; exact .int _
  | .str _, _, _, h => by cases h; exact .str _
  | .list ds, _, z, h => by simp [lf] at z
  | .tuple ds, _, z, h => by cases h with | tup q r => exact .tup (sqT_kp e q) (dpAll_kp e ds _ (by simpa [lf] using z) r)
  | .dict _, _, _, h => by cases h
theorem dpAll_kp (e : Kp H H') : ∀ (ds : List PyData) (vs : List V), lfAll ds = true → DpAll K H vs ds → DpAll K H' vs ds
  | [], _, _, h => by cases h; exact .nil
  | d :: r, _, z, h => by
    simp only [lfAll, Bool.and_eq_true] at z
    cases h with | cons x y => exact .cons (dp_kp e d _ z.1 x) (dpAll_kp e r _ z.2 y)
end
theorem _root_.L2.Dp.sm {d : PyData} {v : V} (h : Dp K H v d) (e : Same H H') : Dp K H' v d := dp_same e d v h
theorem _root_.L2.DpAll.sm {ds : List PyData} {vs : List V} (h : DpAll K H vs ds) (e : Same H H') : DpAll K H' vs ds := dpAll_same e ds vs h
theorem _root_.L2.Dp.kp {d : PyData} {v : V} (h : Dp K H v d) (e : Kp H H') (z : lf d = true := by first | exact lf_pan _ | exact lf_ints _ | exact lf_strs _ | rfl | assumption) : Dp K H' v d := dp_kp e d v z h
theorem _root_.L2.DpAll.length {ds : List PyData} : ∀ {vs : List V}, DpAll K H vs ds → vs.length = ds.length := by
  induction ds with
  | nil => intro vs h; cases h; rfl
  | cons d r ih => intro vs h; cases h with | cons x y => simp [ih y]
theorem _root_.L2.DpAll.get {ds : List PyData} : ∀ {vs : List V}, DpAll K H vs ds → ∀ (i : Nat) (d : PyData), ds[i]? = some d → ∃ v, vs[i]? = some v ∧ Dp K H v d := by
  induction ds with
  | nil => intro vs h i d e; simp at e
  | cons d' r ih =>
    intro vs h i d e
    cases h with
    | cons x y =>
      cases i with
      | zero => simp at e; subst e; exact ⟨_, rfl, x⟩
      | succ i => obtain ⟨v, h1, h2⟩ := ih y i d (by simpa using e); exact ⟨v, by simpa using h1, h2⟩
theorem _root_.L2.DpAll.append {d1 d2 : List PyData} : ∀ {v1 v2 : List V}, DpAll K H v1 d1 → DpAll K H v2 d2 → DpAll K H (v1 ++ v2) (d1 ++ d2) := by
  induction d1 with
  | nil => intro v1 v2 h g; cases h; exact g
  | cons d r ih => intro v1 v2 h g; cases h with | cons x y => exact .cons x (ih y g)
theorem _root_.L2.DpAll.take {ds : List PyData} : ∀ {vs : List V} (n : Nat), DpAll K H vs ds → DpAll K H (vs.take n) (ds.take n) := by
  induction ds with
  | nil => intro vs n h; cases h; simp; exact .nil
  | cons d r ih =>
    intro vs n h
    cases h with
    | cons x y =>
      cases n with
      | zero => simp; exact .nil
      | succ n => simpa using DpAll.cons x (ih n y)
theorem _root_.L2.DpAll.drop {ds : List PyData} : ∀ {vs : List V} (n : Nat), DpAll K H vs ds → DpAll K H (vs.drop n) (ds.drop n) := by
  induction ds with
  | nil => intro vs n h; cases h; simp; exact .nil
  | cons d r ih =>
    intro vs n h
    cases h with
    | cons x y =>
      cases n with
      | zero => simpa using DpAll.cons x y
      | succ n => simpa using ih n y
theorem dpAll_intsV : ∀ {l : List Int} {vs : List V}, DpAll K H vs (l.map PyData.int) → vs = l.map V.int
  | [], _, h => by cases h; rfl
  | x :: r, _, h => by
    rw [List.map_cons] at h
    cases h with | cons a b => cases a; rw [dpAll_intsV b]; rfl
theorem dpAll_strsV : ∀ {l : List Str} {vs : List V}, DpAll K H vs (l.map PyData.str) → vs = l.map V.str
  | [], _, h => by cases h; rfl
  | x :: r, _, h => by
    rw [List.map_cons] at h
    cases h with | cons a b => cases a; rw [dpAll_strsV b]; rfl
theorem _root_.L2.Dp.tupI {v : V} {ds : List PyData} (h : Dp K H v (.tuple ds)) : ∃ a xs, v = .ref a ∧ SqT K H a xs ∧ DpAll K H xs ds := by cases h with | tup q r => exact ⟨_, _, rfl, q, r⟩
theorem _root_.L2.Dp.lstI {v : V} {ds : List PyData} (h : Dp K H v (.list ds)) : ∃ a xs, v = .ref a ∧ SqL K H a xs ∧ DpAll K H xs ds := by cases h with | lst q r => exact ⟨_, _, rfl, q, r⟩
theorem _root_.L2.Dp.intsI {v : V} {l : List Int} (h : Dp K H v (dInts l)) : ∃ a, v = .ref a ∧ SqT K H a (l.map V.int) := by
  obtain ⟨a, xs, rfl, q, r⟩ := Dp.tupI h
  rw [dpAll_intsV r] at q
  exact ⟨a, rfl, q⟩
end
section
variable (K : PySem.W.Frag)
def Gv (t : TE) (σ : L2.St) (H : Hp) (d : PyData) : Prop := ∀ H1, Same H H1 → ∀ Q : VK, (∀ v H', Same H1 H' → Dp K H' v d → Q v H') → t σ H1 Q
/-- a list that is tracked -/
def GvL (t : TE) (σ : L2.St) (H : Hp) (ds : List PyData) : Prop := ∀ H1, Same H H1 → ∀ Q : VK, (∀ a vs H', Same H1 H' → H' a = some (.lst vs) → DpAll K H' vs ds → Q (.ref a) H') → t σ H1 Q
/-- a new list -/
def GvN (t : TE) (σ : L2.St) (H : Hp) (ds : List PyData) : Prop := ∀ H1, Same H H1 → ∀ Q : VK, (∀ a vs H', Same H1 H' → H1 a = none → H' a = some (.lst vs) → DpAll K H' vs ds → Q (.ref a) H') → t σ H1 Q
def GvA (t : TA) (σ : L2.St) (H : Hp) (ds : List PyData) : Prop := ∀ H1, Same H H1 → ∀ Q : List V → Hp → Prop, (∀ vs H', Same H1 H' → DpAll K H' vs ds → Q vs H') → t σ H1 Q
def GvT (t : TT) (σ : L2.St) (H : Hp) (b : Bool) : Prop := ∀ H1, Same H H1 → ∀ Q : Bool → Hp → Prop, (∀ H', Same H1 H' → Q b H') → t σ H1 Q
/-- what a walk gives, while what it goes over stays as R says -/
def GvI (R : Hp → Hp → Prop) (wi : TI) (σ : L2.St) (H : Hp) (ds : List PyData) : Prop := ∀ H1, Same H H1 → ∀ Q : It → Hp → Prop,
  (∀ J H', Same H1 H' → Walk J ds.length (R H') (fun i h x h' => Same h h' ∧ ∃ d, ds[i]? = some d ∧ Dp K h' x d) → Q J H') → wi σ H1 Q
end
section
variable {K : PySem.W.Frag} {σ : L2.St} {H H' : Hp} {t ta tb : TE} {d e : PyData} {ds : List PyData} {ta' : TA} {tt uu : TT} {b c : Bool}
theorem GvN.gl (h : GvN K t σ H ds) : GvL K t σ H ds := fun H1 s Q q => h H1 s Q fun a vs H' s' _ e dv => q a vs H' s' e dv
theorem GvN.at (h : GvN K t σ H ds) {Q : VK} (q : ∀ a vs H', Same H H' → H a = none → H' a = some (.lst vs) → DpAll K H' vs ds → Q (.ref a) H') : t σ H Q := h H (Same.refl _) Q q
theorem GvN.to {es : List PyData} (h : GvN K t σ H ds) (q : ds = es) : GvN K t σ H es := q ▸ h
theorem GvN.gv (h : GvN K t σ H ds) : Gv K t σ H (.list ds) := fun H1 s Q q => h H1 s Q fun a vs H' s' _ e dv => q _ H' s' (.lst (.inl (.inl e)) dv)
theorem GvL.gv (h : GvL K t σ H ds) : Gv K t σ H (.list ds) := fun H1 s Q q => h H1 s Q fun a vs H' s' e dv => q _ H' s' (.lst (.inl (.inl e)) dv)
theorem GvL.at (h : GvL K t σ H ds) {Q : VK} (q : ∀ a vs H', Same H H' → H' a = some (.lst vs) → DpAll K H' vs ds → Q (.ref a) H') : t σ H Q := h H (Same.refl _) Q q
theorem GvL.to {es : List PyData} (h : GvL K t σ H ds) (q : ds = es) : GvL K t σ H es := q ▸ h
theorem Gv.at (h : Gv K t σ H d) {Q : VK} (q : ∀ v H', Same H H' → Dp K H' v d → Q v H') : t σ H Q := h H (Same.refl _) Q q
theorem Gv.sm (h : Gv K t σ H d) (s : Same H H') : Gv K t σ H' d := fun H1 s1 => h H1 (s.trans s1)
theorem Gv.to (h : Gv K t σ H d) (q : d = e) : Gv K t σ H e := q ▸ h
theorem GvT.at (h : GvT tt σ H b) {Q : Bool → Hp → Prop} (q : ∀ H', Same H H' → Q b H') : tt σ H Q := h H (Same.refl _) Q q
theorem GvT.to (h : GvT tt σ H b) (q : b = c) : GvT tt σ H c := q ▸ h
theorem gv_var {i : Nat} {v : V} (h : σ[i]? = some (some v)) (hd : Dp K H v d) : Gv K (tVar i) σ H d := fun H1 s Q q => ⟨v, h, q v H1 (Same.refl _) (hd.sm s)⟩
theorem gv_int {i : Int} : Gv K (tC (.int i)) σ H (.int i) := fun H1 _ Q q => q _ H1 (Same.refl _) (.int i)
theorem gv_str {x : Str} : Gv K (tC (.str x)) σ H (.str x) := fun H1 _ Q q => q _ H1 (Same.refl _) (.str x)
theorem gv_bl {x : Bool} : Gv K (tC (.bl x)) σ H (.bool x) := fun H1 _ Q q => q _ H1 (Same.refl _) (.bl x)
theorem gv_non : Gv K (tC .non) σ H .none := fun H1 _ Q q => q _ H1 (Same.refl _) .non
theorem gva_nil : GvA K tNil σ H [] := fun H1 _ Q q => q [] H1 (Same.refl _) .nil
theorem gva_cons {tr : TA} (h : Gv K t σ H d) (g : GvA K tr σ H ds) : GvA K (tCons t tr) σ H (d :: ds) := fun H1 s Q q =>
  h H1 s _ fun v H2 s2 d2 => g H2 (s.trans s2) _ fun vs H3 s3 d3 => q _ H3 (s2.trans s3) (.cons (d2.sm s3) d3)
theorem small5 {n : Nat} (h : n ≤ 100000) : n < sizeLine := Nat.lt_of_le_of_lt h (by decide)
theorem gv_tup (h : GvA K ta' σ H ds) (hl : ds.length ≤ sizeLine := by first | decide | exact Nat.le_of_lt (small5 (by simp only [List.length_cons, List.length_nil]; decide))) : Gv K (tTup ta') σ H (.tuple ds) := fun H1 s Q q => h H1 s _ fun vs H2 s2 d2 =>
  ⟨by rw [d2.length]; exact hl, fun p np => q _ _ (s2.trans (same_new np)) (.tup (.inl (.inl upd_same)) (d2.sm (same_new np)))⟩
theorem gn_lst (h : GvA K ta' σ H ds) (hl : ds.length ≤ sizeLine := by first | decide | exact Nat.le_of_lt (small5 (by simp only [List.length_cons, List.length_nil]; decide))) : GvN K (tLst ta') σ H ds := fun H1 s Q q => h H1 s _ fun vs H2 s2 d2 =>
  ⟨by rw [d2.length]; exact hl, fun p np => q _ _ _ (s2.trans (same_new np)) (s2.free np) upd_same (d2.sm (same_new np))⟩
theorem gl_lst (h : GvA K ta' σ H ds) (hl : ds.length ≤ sizeLine := by first | decide | exact Nat.le_of_lt (small5 (by simp only [List.length_cons, List.length_nil]; decide))) : GvL K (tLst ta') σ H ds := (gn_lst h hl).gl
theorem gv_lst (h : GvA K ta' σ H ds) (hl : ds.length ≤ sizeLine := by first | decide | exact Nat.le_of_lt (small5 (by simp only [List.length_cons, List.length_nil]; decide))) : Gv K (tLst ta') σ H (.list ds) := (gl_lst h hl).gv
theorem gv_op2 {r : R2} (ha : Gv K ta σ H d) (hb : Gv K tb σ H e) {f : PyData} (hr : ∀ x y H1 Q, Same H H1 → Dp K H1 x d → Dp K H1 y e → (∀ v H', Same H1 H' → Dp K H' v f → Q v H') → r x y H1 Q) : Gv K (tOp r ta tb) σ H f := fun H1 s Q q =>
  ha H1 s _ fun x H2 s2 d2 => hb H2 (s.trans s2) _ fun y H3 s3 d3 => hr x y H3 Q ((s.trans s2).trans s3) (d2.sm s3) d3 fun v H4 s4 d4 => q v H4 ((s2.trans s3).trans s4) d4
theorem gv_I0 {g : Int → Int → V} {i j : Int} (ha : Gv K ta σ H (.int i)) (hb : Gv K tb σ H (.int j)) {f : PyData} (hf : ∀ H, Dp K H (g i j) f) : Gv K (tOp (rI0 g) ta tb) σ H f :=
  gv_op2 ha hb fun x y H1 Q s hx hy q => by cases hx; cases hy; exact ⟨i, j, rfl, rfl, q _ _ (Same.refl _) (hf _)⟩
theorem gv_sub {i j : Int} (ha : Gv K ta σ H (.int i)) (hb : Gv K tb σ H (.int j)) : Gv K (tOp (rI0 fun i j => V.int (i - j)) ta tb) σ H (.int (i - j)) := gv_I0 ha hb fun _ => .int _
theorem gv_eqI {i j : Int} (ha : Gv K ta σ H (.int i)) (hb : Gv K tb σ H (.int j)) : Gv K (tOp rEq ta tb) σ H (.bool (decide (i = j))) :=
  gv_op2 ha hb fun x y H1 Q s hx hy q => by
    cases hx; cases hy
    refine ⟨rfl, q _ _ (Same.refl _) ?_⟩
    rw [show decide (V.int i = V.int j) = decide (i = j) from decide_eq_decide.mpr ⟨fun h => V.int.inj h, fun h => by rw [h]⟩]
    exact .bl _
theorem gv_neI {i j : Int} (ha : Gv K ta σ H (.int i)) (hb : Gv K tb σ H (.int j)) : Gv K (tOp rNe ta tb) σ H (.bool (!decide (i = j))) :=
  gv_op2 ha hb fun x y H1 Q s hx hy q => by
    cases hx; cases hy
    refine ⟨rfl, q _ _ (Same.refl _) ?_⟩
    rw [show decide (V.int i = V.int j) = decide (i = j) from decide_eq_decide.mpr ⟨fun h => V.int.inj h, fun h => by rw [h]⟩]
    exact .bl _
theorem gv_eqS {i j : Str} (ha : Gv K ta σ H (.str i)) (hb : Gv K tb σ H (.str j)) : Gv K (tOp rEq ta tb) σ H (.bool (decide (i = j))) :=
  gv_op2 ha hb fun x y H1 Q s hx hy q => by
    cases hx; cases hy
    refine ⟨rfl, q _ _ (Same.refl _) ?_⟩
    rw [show decide (V.str i = V.str j) = decide (i = j) from decide_eq_decide.mpr ⟨fun h => V.str.inj h, fun h => by rw [h]⟩]
    exact .bl _
theorem gv_neS {i j : Str} (ha : Gv K ta σ H (.str i)) (hb : Gv K tb σ H (.str j)) : Gv K (tOp rNe ta tb) σ H (.bool (!decide (i = j))) :=
  gv_op2 ha hb fun x y H1 Q s hx hy q => by
    cases hx; cases hy
    refine ⟨rfl, q _ _ (Same.refl _) ?_⟩
    rw [show decide (V.str i = V.str j) = decide (i = j) from decide_eq_decide.mpr ⟨fun h => V.str.inj h, fun h => by rw [h]⟩]
    exact .bl _
theorem gv_neD (ha : Gv K ta σ H d) (hb : Gv K tb σ H e) (h1 : SeqAt.shaped d = true) (h2 : SeqAt.shaped e = true) : Gv K (tOp (rNeD K) ta tb) σ H (.bool (!PyData.eqv d e)) :=
  gv_op2 ha hb fun x y H1 Q s hx hy q => ⟨d, e, hx, hy, h1, h2, q _ _ (Same.refl _) (.bl _)⟩
theorem inV_intsG {b : Int} (l : List Int) : inV (.int b) (l.map V.int) = decide (b ∈ l) := by
  unfold inV
  rw [List.any_map, Bool.eq_iff_iff, List.any_eq_true, decide_eq_true_eq]
  constructor
  · rintro ⟨x, hx, e⟩
    have e' : x = b := by simpa [eqV] using e
    rw [← e']; exact hx
  · intro h
    exact ⟨b, h, by simp [eqV]⟩
theorem flat_intsG : ∀ l : List Int, (l.map V.int).all flatV = true
  | [] => rfl
  | x :: r => by rw [List.map_cons, List.all_cons, flat_intsG r]; rfl
theorem gv_inT {neg : Bool} {i : Int} {l : List Int} (ha : Gv K ta σ H (.int i)) (hb : Gv K tb σ H (dInts l)) : Gv K (tOp (rIn K neg) ta tb) σ H (.bool (if neg then !decide (i ∈ l) else decide (i ∈ l))) :=
  gv_op2 ha hb fun x y H1 Q s hx hy q => by
    cases hx
    obtain ⟨a, rfl, hq⟩ := hy.intsI
    refine ⟨a, _, rfl, .inr hq, rfl, flat_intsG l, ?_⟩
    rw [inV_intsG]
    exact q _ _ (Same.refl _) (.bl _)
theorem gv_ixT {i : Int} {j : Nat} (ha : Gv K ta σ H (.tuple ds)) (hb : Gv K tb σ H (.int i)) (hi : i = (j : Int)) (hj : ds[j]? = some d) : Gv K (tOp (rIxT K) ta tb) σ H d :=
  gv_op2 ha hb fun x y H1 Q s hx hy q => by
    cases hy
    obtain ⟨a, xs, rfl, hq, hr⟩ := hx.tupI
    obtain ⟨v, hv, dv⟩ := hr.get j d hj
    exact ⟨a, xs, i, v, rfl, rfl, hq, by rw [hi]; exact atI_nat hv, q _ _ (Same.refl _) dv⟩
theorem gv_ixL {i : Int} {j : Nat} (ha : Gv K ta σ H (.list ds)) (hb : Gv K tb σ H (.int i)) (hi : i = (j : Int)) (hj : ds[j]? = some d) : Gv K (tOp (rIxL K) ta tb) σ H d :=
  gv_op2 ha hb fun x y H1 Q s hx hy q => by
    cases hy
    obtain ⟨a, xs, rfl, hq, hr⟩ := hx.lstI
    obtain ⟨v, hv, dv⟩ := hr.get j d hj
    exact ⟨a, xs, i, v, rfl, rfl, hq, by rw [hi]; exact atI_nat hv, q _ _ (Same.refl _) dv⟩
theorem gv_cb {r : List V → Hp → VK → Prop} (h : GvA K ta' σ H ds) {f : PyData} (hr : ∀ vs H1 Q, Same H H1 → DpAll K H1 vs ds → (∀ v H', Same H1 H' → Dp K H' v f → Q v H') → r vs H1 Q) : Gv K (tCB r ta') σ H f := fun H1 s Q q =>
  h H1 s _ fun vs H2 s2 d2 => hr vs H2 Q (s.trans s2) d2 fun v H3 s3 d3 => q v H3 (s2.trans s3) d3
theorem dpAll1 {vs : List V} (h : DpAll K H vs [d]) : ∃ v, vs = [v] ∧ Dp K H v d := by
  cases h with | cons x y => cases y; exact ⟨_, rfl, x⟩
theorem dpAll2 {vs : List V} (h : DpAll K H vs [d, e]) : ∃ v u, vs = [v, u] ∧ Dp K H v d ∧ Dp K H u e := by
  cases h with | cons x y => obtain ⟨u, rfl, z⟩ := dpAll1 y; exact ⟨_, _, rfl, x, z⟩
theorem dpAll3 {f : PyData} {vs : List V} (h : DpAll K H vs [d, e, f]) : ∃ v u w, vs = [v, u, w] ∧ Dp K H v d ∧ Dp K H u e ∧ Dp K H w f := by
  cases h with | cons x y => obtain ⟨u, w, rfl, z⟩ := dpAll2 y; exact ⟨_, _, _, rfl, x, z⟩
def rLenG (K : PySem.W.Frag) : List V → Hp → VK → Prop := fun xs H Q => ∃ p ys, xs = [V.ref p] ∧ (SqL K H p ys ∨ SqT K H p ys) ∧ Q (.int ys.length) H
theorem cr_lenG {X : Cx} : CallR X (.builtin "len") (rLenG X.K) := call_len_seq
def rTupG (K : PySem.W.Frag) : List V → Hp → VK → Prop := fun xs H Q => ∃ p ys, xs = [V.ref p] ∧ ((SqL K H p ys ∧ ∀ l, H l = none → Q (.ref l) (upd H l (.tup ys))) ∨ (SqT K H p ys ∧ Q (.ref p) H))
theorem cr_tupG {X : Cx} : CallR X (.type "tuple") (rTupG X.K) := call_tuple_of
theorem gv_lenT (h : Gv K t σ H (.tuple ds)) : Gv K (tCB (rLenG K) (tCons t tNil)) σ H (.int ds.length) :=
  gv_cb (gva_cons h gva_nil) fun vs H1 Q s hd q => by
    obtain ⟨v, rfl, hv⟩ := dpAll1 hd
    obtain ⟨a, xs, rfl, hq, hr⟩ := hv.tupI
    exact ⟨a, xs, rfl, .inr hq, by rw [hr.length]; exact q _ _ (Same.refl _) (.int _)⟩
theorem gv_lenL (h : Gv K t σ H (.list ds)) : Gv K (tCB (rLenG K) (tCons t tNil)) σ H (.int ds.length) :=
  gv_cb (gva_cons h gva_nil) fun vs H1 Q s hd q => by
    obtain ⟨v, rfl, hv⟩ := dpAll1 hd
    obtain ⟨a, xs, rfl, hq, hr⟩ := hv.lstI
    exact ⟨a, xs, rfl, .inl hq, by rw [hr.length]; exact q _ _ (Same.refl _) (.int _)⟩
theorem gv_tupL (h : Gv K t σ H (.list ds)) : Gv K (tCB (rTupG K) (tCons t tNil)) σ H (.tuple ds) :=
  gv_cb (gva_cons h gva_nil) fun vs H1 Q s hd q => by
    obtain ⟨v, rfl, hv⟩ := dpAll1 hd
    obtain ⟨a, xs, rfl, hq, hr⟩ := hv.lstI
    exact ⟨a, xs, rfl, .inl ⟨hq, fun l nl => q _ _ (same_new nl) (.tup (.inl (.inl upd_same)) (hr.sm (same_new nl)))⟩⟩
theorem gvt_test (h : Gv K t σ H (.bool b)) : GvT (tTest t) σ H b := fun H1 s Q q => h H1 s _ fun v H2 s2 d2 => by cases d2; exact ⟨b, rfl, q _ s2⟩
theorem gvt_b (h : Gv K t σ H (.bool b)) : GvT (tB t) σ H b := fun H1 s Q q => h H1 s _ fun v H2 s2 d2 => by cases d2; exact ⟨b, rfl, q _ s2⟩
theorem gvt_not (h : GvT tt σ H b) : GvT (tNot tt) σ H (!b) := fun H1 s Q q => h H1 s _ fun H2 s2 => q _ s2
theorem gvt_yes : GvT tYes σ H true := fun H1 s Q q => q H1 (Same.refl _)
theorem gvt_and (h : GvT tt σ H b) (g : ∀ H', Same H H' → b = true → GvT uu σ H' c) : GvT (tAnd tt uu) σ H (b && c) := fun H1 s Q q => h H1 s _ fun H2 s2 => by
  cases b with
  | true => rw [if_pos rfl]; exact g H2 (s.trans s2) rfl H2 (Same.refl _) _ fun H3 s3 => q _ (s2.trans s3)
  | false => rw [if_neg Bool.false_ne_true]; exact q _ s2
theorem gvt_or (h : GvT tt σ H b) (g : ∀ H', Same H H' → b = false → GvT uu σ H' c) : GvT (tOr tt uu) σ H (b || c) := fun H1 s Q q => h H1 s _ fun H2 s2 => by
  cases b with
  | true => rw [if_pos rfl]; exact q _ s2
  | false => rw [if_neg Bool.false_ne_true]; exact g H2 (s.trans s2) rfl H2 (Same.refl _) _ fun H3 s3 => q _ (s2.trans s3)
theorem gv_if (h : GvT tt σ H b) (h1 : b = true → Gv K ta σ H d) (h2 : b = false → Gv K tb σ H e) : Gv K (tIf tt ta tb) σ H (if b then d else e) := fun H1 s Q q => h H1 s _ fun H2 s2 => by
  cases b with
  | true => rw [if_pos rfl]; exact h1 rfl H2 (s.trans s2) _ fun v H3 s3 d3 => q v H3 (s2.trans s3) d3
  | false => rw [if_neg Bool.false_ne_true]; exact h2 rfl H2 (s.trans s2) _ fun v H3 s3 d3 => q v H3 (s2.trans s3) d3
/-- a def that only computes -/
def spP (K : PySem.W.Frag) {α : Type} (δ : α → List PyData) (C : α → Prop) (f : α → PyData) : Sp := fun vs H Q _ => ∃ a, DpAll K H vs (δ a) ∧ C a ∧ ∀ v H', Same H H' → Dp K H' v (f a) → Q v H'
theorem gv_call {α : Type} {δ : α → List PyData} {C : α → Prop} {f : α → PyData} {E : XK} (a : α) (h : GvA K ta' σ H (δ a)) (hc : C a) : Gv K (tCall (spP K δ C f) [] E ta') σ H (f a) := fun H1 s Q q =>
  h H1 s _ fun vs H2 s2 d2 => ⟨a, by rw [List.append_nil]; exact d2, hc, fun v H3 s3 d3 => q v H3 (s2.trans s3) d3⟩
end
section
variable {K : PySem.W.Frag} {R : Hp → Hp → Prop} {σ : L2.St} {H : Hp} {t : TE} {ta : TA} {ds : List PyData}
theorem gvi_list (h : Gv K t σ H (.list ds)) : GvI K Same (iList K t) σ H ds := fun H1 s Q q => h H1 s _ fun v H2 s2 d2 => by
  obtain ⟨a, xs, rfl, hq, hr⟩ := d2.lstI
  refine ⟨a, rfl, ⟨xs, hq⟩, q _ H2 s2 ?_⟩
  rw [← hr.length]
  refine walk_list.mono (fun h e => e.seq hq) fun i h x h' hi e y => ?_
  obtain ⟨rfl, y⟩ := y
  have hi' : i < ds.length := by rw [← hr.length]; exact hi
  obtain ⟨v, hv, dv⟩ := hr.get i ds[i] (List.getElem?_eq_getElem hi')
  rw [hv] at y; cases y
  exact ⟨Same.refl _, ds[i], List.getElem?_eq_getElem hi', dv.sm e⟩
theorem gvi_tup (h : Gv K t σ H (.tuple ds)) : GvI K Same (iTup K t) σ H ds := fun H1 s Q q => h H1 s _ fun v H2 s2 d2 => by
  obtain ⟨a, xs, rfl, hq, hr⟩ := d2.tupI
  refine ⟨a, rfl, ⟨xs, hq⟩, q _ H2 s2 ?_⟩
  rw [← hr.length]
  refine walk_tup.mono (fun h e => same_sqT e hq) fun i h x h' hi e y => ?_
  obtain ⟨rfl, y⟩ := y
  have hi' : i < ds.length := by rw [← hr.length]; exact hi
  obtain ⟨v, hv, dv⟩ := hr.get i ds[i] (List.getElem?_eq_getElem hi')
  rw [hv] at y; cases y
  exact ⟨Same.refl _, ds[i], List.getElem?_eq_getElem hi', dv.sm e⟩
theorem gvi_range2 {lo n : Nat} {t2 : TE} (h1 : Gv K t σ H (.int lo)) (h2 : Gv K t2 σ H (.int n)) (hl : lo < 2 ^ 62) (hn : n < 2 ^ 62) : GvI K R (iRng2 (tCons t (tCons t2 tNil))) σ H ((List.range (n - lo)).map fun i : Nat => PyData.int ((lo + i : Nat) : Int)) := fun H1 s Q q =>
  gva_cons h1 (gva_cons h2 gva_nil) H1 s _ fun vs H2 s2 d2 => by
  obtain ⟨v, u, rfl, dv, du⟩ := dpAll2 d2
  cases dv; cases du
  refine ⟨(lo : Int), (n : Int), rfl, ⟨by omega, by omega, by omega, by omega⟩, q _ H2 s2 ?_⟩
  rw [List.length_map, List.length_range, show ((n : Int) - (lo : Int)).toNat = n - lo by omega]
  refine walk_range.mono (fun _ _ => trivial) fun i h x h' hi e y => ?_
  obtain ⟨rfl, rfl⟩ := y
  refine ⟨Same.refl _, .int ((lo + i : Nat) : Int), ?_, ?_⟩
  · rw [List.getElem?_map, List.getElem?_range hi]; rfl
  · dsimp only; rw [show (lo : Int) + (i : Int) = ((lo + i : Nat) : Int) by omega]; exact .int _
theorem gvi_enumTK {α : Type} {δ : α → PyData} {as : List α} (h : Gv K t σ H (.tuple (as.map δ))) (z : ∀ a ∈ as, lf (δ a) = true) : GvI K Kp (iEnumT K (tCons t tNil)) σ H (as.zipIdx.map fun x => .tuple [.int (x.2 : Nat), δ x.1]) := fun H1 s Q q => h H1 s _ fun v H2 s2 d2 => by
  obtain ⟨a, xs, rfl, hq, hr⟩ := d2.tupI
  refine ⟨a, xs, rfl, hq, q _ H2 s2 ?_⟩
  have hl : xs.length = as.length := by rw [hr.length, List.length_map]
  rw [List.length_map, List.length_zipIdx, ← hl]
  refine walk_enumT.mono (fun h e => sqT_kp e hq) fun i h x h' hi e y => ?_
  obtain ⟨T, x1, x2, rfl, nT, rfl, e1, e2⟩ := y
  cases e1
  have hi' : i < as.length := by omega
  obtain ⟨v, hv, dv⟩ := hr.get i (δ as[i]) (by rw [List.getElem?_map, List.getElem?_eq_getElem hi']; rfl)
  replace e2 : xs[i]? = some x2 := e2
  rw [hv] at e2; cases e2
  have sT : Same h (upd h T (.tup [.int (i : Nat), x2])) := same_new nT
  refine ⟨sT, .tuple [.int (i : Nat), δ as[i]], ?_, .tup (.inl (.inl upd_same)) (.cons (.int _) (.cons ((dv.kp e (z _ (List.getElem_mem _))).sm sT) .nil))⟩
  rw [List.getElem?_map, List.getElem?_zipIdx, List.getElem?_eq_getElem hi']
  simp
/-- what a comprehension has gathered when D is the new list -/
def LcP (K : PySem.W.Frag) (H1 : Hp) (D : Addr) (ds : Nat → List PyData) (k : Nat) (H2 : Hp) : Prop := (∀ b o, b ≠ D → H1 b = some o → H2 b = some o) ∧ ∃ acc, H2 D = some (.lst acc) ∧ DpAll K H2 acc (ds k) ∧ acc.length ≤ k
theorem lcP_yes {H1 H5 H2 : Hp} {D : Addr} {ds : Nat → List PyData} {k : Nat} {acc : List V} {y : V} {d : PyData} (h : ∀ b o, b ≠ D → H1 b = some o → H2 b = some o) (s25 : Same H2 H5) (eD : H2 D = some (.lst acc)) (ha : DpAll K H2 acc (ds k)) (la : acc.length ≤ k) (dy : Dp K H5 y d)
    (e : ds (k + 1) = ds k ++ [d]) (z : lfAll (ds (k + 1)) = true) : LcP K H1 D ds (k + 1) (upd H5 D (.lst (acc ++ [y]))) := by
  refine ⟨fun b o hb q => by rw [upd_ne hb]; exact s25 _ _ (h b o hb q), acc ++ [y], upd_same, ?_, by rw [List.length_append]; show acc.length + 1 ≤ k + 1; omega⟩
  refine dpAll_kp (Kp.upd (s25 _ _ eD)) _ _ z ?_
  rw [e]
  exact DpAll.append (ha.sm s25) (.cons dy .nil)
theorem lcP_no {H1 H3 H2 : Hp} {D : Addr} {ds : Nat → List PyData} {k : Nat} {acc : List V} (h : ∀ b o, b ≠ D → H1 b = some o → H2 b = some o) (s23 : Same H2 H3) (eD : H2 D = some (.lst acc)) (ha : DpAll K H2 acc (ds k)) (la : acc.length ≤ k)
    (e : ds (k + 1) = ds k) : LcP K H1 D ds (k + 1) H3 :=
  ⟨fun b o hb q => s23 _ _ (h b o hb q), acc, s23 _ _ eD, by rw [e]; exact ha.sm s23, by omega⟩
theorem fil_take {α : Type} {as : List α} {p : α → Bool} {f : α → PyData} {k : Nat} (hk : k < as.length) : (((as.take (k + 1)).filter p).map f) = ((as.take k).filter p).map f ++ if p as[k] then [f as[k]] else [] := by
  rw [List.take_add_one, List.getElem?_eq_getElem hk, Option.toList_some, List.filter_append, List.map_append]
  cases h : p as[k] with
  | true => rw [List.filter_cons_of_pos h]; rfl
  | false => rw [List.filter_cons_of_neg (by rw [h]; exact Bool.false_ne_true)]; rfl
theorem lf_fil {α : Type} {as : List α} {p : α → Bool} {f : α → PyData} (h : ∀ a ∈ as, lf (f a) = true) (k : Nat) : lfAll (((as.take k).filter p).map f) = true := lfAll_of fun d hd => by
  obtain ⟨a, ha, rfl⟩ := List.mem_map.mp hd
  exact h a (List.mem_of_mem_take (List.mem_filter.mp ha).1)
/-- a comprehension, its target one name -/
theorem gn_lc {wi : TI} {tt : TT} {te : TE} {i : Nat} {α : Type} {δ : α → PyData} {as : List α} {p : α → Bool} {f : α → PyData} (hI : GvI K Same wi σ H (as.map δ))
    (hb : ∀ a v H1, a ∈ as → Same H H1 → Dp K H1 v (δ a) → GvT tt ((σ.set i none).set i (some v)) H1 (p a) ∧ (p a = true → Gv K te ((σ.set i none).set i (some v)) H1 (f a)))
    (hf : ∀ a ∈ as, lf (f a) = true) (hn : as.length ≤ 100000) : GvN K (tLc wi (gName i) tt te [i]) σ H ((as.filter p).map f) := by
  intro H0 s0 Q q
  refine hI H0 s0 _ fun J H1 s1 w D nD => ?_
  rw [List.length_map] at w
  refine lc_it w (LcP K H1 D fun k => ((as.take k).filter p).map f) ⟨fun b o hb e => by rw [upd_ne hb]; exact e, [], upd_same, .nil, Nat.zero_le _⟩ (fun k H2 _ hP b o e => hP.1 b o (ne_of_none e nD) e) (fun k x H2 H3 hk hP hY => ?_) (fun H2 hP => ?_)
  · obtain ⟨s2, acc, eD, hacc, la⟩ := hP
    obtain ⟨s3, d, hd, dx⟩ := hY
    rw [List.getElem?_map, List.getElem?_eq_getElem hk] at hd
    cases hd
    have sH : Same H H3 := (s0.trans s1).trans fun b o e => s3 _ _ (s2 b o (ne_of_none e nD) e)
    obtain ⟨g1, g2⟩ := hb as[k] x H3 (List.getElem_mem _) sH dx
    refine ⟨by show ((σ.set i none).set i (some x)).set i none = σ.set i none; rw [List.set_set, List.set_set], g1.at fun H4 s4 => ?_⟩
    cases hp : p as[k] with
    | true =>
      rw [if_pos rfl]
      refine (g2 hp).sm s4 |>.at fun y H5 s5 dy => ⟨acc, s5 _ _ (s4 _ _ (s3 _ _ eD)), small5 (by omega), ?_⟩
      exact lcP_yes s2 ((s3.trans s4).trans s5) eD hacc la dy (by rw [fil_take hk, hp]; rfl) (lf_fil hf _)
    | false =>
      rw [if_neg Bool.false_ne_true]
      exact lcP_no s2 (s3.trans s4) eD hacc la (by rw [fil_take hk, hp]; exact List.append_nil _)
  · obtain ⟨s2, acc, eD, hacc, la⟩ := hP
    replace hacc : DpAll K H2 acc (((as.take as.length).filter p).map f) := hacc
    rw [List.take_length] at hacc
    exact q _ _ H2 (s1.trans fun b o e => s2 b o (ne_of_none e nD) e) (s1.free nD) eD hacc
theorem gl_lc {wi : TI} {tt : TT} {te : TE} {i : Nat} {α : Type} {δ : α → PyData} {as : List α} {p : α → Bool} {f : α → PyData} (hI : GvI K Same wi σ H (as.map δ))
    (hb : ∀ a v H1, a ∈ as → Same H H1 → Dp K H1 v (δ a) → GvT tt ((σ.set i none).set i (some v)) H1 (p a) ∧ (p a = true → Gv K te ((σ.set i none).set i (some v)) H1 (f a)))
    (hf : ∀ a ∈ as, lf (f a) = true) (hn : as.length ≤ 100000) : GvL K (tLc wi (gName i) tt te [i]) σ H ((as.filter p).map f) := (gn_lc hI hb hf hn).gl
theorem gv_lc {wi : TI} {tt : TT} {te : TE} {i : Nat} {α : Type} {δ : α → PyData} {as : List α} {p : α → Bool} {f : α → PyData} (hI : GvI K Same wi σ H (as.map δ))
    (hb : ∀ a v H1, a ∈ as → Same H H1 → Dp K H1 v (δ a) → GvT tt ((σ.set i none).set i (some v)) H1 (p a) ∧ (p a = true → Gv K te ((σ.set i none).set i (some v)) H1 (f a)))
    (hf : ∀ a ∈ as, lf (f a) = true) (hn : as.length ≤ 100000) : Gv K (tLc wi (gName i) tt te [i]) σ H (.list ((as.filter p).map f)) := (gl_lc hI hb hf hn).gv
theorem gs_ret {t : TE} {d : PyData} {D : Ends} (h : Gv K t σ H d) (q : ∀ v H', Same H H' → Dp K H' v d → D.rt v H') : tRet t D σ H := h.at q
theorem gs_if {c : TT} {b : Bool} {t u : TS} {D : Ends} (h : GvT c σ H b) (h1 : b = true → ∀ H', Same H H' → t D σ H') (h2 : b = false → ∀ H', Same H H' → u D σ H') : tIfS c t u D σ H := h.at fun H' s => by
  cases b with
  | true => rw [if_pos rfl]; exact h1 rfl H' s
  | false => rw [if_neg Bool.false_ne_true]; exact h2 rfl H' s
/-- a loop: Pv by the heap at its start, the turn, the slots and the heap -/
theorem gs_for {wi : TI} {g : TG} {tb : TS} {D : Ends} {ds : List PyData} (hI : GvI K R wi σ H ds) (Pv : Hp → Nat → L2.St → Hp → Prop) (h0 : ∀ H1, Same H H1 → Pv H1 0 σ H1) (hS : ∀ H1 k σ' H', Same H H1 → Pv H1 k σ' H' → R H1 H')
    (hs : ∀ H1 k x d σ' H' H'', Same H H1 → ds[k]? = some d → Pv H1 k σ' H' → Same H' H'' → Dp K H'' x d → g x σ' H'' fun σ2 H2 => tb { D with nx := Pv H1 (k + 1), ct := Pv H1 (k + 1), bk := D.nx } σ2 H2)
    (hd : ∀ H1 σ' H', Same H H1 → Pv H1 ds.length σ' H' → D.nx σ' H') : tFor wi g tb D σ H := by
  refine hI H (Same.refl _) _ fun J H1 s1 w => ?_
  refine for_it w (Pv H1) (h0 H1 s1) (fun k σ' H' _ hP => hS H1 k σ' H' s1 hP) (fun k x σ' H' H'' hk hP hY => ?_) (fun σ' H' hP => hd H1 σ' H' s1 hP)
  obtain ⟨s3, d, hd', dx⟩ := hY
  exact hs H1 k x d σ' H' H'' s1 hd' hP s3 dx
end
end Pr
namespace Pr
open PySem PySem.Spec PyProof.Rows L2
section
variable {K : PySem.W.Frag} {σ : L2.St} {H : Hp} {t ta tb : TE} {d e : PyData} {ds es : List PyData}
theorem gs_if1 {c : TT} {b : Bool} {t u : TS} {D : Ends} (h : GvT c σ H b) (h1 : b = true → ∀ H', Same H H' → t { D with nx := u D } σ H') (h2 : b = false → ∀ H', Same H H' → u D σ H') : tSeq (tIfS c t tNext) u D σ H := gs_if h h1 h2
theorem gs_set1 {i : Nat} {u : TS} {D : Ends} (h : Gv K t σ H d) (q : ∀ v H', Same H H' → Dp K H' v d → u D (σ.set i (some v)) H') : tSeq (tAsg t (gName i)) u D σ H := h.at fun v H' s dv => q v H' s dv
/-- a test that comes out false, what stands under it not reached -/
theorem gs_no {c : TT} {t u : TS} {D : Ends} {b : Bool} (h : GvT c σ H b) (hb : b = false) (h2 : ∀ H', Same H H' → u D σ H') : tSeq (tIfS c t tNext) u D σ H := gs_if h (fun e => by rw [hb] at e; cases e) fun _ => h2
theorem gs_noN {c : TT} {t : TS} {D : Ends} {b : Bool} (h : GvT c σ H b) (hb : b = false) (h2 : ∀ H', Same H H' → D.nx σ H') : tIfS c t tNext D σ H := gs_if h (fun e => by rw [hb] at e; cases e) fun _ => h2
theorem gs_setN {i : Nat} {u : TS} {D : Ends} (h : GvN K t σ H ds) (q : ∀ a vs H', Same H H' → H a = none → H' a = some (.lst vs) → DpAll K H' vs ds → u D (σ.set i (some (.ref a))) H') : tSeq (tAsg t (gName i)) u D σ H := h.at fun a vs H' s n e dv => q a vs H' s n e dv
theorem gv_catT (ha : Gv K ta σ H (.tuple ds)) (hb : Gv K tb σ H (.tuple es)) (hn : ds.length + es.length ≤ 100000) : Gv K (tOp (rCatS K) ta tb) σ H (.tuple (ds ++ es)) :=
  gv_op2 ha hb fun x y H1 Q s hx hy q => by
    obtain ⟨a, xs, rfl, hq, hr⟩ := hx.tupI
    obtain ⟨b, ys, rfl, hq2, hr2⟩ := hy.tupI
    exact ⟨a, b, xs, ys, rfl, rfl, hq, hq2, by rw [hr.length, hr2.length]; exact Nat.le_of_lt (small5 hn), fun p H' s' hp => q _ _ s' (.tup hp (DpAll.append (hr.sm s') (hr2.sm s')))⟩
theorem cut_dp {ds : List PyData} {xs : List V} (h : DpAll K H xs ds) (lo hi : Option Int) : DpAll K H (cutV xs lo hi) ((ds.drop (HT.sIx ds.length 0 lo)).take (HT.sIx ds.length ds.length hi - HT.sIx ds.length 0 lo)) := by
  unfold cutV
  rw [h.length]
  exact (h.drop _).take _
end
end Pr
namespace Pr
open PySem PySem.Spec PyProof.Rows L2
/-- each of 0 .. n - 1 once -/
structure IsP (n : Nat) (nm : List Int) : Prop where
  len : nm.length = n
  nd : nm.Nodup
  rng : ∀ x ∈ nm, 0 ≤ x ∧ x < (n : Int)
/-- what button b is called -/
def nmOf (nm : List Int) (x : Int) : Int := nm.getD x.toNat 0
theorem IsP.at {n : Nat} {nm : List Int} (h : IsP n nm) {x : Int} (h0 : 0 ≤ x) (h1 : x < (n : Int)) : nm[x.toNat]? = some (nmOf nm x) := by
  unfold nmOf
  rw [List.getD_eq_getElem?_getD, List.getElem?_eq_getElem (by rw [h.len]; omega)]; rfl
theorem nd_get {l : List Int} (h : l.Nodup) {i j : Nat} {x : Int} (hi : l[i]? = some x) (hj : l[j]? = some x) : i = j := by
  obtain ⟨w1, z1⟩ := List.getElem?_eq_some_iff.mp hi
  obtain ⟨w2, z2⟩ := List.getElem?_eq_some_iff.mp hj
  have hp := List.pairwise_iff_getElem.mp h
  rcases Nat.lt_trichotomy i j with lt | e | lt
  · exact absurd (z1.trans z2.symm) (hp _ _ w1 w2 lt)
  · exact e
  · exact absurd (z2.trans z1.symm) (hp _ _ w2 w1 lt)
theorem IsP.inj {n : Nat} {nm : List Int} (h : IsP n nm) {x y : Int} (h0 : 0 ≤ x) (h1 : x < (n : Int)) (h2 : 0 ≤ y) (h3 : y < (n : Int)) (e : nmOf nm x = nmOf nm y) : x = y := by
  have a := h.at h0 h1
  have b := h.at h2 h3
  rw [← e] at b
  have := nd_get h.nd a b
  omega
end Pr
namespace Pr
open PySem PySem.Spec PyProof.Rows L2
section
variable {κ : Type} [DecidableEq κ]
abbrev BL (κ : Type) := List (κ × List Int)
variable {step : κ → Nat → κ} {n : Nat} {s : κ}
end
end Pr
namespace Pr
open PySem PySem.Spec PyProof.Rows L2 PySem.W
/-- v is a tuple that holds these numbers -/
def IsTI (h : Heap) (v : Value) (ns : List Int) : Prop :=
  ∃ (a : Addr) (dd : Option Addr) (items : Array Value) (n : Nat) (sl : Array (Option Value)), v = .ref a ∧ h.get? a = some { cls := .type "tuple", dict := dd, data := .seq items n, slots := sl } ∧ IntsAre items.toList ns
theorem IsTI.keeps {h h' : Heap} {v : Value} {ns : List Int} (x : IsTI h v ns) (k : ∀ b o, v = .ref b → h.get? b = some o → h'.get? b = some o) : IsTI h' v ns := by
  obtain ⟨a, dd, items, n, sl, e, g, i⟩ := x
  exact ⟨a, dd, items, n, sl, e, k _ _ e g, i⟩
theorem IsTI.type {M : Model} {h : Heap} {v : Value} {ns : List Int} (x : IsTI h v ns) : Looks M h (typeOf v) (.type "tuple") := by
  obtain ⟨a, dd, items, n, sl, rfl, g, i⟩ := x
  exact (Looks.ld g).andThen .now
end Pr
namespace Pr
open PySem PySem.Spec PyProof.Rows L2 PySem.W
end Pr
namespace Pr
open PySem PySem.Spec PyProof.Rows L2
theorem val_zip {κ : Type} [DecidableEq κ] : ∀ {ks : List κ} {vs : List V} {i : Nat} {k : κ} {v : V}, ks.Nodup → ks[i]? = some k → vs[i]? = some v → valV (ks.zip vs) k = some v
  | [], _, _, _, _, _, h, _ => by simp at h
  | _ :: _, [], _, _, _, _, _, h => by simp at h
  | a :: ks, b :: vs, 0, k, v, nd, h1, h2 => by
    simp at h1 h2; subst h1 h2
    rw [List.zip_cons_cons]; exact valV_pos rfl
  | a :: ks, b :: vs, i + 1, k, v, nd, h1, h2 => by
    rw [List.nodup_cons] at nd
    have h1' : ks[i]? = some k := by simpa using h1
    rw [List.zip_cons_cons, valV_neg (fun e => nd.1 (by rw [show a = k from e]; exact List.mem_of_getElem? h1'))]
    exact val_zip nd.2 h1' (by simpa using h2)
theorem val_zip_none {κ : Type} [DecidableEq κ] : ∀ {ks : List κ} {vs : List V} {k : κ}, k ∉ ks → valV (ks.zip vs) k = none
  | [], _, _, _ => rfl
  | _ :: _, [], _, _ => by rw [List.zip_nil_right]; rfl
  | a :: ks, b :: vs, k, h => by
    rw [List.zip_cons_cons, valV_neg (fun e => h (by rw [show a = k from e]; exact List.mem_cons_self))]
    exact val_zip_none fun z => h (List.mem_cons_of_mem _ z)
/-- the dict of the things found, each with its row -/
def DictB (K : PySem.W.Frag) (H : Hp) (d : Addr) (L : BL (List Key)) : Prop := ∃ vs, H d = some (.dT ((L.map (·.1)).zip vs)) ∧ DpAll K H vs (L.map fun x => dInts x.2)
theorem DictB.same {K : PySem.W.Frag} {H H' : Hp} {d : Addr} {L : BL (List Key)} (h : DictB K H d L) (s : Same H H') : DictB K H' d L := let ⟨vs, e, dv⟩ := h; ⟨vs, s _ _ e, dv.sm s⟩
theorem DictB.get {K : PySem.W.Frag} {H : Hp} {d a : Addr} {L : BL (List Key)} {i : Nat} {x : List Key × List Int} (h : DictB K H d L) (nd : (L.map (·.1)).Nodup) (hx : L[i]? = some x) (ea : H a = some (.tup (x.1.map kV))) : ∃ v, DGet H d (.ref a) (some v) ∧ Dp K H v (dInts x.2) := by
  obtain ⟨vs, e, dv⟩ := h
  obtain ⟨v, hv, dx⟩ := dv.get i (dInts x.2) (by rw [List.getElem?_map, hx]; rfl)
  refine ⟨v, ?_, dx⟩
  have := DGet.t (k := x.1) e ea
  rwa [val_zip nd (by rw [List.getElem?_map, hx]; rfl) hv] at this
theorem DictB.none {K : PySem.W.Frag} {H : Hp} {d a : Addr} {L : BL (List Key)} {k : List Key} (h : DictB K H d L) (hk : k ∉ L.map (·.1)) (ea : H a = some (.tup (k.map kV))) : DGet H d (.ref a) none := by
  obtain ⟨vs, e, dv⟩ := h
  have := DGet.t (k := k) e ea
  rwa [val_zip_none hk] at this
theorem DictB.some {K : PySem.W.Frag} {H : Hp} {d a : Addr} {L : BL (List Key)} {k : List Key} (h : DictB K H d L) (nd : (L.map (·.1)).Nodup) (hk : k ∈ L.map (·.1)) (ea : H a = some (.tup (k.map kV))) : ∃ v, DGet H d (.ref a) (some v) := by
  obtain ⟨x, hx, rfl⟩ := List.mem_map.mp hk
  obtain ⟨i, hi⟩ := List.getElem?_of_mem hx
  obtain ⟨v, g, _⟩ := h.get nd hi ea
  exact ⟨v, g⟩
end Pr
namespace Pr
open PySem PySem.Spec PyProof.Rows L2
theorem ok_app {a b : Str} (ha : PyData.strOk a = true) (hb : PyData.strOk b = true) : PyData.strOk (a ++ b) = true := by
  unfold PyData.strOk at ha hb ⊢
  show (a.cps ++ b.cps).all _ = true
  rw [Array.all_append, ha, hb]; rfl
theorem ok_of (s : String) : PyData.strOk (Str.ofString s) = true := by
  unfold PyData.strOk
  rw [Str.ofString_eq_toList, Array.all_eq_true_iff_forall_mem]
  intro x hx
  rw [List.mem_toArray, List.mem_map] at hx
  obtain ⟨c, _, rfl⟩ := hx
  rw [decide_eq_true_eq]
  have := c.valid
  rcases this with h | h
  · exact Nat.lt_trans h (by decide)
  · exact h.2
theorem ok_join {sep : Str} (hs : PyData.strOk sep = true) : ∀ {ts : List Str}, (∀ t ∈ ts, PyData.strOk t = true) → PyData.strOk (Str.join sep ts) = true
  | [], _ => by show PyData.strOk Str.empty = true; decide +kernel
  | [x], h => h x List.mem_cons_self
  | x :: y :: r, h => by
    show PyData.strOk (x ++ sep ++ Str.join sep (y :: r)) = true
    exact ok_app (ok_app (h x List.mem_cons_self) hs) (ok_join hs fun t ht => h t (List.mem_cons_of_mem _ ht))
theorem shp_of {d : PyData} (h : d.canLay0 = true) (hd : d.depth ≤ 64) : SeqAt.shaped d = true := by
  unfold SeqAt.shaped
  rw [h, decide_eq_true hd]; rfl
end Pr
namespace Pr
open PySem PySem.Spec PyProof.Rows L2
/-- a new tuple -/
def GvU (K : PySem.W.Frag) (t : TE) (σ : L2.St) (H : Hp) (ds : List PyData) : Prop := ∀ H1, Same H H1 → ∀ Q : VK, (∀ a vs H', Same H1 H' → H1 a = none → H' a = some (.tup vs) → DpAll K H' vs ds → Q (.ref a) H') → t σ H1 Q
section
variable {K : PySem.W.Frag} {σ : L2.St} {H : Hp} {t ta tb : TE} {d e : PyData} {ds es : List PyData}
theorem GvU.at (h : GvU K t σ H ds) {Q : VK} (q : ∀ a vs H', Same H H' → H a = none → H' a = some (.tup vs) → DpAll K H' vs ds → Q (.ref a) H') : t σ H Q := h H (Same.refl _) Q q
theorem GvU.gv (h : GvU K t σ H ds) : Gv K t σ H (.tuple ds) := fun H1 s Q q => h H1 s Q fun a vs H' s' _ e dv => q _ H' s' (.tup (.inl (.inl e)) dv)
theorem gu_tupL (h : Gv K t σ H (.list ds)) : GvU K (tCB (rTupG K) (tCons t tNil)) σ H ds := fun H1 s Q q => h H1 s _ fun v H2 s2 d2 => by
  obtain ⟨a, xs, rfl, hq, hr⟩ := d2.lstI
  exact ⟨a, xs, rfl, .inl ⟨hq, fun l nl => q _ _ _ (s2.trans (same_new nl)) (s2.free nl) upd_same (hr.sm (same_new nl))⟩⟩
end
section
variable {X : Cx}
def rRepA (K : PySem.W.Frag) : R2 := fun x y H Q => ∃ (l : Addr) (v : V) (k : Nat), x = .ref l ∧ y = .int (k : Int) ∧ SqT K H l [v] ∧ k ≤ 1000 ∧ ∀ p H', Same H H' → SqT K H' p (List.replicate k v) → Q (.ref p) H'
theorem rep_flatA {v : V} : ∀ k : Nat, (List.replicate k [v]).flatten = List.replicate k v
  | 0 => rfl
  | k + 1 => by rw [List.replicate_succ, List.flatten_cons, rep_flatA k]; rfl
theorem op_repA : OpR X (binaryOp .Mult) (rRepA X.K) := by
  intro pins s σ H x y v u Q I rx ry h
  obtain ⟨l, z, k, rfl, rfl, hT, hk, q⟩ := h
  match k, hk, q, ry with
  | 0, _, q, ry => exact op_rep1 pins s σ H _ _ v u Q I rx ry ⟨l, z, rfl, hT, .inr ⟨rfl, fun p np => q p _ (same_new np) (.inl (.inl upd_same))⟩⟩
  | 1, _, q, ry => exact op_rep1 pins s σ H _ _ v u Q I rx ry ⟨l, z, rfl, hT, .inl ⟨rfl, q l H (Same.refl _) hT⟩⟩
  | k + 2, hk, q, ry => exact op_repT pins s σ H _ _ v u Q I rx ry ⟨l, ((k + 2 : Nat) : Int), [z], rfl, rfl, hT, by simp, by omega, by omega, (by show 1 ≤ 1000; decide), fun p np => q p _ (same_new np) (.inl (.inl (by rw [upd_same, Int.toNat_natCast, rep_flatA])))⟩
theorem gv_repA {K : PySem.W.Frag} {σ : L2.St} {H : Hp} {ta tb : TE} {d : PyData} {k : Nat} (ha : Gv K ta σ H (.tuple [d])) (hb : Gv K tb σ H (.int (k : Int))) (hk : k ≤ 1000) : Gv K (tOp (rRepA K) ta tb) σ H (.tuple (List.replicate k d)) :=
  gv_op2 ha hb fun x y H1 Q s hx hy q => by
    cases hy
    obtain ⟨a, xs, rfl, hq, hr⟩ := hx.tupI
    obtain ⟨v, rfl, dv⟩ := dpAll1 hr
    refine ⟨a, v, k, rfl, rfl, hq, hk, fun p H' s' hp => q _ _ s' (.tup hp ?_)⟩
    have : ∀ m, DpAll K H' (List.replicate m v) (List.replicate m d) := fun m => by
      induction m with
      | zero => exact .nil
      | succ m ih => exact .cons (dv.sm s') ih
    exact this k
end
end Pr
namespace Pr
open PySem PySem.Spec PyProof.Rows L2
end Pr
namespace L2
theorem Room.u1 {k : Nat} {A : PySem.Around} (r : Room k A) : A.units + 1 < PySem.cLine := Nat.lt_of_le_of_lt (Nat.add_le_add_left (show 1 ≤ 64 by decide) _) r.units
end L2
namespace Pr
open PySem PySem.Spec PyProof.Rows L2
def rReprN (K : PySem.W.Frag) : List V → Hp → VK → Prop := fun xs H Q => rRepr K xs H Q ∨ (xs = [.non] ∧ Q (.str (PyData.shown .none)) H)
theorem shq_none : Shq 60 sizeLine .none := ⟨by simp only [PyData.showable], by simp [PyData.depth], by simp only [PyData.shown]; decide⟩
theorem cr_reprN {X : Cx} {k : Nat} (gd : X.A.guards = some []) (hr : Room k X.A) : CallR X (.builtin "repr") (rReprN X.K) := by
  intro pins s σ H xs us Q I rv h
  rcases h with h | ⟨rfl, q⟩
  · exact call_repr gd hr pins s σ H xs us Q I rv h
  · exact call_reprQ gd hr pins s σ H _ us Q I rv ⟨fun _ => False, .non, .none, rfl, .non, shq_none, q⟩
section
variable {K : PySem.W.Frag} {σ : L2.St} {H : Hp} {t ta tb : TE} {d e : PyData}
/-- what repr takes -/
def RepOk (d : PyData) : Prop := d = .none ∨ (Shw 60 sizeLine d ∧ ∃ ds, d = .tuple ds ∨ d = .list ds)
theorem gv_reprN (h : Gv K t σ H d) (hd : RepOk d) : Gv K (tCB (rReprN K) (tCons t tNil)) σ H (.str d.shown) := by
  rcases hd with rfl | ⟨hs, hr⟩
  · exact gv_cb (gva_cons h gva_nil) fun vs H1 Q s hd' q => by
      obtain ⟨v, rfl, hv⟩ := dpAll1 hd'
      cases hv
      exact .inr ⟨rfl, q _ _ (Same.refl _) (.str _)⟩
  · exact gv_cb (gva_cons h gva_nil) fun vs H1 Q s hd' q => by
      obtain ⟨v, rfl, hv⟩ := dpAll1 hd'
      obtain ⟨a, rfl⟩ : ∃ a, v = V.ref a := by
        obtain ⟨ds, rfl | rfl⟩ := hr
        · obtain ⟨a, _, e, _⟩ := hv.tupI; exact ⟨a, e⟩
        · obtain ⟨a, _, e, _⟩ := hv.lstI; exact ⟨a, e⟩
      exact .inl ⟨a, d, rfl, hv, hs.sh, hs.nd, hs.dp, hs.ln, q _ _ (Same.refl _) (.str _)⟩
theorem gv_neB {i j : Bool} (ha : Gv K ta σ H (.bool i)) (hb : Gv K tb σ H (.bool j)) : Gv K (tOp rNe ta tb) σ H (.bool (!decide (i = j))) :=
  gv_op2 ha hb fun x y H1 Q s hx hy q => by
    cases hx; cases hy
    refine ⟨rfl, q _ _ (Same.refl _) ?_⟩
    have : decide (V.bl i = V.bl j) = decide (i = j) := by cases i <;> cases j <;> rfl
    rw [this]; exact .bl _
end
end Pr
namespace K52
open PySem PySem.Spec PyProof.Rows L2 Pr
def rMin2 : List V → Hp → VK → Prop := fun xs H Q => ∃ i j, xs = [.int i, .int j] ∧ Q (.int (if j < i then j else i)) H
theorem gs_seqJ {t u : TS} {D : Ends} {σ : L2.St} {H : Hp} (J : L2.St → Hp → Prop) (hk : ∀ σ' H', J σ' H' → u D σ' H') (h : (∀ σ' H', J σ' H' → u D σ' H') → t { D with nx := u D } σ H) : tSeq t u D σ H := h hk
theorem Deck.upd' {H : Hp} {a c b : Addr} {m : Nat} {o : HO} (d : Deck H a c m) (n : b ≠ a ∧ b ≠ c) : Deck (upd H b o) a c m := by
  obtain ⟨cs, k, h1, h2, h3⟩ := d
  exact ⟨cs, k, by rw [upd_ne (Ne.symm n.1)]; exact h1, by rw [upd_ne (Ne.symm n.2)]; exact h2, h3⟩
def nPanel : List Str := ["_law_deck_here", "_law_most", "_law_n", "_law_way", "_law_share", "_law_found", "_law_button", "_law_own", "_law_one"]
theorem scPanel : FnScope nPanel ["_law_deck_here", "_law_most"] (defScope sPanel) := ⟨rfl, rfl, rfl, by decide +kernel, rfl, by decide +kernel, by decide +kernel⟩
section
variable {P : Program} {w : World} {K : PySem.W.Frag} {mg : Str → Option Value} {base : Heap}
def spPanel (K : PySem.W.Frag) : Sp := fun vs H Q _ => ∃ (a c : Addr) (m : Nat) (most : Int), vs = [.ref a, .int most] ∧ Deck H a c (m + 300) ∧ 1 ≤ most ∧ most ≤ 10 ∧
  ∀ H' v pan, But a c H H' → Deck H' a c m → Dp K H' v (dPan pan) → Good pan → (pan.length : Int) ≤ most → Q v H'
theorem ok_Panel {fDraw : Addr} {fdDraw : FuncData} {f : Addr} {fd : FuncData} {k : Nat} (F : Fun K "_law_panel" "_law_panel" sPanel f fd)
    (FDraw : Fun K "_law_draw" "_law_draw" sDraw fDraw fdDraw) (bDraw : Binds K fdDraw ["_law_deck_here", "_law_many"] []) (gDraw : mg "_law_draw" = some (.ref fDraw))
    (m_len : mg "len" = none) (m_list : mg "list" = none) (m_min : mg "min" = none) (m_range : mg "range" = none) (m_tuple : mg "tuple" = none) : FnOk P w K mg base CX0 (k + 2) f fd ["_law_deck_here", "_law_most"] (spPanel K) := by
  have GDraw : FnOk P w K mg base CX0 (k + 1) fDraw fdDraw ["_law_deck_here", "_law_many"] spDraw := ok_draw FDraw m_len
  refine F.ok scPanel (fun vs H Q E h => ?_) (fun cdv A outer s H vs Q E hr h => ?_)
  · obtain ⟨a, c, m, most, rfl, _⟩ := h
    rfl
  · obtain ⟨a, c, m, most, rfl, hD, m1, m2, q⟩ := h
    refine ⟨_, pss_cons (ps_set (i := 2) scPanel.nd rfl (.inl rfl) (pe_ix (show IxR _ (rIxL K) from ix_list) (pe_lst (pa_cons (pe_op op_add pe_int (pe_call GDraw (hr.mono (by omega)) (by rfl) gDraw FDraw.kp bDraw .nil pass0 (pa_cons (pv 0) (pa_cons (pv 1) pa_nil)))) (pa_cons (pv 1) (pa_cons (pe_op op_add pe_int (pe_call GDraw (hr.mono (by omega)) (by rfl) gDraw FDraw.kp bDraw .nil pass0 (pa_cons (pv 0) (pa_cons (pe_callB (show CallR _ _ rMin2 from call_min2 rfl) (by rfl) m_min (by decide +kernel) (pa_cons pe_int (pa_cons (pv 1) pa_nil))) pa_nil)))) pa_nil)))) (pe_call GDraw (hr.mono (by omega)) (by rfl) gDraw FDraw.kp bDraw .nil pass0 (pa_cons (pv 0) (pa_cons pe_int pa_nil))) (fun _ _ => rfl)))
      (pss_cons (ps_asg (pe_tup (pa_cons (pe_call GDraw (hr.mono (by omega)) (by rfl) gDraw FDraw.kp bDraw .nil pass0 (pa_cons (pv 0) (pa_cons pe_int pa_nil))) (pa_cons (pe_op op_add pe_int (pe_call GDraw (hr.mono (by omega)) (by rfl) gDraw FDraw.kp bDraw .nil pass0 (pa_cons (pv 0) (pa_cons pe_int pa_nil)))) (pa_cons (pe_lst pa_nil) pa_nil)))) (pg_tup rfl (pgs_cons (pg_name (i := 3) scPanel.nd rfl (Or.inl rfl)) (pgs_cons (pg_name (i := 4) scPanel.nd rfl (Or.inr rfl)) (pgs_cons (pg_name (i := 5) scPanel.nd rfl (Or.inl rfl)) pgs_nil)))))
      (pss_cons (ps_for PassesOwn.never rfl (pi_range1 (by rfl) m_range (pa_cons (pv 2) pa_nil)) (pg_name (i := 6) scPanel.nd rfl (Or.inr rfl)) (pss_cons (ps_setLc (i := 7) (own := [("_law_one", 8)]) (g := gName 8) rfl scPanel.nd rfl rfl (sw_true rfl rfl rfl (by decide +kernel)) (pi_range1 (by rfl) m_range (pa_cons (pv 2) pa_nil)) (blkOk_by (own := [("_law_one", 8)]) (N := nPanel) (sc := defScope sPanel) (by decide +kernel)) (fun _ _ _ _ _ => pg_name (i := 8) scPanel.nd rfl (Or.inl rfl)) (fun _ _ _ _ _ => pts_one (pt_cmpR op_lt (pe_call GDraw (hr.mono (by omega)) (by rfl) gDraw FDraw.kp bDraw .nil pass0 (pa_cons (pv 0) (pa_cons pe_int pa_nil))) (pv 4) (nomark _))) (fun _ _ _ _ _ => pv 8))
      (pss_cons (ps_if (pt_cmpR op_eq (pv 3) pe_int (nomark _)) (pss_one (ps_set (i := 7) scPanel.nd rfl (.inl rfl) (pe_lst (pa_cons (pe_op op_mod (pe_op op_add (pv 6) pe_int) (pv 2)) pa_nil)))) pss_nil)
      (pss_cons (ps_if (PW.pt (pw_and (pt_cmpR op_eq (pv 3) pe_int (nomark _)) (pw_and1 (pt_cmpR op_eq (pe_call GDraw (hr.mono (by omega)) (by rfl) gDraw FDraw.kp bDraw .nil pass0 (pa_cons (pv 0) (pa_cons pe_int pa_nil))) pe_int (nomark _))))) (pss_one (ps_set (i := 7) scPanel.nd rfl (.inl rfl) (pe_listRg rfl (by rfl) m_list (prg_1 (by rfl) m_range (pv 2))))) pss_nil)
      (pss_cons (ps_if (pt_cmpR op_eq (pv 3) pe_int (nomark _)) (pss_one (ps_setLc (i := 7) (own := [("_law_one", 8)]) (g := gName 8) rfl scPanel.nd rfl rfl (sw_true rfl rfl rfl (by decide +kernel)) (show PI _ _ _ (iList K _) from pi_list (pv 7)) (blkOk_by (own := [("_law_one", 8)]) (N := nPanel) (sc := defScope sPanel) (by decide +kernel)) (fun _ _ _ _ _ => pg_name (i := 8) scPanel.nd rfl (Or.inl rfl)) (fun _ _ _ _ _ => pts_one (pt_cmpR op_gt (pv 8) (pv 6) (nomark _))) (fun _ _ _ _ _ => pv 8))) pss_nil)
      (pss_one (ps_expr (show PE _ _ (tBM K "list" rAppend _ _) from pe_bm PySem.F.plainAttrs_list PySem.F.slot_list_append PySem.F.type_list_append mt_append (pv 5) (pa_cons (pe_callTy (show CallR _ _ (rTupG K) from cr_tupG) (by rfl) m_tuple (by decide +kernel) (pa_cons (pe_lc (own := [("_law_one", 8)]) (g := gName 8) rfl scPanel.nd (show PI _ _ _ (iList K _) from pi_list (pv 7)) (blkOk_by (own := [("_law_one", 8)]) (N := nPanel) (sc := defScope sPanel) (by decide +kernel)) (fun _ _ _ _ _ => pg_name (i := 8) scPanel.nd rfl (Or.inl rfl)) (fun _ _ _ _ _ => pts_one (pt_cmpR op_ne (pv 8) (pv 6) (nomark _))) (fun _ _ _ _ _ => pv 8)) pa_nil)) pa_nil)))))))))
      (pss_one (ps_ret (pe_callTy (show CallR _ _ (rTupG K) from cr_tupG) (by rfl) m_tuple (by decide +kernel) (pa_cons (pv 5) pa_nil)))))), ?_⟩
    refine ⟨.ref a, rfl, .int most, rfl, a, c, m + 299, most, rfl, hD.less (by omega), by omega, by omega, fun H1 r1 b1 D1 r1a r1b => ?_⟩
    refine ⟨1, r1, rfl, rfl, .int most, rfl, .ref a, rfl, .int most, rfl, 4, most, rfl, a, c, m + 298, _, rfl, D1.less (by omega), by split <;> omega, by split <;> omega, fun H2 r2 b2 D2 r2a r2b => ?_⟩
    refine ⟨1, r2, rfl, rfl, by show 3 ≤ sizeLine; decide, fun L nL => ?_⟩
    have sL : Same H2 (upd H2 L (.lst [.int (1 + r1), .int most, .int (1 + r2)])) := same_new nL
    refine ⟨.ref a, rfl, a, c, m + 297, 3, rfl, (D2.same sL).less (by omega), by decide, by decide, fun H3 r3 b3 D3 r3a r3b => ?_⟩
    have hL : H3 L = some (.lst [.int (1 + r1), .int most, .int (1 + r2)]) := b3 _ _ (D2.fresh nL).1 (D2.fresh nL).2 upd_same
    have r2c : r2 < most := by revert r2b; split <;> intro r2b <;> omega
    obtain ⟨nn, hnn, nn1, nn2⟩ : ∃ nn : Nat, atI [V.int (1 + r1), .int most, .int (1 + r2)] r3 = some (.int (nn : Int)) ∧ 1 ≤ nn ∧ (nn : Int) ≤ most := by
      obtain rfl | rfl | rfl : r3 = 0 ∨ r3 = 1 ∨ r3 = 2 := by omega
      · exact ⟨(1 + r1).toNat, by rw [Int.toNat_of_nonneg (by omega)]; rfl, by omega, by omega⟩
      · exact ⟨most.toNat, by rw [Int.toNat_of_nonneg (by omega)]; rfl, by omega, by omega⟩
      · exact ⟨(1 + r2).toNat, by rw [Int.toNat_of_nonneg (by omega)]; rfl, by omega, by omega⟩
    have nn3 : nn ≤ 10 := by omega
    refine ⟨L, _, _, .int (nn : Int), rfl, rfl, .inl (.inl hL), hnn, ?_⟩
    refine ⟨.ref a, rfl, a, c, m + 296, 5, rfl, D3.less (by omega), by decide, by decide, fun H4 r4 b4 D4 r4a r4b => ?_⟩
    refine ⟨.ref a, rfl, a, c, m + 295, 4, rfl, D4.less (by omega), by decide, by decide, fun H5 r5 b5 D5 r5a r5b => ⟨1, r5, rfl, rfl, ?_⟩⟩
    refine ⟨Nat.zero_le _, fun F nF => ⟨by show 3 ≤ sizeLine; decide, fun T nT => ⟨T, _, rfl, .inl (.inl upd_same), rfl, _, _, rfl, _, _, rfl, _, _, rfl, rfl, ?_⟩⟩⟩
    dsimp only
    have b05 : But a c H H5 := (((b1.trans b2).trans (But.of sL)).trans b3).trans (b4.trans b5)
    have hnF : H F = none := by
      cases e : H F with
      | none => rfl
      | some o => have := b05 F o (D5.fresh nF).1 (D5.fresh nF).2 e; rw [nF] at this; cases this
    have FD' := D5.fresh nF
    refine gen_heap (fun H6 => But a c H H6 ∧ Deck H6 a c (m + 200) ∧ H6 F = some (.lst [])) ⟨(b05.trans (But.of (same_new nF))).trans (But.of (same_new nT)), ((D5.same (same_new nF)).same (same_new nT)).less (by omega), same_new nT _ _ upd_same⟩ fun H6 ⟨b6, D6, eF6⟩ => ?_
    refine ⟨.int (nn : Int), rfl, (nn : Int), rfl, by omega, by omega, ?_⟩
    refine for_range (n := nn) (fun i σ H7 => But a c H H7 ∧ Deck H7 a c (m + 12 * (10 - i)) ∧ i ≤ nn ∧
        (∃ (vs : List V) (pan : List (List Int)), H7 F = some (.lst vs) ∧ DpAll K H7 vs (pan.map dInts) ∧ pan.length = i ∧ ∀ (j : Nat) (l : List Int), pan[j]? = some l → Asc nn l ∧ (j : Int) ∉ l) ∧
        ∃ x6 x7 x8, σ = [some (.ref a), some (.int most), some (.int (nn : Int)), some (.int r4), some (.int (1 + r5)), some (.ref F), x6, x7, x8]) ⟨b6, D6.less (by omega), Nat.zero_le _, ⟨[], [], eF6, .nil, rfl, fun j l h => by simp at h⟩, none, none, none, rfl⟩ (fun i σ H7 hi hP => ?_) (fun σ H7 hP => ?_)
    · obtain ⟨b7, D7, hin, ⟨vs, pan, eF7, dvs, hpl, hpan⟩, x6, x7, x8, rfl⟩ := hP
      rw [Int.zero_add]
      have vl : vs.length ≤ 10 := by rw [dvs.length, List.length_map, hpl]; omega
      let J : L2.St → Hp → Prop := fun σ H' => But a c H7 H' ∧ Deck H' a c (m + 12 * (10 - i) - 12) ∧ ∃ (O : Addr) (acc : List Int) (x8 : Option V), H' O = some (.lst (acc.map V.int)) ∧ (O ≠ a ∧ O ≠ c) ∧ Asc nn acc ∧ σ = [some (.ref a), some (.int most), some (.int (nn : Int)), some (.int r4), some (.int (1 + r5)), some (.ref F), some (.int (i : Int)), some (.ref O), x8]
      let J0 : L2.St → Hp → Prop := fun σ H' => But a c H7 H' ∧ Deck H' a c (m + 12 * (10 - i) - 11) ∧ ∃ (O : Addr) (acc : List Int) (x8 : Option V), H' O = some (.lst (acc.map V.int)) ∧ (O ≠ a ∧ O ≠ c) ∧ Asc nn acc ∧ σ = [some (.ref a), some (.int most), some (.int (nn : Int)), some (.int r4), some (.int (1 + r5)), some (.ref F), some (.int (i : Int)), some (.ref O), x8]
      refine gs_seqJ (J := J0) (fun σ8 H8 hJ => ?_) (fun hk => ?_)
      · refine gs_seqJ (J := J0) (fun σ9 H9 hJ => ?_) (fun hk => ?_)
        · refine gs_seqJ (J := J) (fun σ9 H9 hJ => ?_) (fun hk => ?_)
          · refine gs_seqJ (J := J) (fun σ9 H9 hJ => ?_) (fun hk => ?_)
            · -- append
              obtain ⟨b9, D9, O, acc, x8, eO, nO, hacc, rfl⟩ := hJ
              have al := hacc.len
              have eF9 := b9 _ _ FD'.1 FD'.2 eF7
              refine ⟨.ref F, rfl, .inl ⟨rfl, _, .inl (.inl eF9)⟩, (gu_tupL (K := K) (gv_lc (δ := PyData.int) (as := acc) (p := fun z => !decide (z = (i : Int))) (f := PyData.int) (gvi_list (gv_var rfl (.lst (.inl (.inl eO)) (dpAll_ints acc)))) (fun z vz Hz hz sz dz => ⟨gvt_test (gv_neI (gv_var rfl dz) (gv_var rfl (.int (i : Int)))), fun _ => gv_var rfl dz⟩) (fun _ _ => rfl) (by omega))).at fun p ws HA sA np ep dp => ?_⟩
              have eFA := sA _ _ eF9
              refine ⟨F, _, .ref p, rfl, rfl, eFA, Nat.lt_of_le_of_lt vl (by decide), ?_⟩
              have kF := Kp.upd (o := .lst (vs ++ [.ref p])) eFA
              have k7A : Kp H7 HA := (Kp.but D7 b9).trans (Kp.of sA)
              have hne : ∀ b o, b ≠ a → b ≠ c → H b = some o → HA b = some o := fun b o h1 h2 e => sA _ _ (b9 b o h1 h2 (b7 b o h1 h2 e))
              refine ⟨fun b o h1 h2 e => by rw [upd_ne (ne_of_none e hnF)]; exact hne b o h1 h2 e, (Deck.upd' (D9.same sA) FD').less (by omega), hi, ⟨vs ++ [.ref p], pan ++ [acc.filter fun z => !decide (z = (i : Int))], upd_same, ?_, by rw [List.length_append, hpl]; rfl, fun j l hj => ?_⟩, _, _, _, rfl⟩
              · rw [List.map_append]
                refine DpAll.append (dpAll_kp (k7A.trans kF) _ _ (lfAll_of fun d hd => by obtain ⟨l, _, rfl⟩ := List.mem_map.mp hd; exact lf_ints l) dvs) (.cons ?_ .nil)
                have pF : p ≠ F := fun z => by rw [z, eF9] at np; cases np
                rw [dpAll_intsV dp] at ep
                exact dp_ints (.inl (.inl (by rw [upd_ne pF]; exact ep)))
              · by_cases hji : j < i
                · rw [List.getElem?_append_left (by omega)] at hj
                  exact hpan j l hj
                · rw [List.getElem?_append_right (by omega), hpl] at hj
                  obtain rfl : j = i := by
                    have := (List.getElem?_eq_some_iff.mp hj).1
                    rw [List.length_singleton] at this; omega
                  rw [Nat.sub_self] at hj
                  obtain rfl : (acc.filter fun z => !decide (z = (j : Int))) = l := by simpa using hj
                  exact ⟨⟨hacc.up.filter _, fun x hx => hacc.rng x (List.mem_filter.mp hx).1⟩, fun h => by simpa using (List.mem_filter.mp h).2⟩
            · -- way == 2
              obtain ⟨b9, D9, O, acc, x8, eO, nO, hacc, rfl⟩ := hJ
              have al := hacc.len
              refine gs_if (gvt_test (K := K) (gv_eqI (gv_var rfl (.int r4)) gv_int)) (fun e H' s' => ?_) (fun e H' s' => ?_)
              · refine (gn_lc (K := K) (δ := PyData.int) (as := acc) (p := fun z => decide ((i : Int) < z)) (f := PyData.int) (gvi_list (gv_var rfl (.lst (.inl (.inl (s' _ _ eO))) (dpAll_ints acc)))) (fun z vz Hz hz sz dz => ⟨gvt_test (gv_I0 (gv_var rfl dz) (gv_var rfl (.int (i : Int))) fun _ => .bl _), fun _ => gv_var rfl dz⟩) (fun _ _ => rfl) (by omega)).at fun O2 ws HA sA nA eA dA => ?_
                rw [dpAll_intsV dA] at eA
                exact hk _ _ ⟨b9.trans (But.of (s'.trans sA)), (D9.same (s'.trans sA)), O2, _, _, eA, D9.fresh (s'.free nA), ⟨hacc.up.filter _, fun x hx => hacc.rng x (List.mem_filter.mp hx).1⟩, rfl⟩
              · exact hk _ _ ⟨b9.trans (But.of s'), D9.same s', O, acc, _, s' _ _ eO, nO, hacc, rfl⟩
          · -- way == 1 and a draw
            obtain ⟨b9, D9, O, acc, x8, eO, nO, hacc, rfl⟩ := hJ
            refine ⟨.int r4, rfl, rfl, _, rfl, ite2 (fun e => ?_) (fun e => ?_)⟩
            · refine ⟨.ref a, rfl, a, c, m + 12 * (10 - i) - 12, 2, rfl, D9.less (by omega), by decide, by decide, fun HA rA bA DA rAa rAb => ⟨rfl, _, rfl, ite2 (fun e2 => ?_) (fun e2 => ?_)⟩⟩
              · refine ⟨.int (nn : Int), rfl, (nn : Int), rfl, ⟨by omega, by omega, by omega, by omega, by have := small5 (n := nn) (by omega); omega⟩, fun O2 nO2 => ?_⟩
                have eR : rgV 0 (nn : Int) = (intL nn).map V.int := by
                  unfold rgV intL
                  rw [List.map_map, Int.sub_zero, Int.toNat_natCast]
                  exact List.map_congr_left fun z _ => by simp
                exact hk _ _ ⟨(b9.trans bA).trans (But.of (same_new nO2)), DA.same (same_new nO2), O2, intL nn, _, by rw [upd_same, eR], DA.fresh nO2, by have := Asc.filter (n := nn) (fun _ => true); rwa [List.filter_eq_self.mpr (fun _ _ => rfl)] at this, rfl⟩
              · exact hk _ _ ⟨b9.trans bA, DA, O, acc, _, bA _ _ nO.1 nO.2 eO, nO, hacc, rfl⟩
            · exact hk _ _ ⟨b9, D9.less (by omega), O, acc, _, eO, nO, hacc, rfl⟩
        · -- way == 0
          obtain ⟨b9, D9, O, acc, x8, eO, nO, hacc, rfl⟩ := hJ
          refine gs_if (gvt_test (K := K) (gv_eqI (gv_var rfl (.int r4)) gv_int)) (fun e H' s' => ?_) (fun e H' s' => ?_)
          · refine ⟨.int (i : Int), rfl, _, 1, rfl, rfl, .int (nn : Int), rfl, _, _, rfl, rfl, (by show (0 : Int) < (nn : Int); omega), by show 1 ≤ sizeLine; decide, fun O2 nO2 => ?_⟩
            exact hk _ _ ⟨b9.trans (But.of (s'.trans (same_new nO2))), D9.same (s'.trans (same_new nO2)), O2, [((i : Int) + 1) % (nn : Int)], _, upd_same, D9.fresh (s'.free nO2), ⟨List.pairwise_singleton _ _, fun x hx => by rw [List.mem_singleton.mp hx]; exact ⟨Int.emod_nonneg _ (by omega), Int.emod_lt_of_pos _ (by omega)⟩⟩, rfl⟩
          · exact hk _ _ ⟨b9.trans (But.of s'), D9.same s', O, acc, _, s' _ _ eO, nO, hacc, rfl⟩
      · -- own
        refine ⟨.int (nn : Int), rfl, (nn : Int), rfl, by omega, by omega, fun O nO => ?_⟩
        have oO := D7.fresh nO
        refine lc_range (n := nn) (fun k H8 => But a c H7 H8 ∧ Deck H8 a c (m + 12 * (10 - i) - k) ∧ ∃ acc : List Int, H8 O = some (.lst (acc.map V.int)) ∧ Asc k acc)
          ⟨But.of (same_new nO), (D7.same (same_new nO)).less (by omega), [], upd_same, Asc.nil _⟩ (fun k H8 hk' hP => ?_) (fun H8 hP => ?_)
        · obtain ⟨b8, D8, acc, eO, hacc⟩ := hP
          have al := hacc.len
          rw [Int.zero_add]
          refine ⟨rfl, .ref a, rfl, a, c, m + 12 * (10 - i) - (k + 1), 5, rfl, D8.less (by omega), by decide, by decide, fun H9 r9 b9 D9 r9a r9b => ⟨.int (1 + r5), rfl, _, _, rfl, rfl, _, rfl, ite2 (fun e => ?_) (fun e => ?_)⟩⟩
          · refine ⟨.int (k : Int), rfl, _, b9 _ _ oO.1 oO.2 eO, by rw [List.length_map]; exact small1000 (by omega), fun b o h1 h2 e => ?_, Deck.upd' D9 oO, acc ++ [(k : Int)], by rw [upd_same, List.map_append]; rfl, ?_⟩
            · rw [upd_ne (ne_of_none e nO)]
              exact b9 _ _ h1 h2 (b8 _ _ h1 h2 e)
            · refine ⟨List.pairwise_append.mpr ⟨hacc.up, List.pairwise_singleton _ _, fun x hx y hy => ?_⟩, fun x hx => ?_⟩
              · rw [List.mem_singleton.mp hy]; exact (hacc.rng x hx).2
              · rcases List.mem_append.mp hx with h | h
                · have := hacc.rng x h; omega
                · rw [List.mem_singleton.mp h]; omega
          · exact ⟨b8.trans b9, D9, acc, b9 _ _ oO.1 oO.2 eO, hacc.up, fun x hx => by have := hacc.rng x hx; omega⟩
        · obtain ⟨b8, D8, acc, eO, hacc⟩ := hP
          exact hk _ _ ⟨b8, D8.less (by omega), O, acc, _, eO, oO, ⟨hacc.up, fun x hx => by have := hacc.rng x hx; omega⟩, rfl⟩
    · obtain ⟨b7, D7, hin, ⟨vs, pan, eF7, dvs, hpl, hpan⟩, x6, x7, x8, rfl⟩ := hP
      refine gs_ret (K := K) (gv_tupL (gv_var rfl (.lst (.inl (.inl eF7)) dvs))) fun v H8 s8 dv => q H8 v pan (b7.trans (But.of s8)) ((D7.same s8).less (by omega)) dv ?_ (by omega)
      refine ⟨by omega, by omega, fun l hl => ?_, fun l hl => ?_, fun j l hl => (hpan j l hl).2⟩
      · obtain ⟨j, hj⟩ := List.getElem?_of_mem hl
        exact (hpan j l hj).1.up
      · obtain ⟨j, hj⟩ := List.getElem?_of_mem hl
        intro x hx
        have := (hpan j l hj).1.rng x hx
        omega
end
end K52
namespace K52
open PySem PySem.Spec PyProof.Rows L2 Pr
def nAny : List Str := ["panel", "button", "others", "other"]
theorem scAny : FnScope nAny ["panel", "button", "others"] (defScope sAny) := ⟨rfl, rfl, rfl, by decide +kernel, rfl, by decide +kernel, by decide +kernel⟩
def nHeld : List Str := ["panel", "state", "held", "left", "button"]
theorem scHeld : FnScope nHeld ["panel", "state"] (defScope sHeld) := ⟨rfl, rfl, rfl, by decide +kernel, rfl, by decide +kernel, by decide +kernel⟩
section
variable {P : Program} {w : World} {K : PySem.W.Frag} {mg : Str → Option Value} {base : Heap}
def spAny (K : PySem.W.Frag) : Sp := fun vs H Q _ => ∃ (p o : Addr) (pan : List (List Int)) (b : Int) (os : List Int), vs = [.ref p, .int b, .ref o] ∧ PanT K H p pan ∧ Good pan ∧ 0 ≤ b ∧ b < (pan.length : Int) ∧ SqT K H o (os.map V.int) ∧
  ∀ H', Same H H' → Q (.bl (relB pan os b)) H'
theorem ok_any {f : Addr} {fd : FuncData} {k : Nat} (F : Fun K "releases_any" "releases_any" sAny f fd) (my : mg "any" = none) : FnOk P w K mg base CX0 (k + 1) f fd ["panel", "button", "others"] (spAny K) := by
  refine F.ok scAny (fun vs H Q E h => ?_) (fun cdv A outer s H vs Q E hr h => ?_)
  · obtain ⟨p, o, pan, b, os, rfl, _⟩ := h
    rfl
  · obtain ⟨p, o, pan, b, os, rfl, hp, hg, b0, b1, ho, q⟩ := h
    refine ⟨_, pss_one (ps_ret (pe_callB (cr_any rfl) (by rfl) my (by decide +kernel) (pa_cons
      (pe_lc (own := [("other", 3)]) (g := gName 3) (tt := tYes) rfl scAny.nd (pi_tup (pe_ix ix_tup (pv 0) (pv 1) (fun _ _ => rfl)))
        (blkOk_by (own := [("other", 3)]) (N := nAny) (sc := defScope sAny) (by decide +kernel)) (fun _ _ _ _ _ => pg_name (i := 3) scAny.nd rfl (Or.inl rfl)) (fun _ _ _ _ _ => pts_nil)
        (fun _ _ _ _ _ => pe_cmpR (show OpR _ _ (rIn K false) from op_in_seq) (pv 3) (pv 2) (by rfl))) pa_nil))), ?_⟩
    obtain ⟨qs, q', hq, ha, hr', _⟩ := panT_at hp b0 b1
    have hll : (pan.getD b.toNat []).length ≤ 10 := by
      have hbn : b.toNat < pan.length := by omega
      have hm : pan.getD b.toNat [] ∈ pan := by
        rw [List.getD_eq_getElem?_getD, List.getElem?_eq_getElem hbn]
        exact List.getElem_mem hbn
      have few := hg.few
      refine pw_length (n := 10) (lo := 0) (hg.up _ hm) fun x hx => ?_
      have := hg.rng _ hm x hx
      omega
    unfold relB at q
    generalize pan.getD b.toNat [] = l at hr' hll q
    refine ⟨.ref p, rfl, .int b, rfl, p, _, _, .ref q', rfl, rfl, hq, ha, q', rfl, ⟨_, hr'⟩, fun D nD => ?_⟩
    refine lc_tup (xs := l.map V.int) (fun i H3 => Same H H3 ∧ H3 D = some (.lst (((l.take i).map fun c => decide (c ∈ os)).map V.bl))) ⟨same_new nD, upd_same⟩ (fun i H3 _ hP => same_sqT hP.1 hr') (fun i x H3 hx hP => ?_) (fun H3 hP => ?_)
    · obtain ⟨s3, eD⟩ := hP
      obtain ⟨z, hz, rfl⟩ := int_get hx
      refine ⟨rfl, tyes (iteT ⟨.int z, rfl, .ref o, rfl, o, _, rfl, .inr (same_sqT s3 ho), rfl, flat_ints _, _, eD, ?_, ?_, ?_⟩)⟩
      · rw [List.length_map, List.length_map, List.length_take]; exact small1000 (by omega)
      · intro b' ob e
        rw [upd_ne (ne_of_none e nD)]
        exact s3 _ _ e
      · rw [upd_same, if_neg Bool.false_ne_true, inV_ints, List.take_add_one, hz, List.map_append, List.map_append]; rfl
    · obtain ⟨s3, eD⟩ := hP
      rw [List.length_map, List.take_length] at eD
      refine ⟨D, _, rfl, .inl (.inl eD), ?_⟩
      rw [List.any_map]
      exact q _ s3
def spHeld (K : PySem.W.Frag) : Sp := fun vs H Q _ => ∃ (p t : Addr) (pan : List (List Int)) (st : List Int), vs = [.ref p, .ref t] ∧ PanT K H p pan ∧ Good pan ∧ SqT K H t (st.map V.int) ∧ Asc pan.length st ∧
  ∀ (H' : Hp) (u : Addr) (hs : List Int), Same H H' → SqT K H' u (hs.map V.int) → IsHeld pan st hs → Q (.ref u) H'
theorem filt_take {f : Int → Bool} {l : List Int} {i : Nat} {z : Int} (hz : l[i]? = some z) : (l.take (i + 1)).filter f = (l.take i).filter f ++ (if f z = true then [z] else []) := by
  rw [List.take_add_one, hz, List.filter_append]
  congr 1
  by_cases e : f z = true
  · rw [if_pos e]; exact List.filter_cons_of_pos e
  · rw [if_neg e]; exact List.filter_cons_of_neg e
theorem ok_held {f fA : Addr} {fd fdA : FuncData} {k : Nat} (F : Fun K "held_buttons" "held_buttons" sHeld f fd) (FA : Fun K "releases_any" "releases_any" sAny fA fdA) (bA : Binds K fdA ["panel", "button", "others"] []) (gA : mg "releases_any" = some (.ref fA))
    (ml : mg "len" = none) (mt : mg "tuple" = none) (my : mg "any" = none) : FnOk P w K mg base CX0 (k + 2) f fd ["panel", "state"] (spHeld K) := by
  have GA : FnOk P w K mg base CX0 (k + 1) fA fdA ["panel", "button", "others"] (spAny K) := ok_any FA my
  refine F.ok scHeld (fun vs H Q E h => ?_) (fun cdv A outer s H vs Q E hr h => ?_)
  · obtain ⟨p, t, pan, st, rfl, _⟩ := h
    rfl
  · obtain ⟨p, t, pan, st, rfl, hp, hg, ht, hst, q⟩ := h
    refine ⟨_, pss_cons (ps_set (i := 2) scHeld.nd rfl (.inr rfl) (pv 1))
      (pss_cons (ps_setLc (i := 3) (own := [("button", 4)]) (g := gName 4) rfl scHeld.nd rfl rfl (sw_true rfl rfl rfl (by decide +kernel)) (pi_tup (pv 2))
        (blkOk_by (own := [("button", 4)]) (N := nHeld) (sc := defScope sHeld) (by decide +kernel)) (fun _ _ _ _ _ => pg_name (i := 4) scHeld.nd rfl (Or.inl rfl))
        (fun _ _ _ _ _ => pts_one (pt_val (pe_call GA hr (by rfl) gA FA.kp bA .nil pass0 (pa_cons (pv 0) (pa_cons (pv 4) (pa_cons (pv 2) pa_nil)))))) (fun _ _ _ _ _ => pv 4))
      (pss_cons (ps_while PassesOwn.never (pt_cmpR op_lt (pe_callB call_len_seq (by rfl) ml PySem.boot_len (pa_cons (pv 3) pa_nil)) (pe_callB call_len_seq (by rfl) ml PySem.boot_len (pa_cons (pv 2) pa_nil)) (nomark _))
        (pss_cons (ps_set (i := 2) scHeld.nd rfl (.inr rfl) (pe_callTy call_tupF (by rfl) mt (by decide +kernel) (pa_cons (pv 3) pa_nil)))
        (pss_one (ps_setLc (i := 3) (own := [("button", 4)]) (g := gName 4) rfl scHeld.nd rfl rfl (sw_true rfl rfl rfl (by decide +kernel)) (pi_tup (pv 2))
          (blkOk_by (own := [("button", 4)]) (N := nHeld) (sc := defScope sHeld) (by decide +kernel)) (fun _ _ _ _ _ => pg_name (i := 4) scHeld.nd rfl (Or.inl rfl))
          (fun _ _ _ _ _ => pts_one (pt_val (pe_call GA hr (by rfl) gA FA.kp bA .nil pass0 (pa_cons (pv 0) (pa_cons (pv 4) (pa_cons (pv 2) pa_nil)))))) (fun _ _ _ _ _ => pv 4)))))
      (pss_one (ps_ret (pv 2))))), ?_⟩
    have few := hg.few
    refine ⟨.ref t, rfl, ?_⟩
    refine ⟨.ref t, rfl, t, rfl, ⟨_, ht⟩, fun D nD => ?_⟩
    have slen := hst.len
    refine lc_tup (xs := st.map V.int) (fun i H3 => Same H H3 ∧ H3 D = some (.lst (((st.take i).filter (relB pan st)).map V.int))) ⟨same_new nD, upd_same⟩ (fun i H3 _ hP => same_sqT hP.1 ht) (fun i x H3 hx hP => ?_) (fun H3 hP => ?_)
    · obtain ⟨s3, eD⟩ := hP
      obtain ⟨z, hz, rfl⟩ := int_get hx
      have hzr := hst.rng z (List.mem_of_getElem? hz)
      have step := filt_take (f := relB pan st) hz
      have fl := List.length_filter_le (relB pan st) (st.take i)
      rw [List.length_take] at fl
      refine ⟨rfl, .ref p, rfl, .int z, rfl, .ref t, rfl, p, t, pan, z, st, rfl, hp.same s3, hg, hzr.1, hzr.2, same_sqT s3 ht, fun H4 s4 => ⟨_, rfl, ite2 (fun e => ?_) (fun e => ?_)⟩⟩
      · refine ⟨.int z, rfl, _, s4 _ _ eD, by rw [List.length_map]; exact small1000 (by omega), fun b o e' => ?_, ?_⟩
        · rw [upd_ne (ne_of_none e' nD)]
          exact s4 _ _ (s3 _ _ e')
        · rw [upd_same, step, if_pos e, List.map_append]; rfl
      · refine ⟨s3.trans s4, ?_⟩
        rw [step, if_neg e, List.append_nil]; exact s4 _ _ eD
    · obtain ⟨s3, eD⟩ := hP
      rw [List.length_map, List.take_length] at eD
      refine ⟨fun mm σ H4 => ∃ (hs : List Int) (u L : Addr) (x4 : Option V), mm = hs.length ∧ Same H H4 ∧ SqT K H4 u (hs.map V.int) ∧ H4 L = some (.lst ((hs.filter (relB pan hs)).map V.int)) ∧ Hold pan st hs ∧ σ = [some (.ref p), some (.ref t), some (.ref u), some (.ref L), x4],
        ⟨_, st, t, D, _, rfl, s3, same_sqT s3 ht, eD, ⟨hst.up, fun x h => h, fun C _ h x hx => h x hx⟩, rfl⟩, ?_⟩
      rintro mm σ H4 ⟨hs, u, L, x4, rfl, s4, hu, eL, hh, rfl⟩
      have hsr : ∀ x ∈ hs, 0 ≤ x ∧ x < (pan.length : Int) := fun x hx => hst.rng x (hh.sub x hx)
      have hsl : hs.length ≤ 10 := pw_length (n := 10) (lo := 0) hh.up fun x hx => by have := hsr x hx; omega
      refine ⟨.ref L, rfl, L, _, rfl, .inl (.inl (.inl eL)), .ref u, rfl, u, _, rfl, .inr hu, _, _, rfl, rfl, _, rfl, ite2 (fun e => ?_) (fun e => ?_)⟩
      · have e' : (hs.filter (relB pan hs)).length < hs.length := by
          have := of_decide_eq_true e
          rw [List.length_map, List.length_map] at this; omega
        have hstep := hh.step
        generalize hs.filter (relB pan hs) = gs at e' eL hstep
        refine ⟨_, fun σ' H' h => h, .ref L, rfl, L, _, rfl, .inl (.inl eL), fun u' o' nu' ho' => ?_⟩
        have su : Same H4 (upd H4 u' (.frz o' (.tup (gs.map V.int)))) := same_new nu'
        have hu' : SqT K (upd H4 u' (.frz o' (.tup (gs.map V.int)))) u' (gs.map V.int) := .inl (.inr ⟨o', upd_same⟩)
        refine gen_name (fun H5 => Same H4 H5 ∧ SqT K H5 u' (gs.map V.int)) ⟨su, hu'⟩ fun H5 ⟨s5, hu5⟩ => ?_
        have s05 := s4.trans s5
        refine ⟨.ref u', rfl, u', rfl, ⟨_, hu5⟩, fun D2 nD2 => ?_⟩
        refine lc_tup (xs := gs.map V.int) (fun i H6 => Same H5 H6 ∧ H6 D2 = some (.lst (((gs.take i).filter (relB pan gs)).map V.int))) ⟨same_new nD2, upd_same⟩ (fun i H6 _ hP => same_sqT hP.1 hu5) (fun i x H6 hx hP => ?_) (fun H6 hP => ?_)
        · obtain ⟨s6, eD2⟩ := hP
          obtain ⟨z, hz, rfl⟩ := int_get hx
          have hzr := hst.rng z (hstep.sub z (List.mem_of_getElem? hz))
          have step := filt_take (f := relB pan gs) hz
          have fl := List.length_filter_le (relB pan gs) (gs.take i)
          rw [List.length_take] at fl
          refine ⟨rfl, .ref p, rfl, .int z, rfl, .ref u', rfl, p, u', pan, z, gs, rfl, hp.same (s05.trans s6), hg, hzr.1, hzr.2, same_sqT s6 hu5, fun H7 s7 => ⟨_, rfl, ite2 (fun e => ?_) (fun e => ?_)⟩⟩
          · refine ⟨.int z, rfl, _, s7 _ _ eD2, by rw [List.length_map]; exact small1000 (by omega), fun b o e' => ?_, ?_⟩
            · rw [upd_ne (ne_of_none e' nD2)]
              exact s7 _ _ (s6 _ _ e')
            · rw [upd_same, step, if_pos e, List.map_append]; rfl
          · refine ⟨s6.trans s7, ?_⟩
            rw [step, if_neg e, List.append_nil]; exact s7 _ _ eD2
        · obtain ⟨s6, eD2⟩ := hP
          rw [List.length_map, List.take_length] at eD2
          exact ⟨gs.length, e', gs, u', D2, _, rfl, s05.trans s6, same_sqT s6 hu5, eD2, hstep, rfl⟩
      · have e' : ¬ (hs.filter (relB pan hs)).length < hs.length := fun z => e (decide_eq_true (by rw [List.length_map, List.length_map]; omega))
        exact ⟨.ref u, rfl, q H4 u hs s4 hu (hh.done e')⟩
end
end K52
namespace Pr
open PySem PySem.Spec PyProof.Rows L2
/-- what b releases -/
abbrev relM (pan : List (List Int)) (b : Int) : List Int := pan.getD b.toNat []
/-- which buttons may be pressed on the way to the goal -/
def PrOk (pan : List (List Int)) (goal hs G : List Int) (b : Int) : Prop := (b ∈ goal ∧ b ∉ hs) ∨ (b ∈ G ∧ ∀ x ∈ relM pan b, x ∉ hs)
section
variable {pan : List (List Int)} {goal hs G : List Int}
/-- a button of the goal that is not held releases no held one -/
theorem free_of (hh : IsHeld pan goal hs) {b : Int} (hb : b ∈ goal) (hn : b ∉ hs) : ∀ x ∈ relM pan b, x ∉ hs := fun x hx hxs => by
  refine hn (hh.most (b :: hs) ?_ ?_ b List.mem_cons_self)
  · intro y hy
    rcases List.mem_cons.mp hy with rfl | hy
    · exact ⟨x, hx, List.mem_cons_of_mem _ hxs⟩
    · obtain ⟨z, h1, h2⟩ := hh.closed y hy
      exact ⟨z, h1, List.mem_cons_of_mem _ h2⟩
  · intro y hy
    rcases List.mem_cons.mp hy with rfl | hy
    · exact hb
    · exact hh.sub y hy
theorem PrOk.free (hh : IsHeld pan goal hs) {b : Int} (h : PrOk pan goal hs G b) : ∀ x ∈ relM pan b, x ∉ hs := by
  rcases h with ⟨h1, h2⟩ | ⟨_, h2⟩
  · exact free_of hh h1 h2
  · exact h2
end
end Pr
namespace Pr
open PySem PySem.Spec PyProof.Rows L2
end Pr
namespace Pr
open PySem PySem.Spec PyProof.Rows L2
end Pr
namespace Pr
open PySem PySem.Spec PyProof.Rows L2
/-- n items of which P holds -/
def AllP (P : PyData → Prop) (n : Nat) (ds : List PyData) : Prop := ds.length = n ∧ ∀ d ∈ ds, P d
/-- a tuple of at most n items of which P holds -/
def TupP (P : PyData → Prop) (n : Nat) (d : PyData) : Prop := ∃ ds, d = .tuple ds ∧ ds.length ≤ n ∧ ∀ x ∈ ds, P x
theorem AllP.nil {P : PyData → Prop} : AllP P 0 [] := ⟨rfl, fun _ h => by cases h⟩
theorem AllP.cons {P : PyData → Prop} {n : Nat} {d : PyData} {ds : List PyData} (h : P d) (r : AllP P n ds) : AllP P (n + 1) (d :: ds) :=
  ⟨by rw [List.length_cons, r.1], fun x hx => by
    rcases List.mem_cons.mp hx with rfl | hx
    · exact h
    · exact r.2 x hx⟩
theorem AllP.append {P : PyData → Prop} {n m : Nat} {ds es : List PyData} (h : AllP P n ds) (r : AllP P m es) : AllP P (n + m) (ds ++ es) :=
  ⟨by rw [List.length_append, h.1, r.1], fun x hx => (List.mem_append.mp hx).elim (h.2 x) (r.2 x)⟩
theorem AllP.mono {P P' : PyData → Prop} {n : Nat} {ds : List PyData} (h : AllP P n ds) (f : ∀ d, P d → P' d) : AllP P' n ds := ⟨h.1, fun d hd => f d (h.2 d hd)⟩
theorem TupP.mono {P P' : PyData → Prop} {n m : Nat} {d : PyData} (h : TupP P n d) (f : ∀ d, P d → P' d) (hm : n ≤ m) : TupP P' m d :=
  let ⟨ds, e, l, q⟩ := h; ⟨ds, e, Nat.le_trans l hm, fun x hx => f x (q x hx)⟩
end Pr
namespace Pr
open PySem PySem.Spec PyProof.Rows L2
def isB : PyData → Bool
  | .bool _ => true
  | _ => false
theorem isB_kit {K : PySem.W.Frag} (d : PyData) : PySem.W.kitOne K (.type (tyD d)) (.type "bool") = some (isB d) := by
  cases d with
  | none => exact kit_ty (show kitB "NoneType" "bool" = some false by decide +kernel)
  | bool _ => exact kit_ty (show kitB "bool" "bool" = some true by decide +kernel)
  | int _ => exact kit_ty (show kitB "int" "bool" = some false by decide +kernel)
  | str _ => exact kit_ty (show kitB "str" "bool" = some false by decide +kernel)
  | list _ => exact kit_ty (show kitB "list" "bool" = some false by decide +kernel)
  | tuple _ => exact kit_ty (show kitB "tuple" "bool" = some false by decide +kernel)
  | dict _ => exact kit_ty (show kitB "dict" "bool" = some false by decide +kernel)
def isI : PyData → Bool
  | .bool _ => true
  | .int _ => true
  | _ => false
theorem isI_kit {K : PySem.W.Frag} (d : PyData) : PySem.W.kitOne K (.type (tyD d)) (.type "int") = some (isI d) := by
  cases d with
  | none => exact kit_ty (show kitB "NoneType" "int" = some false by decide +kernel)
  | bool _ => exact kit_ty (show kitB "bool" "int" = some true by decide +kernel)
  | int _ => exact kit_ty (show kitB "int" "int" = some true by decide +kernel)
  | str _ => exact kit_ty (show kitB "str" "int" = some false by decide +kernel)
  | list _ => exact kit_ty (show kitB "list" "int" = some false by decide +kernel)
  | tuple _ => exact kit_ty (show kitB "tuple" "int" = some false by decide +kernel)
  | dict _ => exact kit_ty (show kitB "dict" "int" = some false by decide +kernel)
def isT : PyData → Bool
  | .tuple _ => true
  | _ => false
theorem isT_kit {K : PySem.W.Frag} (d : PyData) : PySem.W.kitOne K (.type (tyD d)) (.type "tuple") = some (isT d) := by
  cases d with
  | none => exact kit_ty (show kitB "NoneType" "tuple" = some false by decide +kernel)
  | bool _ => exact kit_ty (show kitB "bool" "tuple" = some false by decide +kernel)
  | int _ => exact kit_ty (show kitB "int" "tuple" = some false by decide +kernel)
  | str _ => exact kit_ty (show kitB "str" "tuple" = some false by decide +kernel)
  | list _ => exact kit_ty (show kitB "list" "tuple" = some false by decide +kernel)
  | tuple _ => exact kit_ty (show kitB "tuple" "tuple" = some true by decide +kernel)
  | dict _ => exact kit_ty (show kitB "dict" "tuple" = some false by decide +kernel)
def isBtn (n : Int) : PyData → Bool
  | .int i => decide (0 ≤ i) && decide (i < n)
  | _ => false
def ascFrom (n : Int) : Int → List PyData → Bool
  | _, [] => true
  | b, .int i :: r => decide (0 ≤ i) && decide (i < n) && decide (b < i) && ascFrom n i r
  | _, _ :: _ => false
def btnT (n : Int) : PyData → Bool
  | .tuple ds => ascFrom n (-1) ds
  | _ => false
def dErr (k : PyData) (x : Str) : PyData := .tuple [k, .str x]
def hasInt (k : Int) : PyData → Bool
  | .tuple ds => ds.any fun d => match d with | .int i => decide (i = k) | _ => false
  | _ => false
def errFrom (n : Int) : Nat → List PyData → PyData
  | _, [] => .none
  | k, d :: r => if btnT n d then (if hasInt (k : Int) d then dErr (.int (k : Int)) "itself" else errFrom n (k + 1) r) else dErr (.int (k : Int)) "list"
def errD : PyData → PyData
  | .tuple ds => if 1 ≤ ds.length ∧ ds.length ≤ 10 then errFrom (ds.length : Int) 0 ds else dErr .none "panel"
  | _ => dErr .none "panel"
theorem ascFrom_ints {n : Int} : ∀ {b : Int} {ds : List PyData}, ascFrom n b ds = true → ∃ ns : List Int, ds = ns.map PyData.int ∧ ns.Pairwise (· < ·) ∧ ∀ x ∈ ns, b < x ∧ 0 ≤ x ∧ x < n
  | b, [], _ => ⟨[], rfl, List.Pairwise.nil, fun _ h => by cases h⟩
  | b, d :: r, h => by
    cases d with
    | int i =>
      simp only [ascFrom, Bool.and_eq_true, decide_eq_true_eq] at h
      obtain ⟨ns, rfl, h2, h3⟩ := ascFrom_ints h.2
      refine ⟨i :: ns, rfl, List.pairwise_cons.mpr ⟨fun x hx => (h3 x hx).1, h2⟩, fun x hx => ?_⟩
      rcases List.mem_cons.mp hx with rfl | hx
      · exact ⟨h.1.2, h.1.1⟩
      · have := h3 x hx; omega
    | none => simp [ascFrom] at h
    | bool _ => simp [ascFrom] at h
    | str _ => simp [ascFrom] at h
    | list _ => simp [ascFrom] at h
    | tuple _ => simp [ascFrom] at h
    | dict _ => simp [ascFrom] at h
theorem ascFrom_of {n : Int} : ∀ {b : Int} {ns : List Int}, ns.Pairwise (· < ·) → (∀ x ∈ ns, b < x ∧ 0 ≤ x ∧ x < n) → ascFrom n b (ns.map PyData.int) = true
  | b, [], _, _ => rfl
  | b, i :: r, h, h2 => by
    rw [List.pairwise_cons] at h
    have hi := h2 i List.mem_cons_self
    simp only [List.map_cons, ascFrom, Bool.and_eq_true, decide_eq_true_eq]
    exact ⟨⟨⟨hi.2.1, hi.2.2⟩, hi.1⟩, ascFrom_of h.2 fun x hx => ⟨h.1 x hx, (h2 x (List.mem_cons_of_mem _ hx)).2⟩⟩
theorem hasInt_ints {k : Int} (ns : List Int) : hasInt k (.tuple (ns.map PyData.int)) = decide (k ∈ ns) := by
  show (ns.map PyData.int).any _ = _
  rw [List.any_map, Bool.eq_iff_iff, List.any_eq_true, decide_eq_true_eq]
  constructor
  · rintro ⟨x, hx, e⟩
    have e' : x = k := by simpa using e
    rw [← e']; exact hx
  · intro h
    exact ⟨k, h, by simp⟩
theorem dqAll_of_ints {K : PySem.W.Frag} {N : Addr → Prop} {H : Hp} : ∀ {xs : List V} {ns : List Int}, DqAll K N H xs (ns.map PyData.int) → xs = ns.map V.int
  | _, [], h => by cases h; rfl
  | _, x :: r, h => by
    cases h with
    | cons h1 h2 => cases h1; rw [List.map_cons, dqAll_of_ints h2]
theorem errFrom_drop {n : Int} {ds : List PyData} {i : Nat} {d : PyData} (h : ds[i]? = some d) : errFrom n i (ds.drop i) = if btnT n d then (if hasInt (i : Int) d then dErr (.int (i : Int)) "itself" else errFrom n (i + 1) (ds.drop (i + 1))) else dErr (.int (i : Int)) "list" := by
  have hi := (List.getElem?_eq_some_iff.mp h).1
  have : ds.drop i = d :: ds.drop (i + 1) := by
    rw [List.drop_eq_getElem_cons hi, (List.getElem?_eq_some_iff.mp h).2]
  rw [this]; rfl
end Pr
namespace Pr
open PySem PySem.Spec PyProof.Rows L2
def dNone : PyData → Bool
  | .none => true
  | _ => false
section
variable {K : PySem.W.Frag} {σ : L2.St} {H : Hp} {t tk ta tb : TE}
theorem set_three (σ : L2.St) (i j l : Nat) (v u x : V) : ((((((((σ.set l none).set j none).set i none).set i (some v)).set j (some u)).set l (some x)).set l none).set j none).set i none = ((σ.set l none).set j none).set i none := by
  refine List.ext_getElem? fun m => ?_
  simp only [List.getElem?_set, List.length_set]
  split <;> split <;> (try split) <;> simp_all
theorem gn_lc3 {wi : TI} {tt : TT} {te : TE} {i j l : Nat} {α : Type} {δ1 δ2 δ3 : α → PyData} {as : List α} {p : α → Bool} {f : α → PyData} (hI : GvI K Same wi σ H (as.map fun a => .tuple [δ1 a, δ2 a, δ3 a]))
    (hb : ∀ a v u x H1, a ∈ as → Same H H1 → Dp K H1 v (δ1 a) → Dp K H1 u (δ2 a) → Dp K H1 x (δ3 a) → GvT tt ((((((σ.set l none).set j none).set i none).set i (some v)).set j (some u)).set l (some x)) H1 (p a) ∧ (p a = true → Gv K te ((((((σ.set l none).set j none).set i none).set i (some v)).set j (some u)).set l (some x)) H1 (f a)))
    (hf : ∀ a ∈ as, lf (f a) = true) (hn : as.length ≤ 100000) (hij : i ≠ j) (hil : i ≠ l) (hjl : j ≠ l) : GvN K (tLc wi (gTup K 3 (gCons (gName i) (gCons (gName j) (gCons (gName l) gNil)))) tt te [i, j, l]) σ H ((as.filter p).map f) := by
  intro H0 s0 Q q
  refine hI H0 s0 _ fun J H1 s1 w D nD => ?_
  rw [List.length_map] at w
  refine lc_it w (LcP K H1 D fun k => ((as.take k).filter p).map f) ⟨fun b o hb e => by rw [upd_ne hb]; exact e, [], upd_same, .nil, Nat.zero_le _⟩ (fun k H2 _ hP b o e => hP.1 b o (ne_of_none e nD) e) (fun k x H2 H3 hk hP hY => ?_) (fun H2 hP => ?_)
  · obtain ⟨s2, acc, eD, hacc, la⟩ := hP
    obtain ⟨s3, d, hd, dx⟩ := hY
    rw [List.getElem?_map, List.getElem?_eq_getElem hk] at hd
    cases hd
    have sH : Same H H3 := (s0.trans s1).trans fun b o e => s3 _ _ (s2 b o (ne_of_none e nD) e)
    obtain ⟨T, xs, rfl, hT, hr⟩ := dx.tupI
    obtain ⟨v, u, x, rfl, dv, du, dx3⟩ := dpAll3 hr
    obtain ⟨g1, g2⟩ := hb as[k] v u x H3 (List.getElem_mem _) sH dv du dx3
    refine ⟨T, [v, u, x], rfl, hT, rfl, v, [u, x], rfl, u, [x], rfl, x, [], rfl, rfl, ?_, g1.at fun H4 s4 => ?_⟩
    · exact set_three _ _ _ _ _ _ _
    cases hp : p as[k] with
    | true =>
      rw [if_pos rfl]
      refine (g2 hp).sm s4 |>.at fun y H5 s5 dy => ⟨acc, s5 _ _ (s4 _ _ (s3 _ _ eD)), small5 (by omega), ?_⟩
      exact lcP_yes s2 ((s3.trans s4).trans s5) eD hacc la dy (by rw [fil_take hk, hp]; rfl) (lf_fil hf _)
    | false =>
      rw [if_neg Bool.false_ne_true]
      exact lcP_no s2 (s3.trans s4) eD hacc la (by rw [fil_take hk, hp]; exact List.append_nil _)
  · obtain ⟨s2, acc, eD, hacc, la⟩ := hP
    replace hacc : DpAll K H2 acc (((as.take as.length).filter p).map f) := hacc
    rw [List.take_length] at hacc
    exact q _ _ H2 (s1.trans fun b o e => s2 b o (ne_of_none e nD) e) (s1.free nD) eD hacc
theorem gv_cutToG {ds : List PyData} {k : Nat} (h : Gv K t σ H (.tuple ds)) (hk : Gv K tk σ H (.int (k : Int))) (hl : k ≤ ds.length) : Gv K (tSl (rSlS K) t tNoPart (tPart tk)) σ H (.tuple (ds.take k)) := fun H1 s Q q => h H1 s _ fun v H2 s2 dv => hk H2 (s.trans s2) _ fun vk H3 s3 dk => by
  cases dk
  obtain ⟨a, xs, rfl, ha, hr⟩ := dv.tupI
  refine ⟨(k : Int), rfl, a, _, rfl, same_sqT s3 ha, fun p H4 s4 hp => q _ H4 ((s2.trans s3).trans s4) (.tup hp ?_)⟩
  have := cut_dp ((hr.sm s3).sm s4) none (some (k : Int))
  rw [HT.sIx_none, HT.sIx_nat, Nat.min_eq_left hl, List.drop_zero, Nat.sub_zero] at this
  exact this
theorem gv_cutFromG {ds : List PyData} {k : Nat} (h : Gv K t σ H (.tuple ds)) (hk : Gv K tk σ H (.int (k : Int))) (hl : k ≤ ds.length) : Gv K (tSl (rSlS K) t (tPart tk) tNoPart) σ H (.tuple (ds.drop k)) := fun H1 s Q q => h H1 s _ fun v H2 s2 dv => hk H2 (s.trans s2) _ fun vk H3 s3 dk => by
  cases dk
  obtain ⟨a, xs, rfl, ha, hr⟩ := dv.tupI
  refine ⟨(k : Int), rfl, a, _, rfl, same_sqT s3 ha, fun p H4 s4 hp => q _ H4 ((s2.trans s3).trans s4) (.tup hp ?_)⟩
  have := cut_dp ((hr.sm s3).sm s4) (some (k : Int)) none
  rw [HT.sIx_none, HT.sIx_nat, Nat.min_eq_left hl, List.take_of_length_le (by rw [List.length_drop]; omega)] at this
  exact this
theorem gv_isN {d : PyData} (h : Gv K t σ H d) {r : R2} (hr : r = (fun x y H Q => y = .non ∧ Q (.bl (decide (x = .non))) H)) : Gv K (tOp r t (tC .non)) σ H (.bool (dNone d)) := by
  subst hr
  refine gv_op2 h gv_non fun x y H1 Q s hx hy q => ?_
  cases hy
  refine ⟨rfl, q _ _ (Same.refl _) ?_⟩
  have : decide (x = V.non) = dNone d := by
    cases hx <;> simp [dNone]
  rw [this]; exact .bl _
theorem gv_notN {d : PyData} (h : Gv K t σ H d) {r : R2} (hr : r = (fun x y H Q => y = .non ∧ Q (.bl (!decide (x = .non))) H)) : Gv K (tOp r t (tC .non)) σ H (.bool (!dNone d)) := by
  subst hr
  refine gv_op2 h gv_non fun x y H1 Q s hx hy q => ?_
  cases hy
  refine ⟨rfl, q _ _ (Same.refl _) ?_⟩
  have : decide (x = V.non) = dNone d := by
    cases hx <;> simp [dNone]
  rw [this]; exact .bl _
end
end Pr
namespace Pr
open PySem PySem.Spec PyProof.Rows L2
def tlen : PyData → Bool
  | .tuple es => decide (es.length ≤ 60)
  | _ => true
def smlB : PyData → Bool
  | .tuple ds => ds.all tlen
  | _ => true
def lowB (d : PyData) : Bool := d.showable && decide (d.depth ≤ 3) && decide (d.shown.length ≤ 60) && tlen d && smlB d
/-- a small thing: at most three deep, at most sixty signs -/
def Low (d : PyData) : Prop := lowB d = true
theorem Low.shq {d : PyData} (h : Low d) : Shq 3 60 d := by
  simp only [Low, lowB, Bool.and_eq_true, decide_eq_true_eq] at h
  exact ⟨h.1.1.1.1, h.1.1.1.2, h.1.1.2⟩
theorem Low.len {d : PyData} (h : Low d) : tlen d = true := by
  simp only [Low, lowB, Bool.and_eq_true, decide_eq_true_eq] at h
  exact h.1.2
theorem Low.sml {d : PyData} (h : Low d) : smlB d = true := by
  simp only [Low, lowB, Bool.and_eq_true, decide_eq_true_eq] at h
  exact h.2
/-- values of the laws -/
def Top (d : PyData) : Prop := Shq 5 2000000 d ∧ smlB d = true
theorem Low.top {d : PyData} (h : Low d) : Top d := ⟨h.shq.mono (by decide) (by decide), h.sml⟩
end Pr
namespace Pr
open PySem PySem.Spec PyProof.Rows L2
/-- the exception that the suite holds, of the class D, its dict d -/
def HeldX (D : Addr) (cls : Value) (d : Option Addr) (H : Hp) : Prop := cls = .ref D ∧ ∃ dd fs, d = some dd ∧ H dd = some (.xd fs)
section
variable {X : Cx} {a D : Addr} {oe : Obj} {cls : Value} {d : Option Addr} {pn pins : List (Addr × Obj)} {s : Shared} {σ : L2.St} {H : Hp}
theorem held_inst (hz : Zc cls d oe) (hf : ∃ vs, oe.data = .fields vs) (I : Inv (X.suite a ((a, oe) :: pn)) pins σ H s) (h : HeldX D cls d H) : ∃ od : Obj, PySem.W.InstAt s.heap a oe D (some od) := by
  obtain ⟨rfl, dd, fs, rfl, ea⟩ := h
  obtain ⟨ha, _⟩ := I.pin (a, oe) (List.mem_append_left _ List.mem_cons_self)
  obtain ⟨vs, hd⟩ := hf
  have hx : ObjOk X.prog X.w H s.heap dd (.xd fs) := I.hok dd _ ea
  obtain ⟨mA, hns, hr⟩ := hx
  obtain ⟨od, ho, hl⟩ := lookIn_ns hns
  exact ⟨od, ha, hz.1, by unfold PySem.W.notCls; rw [hd] <;> rfl, by rw [hz.2]; exact ho⟩
theorem kitx_of_exc {x : Addr} {ox : Obj} {od : Option Obj} {K : PySem.W.Frag} (C : ExcC K D) : PySem.W.KitX K (.ref x) (.ref D) (fun h => PySem.W.InstAt h x ox D od) :=
  PySem.W.kitx_exc (by obtain ⟨cd, hc, _⟩ := PySem.W.any_some C.hd; rw [hc]; rfl) C.hg C.hk C.hs C.ha C.hn C.ht C.hm
end
end Pr
namespace Pr
open PySem PySem.Spec PyProof.Rows L2
def HeldY (D : Addr) (cls : Value) (d : Option Addr) (H : Hp) : Prop := cls = .ref D ∧ (d = none ∨ ∃ dd fs, d = some dd ∧ H dd = some (.xd fs))
def rIsY (K : PySem.W.Frag) (D a : Addr) (cls : Value) (d : Option Addr) : List V → Hp → VK → Prop := fun xs H Q => HeldY D cls d H ∧ ∃ (c : V) (u : Value) (b : Bool), xs = [.ref a, c] ∧ ClsV c u ∧ PySem.W.kitOne K (.ref D) u = some b ∧ Q (.bl b) H
def rIsYT (K : PySem.W.Frag) (D a : Addr) (cls : Value) (d : Option Addr) : List V → Hp → VK → Prop := fun xs H Q => HeldY D cls d H ∧ ∃ (tp : Addr) (cs : List V) (us : List Value) (b : Bool), xs = [.ref a, .ref tp] ∧ H tp = some (.tup cs) ∧ Paired ClsV cs us ∧ PySem.W.kitAny K (.ref D) us = some b ∧ Q (.bl b) H
section
variable {X : Cx} {a D : Addr} {oe : Obj} {cls : Value} {d : Option Addr} {pn pins : List (Addr × Obj)} {s : Shared} {σ : L2.St} {H : Hp}
theorem held_instY (hz : Zc cls d oe) (hf : ∃ vs, oe.data = .fields vs) (I : Inv (X.suite a ((a, oe) :: pn)) pins σ H s) (h : HeldY D cls d H) : ∃ od : Option Obj, PySem.W.InstAt s.heap a oe D od := by
  obtain ⟨rfl, rfl | ⟨dd, fs, rfl, ea⟩⟩ := h
  · obtain ⟨ha, _⟩ := I.pin (a, oe) (List.mem_append_left _ List.mem_cons_self)
    obtain ⟨vs, hd⟩ := hf
    exact ⟨none, ha, hz.1, by unfold PySem.W.notCls; rw [hd] <;> rfl, by rw [hz.2]; trivial⟩
  · obtain ⟨od, h⟩ := held_inst hz hf I ⟨rfl, dd, fs, rfl, ea⟩
    exact ⟨some od, h⟩
theorem call_isY (C : ExcC X.K D) (hz : Zc cls d oe) (hf : ∃ vs, oe.data = .fields vs) : CallR (X.suite a ((a, oe) :: pn)) (.builtin "isinstance") (rIsY X.K D a cls d) := by
  intro pins s σ H xs us Q I r h
  obtain ⟨hh, c, u, b, rfl, k, e, q⟩ := h
  obtain ⟨u1, u2, rfl, r1, r2⟩ := vals2 r
  cases (show u1 = Value.ref a from r1)
  have e2 := k.eq r2
  subst e2
  obtain ⟨od, J⟩ := held_instY hz hf I hh
  exact PySem.W.kia_one (kitx_of_exc C) I.kIn J e (fun z => nomatch z) fun tk => ⟨.bl b, H, I.tok tk, rfl, q⟩
theorem call_isYT (C : ExcC X.K D) (hz : Zc cls d oe) (hf : ∃ vs, oe.data = .fields vs) : CallR (X.suite a ((a, oe) :: pn)) (.builtin "isinstance") (rIsYT X.K D a cls d) := by
  intro pins s σ H xs us Q I r h
  obtain ⟨hh, tp, cs, ws, b, rfl, hT, k, e, q⟩ := h
  obtain ⟨u1, u2, rfl, r1, r2⟩ := vals2 r
  cases (show u1 = Value.ref a from r1)
  cases (show u2 = Value.ref tp from r2)
  obtain ⟨od, J⟩ := held_instY hz hf I hh
  obtain ⟨_, its, rv, o, h1, h2, n, h3⟩ := (show ObjOk X.prog X.w H s.heap tp (.tup cs) from I.hok tp _ hT)
  have e3 := ClsV.all k rv
  subst e3
  obtain ⟨oc, od', dt, sl⟩ := o
  simp only at h2 h3
  subst h2 h3
  exact PySem.W.kia_tup (kitx_of_exc C) I.kIn J h1 e (fun z => nomatch z) fun tk => ⟨.bl b, H, I.tok tk, rfl, q⟩
end
theorem kit_selfY {K : PySem.W.Frag} {C : Addr} : PySem.W.kitOne K (.ref C) (.ref C) = some true := if_pos (beq_self_eq_true _)
end Pr
namespace Pr
open PySem PySem.Spec PyProof.Rows L2
/-- what the top says of an error class with one field, and of its __init__ -/
structure ExF (K : PySem.W.Frag) (mg : Str → Option Value) (nm fld qn : Str) (sI : Stmt) (C fI : Addr) (fdI : FuncData) : Prop where
  oex : OexC K C
  iC : PySem.W.findIn K (.ref C) "__init__" = some (some (.ref fI))
  tI : PySem.W.typeIn K (.ref fI) = some (.type "function")
  noN : PySem.W.findIn K (.ref C) fld = some none
  g : mg nm = some (.ref C)
  FI : Fun K "__init__" qn sI fI fdI
  bI : Binds K fdI ["self", fld] []
def spI (K : PySem.W.Frag) (C : Addr) (fld : Str) : Sp := fun vs H Q _ => ∃ (e : Addr) (y : V), vs = [.ref e, y] ∧ OexC K C ∧ PySem.W.findIn K (.ref C) fld = some none ∧ H e = some (exo e C none) ∧
  ∀ dx, H dx = none → dx ≠ e → Q .non (upd (upd H dx (exd dx [(fld, y)])) e (exo e C (some dx)))
theorem madeF {H : Hp} {C a dx : Addr} {y : V} {fld : Str} (na : H a = none) (nd : (upd H a (exo a C none)) dx = none) (ne : dx ≠ a) :
    (upd (upd (upd H a (exo a C none)) dx (exd dx [(fld, y)])) a (exo a C (some dx))) a = some (exo a C (some dx)) ∧
    (upd (upd (upd H a (exo a C none)) dx (exd dx [(fld, y)])) a (exo a C (some dx))) dx = some (exd dx [(fld, y)]) ∧ H dx = none ∧
    Same H (upd (del (upd (upd (upd H a (exo a C none)) dx (exd dx [(fld, y)])) a (exo a C (some dx))) a) dx (.xd [(fld, y)])) := by
  have nd' : H dx = none := by rw [upd_ne ne] at nd; exact nd
  refine ⟨upd_same, by rw [upd_ne ne, upd_same], nd', fun b o e => ?_⟩
  rw [upd_ne (ne_of_none e nd'), del_ne (ne_of_none e na), upd_ne (ne_of_none e na), upd_ne (ne_of_none e nd'), upd_ne (ne_of_none e na)]
  exact e
/-- what is left to answer where such an error is made with y -/
theorem rzF {K : PySem.W.Frag} {mg : Str → Option Value} {nm fld qn : Str} {sI : Stmt} {C fI : Addr} {fdI : FuncData} (T : ExF K mg nm fld qn sI C fI fdI) {Hx : Hp} {y : V} {E : XK} (q : ∀ H' dd, Same Hx H' → H' dd = some (.xd [(fld, y)]) → E (.ref C) (some dd) H') :
    [y].length ≤ 1000 ∧ ∀ a, Hx a = none → spI K C fld (.ref a :: ([y] ++ [])) (upd Hx a (exo a C none))
        (fun v H2 => v = .non ∧ ∃ (d : Addr) (fs : List (Str × V)), H2 a = some (exo a C (some d)) ∧ H2 d = some (exd d fs) ∧ Hx d = none ∧ E (.ref C) (some d) (upd (del H2 a) d (.xd fs))) (fun _ _ _ => False) := by
  refine ⟨by show 1 ≤ 1000; decide, fun a na => ⟨a, y, rfl, T.oex, T.noN, upd_same, fun dx nd ne => ⟨rfl, dx, [(fld, y)], ?_⟩⟩⟩
  obtain ⟨m1, m2, m3, m4⟩ := madeF (y := y) (fld := fld) na nd ne
  exact ⟨m1, m2, m3, q _ dx m4 upd_same⟩
end Pr
namespace Pr
open PySem PySem.Spec PyProof.Rows L2
section
variable {K : PySem.W.Frag} {H H' : Hp} {pan : List (List Int)}
theorem panT_dp {v : V} (h : Dp K H v (dPan pan)) : ∃ p, v = .ref p ∧ PanT K H p pan := by
  obtain ⟨p, xs, rfl, hq, hr⟩ := h.tupI
  have : ∀ (xs : List V) (pan : List (List Int)), DpAll K H xs (pan.map dInts) → ∃ qs : List Addr, xs = qs.map V.ref ∧ Paired (fun q l => SqT K H q (l.map V.int)) qs pan := by
    intro xs pan
    induction pan generalizing xs with
    | nil => intro h; cases h; exact ⟨[], rfl, .nil⟩
    | cons l pan ih =>
      intro h
      cases h with
      | cons h1 h2 =>
        obtain ⟨q, rfl, hq⟩ := h1.intsI
        obtain ⟨qs, rfl, hqs⟩ := ih _ h2
        exact ⟨q :: qs, rfl, .cons hq hqs⟩
  obtain ⟨qs, rfl, hqs⟩ := this xs pan hr
  exact ⟨p, rfl, qs, hq, hqs⟩
theorem dq_panT {N : Addr → Prop} {p : Addr} (h : PanT K H p pan) : Dq K N H (.ref p) (dPan pan) := by
  obtain ⟨qs, h1, h2⟩ := h
  refine .tup h1 ?_
  have : ∀ {qs : List Addr} {pan : List (List Int)}, Paired (fun q l => SqT K H q (l.map V.int)) qs pan → DqAll K N H (qs.map V.ref) (pan.map dInts) := fun h => by
    induction h with
    | nil => exact .nil
    | cons a b ih => exact .cons (dq_ints a) ih
  exact this h2
end
theorem asc_from {n : Int} : ∀ {l : List Int} {b : Int}, l.Pairwise (· < ·) → (∀ x ∈ l, b < x ∧ 0 ≤ x ∧ x < n) → ascFrom n b (l.map PyData.int) = true
  | [], _, _, _ => rfl
  | x :: l, b, up, h => by
    rw [List.pairwise_cons] at up
    have hx := h x List.mem_cons_self
    have ih := asc_from (n := n) (b := x) up.2 fun y hy => ⟨up.1 y hy, (h y (List.mem_cons_of_mem _ hy)).2⟩
    show (decide (0 ≤ x) && decide (x < n) && decide (b < x) && ascFrom n x (l.map PyData.int)) = true
    rw [ih, decide_eq_true hx.1, decide_eq_true hx.2.1, decide_eq_true hx.2.2]; rfl
theorem err_from {n : Int} : ∀ (pan : List (List Int)) (k : Nat), (∀ l ∈ pan, l.Pairwise (· < ·) ∧ ∀ x ∈ l, 0 ≤ x ∧ x < n) → (∀ (j : Nat) (l : List Int), pan[j]? = some l → ((k + j : Nat) : Int) ∉ l) → errFrom n k (pan.map dInts) = .none
  | [], _, _, _ => rfl
  | l :: pan, k, h1, h2 => by
    have a := h1 l List.mem_cons_self
    have b := h2 0 l rfl
    have ih := err_from pan (k + 1) (fun m hm => h1 m (List.mem_cons_of_mem _ hm)) fun j m hj => by
      have := h2 (j + 1) m hj
      rw [show k + 1 + j = k + (j + 1) by omega]; exact this
    show (if btnT n (dInts l) then (if hasInt (k : Int) (dInts l) then dErr (.int (k : Int)) "itself" else errFrom n (k + 1) (pan.map dInts)) else dErr (.int (k : Int)) "list") = .none
    have e1 : btnT n (dInts l) = true := asc_from a.1 fun x hx => ⟨by have := a.2 x hx; omega, a.2 x hx⟩
    have e2 : hasInt (k : Int) (dInts l) = false := by
      show ((l.map PyData.int).any fun d => match d with | .int i => decide (i = (k : Int)) | _ => false) = false
      rw [List.any_map, List.any_eq_false]
      intro x hx
      simp only [Function.comp, decide_eq_true_eq]
      rintro rfl
      exact b (by simpa using hx)
    rw [e1, e2, if_pos rfl, if_neg Bool.false_ne_true, ih]
theorem err_good {pan : List (List Int)} (g : Good pan) : errD (dPan pan) = .none := by
  show (if 1 ≤ (pan.map dInts).length ∧ (pan.map dInts).length ≤ 10 then errFrom ((pan.map dInts).length : Int) 0 (pan.map dInts) else dErr .none "panel") = .none
  rw [List.length_map, if_pos ⟨g.pos, g.few⟩]
  exact err_from pan 0 (fun l hl => ⟨g.up l hl, g.rng l hl⟩) fun j l hj => by rw [Nat.zero_add]; exact g.own j l hj
/-- all but the object at g stands as before -/
def ButO (g : Addr) (H H' : Hp) : Prop := ∀ b o, b ≠ g → H b = some o → H' b = some o
theorem ButO.refl (g : Addr) (H : Hp) : ButO g H H := fun _ _ _ e => e
theorem ButO.of {g : Addr} {H H' : Hp} (s : Same H H') : ButO g H H' := fun b o _ e => s b o e
theorem ButO.trans {g : Addr} {H H1 H2 : Hp} (x : ButO g H H1) (y : ButO g H1 H2) : ButO g H H2 := fun b o n e => y b o n (x b o n e)
theorem ButO.upd {g : Addr} {H : Hp} {o : HO} : ButO g H (upd H g o) := fun b o' n e => by rw [upd_ne n]; exact e
theorem ButO.kp {g C dx : Addr} {fs : List (Str × V)} {H H' : Hp} (h : H g = some (.ins C dx fs)) (b : ButO g H H') : Kp H H' :=
  ⟨fun p xs e => b _ _ (ne_of e h (by intro z; cases z)) e, fun p o u e => b _ _ (ne_of e h (by intro z; cases z)) e⟩
theorem PanT.kp {K : PySem.W.Frag} {H H' : Hp} {p : Addr} {pan : List (List Int)} (k : Kp H H') (h : PanT K H p pan) : PanT K H' p pan := by
  obtain ⟨p', e, h'⟩ := panT_dp (h.dp.kp k (lf_pan _))
  cases e; exact h'
end Pr
namespace K52
open PySem PySem.Spec PyProof.Rows L2 Pr
theorem scBtn : FnScope ["value", "many"] ["value", "many"] (defScope sBtn) := ⟨rfl, rfl, rfl, by decide +kernel, rfl, by decide +kernel, by decide +kernel⟩
theorem scBtnT : FnScope ["value", "many", "before", "item"] ["value", "many"] (defScope sBtnT) := ⟨rfl, rfl, rfl, by decide +kernel, rfl, by decide +kernel, by decide +kernel⟩
theorem scPErr : FnScope ["value", "index", "item"] ["value"] (defScope sPErr) := ⟨rfl, rfl, rfl, by decide +kernel, rfl, by decide +kernel, by decide +kernel⟩
section
variable {P : Program} {w : World} {K : PySem.W.Frag} {mg : Str → Option Value} {base : Heap}
def spBtn (K : PySem.W.Frag) : Sp := fun vs H Q _ => ∃ (N : Addr → Prop) (v : V) (d : PyData) (n : Int), vs = [v, .int n] ∧ Dq K N H v d ∧ Q (.bl (isBtn n d)) H
theorem ok_btn {f : Addr} {fd : FuncData} {k : Nat} (F : Fun K "is_button" "is_button" sBtn f fd) (mi : mg "isinstance" = none) (mb : mg "bool" = none) (mn : mg "int" = none) : FnOk P w K mg base CX0 (k + 1) f fd ["value", "many"] (spBtn K) := by
  refine F.ok scBtn (fun vs H Q E h => ?_) (fun cdv A outer s H vs Q E hr h => ?_)
  · obtain ⟨N, v, d, n, rfl, _⟩ := h
    rfl
  · obtain ⟨N, v, d, n, rfl, hd, q⟩ := h
    refine ⟨_, pss_cons (ps_if (PW.pt (pw_or (pt_val (pe_callB call_isi (by rfl) mi (by decide +kernel) (pa_cons (pv 0) (pa_cons (pe_bltn (v := .ty "bool") (by rfl) mb (by decide +kernel) rfl) pa_nil))))
        (pw_or1 (pt_not (pt_val (pe_callB call_isi (by rfl) mi (by decide +kernel) (pa_cons (pv 0) (pa_cons (pe_bltn (v := .ty "int") (by rfl) mn (by decide +kernel) rfl) pa_nil))))))))
        (pss_one (ps_ret pe_bl)) pss_nil)
      (pss_one (ps_ret (pe_chain op_le op_lt pe_int (pv 0) (pv 1)))), ?_⟩
    refine ⟨v, rfl, v, .ty "bool", _, _, _, rfl, .ty "bool", hd.ty, isB_kit d, _, rfl, ?_⟩
    by_cases hb : ∃ b, d = .bool b
    · obtain ⟨b, rfl⟩ := hb
      exact iteT (iteT q)
    · have e1 : isB d = false := by
        cases d <;> first | rfl | exact absurd ⟨_, rfl⟩ hb
      rw [e1]
      refine iteF ⟨v, rfl, v, .ty "int", _, _, _, rfl, .ty "int", hd.ty, isI_kit d, _, rfl, ?_⟩
      by_cases hi : ∃ i, d = .int i
      · obtain ⟨i, rfl⟩ := hi
        cases hd
        refine iteF ⟨.int i, rfl, 0, i, rfl, rfl, _, rfl, ite2 (fun e => ?_) (fun e => ?_)⟩
        · refine ⟨.int n, rfl, i, n, rfl, rfl, ?_⟩
          have q' : Q (.bl (decide (0 ≤ i) && decide (i < n))) H := q
          rw [e, Bool.true_and] at q'
          exact q'
        · have q' : Q (.bl (decide (0 ≤ i) && decide (i < n))) H := q
          rw [(Bool.not_eq_true _).mp e, Bool.false_and] at q'
          exact q'
      · have e2 : isI d = false := by
          cases d <;> first | rfl | exact absurd ⟨_, rfl⟩ hi | exact absurd ⟨_, rfl⟩ hb
        rw [e2]
        have q' : Q (.bl false) H := by
          cases d <;> first | exact q | exact absurd ⟨_, rfl⟩ hi
        exact iteT q'
def spBtnT (K : PySem.W.Frag) : Sp := fun vs H Q _ => ∃ (N : Addr → Prop) (v : V) (d : PyData) (n : Int), vs = [v, .int n] ∧ Dq K N H v d ∧ Q (.bl (btnT n d)) H
theorem ok_btnT {f fB : Addr} {fd fdB : FuncData} {k : Nat} (F : Fun K "is_button_tuple" "is_button_tuple" sBtnT f fd) (FB : Fun K "is_button" "is_button" sBtn fB fdB) (bB : Binds K fdB ["value", "many"] []) (gB : mg "is_button" = some (.ref fB))
    (mi : mg "isinstance" = none) (mb : mg "bool" = none) (mn : mg "int" = none) (mt : mg "tuple" = none) : FnOk P w K mg base CX0 (k + 2) f fd ["value", "many"] (spBtnT K) := by
  have GB : FnOk P w K mg base CX0 (k + 1) fB fdB ["value", "many"] (spBtn K) := ok_btn FB mi mb mn
  refine F.ok scBtnT (fun vs H Q E h => ?_) (fun cdv A outer s H vs Q E hr h => ?_)
  · obtain ⟨N, v, d, n, rfl, _⟩ := h
    rfl
  · obtain ⟨N, v, d, n, rfl, hd, q⟩ := h
    refine ⟨_, pss_cons (ps_if (pt_not (pt_val (pe_callB call_isi (by rfl) mi (by decide +kernel) (pa_cons (pv 0) (pa_cons (pe_bltn (v := .ty "tuple") (by rfl) mt (by decide +kernel) rfl) pa_nil))))) (pss_one (ps_ret pe_bl)) pss_nil)
      (pss_cons (ps_set (i := 2) scBtnT.nd rfl (.inl rfl) (pe_un un_neg pe_int))
      (pss_cons (ps_for PassesOwn.never rfl (pi_tup (pv 0)) (pg_name (i := 3) scBtnT.nd rfl (.inl rfl))
        (pss_cons (ps_if (PW.pt (pw_or (pt_not (pt_val (pe_call GB hr (by rfl) gB FB.kp bB .nil pass0 (pa_cons (pv 3) (pa_cons (pv 1) pa_nil))))) (pw_or1 (pt_cmpR op_le (pv 3) (pv 2) (nomark _))))) (pss_one (ps_ret pe_bl)) pss_nil)
        (pss_one (ps_set (i := 2) scBtnT.nd rfl (.inl rfl) (pv 3)))))
      (pss_one (ps_ret pe_bl)))), ?_⟩
    refine ⟨v, rfl, v, .ty "tuple", _, _, _, rfl, .ty "tuple", hd.ty, isT_kit d, _, rfl, ?_⟩
    by_cases ht : ∃ ds, d = .tuple ds
    · obtain ⟨ds, rfl⟩ := ht
      cases hd with
      | @tup l xs _ hs ha =>
        have q' : Q (.bl (ascFrom n (-1) ds)) H := q
        refine iteF ⟨1, rfl, .ref l, rfl, l, rfl, ⟨_, hs⟩, ?_⟩
        refine for_tup (xs := xs) (fun i σ H' => H' = H ∧ ∃ b x3, σ = [some (.ref l), some (.int n), some (.int b), x3] ∧ ascFrom n (-1) ds = ascFrom n b (ds.drop i)) ⟨rfl, -1, none, rfl, rfl⟩ (fun i σ H' _ hP => by rw [hP.1]; exact hs) (fun i x σ H' hx hP => ?_) (fun σ H' hP => ?_)
        · obtain ⟨rfl, b, x3, rfl, ea⟩ := hP
          obtain ⟨di, hdi, hq⟩ := ha.get i x hx
          have hi := (List.getElem?_eq_some_iff.mp hdi).1
          have ed : ds.drop i = di :: ds.drop (i + 1) := by rw [List.drop_eq_getElem_cons hi, (List.getElem?_eq_some_iff.mp hdi).2]
          rw [ed] at ea
          refine ⟨x, rfl, .int n, rfl, N, x, di, n, rfl, hq, _, rfl, ?_⟩
          by_cases hb : isBtn n di = true
          · rw [hb]
            obtain ⟨j, rfl⟩ : ∃ j, di = .int j := by
              cases di <;> first | exact ⟨_, rfl⟩ | (simp [isBtn] at hb)
            cases hq
            have ea' : ascFrom n (-1) ds = (decide (0 ≤ j) && decide (j < n) && decide (b < j) && ascFrom n j (ds.drop (i + 1))) := ea
            have hb' : (decide (0 ≤ j) && decide (j < n)) = true := hb
            rw [hb', Bool.true_and] at ea'
            refine iteF ⟨.int j, rfl, .int b, rfl, j, b, rfl, rfl, _, rfl, ite2 (fun e => ?_) (fun e => ?_)⟩
            · have : ¬ b < j := by have := of_decide_eq_true e; omega
              rw [decide_eq_false this, Bool.false_and] at ea'
              rw [ea'] at q'
              exact q'
            · have : b < j := by
                have : ¬ j ≤ b := fun h => e (decide_eq_true h)
                omega
              rw [decide_eq_true this, Bool.true_and] at ea'
              exact ⟨.int j, rfl, rfl, j, _, rfl, ea'⟩
          · rw [(Bool.not_eq_true _).mp hb]
            have ef : ascFrom n (-1) ds = false := by
              rw [ea]
              cases di with
              | int j =>
                have hb' : (decide (0 ≤ j) && decide (j < n)) = false := (Bool.not_eq_true _).mp hb
                show (decide (0 ≤ j) && decide (j < n) && decide (b < j) && ascFrom n j (ds.drop (i + 1))) = false
                rw [hb', Bool.false_and, Bool.false_and]
              | _ => rfl
            rw [ef] at q'
            exact iteT q'
        · obtain ⟨rfl, b, x3, rfl, ea⟩ := hP
          rw [ha.length, List.drop_length] at ea
          rw [ea] at q'
          exact q'
    · have e1 : isT d = false := by
        cases d <;> first | rfl | exact absurd ⟨_, rfl⟩ ht
      rw [e1]
      have q' : Q (.bl false) H := by
        cases d <;> first | exact q | exact absurd ⟨_, rfl⟩ ht
      exact iteT q'
end
section
variable {P : Program} {w : World} {K : PySem.W.Frag} {mg : Str → Option Value} {base : Heap}
def spPErr (K : PySem.W.Frag) : Sp := fun vs H Q _ => ∃ (N : Addr → Prop) (v : V) (d : PyData), vs = [v] ∧ Dq K N H v d ∧ ∀ H' u, Same H H' → Dp K H' u (errD d) → Q u H'
theorem dp_err {H : Hp} {p : Addr} {v : V} {d : PyData} {x : Str} (hv : Dp K (upd H p (.tup [v, .str x])) v d) : Dp K (upd H p (.tup [v, .str x])) (.ref p) (dErr d x) := .tup (.inl (.inl upd_same)) (.cons hv (.cons (.str x) .nil))
theorem ok_perr {f fB fT : Addr} {fd fdB fdT : FuncData} {k : Nat} {tk : Tok} (F : Fun K "panel_error" "panel_error" sPErr f fd) (FB : Fun K "is_button" "is_button" sBtn fB fdB) (bB : Binds K fdB ["value", "many"] []) (gB : mg "is_button" = some (.ref fB))
    (FT' : Fun K "is_button_tuple" "is_button_tuple" sBtnT fT fdT) (bT : Binds K fdT ["value", "many"] []) (gT : mg "is_button_tuple" = some (.ref fT)) (mM : mg "MAX_BUTTONS" = some (.int 10 tk))
    (mi : mg "isinstance" = none) (mb : mg "bool" = none) (mn : mg "int" = none) (mt : mg "tuple" = none) (ml : mg "len" = none) (me : mg "enumerate" = none) : FnOk P w K mg base CX0 (k + 3) f fd ["value"] (spPErr K) := by
  have GT : FnOk P w K mg base CX0 (k + 2) fT fdT ["value", "many"] (spBtnT K) := ok_btnT FT' FB bB gB mi mb mn mt
  refine F.ok scPErr (fun vs H Q E h => ?_) (fun cdv A outer s H vs Q E hr h => ?_)
  · obtain ⟨N, v, d, rfl, _⟩ := h
    rfl
  · obtain ⟨N, v, d, rfl, hd, q⟩ := h
    refine ⟨_, pss_cons (ps_if (PW.pt (pw_or (pt_not (pt_val (pe_callB call_isi (by rfl) mi (by decide +kernel) (pa_cons (pv 0) (pa_cons (pe_bltn (v := .ty "tuple") (by rfl) mt (by decide +kernel) rfl) pa_nil)))))
        (pw_or1 (pt_not (pt_chain op_le op_le pe_int (pe_callB call_len_seq (by rfl) ml PySem.boot_len (pa_cons (pv 0) pa_nil)) (pe_glob (v := .int 10) rfl mM ⟨_, rfl⟩))))))
        (pss_one (ps_ret (pe_tup (pa_cons pe_non (pa_cons pe_str pa_nil))))) pss_nil)
      (pss_cons (ps_for PassesOwn.never rfl (pi_enumT (by rfl) me (pa_cons (pv 0) pa_nil)) (pg_tup rfl (pgs_cons (pg_name (i := 1) scPErr.nd rfl (.inl rfl)) (pgs_cons (pg_name (i := 2) scPErr.nd rfl (.inl rfl)) pgs_nil)))
        (pss_cons (ps_if (pt_not (pt_val (pe_call GT hr (by rfl) gT FT'.kp bT .nil pass0 (pa_cons (pv 2) (pa_cons (pe_callB call_len_seq (by rfl) ml PySem.boot_len (pa_cons (pv 0) pa_nil)) pa_nil)))))
          (pss_one (ps_ret (pe_tup (pa_cons (pv 1) (pa_cons pe_str pa_nil))))) pss_nil)
        (pss_one (ps_if (pt_cmpR op_in_seq (pv 1) (pv 2) (by rfl)) (pss_one (ps_ret (pe_tup (pa_cons (pv 1) (pa_cons pe_str pa_nil))))) pss_nil))))
      (pss_one (ps_ret pe_non))), ?_⟩
    have bad : errD d = dErr .none "panel" → ∀ p, H p = none → Q (.ref p) (upd H p (.tup [.non, .str "panel"])) := fun e p np => by
      refine q _ _ (same_new np) ?_
      rw [e]
      exact dp_err .non
    refine ⟨v, rfl, v, .ty "tuple", _, _, _, rfl, .ty "tuple", hd.ty, isT_kit d, _, rfl, ?_⟩
    by_cases ht : ∃ ds, d = .tuple ds
    · obtain ⟨ds, rfl⟩ := ht
      cases hd with
      | @tup l xs _ hs ha =>
        have hl := ha.length
        refine iteF ⟨.ref l, rfl, l, xs, rfl, .inr hs, 1, (xs.length : Int), rfl, rfl, _, rfl, ?_⟩
        by_cases h1 : (1 : Int) ≤ (xs.length : Int)
        · rw [decide_eq_true h1]
          refine iteT ⟨(xs.length : Int), 10, rfl, rfl, _, rfl, ?_⟩
          by_cases h2 : (xs.length : Int) ≤ 10
          · rw [decide_eq_true h2]
            refine iteF ⟨.ref l, rfl, l, xs, rfl, hs, ?_⟩
            have ed : errD (.tuple ds) = errFrom (ds.length : Int) 0 ds := if_pos ⟨by omega, by omega⟩
            rw [ed] at q
            refine for_it (walk_enumT (xs := xs)) (fun i σ H' => Same H H' ∧ ∃ x1 x2, σ = [some (.ref l), x1, x2] ∧ errFrom (ds.length : Int) 0 ds = errFrom (ds.length : Int) i (ds.drop i)) ⟨Same.refl _, none, none, rfl, rfl⟩ (fun i σ H' _ hP => same_sqT hP.1 hs) (fun i x σ H3 H4 hi hP hY => ?_) (fun σ H' hP => ?_)
            · obtain ⟨s3, x1, x2, rfl, ea⟩ := hP
              obtain ⟨T, y1, y2, rfl, nT, rfl, e1, e2⟩ := hY
              cases e1
              replace e2 : xs[i]? = some y2 := e2
              have sT : Same H3 (upd H3 T (.tup [.int (i : Nat), y2])) := same_new nT
              obtain ⟨di, hdi, hq⟩ := ha.get i y2 e2
              rw [errFrom_drop hdi] at ea
              have s4 := s3.trans sT
              have hq4 := Dq.same s4 di y2 hq
              refine ⟨T, _, rfl, .inl (.inl upd_same), rfl, _, _, rfl, _, _, rfl, rfl, ?_⟩
              refine ⟨y2, rfl, .ref l, rfl, l, xs, rfl, .inr (same_sqT s4 hs), N, y2, di, (xs.length : Int), rfl, hq4, _, rfl, ?_⟩
              rw [hl]
              by_cases hb : btnT (ds.length : Int) di = true
              · rw [hb] at ea ⊢
                rw [if_pos rfl] at ea
                obtain ⟨es, rfl⟩ : ∃ es, di = .tuple es := by
                  cases di <;> first | exact ⟨_, rfl⟩ | (simp [btnT] at hb)
                obtain ⟨ns, rfl, up, rg⟩ := ascFrom_ints (show ascFrom (ds.length : Int) (-1) es = true from hb)
                rw [hasInt_ints] at ea
                cases hq4 with
                | @tup l2 zs _ hs2 ha2 =>
                  obtain rfl := dqAll_of_ints ha2
                  refine iteF ⟨.int (i : Int), rfl, .ref l2, rfl, l2, _, rfl, .inr hs2, rfl, flat_ints ns, _, rfl, ?_⟩
                  rw [if_neg Bool.false_ne_true, inV_ints]
                  refine ite2 (fun e => ?_) (fun e => ?_)
                  · rw [e, if_pos rfl] at ea
                    refine ⟨.int (i : Int), rfl, by show 2 ≤ sizeLine; decide, fun p np => q _ _ (s4.trans (same_new np)) ?_⟩
                    rw [ea]
                    exact dp_err (.int _)
                  · rw [if_neg e] at ea
                    exact ⟨s4, _, _, rfl, ea⟩
              · rw [(Bool.not_eq_true _).mp hb] at ea ⊢
                rw [if_neg Bool.false_ne_true] at ea
                refine iteT ⟨.int (i : Int), rfl, by show 2 ≤ sizeLine; decide, fun p np => q _ _ (s4.trans (same_new np)) ?_⟩
                rw [ea]
                exact dp_err (.int _)
            · obtain ⟨s3, x1, x2, rfl, ea⟩ := hP
              rw [hl, List.drop_length] at ea
              refine q _ _ s3 ?_
              rw [ea]
              exact .non
          · rw [decide_eq_false h2]
            exact iteT ⟨by show 2 ≤ sizeLine; decide, bad (if_neg (by omega))⟩
        · rw [decide_eq_false h1]
          refine iteF ⟨_, rfl, ?_⟩
          exact iteT ⟨by show 2 ≤ sizeLine; decide, bad (if_neg (by omega))⟩
    · have e1 : isT d = false := by
        cases d <;> first | rfl | exact absurd ⟨_, rfl⟩ ht
      rw [e1]
      refine iteT (iteT ⟨by show 2 ≤ sizeLine; decide, bad ?_⟩)
      cases d <;> first | rfl | exact absurd ⟨_, rfl⟩ ht
end
def nChkP : List Str := ["value", "error"]
theorem scChkP : FnScope nChkP ["value"] (defScope sChkP) := ⟨rfl, rfl, rfl, by decide +kernel, rfl, by decide +kernel, by decide +kernel⟩
section
variable {P : Program} {w : World} {K : PySem.W.Frag} {mg : Str → Option Value} {base : Heap}
def spChkP (K : PySem.W.Frag) : Sp := fun vs H Q _ => ∃ (p : Addr) (pan : List (List Int)), vs = [.ref p] ∧ PanT K H p pan ∧ Good pan ∧ ∀ H', Same H H' → Q .non H'
theorem ok_ChkP {fBtn : Addr} {fdBtn : FuncData} {fBtnT : Addr} {fdBtnT : FuncData} {fPErr : Addr} {fdPErr : FuncData} {f : Addr} {fd : FuncData} {k : Nat} (F : Fun K "check_panel" "check_panel" sChkP f fd)
    (FBtn : Fun K "is_button" "is_button" sBtn fBtn fdBtn) (bBtn : Binds K fdBtn ["value", "many"] []) (gBtn : mg "is_button" = some (.ref fBtn))
    (FBtnT : Fun K "is_button_tuple" "is_button_tuple" sBtnT fBtnT fdBtnT) (bBtnT : Binds K fdBtnT ["value", "many"] []) (gBtnT : mg "is_button_tuple" = some (.ref fBtnT))
    (FPErr : Fun K "panel_error" "panel_error" sPErr fPErr fdPErr) (bPErr : Binds K fdPErr ["value"] []) (gPErr : mg "panel_error" = some (.ref fPErr))
    (m_bool : mg "bool" = none) (m_enumerate : mg "enumerate" = none) (m_int : mg "int" = none) (m_isinstance : mg "isinstance" = none) (m_len : mg "len" = none) (m_tuple : mg "tuple" = none) {tk : Tok} (y_MAX : mg "MAX_BUTTONS" = some (.int 10 tk)) : FnOk P w K mg base CX0 (k + 4) f fd ["value"] (spChkP K) := by
  have GPErr : FnOk P w K mg base CX0 (k + 3) fPErr fdPErr ["value"] (spPErr K) := ok_perr FPErr FBtn bBtn gBtn FBtnT bBtnT gBtnT y_MAX m_isinstance m_bool m_int m_tuple m_len m_enumerate
  refine F.ok scChkP (fun vs H Q E h => ?_) (fun cdv A outer s H vs Q E hr h => ?_)
  · obtain ⟨p, pan, rfl, _⟩ := h
    rfl
  · obtain ⟨p, pan, rfl, hp, hg, q⟩ := h
    refine ⟨_, pss_cons (ps_set (i := 1) scChkP.nd rfl (.inl rfl) (pe_call GPErr (hr.mono (by omega)) (by rfl) gPErr FPErr.kp bPErr .nil pass0 (pa_cons (pv 0) pa_nil)))
      (pss_one (ps_if (pt_cmpR op_notN (pv 1) pe_non (by rfl)) (pss_one ps_never) pss_nil)), ?_⟩
    refine ⟨.ref p, rfl, fun _ => False, .ref p, dPan pan, rfl, dq_panT hp, fun H1 u s1 du => ?_⟩
    rw [err_good hg] at du
    cases du
    refine gs_noN (gvt_test (K := K) (gv_notN (gv_var rfl .non) rfl)) rfl fun H2 s2 => q H2 (s1.trans s2)
end
def nChkS : List Str := ["panel", "value"]
theorem scChkS : FnScope nChkS ["panel", "value"] (defScope sChkS) := ⟨rfl, rfl, rfl, by decide +kernel, rfl, by decide +kernel, by decide +kernel⟩
section
variable {P : Program} {w : World} {K : PySem.W.Frag} {mg : Str → Option Value} {base : Heap}
def spChkS (K : PySem.W.Frag) : Sp := fun vs H Q _ => ∃ (p l : Addr) (pan : List (List Int)) (st : List Int), vs = [.ref p, .ref l] ∧ PanT K H p pan ∧ SqT K H l (st.map V.int) ∧ Asc pan.length st ∧ ∀ H', Same H H' → Q .non H'
theorem ok_ChkS {fBtn : Addr} {fdBtn : FuncData} {fBtnT : Addr} {fdBtnT : FuncData} {f : Addr} {fd : FuncData} {k : Nat} (F : Fun K "check_state" "check_state" sChkS f fd)
    (FBtn : Fun K "is_button" "is_button" sBtn fBtn fdBtn) (bBtn : Binds K fdBtn ["value", "many"] []) (gBtn : mg "is_button" = some (.ref fBtn))
    (FBtnT : Fun K "is_button_tuple" "is_button_tuple" sBtnT fBtnT fdBtnT) (bBtnT : Binds K fdBtnT ["value", "many"] []) (gBtnT : mg "is_button_tuple" = some (.ref fBtnT))
    (m_bool : mg "bool" = none) (m_int : mg "int" = none) (m_isinstance : mg "isinstance" = none) (m_len : mg "len" = none) (m_tuple : mg "tuple" = none) : FnOk P w K mg base CX0 (k + 3) f fd ["panel", "value"] (spChkS K) := by
  have GBtnT : FnOk P w K mg base CX0 (k + 2) fBtnT fdBtnT ["value", "many"] (spBtnT K) := ok_btnT FBtnT FBtn bBtn gBtn m_isinstance m_bool m_int m_tuple
  refine F.ok scChkS (fun vs H Q E h => ?_) (fun cdv A outer s H vs Q E hr h => ?_)
  · obtain ⟨p, l, pan, st, rfl, _⟩ := h
    rfl
  · obtain ⟨p, l, pan, st, rfl, hp, hl, hst, q⟩ := h
    refine ⟨_, pss_one (ps_if (pt_not (pt_val (pe_call GBtnT (hr.mono (by omega)) (by rfl) gBtnT FBtnT.kp bBtnT .nil pass0 (pa_cons (pv 1) (pa_cons (pe_callB (show CallR _ _ (rLenG K) from cr_lenG) (by rfl) m_len PySem.boot_len (pa_cons (pv 0) pa_nil)) pa_nil))))) (pss_one ps_never) pss_nil), ?_⟩
    have hlp : (pan.map dInts).length = pan.length := List.length_map _
    refine ⟨.ref l, rfl, (gv_lenT (K := K) (gv_var rfl hp.dp)).at fun vn H1 s1 dn => ?_⟩
    cases dn
    rw [hlp]
    refine ⟨fun _ => False, .ref l, dInts st, (pan.length : Int), rfl, dq_ints (same_sqT s1 hl), ⟨_, rfl, ?_⟩⟩
    have e : btnT (pan.length : Int) (dInts st) = true := asc_from hst.up fun x hx => ⟨by have := hst.rng x hx; omega, hst.rng x hx⟩
    rw [e]
    exact iteF (q H1 s1)
end
end K52
namespace Pr
open PySem PySem.Spec PyProof.Rows L2
def Dk3 (H : Hp) (a c r : Addr) (m : Nat) : Prop :=
  ∃ (cells rests : List Int) (n : Nat), H a = some (.lst [.ref c, .int (n : Int), .ref r]) ∧ H c = some (.lst (cells.map V.int)) ∧ H r = some (.lst (rests.map V.int)) ∧ a ≠ c ∧ a ≠ r ∧ c ≠ r ∧
    1 ≤ cells.length ∧ cells.length ≤ 63 ∧ rests.length = cells.length ∧ n + m ≤ 1000000
theorem Dk3.same {H H' : Hp} {a c r : Addr} {m : Nat} (e : Same H H') (h : Dk3 H a c r m) : Dk3 H' a c r m :=
  let ⟨cs, rs, n, h1, h2, h3, h4⟩ := h; ⟨cs, rs, n, e _ _ h1, e _ _ h2, e _ _ h3, h4⟩
theorem Dk3.less {H : Hp} {a c r : Addr} {m m' : Nat} (h : Dk3 H a c r m) (z : m' ≤ m) : Dk3 H a c r m' :=
  let ⟨cs, rs, n, h1, h2, h3, h4, h5, h6, h7, h8, h9, h10⟩ := h; ⟨cs, rs, n, h1, h2, h3, h4, h5, h6, h7, h8, h9, by omega⟩
theorem Dk3.apart {H : Hp} {a c r : Addr} {m : Nat} (h : Dk3 H a c r m) {b : Addr} {o : HO} (e : H b = some o) (ho : ∀ xs, o ≠ .lst xs) : b ≠ a ∧ b ≠ r := by
  obtain ⟨cs, rs, n, h1, h2, h3, _⟩ := h
  exact ⟨ne_of e h1 (ho _), ne_of e h3 (ho _)⟩
theorem Dk3.fresh {H : Hp} {a c r : Addr} {m : Nat} (h : Dk3 H a c r m) {b : Addr} (e : H b = none) : b ≠ a ∧ b ≠ r ∧ b ≠ c := by
  obtain ⟨cs, rs, n, h1, h2, h3, _⟩ := h
  exact ⟨Ne.symm (ne_of_none h1 e), Ne.symm (ne_of_none h3 e), Ne.symm (ne_of_none h2 e)⟩
theorem But.free {a c : Addr} {H H' : Hp} {b : Addr} (x : But a c H H') (h1 : b ≠ a) (h2 : b ≠ c) (e : H' b = none) : H b = none := by
  cases q : H b with
  | none => rfl
  | some o => have := x b o h1 h2 q; rw [e] at this; cases this
theorem cut_ints (ns : List Int) (lo hi : Option Int) : ∃ ms : List Int, cutV (ns.map V.int) lo hi = ms.map V.int ∧ ms.length ≤ ns.length := by
  refine ⟨(ns.drop (HT.sIx ns.length 0 lo)).take (HT.sIx ns.length ns.length hi - HT.sIx ns.length 0 lo), ?_, ?_⟩
  · unfold cutV
    rw [List.length_map, List.map_take, List.map_drop]
  · rw [List.length_take, List.length_drop]; omega
end Pr
namespace Pr
open PySem PySem.Spec PyProof.Rows L2
/-- kvs holds the last place of each of the first i -/
def LastAt (row : List Int) (i : Nat) (kvs : List (Key × V)) : Prop :=
  ∀ x : Int, x ∈ row.take i → ∃ j : Nat, row[j]? = some x ∧ j < i ∧ (∀ m, j < m → m < i → row[m]? ≠ some x) ∧ valV kvs (Sum.inl x) = some (.int (j : Int))
theorem LastAt.nil (row : List Int) (kvs : List (Key × V)) : LastAt row 0 kvs := fun x h => by simp at h
/-- a dict comprehension over a walk: Pv by the turn and the heap (the new dict at D within) -/
theorem dc_it {J : It} {n : Nat} {G : Hp → Prop} {Y : Nat → Hp → V → Hp → Prop} (w : Walk J n G Y) {g : TG} {tt : TT} {tk tv : TE} {vs : List Nat} {σ : L2.St} {H1 : Hp} {D : Addr} {Qd : Hp → Prop} (Pv : Nat → Hp → Prop)
    (h0 : Pv 0 (upd H1 D (.dK []))) (hG : ∀ i H, i ≤ n → Pv i H → G H)
    (hs : ∀ i x H H', i < n → Pv i H → Y i H x H' → g x (wipe σ vs) H' fun σ2 H2 => wipe σ2 vs = wipe σ vs ∧ tt σ2 H2 fun b H3 => if b = true then tk σ2 H3 fun y H4 => tv σ2 H4 fun z H5 =>
      ∃ kvs k, y = kV k ∧ H5 D = some (.dK kvs) ∧ kvs.length < sizeLine ∧ Pv (i + 1) (upd H5 D (.dK (putK kvs k z))) else Pv (i + 1) H3)
    (hd : ∀ H, Pv n H → Qd H) :
    ∃ W : Nat → Nat → Hp → Prop, (∃ m, W 0 m (upd H1 D (.dK []))) ∧ ∀ i m H, W i m H → (J.stop i H ∧ Qd H) ∨ (J.go i H ∧ ∃ Nx : Hp → Prop, (∀ H', Nx H' → ∃ m', m' < m ∧ W (i + 1) m' H') ∧
      ∀ x H', J.yld i H x H' → g x (wipe σ vs) H' fun σ2 H2 => wipe σ2 vs = wipe σ vs ∧ tt σ2 H2 fun b H3 => if b = true then tk σ2 H3 fun y H4 => tv σ2 H4 fun z H5 =>
        ∃ kvs k, y = kV k ∧ H5 D = some (.dK kvs) ∧ kvs.length < sizeLine ∧ Nx (upd H5 D (.dK (putK kvs k z))) else Nx H3) := by
  refine ⟨fun i m H => (i ≤ n ∧ m = n - i) ∧ Pv i H, ⟨n, ⟨Nat.zero_le _, (Nat.sub_zero n).symm⟩, h0⟩, ?_⟩
  intro i m H hW
  obtain ⟨⟨hi, rfl⟩, hP⟩ := hW
  have hGH := hG i H hi hP
  rcases Nat.lt_or_ge i n with hlt | hge
  · exact .inr ⟨w.goes i H hlt hGH, Pv (i + 1), fun H' p' => ⟨n - (i + 1), by omega, ⟨hlt, rfl⟩, p'⟩, fun x H' y => hs i x H H' hlt hP (w.yields i H x H' hlt hGH y)⟩
  · obtain rfl : i = n := by omega
    exact .inl ⟨w.stops H hGH, hd H hP⟩
end Pr
namespace Pr
open PySem PySem.Spec PyProof.Rows L2
end Pr
namespace Pr
open PySem PySem.Spec PyProof.Rows L2
theorem eqvAll_strs : ∀ xs ys : List Str, PyData.eqvAll (xs.map PyData.str) (ys.map PyData.str) = decide (xs = ys)
  | [], [] => by simp [PyData.eqvAll]
  | [], y :: ys => by simp [PyData.eqvAll]
  | x :: xs, [] => by simp [PyData.eqvAll]
  | x :: xs, y :: ys => by
    rw [List.map_cons, List.map_cons]
    simp only [PyData.eqvAll, PyData.eqv]
    rw [eqvAll_strs xs ys, Bool.eq_iff_iff, Bool.and_eq_true, beq_iff_eq, decide_eq_true_eq, decide_eq_true_eq, List.cons.injEq]
theorem eqv_strs (xs ys : List Str) : PyData.eqv (dStrs xs) (dStrs ys) = decide (xs = ys) := by
  unfold dStrs
  simp only [PyData.eqv]
  exact eqvAll_strs xs ys
theorem word_ok {x : Str} (h : x = wSame ∨ x = wOn ∨ x = wOff) : PyData.strOk x = true := by
  rcases h with rfl | rfl | rfl <;> exact ok_of _
theorem lay_words : ∀ {xs : List Str}, (∀ x ∈ xs, x = wSame ∨ x = wOn ∨ x = wOff) → PyData.canLayAll0 (xs.map PyData.str) = true
  | [], _ => by simp [PyData.canLayAll0]
  | x :: r, h => by
    rw [List.map_cons]
    simp only [PyData.canLayAll0, PyData.canLay0]
    rw [word_ok (h x List.mem_cons_self), lay_words fun y hy => h y (List.mem_cons_of_mem _ hy)]; rfl
theorem depth_strs : ∀ xs : List Str, PyData.depthAll (xs.map PyData.str) = 0
  | [] => by simp [PyData.depthAll]
  | x :: r => by
    rw [List.map_cons]
    simp only [PyData.depthAll, PyData.depth]
    rw [depth_strs r]; rfl
theorem shp_words {xs : List Str} (h : ∀ x ∈ xs, x = wSame ∨ x = wOn ∨ x = wOff) : SeqAt.shaped (dStrs xs) = true := by
  refine shp_of ?_ ?_
  · unfold dStrs; simp only [PyData.canLay0]; exact lay_words h
  · unfold dStrs; simp only [PyData.depth]; rw [depth_strs]; decide
end Pr
namespace Pr
open PySem PySem.Spec PyProof.Rows L2
def rReprB (K : PySem.W.Frag) : List V → Hp → VK → Prop := fun xs H Q => rReprN K xs H Q ∨ ∃ b : Bool, xs = [.bl b] ∧ Q (.str (PyData.shown (.bool b))) H
theorem shq_bool (b : Bool) : Shq 60 sizeLine (.bool b) := by cases b <;> exact ⟨by simp only [PyData.showable], by simp [PyData.depth], by simp only [PyData.shown]; decide⟩
theorem cr_reprB {X : Cx} {k : Nat} (gd : X.A.guards = some []) (hr : Room k X.A) : CallR X (.builtin "repr") (rReprB X.K) := by
  intro pins s σ H xs us Q I rv h
  rcases h with h | ⟨b, rfl, q⟩
  · exact cr_reprN gd hr pins s σ H xs us Q I rv h
  · exact call_reprQ gd hr pins s σ H _ us Q I rv ⟨fun _ => False, .bl b, .bool b, rfl, .bl b, shq_bool b, q⟩
theorem gv_reprB {K : PySem.W.Frag} {σ : L2.St} {H : Hp} {t : TE} {d : PyData} (h : Gv K t σ H d) (hd : RepOk d) : Gv K (tCB (rReprB K) (tCons t tNil)) σ H (.str d.shown) := fun H1 s Q q =>
  gva_cons h gva_nil H1 s _ fun vs H2 s2 dv => .inl (by
    have := gv_reprN (K := K) (t := fun _ H Q => Q (vs.headD .non) H) (σ := σ) (H := H2) (d := d) (fun H3 s3 Q' q' => q' _ H3 (Same.refl _) (by obtain ⟨v, rfl, hv⟩ := dpAll1 dv; exact hv.sm s3)) hd H2 (Same.refl _) Q (fun v H' s' d' => q v H' (s2.trans s') d')
    obtain ⟨v, rfl, hv⟩ := dpAll1 dv
    exact this)
def rReprA (K : PySem.W.Frag) : List V → Hp → VK → Prop := fun xs H Q => rReprB K xs H Q ∨ rReprQ K xs H Q
theorem cr_reprA {X : Cx} {k : Nat} (gd : X.A.guards = some []) (hr : Room k X.A) : CallR X (.builtin "repr") (rReprA X.K) := by
  intro pins s σ H xs us Q I rv h
  rcases h with h | h
  · exact cr_reprB gd hr pins s σ H xs us Q I rv h
  · exact call_reprQ gd hr pins s σ H xs us Q I rv h
section
variable {K : PySem.W.Frag} {σ : L2.St} {H : Hp} {t : TE}
theorem gv_reprA {d : PyData} (h : Gv K t σ H d) (hd : RepOk d) : Gv K (tCB (rReprA K) (tCons t tNil)) σ H (.str d.shown) := fun H1 s Q q => by
  have := gv_reprB h hd H1 s Q q
  exact gva_cons h gva_nil H1 s _ fun vs H2 s2 dv => .inl (by
    have := gv_reprB (K := K) (t := fun _ H Q => Q (vs.headD .non) H) (σ := σ) (H := H2) (d := d) (fun H3 s3 Q' q' => q' _ H3 (Same.refl _) (by obtain ⟨v, rfl, hv⟩ := dpAll1 dv; exact hv.sm s3)) hd H2 (Same.refl _) Q (fun v H' s' d' => q v H' (s2.trans s') d')
    obtain ⟨v, rfl, hv⟩ := dpAll1 dv
    exact this)
end
end Pr
namespace Pr
open PySem PySem.Spec PyProof.Rows L2
def numT (x : Int) : Str := (toString x : String)
def Dg (x : Int) : Prop := 0 ≤ x ∧ x < 10
structure Sm (n : Nat) (x : Str) : Prop where
  ln : x.length ≤ n
  cs : ∀ c ∈ TL.tl x, c < 128
theorem Sm.app {n m : Nat} {x y : Str} (h : Sm n x) (g : Sm m y) : Sm (n + m) (x ++ y) := by
  refine ⟨by rw [Str.length_append]; have := h.ln; have := g.ln; omega, fun c hc => ?_⟩
  rw [TL.tl_append] at hc
  rcases List.mem_append.mp hc with h' | h'
  · exact h.cs c h'
  · exact g.cs c h'
theorem Sm.mono {n m : Nat} {x : Str} (h : Sm n x) (g : n ≤ m) : Sm m x := ⟨Nat.le_trans h.ln g, h.cs⟩
theorem sm_num {x : Int} (h : Dg x) : Sm 1 (numT x) := by
  have : ∀ n < 10, (numT ((n : Nat) : Int)).length ≤ 1 ∧ ∀ c ∈ TL.tl (numT ((n : Nat) : Int)), c < 128 := by decide +kernel
  obtain ⟨n, rfl⟩ : ∃ n : Nat, x = (n : Int) := ⟨x.toNat, (Int.toNat_of_nonneg h.1).symm⟩
  have := this n (by have := h.2; omega)
  exact ⟨this.1, this.2⟩
theorem sm_join {y : Str} (hy : Sm 1 y) {k : Nat} : ∀ {parts : List Str}, (∀ p ∈ parts, Sm k p) → Sm (parts.length * (k + 1)) (Txt.join y parts)
  | [], _ => by rw [TL.join_eq]; exact ⟨Nat.zero_le _, fun c hc => by cases hc⟩
  | [p], h => by rw [TL.join_eq]; exact (h p List.mem_cons_self).mono (by show k ≤ 1 * (k + 1); omega)
  | p :: q :: r, h => by
    have ih := sm_join hy (parts := q :: r) fun z hz => h z (List.mem_cons_of_mem _ hz)
    rw [TL.join_eq] at ih ⊢
    refine (((h p List.mem_cons_self).app hy).app ih).mono ?_
    show k + 1 + (r.length + 1) * (k + 1) ≤ (r.length + 1 + 1) * (k + 1)
    rw [Nat.succ_mul (r.length + 1) (k + 1)]; omega
theorem zip_ix {pan : List (List Int)} {x : List Int × Nat} (h : x ∈ pan.zipIdx) : x.2 < pan.length ∧ x.1 ∈ pan := by
  obtain ⟨h1, h2, h3⟩ := List.mem_zipIdx h
  exact ⟨by omega, by rw [h3]; exact List.getElem_mem _⟩
theorem tl_mem {x : Str} {c : Nat} (h : c ∈ x.cps.toList) : c ∈ TL.tl x := h
theorem shq_str {n : Nat} {x : Str} (h : Sm n x) (hn : n ≤ 5000) : Shq 0 (10 * n + 2) (.str x) := by
  refine ⟨by simp only [PyData.showable], by simp [PyData.depth], ?_⟩
  simp only [PyData.shown]
  refine Nat.le_trans (StrLaws.reprText_len x fun c hc => Nat.lt_trans (h.cs c (tl_mem hc)) (by decide)) ?_
  have := h.ln
  omega
theorem shw_str {n : Nat} {x : Str} (h : Sm n x) (hn : n ≤ 5000) : Shw 0 (10 * n + 2) (.str x) := ⟨(shq_str h hn).sh, by simp only [PyData.hasDict], (shq_str h hn).dp, (shq_str h hn).ln⟩
def rStrI : List V → Hp → VK → Prop := fun xs H Q => ∃ i, xs = [.int i] ∧ i.natAbs.log2 < 1920 ∧ Q (.str (toString i)) H
section
variable {K : PySem.W.Frag} {σ : L2.St} {H : Hp} {t ta tb te : TE}
theorem gv_numT {x : Int} (h : Gv K te σ H (.int x)) (hx : Dg x) : Gv K (tCB rStrI (tCons te tNil)) σ H (.str (numT x)) := gv_cb (gva_cons h gva_nil) fun vs H1 Q s hd' q => by
  obtain ⟨v, rfl, hv⟩ := dpAll1 hd'
  cases hv
  refine ⟨_, rfl, ?_, q _ _ (Same.refl _) (.str _)⟩
  have : ∀ n < 10, (((n : Nat) : Int)).natAbs.log2 < 1920 := by decide +kernel
  obtain ⟨n, rfl⟩ : ∃ n : Nat, x = (n : Int) := ⟨x.toNat, (Int.toNat_of_nonneg hx.1).symm⟩
  exact this n (by have := hx.2; omega)
theorem gv_addS {x y : Str} (ha : Gv K ta σ H (.str x)) (hb : Gv K tb σ H (.str y)) (hl : x.length + y.length ≤ 100000) {r : R2} (hr : r = fun x y H Q => ∃ i j, x = .str i ∧ y = .str j ∧ i.length + j.length ≤ sizeLine ∧ Q (.str (i ++ j)) H) : Gv K (tOp r ta tb) σ H (.str (x ++ y)) := by
  subst hr
  refine gv_op2 ha hb fun u v H1 Q s hx hy q => ?_
  cases hx; cases hy
  exact ⟨_, _, rfl, rfl, Nat.le_of_lt (small5 hl), q _ _ (Same.refl _) (.str _)⟩
theorem dpAll_strJ : ∀ {vs : List V} {l : List Str}, DpAll K H vs (l.map PyData.str) → vs = l.map V.str := fun {vs l} h => dpAll_strsV h
theorem gv_joinT {td tl : TE} {a : Str} {ys : List Str} {n : Nat} (h1 : Gv K td σ H (.str a)) (h2 : Gv K tl σ H (.list (ys.map PyData.str))) (hy : ∀ y ∈ ys, y.length ≤ 200) (hl : ys.length ≤ 100) (ha : a.length ≤ 1) {r : V → List V → Hp → VK → Prop}
    (hr : r = fun x xs H Q => ∃ a p, ∃ ys : List Str, x = .str a ∧ xs = [.ref p] ∧ (SqL K H p (ys.map V.str) ∨ SqT K H p (ys.map V.str)) ∧ (ys.map (·.length)).sum + ys.length * a.length ≤ 16777216 ∧ Q (.str (Txt.join a ys)) H) :
    Gv K (tM1 r td tl) σ H (.str (Txt.join a ys)) := fun H1 s Q q => h1 H1 s _ fun v H2 s2 d2 => by
  subst hr
  cases d2
  refine ⟨⟨_, rfl⟩, h2 H2 (s.trans s2) _ fun w H3 s3 d3 => ?_⟩
  obtain ⟨p, xs, rfl, hp, hr⟩ := d3.lstI
  rw [dpAll_strJ hr] at hp
  refine ⟨_, p, ys, rfl, rfl, .inl hp, ?_, q _ H3 (s2.trans s3) (.str _)⟩
  have h3 : ∀ {ys : List Str}, (∀ y ∈ ys, y.length ≤ 200) → (ys.map (·.length)).sum ≤ ys.length * 200 := fun {ys} => by
    induction ys with
    | nil => intro _; exact Nat.le_refl _
    | cons x r ih =>
      intro h
      have a1 := h x List.mem_cons_self
      have a2 := ih fun z hz => h z (List.mem_cons_of_mem _ hz)
      rw [List.map_cons, List.sum_cons, List.length_cons]; omega
  have h4 := h3 hy
  have h5 : ys.length * a.length ≤ 100 * 1 := Nat.mul_le_mul hl ha
  omega
end
end Pr
namespace Pr
open PySem PySem.Spec PyProof.Rows L2
def isNumL (l : List Nat) : Bool := !l.isEmpty && l.all (fun c => decide (48 ≤ c) && decide (c ≤ 57)) && (decide (l.head? ≠ some 48) || decide (l = [48]))
/-- the number whose text the word is -/
def numW (x : Str) : Option Nat := if isNumL (TL.tl x) = true then some (NumText.digitsVal (TL.tl x)) else none
theorem val_snoc (l : List Nat) (c : Nat) : NumText.digitsVal (l ++ [c]) = NumText.digitsVal l * 10 + (c - 48) := by
  unfold NumText.digitsVal; rw [List.foldl_append]; rfl
theorem num_of : ∀ (n : Nat) (l : List Nat), l.length = n → isNumL l = true → l = TL.numL (NumText.digitsVal l) := by
  intro n
  induction n with
  | zero => intro l hl h; rw [List.length_eq_zero_iff.mp hl] at h; cases h
  | succ n ih =>
    intro l hl h
    rcases List.eq_nil_or_concat l with rfl | ⟨l', c, rfl⟩
    · cases hl
    · rw [List.concat_eq_append] at *
      unfold isNumL at h
      simp only [Bool.and_eq_true, Bool.or_eq_true, List.all_eq_true, decide_eq_true_eq] at h
      obtain ⟨⟨_, hd⟩, h0⟩ := h
      have hc := hd c (List.mem_append_right _ List.mem_cons_self)
      by_cases e : l' = []
      · subst e
        show [c] = TL.numL (0 * 10 + (c - 48))
        rw [TL.numL_lt (by omega)]
        congr 1; omega
      · have hh : (l' ++ [c]).head? = l'.head? := by
          cases l' with
          | nil => exact absurd rfl e
          | cons a r => rfl
        have hne : l'.head? ≠ some 48 := by
          rcases h0 with h0 | h0
          · rw [← hh]; exact h0
          · intro _
            have := congrArg List.length h0
            rw [List.length_append] at this
            have : l'.length = 0 := by simpa using this
            exact e (List.length_eq_zero_iff.mp this)
        have hn : isNumL l' = true := by
          unfold isNumL
          simp only [Bool.and_eq_true, Bool.or_eq_true, List.all_eq_true, decide_eq_true_eq]
          refine ⟨⟨by cases l' with | nil => exact absurd rfl e | cons a r => rfl, fun x hx => hd x (List.mem_append_left _ hx)⟩, .inl hne⟩
        have e1 := ih l' (by rw [List.length_append] at hl; simpa using hl) hn
        have pos : 1 ≤ NumText.digitsVal l' := by
          rcases Nat.eq_zero_or_pos (NumText.digitsVal l') with z | z
          · rw [z, TL.numL_lt (by decide)] at e1
            rw [e1] at hne
            exact absurd rfl hne
          · exact z
        rw [val_snoc, TL.numL_step (by omega)]
        have a1 : (NumText.digitsVal l' * 10 + (c - 48)) / 10 = NumText.digitsVal l' := by omega
        have a2 : (NumText.digitsVal l' * 10 + (c - 48)) % 10 = c - 48 := by omega
        rw [a1, a2, ← e1]
        congr 2; omega
theorem numT_tl (n : Nat) : TL.tl (numT (n : Int)) = TL.numL n := TL.tl_num n
theorem isNum_lt {n : Nat} (h : n < 10) : isNumL (TL.numL n) = true := by
  have : ∀ n < 10, isNumL [48 + n] = true := by decide
  rw [TL.numL_lt h]; exact this n h
theorem numW_is {x : Str} {n : Nat} (h : numW x = some n) : x = numT (n : Int) := by
  unfold numW at h
  split at h
  · rename_i z
    have e := num_of _ _ rfl z
    injection h with h
    rw [h] at e
    exact TL.ext_tl (by rw [e, numT_tl])
  · cases h
/-- a button's number -/
def okB (m : Nat) (x : Str) : Option Nat := match numW x with | some n => if n < m then some n else none | none => none
def kvsB (m : Nat) : List (Key × V) := (List.range m).map fun b : Nat => (Sum.inr (numT (b : Int)), V.int (b : Int))
theorem kvsB_len (m : Nat) : (kvsB m).length = m := by unfold kvsB; rw [List.length_map, List.length_range]
theorem kvsB_succ (m : Nat) : kvsB (m + 1) = kvsB m ++ [(Sum.inr (numT (m : Int)), V.int (m : Int))] := by unfold kvsB; rw [List.range_succ, List.map_append]; rfl
def valsB (m : Nat) (ws : List Str) : List Int := ws.map fun x => (((okB m x).getD 0 : Nat) : Int)
theorem pre1 (s c : Nat) (r : List Nat) : TL.pre [s] (c :: r) = decide (c = s) := by
  unfold TL.pre
  show ([c] == [s]) = _
  by_cases h : c = s
  · subst h; simp
  · rw [decide_eq_false h]
    simpa using h
theorem spl_len (s : Nat) : ∀ (l acc : List Nat), ((TL.spl [s] 0 acc l).map fun p => p.length + 1).sum = acc.length + l.length + 1
  | [], acc => by rw [TL.spl_nil]; simp
  | c :: r, acc => by
    by_cases h : c = s
    · rw [TL.spl_hit (by rw [pre1]; exact decide_eq_true h), List.map_cons, List.sum_cons, show [s].length - 1 = 0 from rfl, spl_len s r []]
      simp only [List.length_nil, List.length_cons]; omega
    · rw [TL.spl_miss (by rw [pre1]; exact decide_eq_false h), spl_len s r (acc ++ [c])]
      simp only [List.length_append, List.length_cons, List.length_nil]; omega
def totW (ws : List Str) : Nat := (ws.map fun x => x.length + 1).sum
theorem tot_mem {ws : List Str} {x : Str} (h : x ∈ ws) : x.length + 1 ≤ totW ws := by
  induction ws with
  | nil => cases h
  | cons a r ih =>
    unfold totW at *
    rw [List.map_cons, List.sum_cons]
    rcases List.mem_cons.mp h with rfl | h
    · omega
    · have := ih h; omega
theorem tot_len (ws : List Str) : ws.length ≤ totW ws := by
  induction ws with
  | nil => exact Nat.le_refl _
  | cons a r ih =>
    unfold totW at *
    rw [List.map_cons, List.sum_cons, List.length_cons]; omega
/-- the separator is a single sign -/
structure Sep (y : Str) : Prop where
  one : ∃ s, TL.tl y = [s] ∧ s < 128
theorem sep_sp : Sep (" " : Str) := ⟨⟨32, by decide +kernel, by decide⟩⟩
theorem sep_co : Sep ("," : Str) := ⟨⟨44, by decide +kernel, by decide⟩⟩
theorem Sep.kind {y : Str} (h : Sep y) (x : Str) : ¬ Builtin.Str.strKind x < Builtin.Str.strKind y := by
  obtain ⟨s, e, hs⟩ := h.one
  refine TL.kind_ok ?_
  rw [Array.all_eq_true']
  intro c hc
  have : c ∈ TL.tl y := by show c ∈ y.cps.toList; simpa using hc
  rw [e, List.mem_singleton] at this
  simp; omega
theorem split_tl {y : Str} (h : Sep y) (x : Str) : ∃ s, TL.tl y = [s] ∧ (Txt.split x y).map TL.tl = TL.spl [s] 0 [] (TL.tl x) := by
  obtain ⟨s, e, hs⟩ := h.one
  refine ⟨s, e, ?_⟩
  rw [TL.split_spl x y (by rw [e]; simp) (h.kind x), e]
theorem split_tot {y : Str} (h : Sep y) (x : Str) : totW (Txt.split x y) = x.length + 1 := by
  obtain ⟨s, _, e⟩ := split_tl h x
  have := spl_len s (TL.tl x) []
  rw [← e, List.map_map] at this
  unfold totW
  rw [TL.len_tl x]
  simp only [List.length_nil, Nat.zero_add] at this
  rw [← this]
  exact congrArg List.sum (List.map_congr_left fun z _ => by show z.length + 1 = (TL.tl z).length + 1; rw [TL.len_tl])
theorem split_ne {y : Str} (h : Sep y) (x : Str) : Txt.split x y ≠ [] := fun z => by
  have := split_tot h x
  rw [z] at this
  cases this
theorem join_tot {y : Str} (h : Sep y) : ∀ ws : List Str, (Txt.join y ws).length ≤ totW ws
  | [] => by rw [TL.join_eq]; exact Nat.zero_le _
  | [p] => by rw [TL.join_eq]; show p.length ≤ p.length + 1 + 0; omega
  | p :: q :: r => by
    have ih := join_tot h (q :: r)
    rw [TL.join_eq] at ih ⊢
    obtain ⟨s, e, _⟩ := h.one
    have hy : y.length = 1 := by rw [TL.len_tl, e]; rfl
    show (p ++ y ++ Str.join y (q :: r)).length ≤ _
    rw [Str.length_append, Str.length_append, hy]
    show _ ≤ p.length + 1 + totW (q :: r)
    omega
end Pr
namespace Pr
open PySem PySem.Spec PyProof.Rows L2
theorem head_num : ∀ n : Nat, 1 ≤ n → (TL.numL n).head? ≠ some 48 := by
  intro n
  induction n using Nat.strongRecOn with
  | _ n ih =>
    intro h
    by_cases h10 : n < 10
    · rw [TL.numL_lt h10]
      intro z
      have : 48 + n = 48 := Option.some.inj z
      omega
    · rw [TL.numL_step (by omega)]
      have h1 := ih (n / 10) (by omega) (by omega)
      have h2 := TL.numL_ne (n / 10)
      cases e : TL.numL (n / 10) with
      | nil => exact absurd e h2
      | cons a r => rw [e] at h1; exact h1
theorem isNum_all (n : Nat) : isNumL (TL.numL n) = true := by
  by_cases h : n < 10
  · exact isNum_lt h
  · unfold isNumL
    simp only [Bool.and_eq_true, Bool.or_eq_true, List.all_eq_true, decide_eq_true_eq]
    refine ⟨⟨?_, fun c hc => TL.numL_digits n c hc⟩, .inl (head_num n (by omega))⟩
    cases e : TL.numL n with
    | nil => exact absurd e (TL.numL_ne n)
    | cons a r => rfl
theorem numW_num (n : Nat) : numW (numT (n : Int)) = some n := by
  unfold numW
  rw [numT_tl, if_pos (isNum_all n), TL.numL_val]
theorem numT_inj {a b : Nat} (h : numT (a : Int) = numT (b : Int)) : a = b := by
  have := congrArg TL.tl h
  rw [numT_tl, numT_tl] at this
  exact TL.numL_inj this
theorem okB_iffG {m : Nat} {x : Str} {b : Nat} : okB m x = some b ↔ b < m ∧ x = numT (b : Int) := by
  unfold okB
  constructor
  · intro h
    cases e : numW x with
    | none => rw [e] at h; cases h
    | some n =>
      rw [e] at h
      replace h : (if n < m then some n else none) = some b := h
      split at h
      · injection h with h; subst h
        rename_i hn
        exact ⟨hn, numW_is e⟩
      · cases h
  · rintro ⟨h, rfl⟩
    rw [numW_num]
    exact if_pos h
theorem kvsB_newG (m : Nat) : (kvsB m).any (fun kv => decide (kv.1 = Sum.inr (numT (m : Int)))) = false := by
  rw [List.any_eq_false]
  intro kv hkv e
  unfold kvsB at hkv
  obtain ⟨b, hb, rfl⟩ := List.mem_map.mp hkv
  have hb := List.mem_range.mp hb
  have e := of_decide_eq_true e
  injection e with e
  have := numT_inj e
  omega
theorem valV_kvsG (m : Nat) (x : Str) : valV (kvsB m) (Sum.inr x) = (okB m x).map fun b : Nat => V.int (b : Int) := by
  unfold valV
  cases e : okB m x with
  | none =>
    have : (kvsB m).find? (fun kv => decide (kv.1 = Sum.inr x)) = none := by
      rw [List.find?_eq_none]
      intro kv hkv z
      unfold kvsB at hkv
      obtain ⟨b, hb, rfl⟩ := List.mem_map.mp hkv
      have z := of_decide_eq_true z
      injection z with z
      have : okB m x = some b := okB_iffG.mpr ⟨List.mem_range.mp hb, z.symm⟩
      rw [e] at this; cases this
    rw [this]; rfl
  | some b =>
    obtain ⟨hb, rfl⟩ := okB_iffG.mp e
    have : (kvsB m).find? (fun kv => decide (kv.1 = Sum.inr (numT (b : Int)))) = some (Sum.inr (numT (b : Int)), V.int (b : Int)) := by
      rw [List.find?_eq_some_iff_append]
      refine ⟨decide_eq_true rfl, kvsB b, ((List.range m).drop (b + 1)).map fun b : Nat => (Sum.inr (numT (b : Int)), V.int (b : Int)), ?_, fun kv hkv => ?_⟩
      · unfold kvsB
        have h1 : List.range m = List.range b ++ (b :: (List.range m).drop (b + 1)) := by
          have h2 : (List.range m).drop b = b :: (List.range m).drop (b + 1) := by
            rw [List.drop_eq_getElem_cons (by rw [List.length_range]; exact hb), List.getElem_range]
          have h3 : (List.range m).take b = List.range b := by rw [List.take_range, Nat.min_eq_left (Nat.le_of_lt hb)]
          rw [← h2, ← h3, List.take_append_drop]
        conv => lhs; rw [h1]
        rw [List.map_append, List.map_cons]
      · have := List.any_eq_false.mp (kvsB_newG b) kv hkv
        simpa using this
    rw [this]; rfl
/-- the parts behind the sign -/
def partsR (r : Str) : List Str := if r = ("" : Str) then [] else Txt.split r ("," : Str)
def okL (m i : Nat) (fs : List Str) : Bool := fs.all (fun z => (okB m z).isSome) && decide ((valsB m fs).Pairwise (· < ·)) && !decide ((i : Int) ∈ valsB m fs)
def lstW (m i : Nat) (x : Str) : Option (List Int) :=
  if Txt.find x (">" : Str) < 0 then none else if cutS x none (some (Txt.find x (">" : Str))) ≠ numT (i : Int) then none
  else if okL m i (partsR (cutS x (some (Txt.find x (">" : Str) + 1)) none)) = true then some (valsB m (partsR (cutS x (some (Txt.find x (">" : Str) + 1)) none))) else none
def dL : Option (List Int) → PyData
  | some l => dInts l
  | none => .none
theorem cut_take (x : Str) (k : Nat) : TL.tl (cutS x none (some (k : Int))) = (TL.tl x).take k := by
  show ((TL.tl x).drop (HT.sIx x.length 0 none)).take (HT.sIx x.length x.length (some (k : Int)) - HT.sIx x.length 0 none) = _
  rw [HT.sIx_none, List.drop_zero, Nat.sub_zero, HT.sIx_nat, TL.len_tl]
  by_cases h : k ≤ (TL.tl x).length
  · rw [Nat.min_eq_left h]
  · rw [Nat.min_eq_right (by omega), List.take_of_length_le (Nat.le_refl _), List.take_of_length_le (by omega)]
theorem cut_drop (x : Str) (k : Nat) : TL.tl (cutS x (some (k : Int)) none) = (TL.tl x).drop k := by
  show ((TL.tl x).drop (HT.sIx x.length 0 (some (k : Int)))).take (HT.sIx x.length x.length none - HT.sIx x.length 0 (some (k : Int))) = _
  rw [HT.sIx_none, HT.sIx_nat, TL.len_tl]
  by_cases h : k ≤ (TL.tl x).length
  · rw [Nat.min_eq_left h, List.take_of_length_le (by rw [List.length_drop]; omega)]
  · rw [Nat.min_eq_right (by omega), List.drop_eq_nil_of_le (Nat.le_refl _), List.drop_eq_nil_of_le (show (TL.tl x).length ≤ k by omega)]
    simp
/-- what partition gives, by find -/
theorem part_find (x : Str) : (Txt.find x (">" : Str) < 0 ∧ Txt.partition x (">" : Str) = (x, Str.empty, Str.empty)) ∨
    ∃ k : Nat, Txt.find x (">" : Str) = (k : Int) ∧ Txt.partition x (">" : Str) = (cutS x none (some (k : Int)), (">" : Str), cutS x (some ((k : Int) + 1)) none) := by
  have h62 : (">" : Str).length = 1 := by decide +kernel
  rcases PyProof.Rows.partition_whole x (">" : Str) with ⟨e, hn⟩ | ⟨i, e, hi, hn⟩
  · refine .inl ⟨?_, e⟩
    rcases PyProof.Rows.find_whole x (">" : Str) with ⟨f, _⟩ | ⟨j, f, hj, _⟩
    · rw [f]; decide
    · exact absurd hj (hn j)
  · refine .inr ⟨i, ?_, ?_⟩
    · rcases PyProof.Rows.find_whole x (">" : Str) with ⟨f, hf⟩ | ⟨j, f, hj, hf⟩
      · exact absurd hi (hf i)
      · rw [f]
        have : i = j := by
          rcases Nat.lt_trichotomy i j with h | h | h
          · exact absurd hi (hf i h)
          · exact h
          · exact absurd hj (hn j h)
        rw [this]
    · rw [e]
      have e1 : PySem.Builtin.Str.strSub x 0 i = cutS x none (some (i : Int)) := TL.ext_tl (by rw [TL.tl_strSub, List.drop_zero, Nat.sub_zero, cut_take])
      have e2 : PySem.Builtin.Str.strSub x (i + (">" : Str).length) x.length = cutS x (some ((i : Int) + 1)) none := TL.ext_tl (by
        rw [TL.tl_strSub_end, h62, show (i : Int) + 1 = ((i + 1 : Nat) : Int) by omega, cut_drop])
      rw [e1, e2]
def dB (m : Nat) (z : Str) : PyData := match okB m z with | some b => .int (b : Int) | none => .none
theorem lf_dB (m : Nat) (z : Str) : lf (dB m z) = true := by unfold dB; cases okB m z <;> rfl
theorem dB_vals {m : Nat} {fs : List Str} (h : fs.all (fun z => (okB m z).isSome) = true) : fs.map (dB m) = (valsB m fs).map PyData.int := by
  unfold valsB
  rw [List.map_map]
  refine List.map_congr_left fun z hz => ?_
  have := List.all_eq_true.mp h z hz
  unfold dB
  cases e : okB m z with
  | none => rw [e] at this; cases this
  | some b => show PyData.int (b : Int) = .int (((okB m z).getD 0 : Nat) : Int); rw [e]; rfl
theorem vals_rng {m : Nat} {fs : List Str} (h : fs.all (fun z => (okB m z).isSome) = true) : ∀ y ∈ valsB m fs, 0 ≤ y ∧ y < (m : Int) := fun y hy => by
  unfold valsB at hy
  obtain ⟨z, hz, rfl⟩ := List.mem_map.mp hy
  have := List.all_eq_true.mp h z hz
  cases e : okB m z with
  | none => rw [e] at this; cases this
  | some b =>
    have := (okB_iffG.mp e).1
    show 0 ≤ (b : Int) ∧ (b : Int) < _
    omega
theorem btnT_parts (m : Nat) (fs : List Str) : btnT (m : Int) (.tuple (fs.map (dB m))) = (fs.all (fun z => (okB m z).isSome) && decide ((valsB m fs).Pairwise (· < ·))) := by
  show ascFrom (m : Int) (-1) (fs.map (dB m)) = _
  rw [Bool.eq_iff_iff, Bool.and_eq_true, decide_eq_true_eq]
  constructor
  · intro h
    obtain ⟨ns, e, hp, hr⟩ := ascFrom_ints h
    have hall : fs.all (fun z => (okB m z).isSome) = true := by
      rw [List.all_eq_true]
      intro z hz
      have : dB m z ∈ ns.map PyData.int := by rw [← e]; exact List.mem_map_of_mem hz
      obtain ⟨k, _, hk⟩ := List.mem_map.mp this
      unfold dB at hk
      cases e2 : okB m z with
      | none => rw [e2] at hk; cases hk
      | some b => rfl
    refine ⟨hall, ?_⟩
    rw [dB_vals hall] at e
    have : valsB m fs = ns := by
      have inj : ∀ (a b : List Int), a.map PyData.int = b.map PyData.int → a = b := by
        intro a
        induction a with
        | nil => intro b h; cases b with | nil => rfl | cons x r => cases h
        | cons x r ih => intro b h; cases b with | nil => cases h | cons y s => injection h with h1 h2; injection h1 with h1; rw [h1, ih s h2]
      exact inj _ _ e
    rw [this]; exact hp
  · rintro ⟨hall, hp⟩
    rw [dB_vals hall]
    exact ascFrom_of hp fun x hx => by have := vals_rng hall x hx; omega
def badP (m : Nat) : Nat → List Str → Option Nat
  | _, [] => none
  | i, x :: r => if lstW m i x = none ∨ i = 10 then some i else badP m (i + 1) r
def okP (m i : Nat) (x : Str) : Prop := ¬ (lstW m i x = none ∨ i = 10)
theorem badP_drop {m : Nat} {ws : List Str} : ∀ {k : Nat}, k ≤ ws.length → (∀ j x, j < k → ws[j]? = some x → okP m j x) → badP m 0 ws = badP m k (ws.drop k) := by
  intro k
  induction k with
  | zero => intro _ _; rfl
  | succ k ih =>
    intro hk h
    rw [ih (by omega) fun j x hj hx => h j x (by omega) hx, List.drop_eq_getElem_cons (by omega)]
    have := h k ws[k] (by omega) (List.getElem?_eq_getElem (by omega))
    exact if_neg this
theorem badP_all {m : Nat} {ws : List Str} (h : ∀ j x, ws[j]? = some x → okP m j x) : badP m 0 ws = none := by
  rw [badP_drop (Nat.le_refl _) fun j x _ hx => h j x hx, List.drop_length]; rfl
theorem badP_at {m k : Nat} {ws : List Str} {x : Str} (hx : ws[k]? = some x) (h : ∀ j x, j < k → ws[j]? = some x → okP m j x) (b : lstW m k x = none ∨ k = 10) : badP m 0 ws = some k := by
  have hk := (List.getElem?_eq_some_iff.mp hx)
  obtain ⟨hk, e⟩ := hk
  rw [badP_drop (Nat.le_of_lt hk) h, List.drop_eq_getElem_cons hk, e]
  exact if_pos b
def valsP (m : Nat) (ws : List Str) : List (List Int) := ws.zipIdx.map fun x => (lstW m x.2 x.1).getD []
theorem valsP_take {m k : Nat} {ws : List Str} {x : Str} (hx : ws[k]? = some x) : valsP m (ws.take (k + 1)) = valsP m (ws.take k) ++ [(lstW m k x).getD []] := by
  unfold valsP
  rw [List.take_add_one, hx, Option.toList_some, List.zipIdx_append, List.map_append]
  have hk := (List.getElem?_eq_some_iff.mp hx).1
  have : (ws.take k).length = k := by rw [List.length_take]; omega
  simp [this]
end Pr
namespace Pr
open PySem PySem.Spec PyProof.Rows L2
section
variable {K : PySem.W.Frag} {σ : L2.St} {H : Hp} {d : PyData} {i j : Nat} {S : Addr} {xs : List V} {v : V}
theorem gv_lenL1 (hi : σ[i]? = some (some (.ref S))) (e : H S = some (.lst xs)) : Gv K (tCB (rLenG K) (tCons (tVar i) tNil)) σ H (.int xs.length) := fun H1 s Q q =>
  ⟨.ref S, hi, S, xs, rfl, .inl (.inl (.inl (s _ _ e))), q _ H1 (Same.refl _) (.int _)⟩
end
end Pr
namespace Pr
open PySem PySem.Spec PyProof.Rows L2
/-- the dict of the things known -/
def DictU (H : Hp) (d : Addr) (L : BL (List Key)) : Prop := ∃ vs : List V, vs.length = L.length ∧ H d = some (.dT ((L.map (·.1)).zip vs))
theorem DictU.same {H H' : Hp} {d : Addr} {L : BL (List Key)} (h : DictU H d L) (s : Same H H') : DictU H' d L := let ⟨vs, l, e⟩ := h; ⟨vs, l, s _ _ e⟩
theorem DictU.none {H : Hp} {d a : Addr} {L : BL (List Key)} {k : List Key} (h : DictU H d L) (hk : k ∉ L.map (·.1)) (ea : H a = some (.tup (k.map kV))) : DGet H d (.ref a) none := by
  obtain ⟨vs, l, e⟩ := h
  have := DGet.t (k := k) e ea
  rwa [val_zip_none hk] at this
theorem DictU.some {H : Hp} {d a : Addr} {L : BL (List Key)} {k : List Key} (h : DictU H d L) (nd : (L.map (·.1)).Nodup) (hk : k ∈ L.map (·.1)) (ea : H a = some (.tup (k.map kV))) : ∃ v, DGet H d (.ref a) (some v) := by
  obtain ⟨vs, l, e⟩ := h
  obtain ⟨i, hi⟩ := List.getElem?_of_mem hk
  have hl : i < vs.length := by
    have := (List.getElem?_eq_some_iff.mp hi).1
    rw [List.length_map] at this; omega
  refine ⟨vs[i], ?_⟩
  have := DGet.t (k := k) e ea
  rwa [val_zip nd hi (List.getElem?_eq_getElem hl)] at this
/-- what stands in the list of a search: the row and the thing -/
def WayAt (K : PySem.W.Frag) (H : Hp) (a : Addr) (x : List Key × List Int) : Prop := ∃ r t : Addr, H a = some (.tup [.ref r, .ref t]) ∧ SqT K H r (x.2.map V.int) ∧ H t = some (.tup (x.1.map kV))
theorem WayAt.same {K : PySem.W.Frag} {H H' : Hp} {a : Addr} {x : List Key × List Int} (h : WayAt K H a x) (s : Same H H') : WayAt K H' a x := let ⟨r, t, e1, e2, e3⟩ := h; ⟨r, t, s _ _ e1, same_sqT s e2, s _ _ e3⟩
theorem WayAt.kp {K : PySem.W.Frag} {H H' : Hp} {a : Addr} {x : List Key × List Int} (h : WayAt K H a x) (k : Kp H H') : WayAt K H' a x := let ⟨r, t, e1, e2, e3⟩ := h; ⟨r, t, k.1 _ _ e1, sqT_kp k e2, k.1 _ _ e3⟩
end Pr
namespace Pr
open PySem PySem.Spec PyProof.Rows L2
section
variable {K : PySem.W.Frag} {σ : L2.St} {H : Hp} {t ta tb td tl : TE} {x y : Str}
/-- the signs of a text -/
theorem gvi_str {R : Hp → Hp → Prop} (h : Gv K t σ H (.str x)) : GvI K R (iStr t) σ H ((TL.tl x).map fun c => PyData.str ⟨#[c]⟩) := fun H1 s Q q => h H1 s _ fun v H2 s2 d2 => by
  cases d2
  refine ⟨x, rfl, q _ _ s2 ?_⟩
  have hl : ((TL.tl x).map fun c => PyData.str ⟨#[c]⟩).length = x.cps.size := by rw [List.length_map]; exact Array.length_toList
  rw [hl]
  refine (walk_str (z := x)).mono (fun _ _ => trivial) fun i h v h' hi _ hy => ?_
  obtain ⟨rfl, c, hc, rfl⟩ := hy
  refine ⟨Same.refl _, .str ⟨#[c]⟩, ?_, .str _⟩
  rw [List.getElem?_map]
  have : (TL.tl x)[i]? = some c := by show x.cps.toList[i]? = some c; rw [Array.getElem?_toList]; exact hc
  rw [this]; rfl
theorem gv_notInSign {c : Nat} {r : R2} (hr : r = fun x y H Q => ∃ (c : Nat) (z : Str), x = .str ⟨#[c]⟩ ∧ y = .str z ∧ Q (.bl (!decide (c ∈ z.cps.toList))) H) (ha : Gv K ta σ H (.str ⟨#[c]⟩)) (hb : Gv K tb σ H (.str y)) :
    Gv K (tOp r ta tb) σ H (.bool (!decide (c ∈ TL.tl y))) := gv_op2 ha hb fun u v H1 Q s hx hy q => by
  subst hr
  cases hx; cases hy
  exact ⟨c, y, rfl, rfl, q _ _ (Same.refl _) (.bl _)⟩
theorem gv_neEL {ds : List PyData} (h : GvN K t σ H ds) : Gv K (tOp rNeE1 t (tLst tNil)) σ H (.bool (!ds.isEmpty)) := fun H1 s Q q => h H1 s _ fun a vs H2 s2 na ea da => by
  refine ⟨Nat.zero_le _, fun p np => ?_⟩
  have sp := same_new (o := HO.lst []) np
  refine ⟨a, p, vs, rfl, rfl, sp _ _ ea, upd_same, ?_⟩
  have : vs.isEmpty = ds.isEmpty := by cases da <;> rfl
  rw [this]
  exact q _ _ (s2.trans sp) (.bl _)
theorem gv_intS {n : Int} {r : List V → Hp → VK → Prop} (hr : r = fun xs H Q => ∃ a n, xs = [.str a] ∧ PySem.intText? a = some n ∧ a.length ≤ 640 ∧ Q (.int n) H) (h : Gv K t σ H (.str x)) (hn : PySem.intText? x = some n) (hl : x.length ≤ 640) : Gv K (tCB r (tCons t tNil)) σ H (.int n) :=
  gv_cb (gva_cons h gva_nil) fun vs H1 Q s hd q => by
    subst hr
    obtain ⟨v, rfl, hv⟩ := dpAll1 hd
    cases hv
    exact ⟨x, n, rfl, hn, hl, q _ _ (Same.refl _) (.int _)⟩
theorem gv_ixS0 {c : Nat} {l : List Nat} (h : Gv K t σ H (.str x)) (hx : TL.tl x = c :: l) (hl : x.length ≤ 1000) : Gv K (tOp rIxS t (tC (.int 0))) σ H (.str ⟨#[c]⟩) := gv_op2 (ta := t) (tb := tC (.int 0)) h (gv_int (i := 0)) fun u v H1 Q s hx' hy q => by
  cases hx'; cases hy
  refine ⟨x, 0, c, rfl, rfl, Nat.le_of_lt (small5 (by omega)), ?_, q _ _ (Same.refl _) (.str _)⟩
  show atI (TL.tl x) 0 = some c
  rw [hx]
  exact atI_nat (j := 0) rfl
theorem dpAll_strG (l : List Str) : DpAll K H (l.map V.str) (l.map PyData.str) := by
  induction l with
  | nil => exact .nil
  | cons a l ih => exact .cons (.str a) ih
theorem gn_split {r : V → List V → Hp → VK → Prop} (hr : r = fun x xs H Q => ∃ a b, x = .str a ∧ xs = [.str b] ∧ (b.length == 0) = false ∧ a.length + 2 ≤ sizeLine ∧ rNewStrs (Txt.split a b) H Q) (h1 : Gv K ta σ H (.str x)) (h2 : Gv K tb σ H (.str y)) (hy : (y.length == 0) = false) (hx : x.length ≤ 10000) :
    GvN K (tM1 r ta tb) σ H ((Txt.split x y).map PyData.str) := fun H1 s Q q => h1 H1 s _ fun v H2 s2 d2 => by
  subst hr
  cases d2
  refine ⟨⟨_, rfl⟩, h2 H2 (s.trans s2) _ fun w H3 s3 d3 => ?_⟩
  cases d3
  refine ⟨x, y, rfl, rfl, hy, Nat.le_of_lt (small5 (by omega)), fun p np => q p _ _ ((s2.trans s3).trans (same_new np)) ((s2.trans s3).free np) upd_same (dpAll_strG _)⟩
/-- text[:k], text[k:] -/
theorem gv_cutST {k : Int} (h : Gv K t σ H (.str x)) (hk : Gv K tb σ H (.int k)) (hx : x.length ≤ 10000) : Gv K (tSl L2.rSlS t tNoPart (tPart tb)) σ H (.str (cutS x none (some k))) := fun H1 s Q q => h H1 s _ fun v H2 s2 d2 => by
  cases d2
  refine hk H2 (s.trans s2) _ fun w H3 s3 d3 => ?_
  cases d3
  exact ⟨k, rfl, x, rfl, Nat.le_of_lt (small5 (by omega)), q _ H3 (s2.trans s3) (.str _)⟩
end
end Pr
namespace Pr
open PySem PySem.Spec PyProof.Rows L2
end Pr
namespace K52
open PySem PySem.Spec PyProof.Rows L2 Pr
abbrev sInitT : Stmt := inClass (topS 10) 0
theorem scInitT : FnScope ["self", "index"] ["self", "index"] (defScope sInitT) := ⟨rfl, rfl, rfl, by decide +kernel, rfl, by decide +kernel, by decide +kernel⟩
def isS : PyData → Bool
  | .str _ => true
  | _ => false
theorem isS_kit {K : PySem.W.Frag} (d : PyData) : PySem.W.kitOne K (.type (tyD d)) (.type "str") = some (isS d) := by
  cases d with
  | none => exact kit_ty (show kitB "NoneType" "str" = some false by decide +kernel)
  | bool _ => exact kit_ty (show kitB "bool" "str" = some false by decide +kernel)
  | int _ => exact kit_ty (show kitB "int" "str" = some false by decide +kernel)
  | str _ => exact kit_ty (show kitB "str" "str" = some true by decide +kernel)
  | list _ => exact kit_ty (show kitB "list" "str" = some false by decide +kernel)
  | tuple _ => exact kit_ty (show kitB "tuple" "str" = some false by decide +kernel)
  | dict _ => exact kit_ty (show kitB "dict" "str" = some false by decide +kernel)
def nWordsOf : List Str := ["value"]
theorem scWordsOf : FnScope nWordsOf ["value"] (defScope sWordsOf) := ⟨rfl, rfl, rfl, by decide +kernel, rfl, by decide +kernel, by decide +kernel⟩
section
variable {P : Program} {w : World} {K : PySem.W.Frag} {mg : Str → Option Value} {base : Heap}
theorem ok_initT {f C : Addr} {fd : FuncData} {k : Nat} (F : Fun K "__init__" "BadText.__init__" sInitT f fd) : FnOk P w K mg base CX0 (k + 1) f fd ["self", "index"] (spI K C "index") := by
  refine F.ok scInitT (fun vs H Q E h => ?_) (fun cdv A outer s H vs Q E hr h => ?_)
  · obtain ⟨e, y, rfl, _⟩ := h
    rfl
  · obtain ⟨e, y, rfl, T, hno, he, q⟩ := h
    refine ⟨_, pss_one (ps_ost (pv 0) (pv 1)), ?_⟩
    exact ⟨y, rfl, .ref e, rfl, e, C, rfl, T, hno, .inl ⟨he, q⟩⟩
def spWordsOf (K : PySem.W.Frag) (C : Addr) : Sp := fun vs H Q E => ∃ (N : Addr → Prop) (v : V) (d : PyData), vs = [v] ∧ Dq K N H v d ∧ (∀ x, d = .str x → x.length ≤ 1000) ∧
  (∀ x, d = .str x → ∀ H' a, Same H H' → H a = none → H' a = some (.lst ((Txt.split x (" " : Str)).map V.str)) → Q (.ref a) H') ∧ (isS d = false → ∀ H' dd, Same H H' → H' dd = some (.xd [("index", .non)]) → E (.ref C) (some dd) H')
theorem ok_WordsOf {f C fI : Addr} {fd fdI : FuncData} {k : Nat} (F : Fun K "words_of" "words_of" sWordsOf f fd) (T : ExF K mg "BadText" "index" "BadText.__init__" sInitT C fI fdI) (m_isinstance : mg "isinstance" = none) (m_str : mg "str" = none) : FnOk P w K mg base (L2.CX P w) (k + 3) f fd ["value"] (spWordsOf K C) := by
  have GI : FnOk P w K mg base CX0 (k + 1) fI fdI ["self", "index"] (spI K C "index") := ok_initT T.FI
  refine F.okX scWordsOf (fun vs H Q E h => ?_) (fun cdv A outer s H vs Q E hr h => ?_)
  · obtain ⟨N, v, d, rfl, _⟩ := h
    rfl
  · obtain ⟨N, v, d, rfl, hd, hl, q1, q2⟩ := h
    refine ⟨_, pss_cons (ps_if (pt_not (pt_val (pe_callB (show CallR _ _ (rIsi K) from call_isi) (by rfl) m_isinstance (by decide +kernel) (pa_cons (pv 0) (pa_cons (pe_bltn (v := .ty "str") (by rfl) m_str (by decide +kernel) rfl) pa_nil))))) (pss_one (ps_raise rfl (takes_of rfl rfl rfl rfl) (pmk_oex T.oex T.iC T.tI GI (hr.mono (by omega)) T.bI .nil pass0 (by rfl) T.g (pa_cons pe_non pa_nil)))) pss_nil)
      (pss_one (ps_ret (pe_split (pv 0) pe_str))), ?_⟩
    refine ⟨v, rfl, v, .ty "str", _, _, _, rfl, .ty "str", hd.ty, isS_kit d, _, rfl, ?_⟩
    cases e : isS d with
    | true =>
      obtain ⟨x, rfl⟩ : ∃ x, d = .str x := by
        cases d <;> first | exact ⟨_, rfl⟩ | cases e
      cases hd
      have hx := hl x rfl
      refine iteF ⟨.str x, rfl, ⟨x, rfl⟩, x, (" " : Str), rfl, rfl, by decide +kernel, Nat.le_of_lt (small5 (by omega)), fun p np => q1 x rfl _ p (same_new np) np upd_same⟩
    | false => exact iteT (rzF T fun H2 dd s2 ed => q2 e H2 dd s2 ed)
end
def nByText : List Str := ["many", "button"]
theorem scByText : FnScope nByText ["many"] (defScope sByText) := ⟨rfl, rfl, rfl, by decide +kernel, rfl, by decide +kernel, by decide +kernel⟩
section
variable {P : Program} {w : World} {K : PySem.W.Frag} {mg : Str → Option Value} {base : Heap}
def spByText (K : PySem.W.Frag) : Sp := fun vs H Q _ => ∃ (n : Nat), vs = [.int (n : Int)] ∧ n ≤ 1000 ∧ ∀ H' a, Same H H' → H a = none → H' a = some (.dK (kvsB n)) → Q (.ref a) H'
theorem ok_ByText {f : Addr} {fd : FuncData} {k : Nat} (F : Fun K "buttons_by_text" "buttons_by_text" sByText f fd) (m_range : mg "range" = none) (m_str : mg "str" = none) : FnOk P w K mg base CX0 (k + 1) f fd ["many"] (spByText K) := by
  refine F.ok scByText (fun vs H Q E h => ?_) (fun cdv A outer s H vs Q E hr h => ?_)
  · obtain ⟨n, rfl, _⟩ := h
    rfl
  · obtain ⟨n, rfl, hn, q⟩ := h
    refine ⟨_, pss_one (ps_ret (pe_dc (own := [("button", 1)]) (g := gName 1) (tt := tYes) rfl scByText.nd (pi_range1 (by rfl) m_range (pa_cons (pv 0) pa_nil))
      (blkOk_by (own := [("button", 1)]) (N := nByText) (sc := defScope sByText) (by decide +kernel)) (fun _ _ _ _ _ => pg_name (i := 1) scByText.nd rfl (Or.inl rfl)) (fun _ _ _ _ _ => pts_nil)
      (fun _ _ _ _ _ => pe_callTy (show CallR _ _ rStrI from call_str_int) (by rfl) m_str (by decide +kernel) (pa_cons (pv 1) pa_nil)) (fun _ _ _ _ _ => pv 1))), ?_⟩
    refine ⟨.int (n : Int), rfl, (n : Int), rfl, by omega, by omega, fun D nD => ?_⟩
    rw [Int.toNat_natCast]
    refine dc_it (walk_range (lo := 0) (n := n)) (fun i H3 => Same H H3 ∧ H3 D = some (.dK (kvsB i))) ⟨same_new nD, upd_same⟩ (fun i H3 _ hP => trivial) (fun i x H3 H4 hi hP hY => ?_) (fun H3 hP => q H3 D hP.1 nD hP.2)
    obtain ⟨rfl, rfl⟩ := hY
    obtain ⟨s3, e3⟩ := hP
    have lg : ∀ n < 1000, (((n : Nat) : Int)).natAbs.log2 < 1920 := by decide +kernel
    refine ⟨rfl, tyes (iteT ⟨_, rfl, _, rfl, ?_, ?_⟩)⟩
    · show (0 + (i : Int)).natAbs.log2 < 1920
      rw [Int.zero_add]; exact lg i (by omega)
    refine ⟨.int (0 + (i : Int)), rfl, kvsB i, Sum.inr (numT (0 + (i : Int))), rfl, e3, ?_, fun b o eb => ?_, ?_⟩
    · rw [kvsB_len]; exact small1000 (by omega)
    · rw [upd_ne (ne_of_none eb nD)]; exact s3 _ _ eb
    · rw [upd_same, Int.zero_add]
      unfold putK
      rw [if_neg (by rw [kvsB_newG]; exact Bool.false_ne_true), kvsB_succ]
end
end K52
namespace K52
open PySem PySem.Spec PyProof.Rows L2 Pr
def rLenDK (K : PySem.W.Frag) : List V → Hp → VK → Prop := fun vs H Q => ∃ (a : Addr) (kvs : List (Key × V)), vs = [V.ref a] ∧ H a = some (.dK kvs) ∧ Q (.int kvs.length) H
theorem cr_lenDK {X : Cx} : CallR X (.builtin "len") (rLenDK X.K) := by
  intro pins s σ H vs us Q I r h
  obtain ⟨a, kvs, rfl, e, q⟩ := h
  rw [Vals.ref1 r]
  exact d_len I (.inl e) fun t s' I' => ⟨.int kvs.length, H, I', ⟨t, rfl⟩, q⟩
theorem gv_lenDK {K : PySem.W.Frag} {σ : L2.St} {H : Hp} {i : Nat} {D : Addr} {kvs : List (Key × V)} (hi : σ[i]? = some (some (.ref D))) (e : H D = some (.dK kvs)) : Gv K (tCB (rLenDK K) (tCons (tVar i) tNil)) σ H (.int kvs.length) := fun H1 s Q q =>
  ⟨.ref D, hi, D, kvs, rfl, s _ _ e, q _ _ (Same.refl _) (.int _)⟩
theorem gv_dgetB {K : PySem.W.Frag} {σ : L2.St} {H : Hp} {i j : Nat} {D : Addr} {m : Nat} {z : Str} (hi : σ[i]? = some (some (.ref D))) (e : H D = some (.dK (kvsB m))) (hj : σ[j]? = some (some (.str z))) : Gv K (tDGet1 (tVar i) (tVar j)) σ H (dB m z) := fun H1 s Q q => by
  refine ⟨.ref D, hi, D, rfl, .inl ⟨_, .inl (s _ _ e)⟩, .str z, hj, _, DGet.k (k := Sum.inr z) (s _ _ e), ?_⟩
  rw [valV_kvsG]
  cases eo : okB m z with
  | none =>
    refine q _ _ (Same.refl _) ?_
    unfold dB
    rw [eo]
    exact .non
  | some b =>
    refine q _ _ (Same.refl _) ?_
    unfold dB
    rw [eo]
    exact .int _
theorem gv_numS {K : PySem.W.Frag} {σ : L2.St} {H : Hp} {te : TE} {x : Int} (h : Gv K te σ H (.int x)) (h0 : 0 ≤ x) (h1 : x ≤ 1000) : Gv K (tCB rStrI (tCons te tNil)) σ H (.str (numT x)) := gv_cb (gva_cons h gva_nil) fun vs H1 Q s hd' q => by
  obtain ⟨v, rfl, hv⟩ := dpAll1 hd'
  cases hv
  have this : ∀ n < 1001, (((n : Nat) : Int)).natAbs.log2 < 1920 := by decide +kernel
  obtain ⟨n, rfl⟩ : ∃ n : Nat, x = (n : Int) := ⟨x.toNat, (Int.toNat_of_nonneg h0).symm⟩
  exact ⟨_, rfl, this n (by omega), q _ _ (Same.refl _) (.str _)⟩
theorem dq_parts {K : PySem.W.Frag} {N : Addr → Prop} {H : Hp} {m : Nat} : ∀ (fs : List Str) (vs : List V), DpAll K H vs (fs.map (dB m)) → DqAll K N H vs (fs.map (dB m))
  | [], vs, h => by cases h; exact .nil
  | f :: r, vs, h => by
    cases h with
    | cons h1 h2 =>
      refine .cons ?_ (dq_parts r _ h2)
      unfold dB at h1 ⊢
      cases e : okB m f with
      | none => rw [e] at h1; cases h1; exact .non
      | some b => rw [e] at h1; cases h1; exact .int _
theorem gv_BtnT {K : PySem.W.Frag} {σ : L2.St} {H : Hp} {E : XK} {j : Nat} {m : Nat} {v : V} {fs : List Str} {tl : TE} (hj : σ[j]? = some (some v)) (hv : Dp K H v (.tuple (fs.map (dB m)))) (hl : Gv K tl σ H (.int (m : Int))) : Gv K (tCall (spBtnT K) [] E (tCons (tVar j) (tCons tl tNil))) σ H (.bool (btnT (m : Int) (.tuple (fs.map (dB m))))) := fun H1 s Q q => by
  refine ⟨v, hj, hl H1 s _ fun u H2 s2 du => ?_⟩
  cases du
  obtain ⟨a, xs, rfl, hq, hr⟩ := ((hv.sm s).sm s2).tupI
  exact ⟨fun _ => False, .ref a, _, (m : Int), rfl, .tup hq (dq_parts _ _ hr), q _ _ s2 (.bl _)⟩
def nPList : List Str := ["word", "button", "buttons", "name", "sign", "rest", "released", "part"]
theorem scPList : FnScope nPList ["word", "button", "buttons"] (defScope sPList) := ⟨rfl, rfl, rfl, by decide +kernel, rfl, by decide +kernel, by decide +kernel⟩
section
variable {P : Program} {w : World} {K : PySem.W.Frag} {mg : Str → Option Value} {base : Heap}
def spPList (K : PySem.W.Frag) : Sp := fun vs H Q _ => ∃ (x : Str) (i m : Nat) (D : Addr), vs = [.str x, .int (i : Int), .ref D] ∧ x.length ≤ 1000 ∧ i ≤ 1000 ∧ m ≤ 1001 ∧ H D = some (.dK (kvsB m)) ∧ ∀ H' v, Same H H' → Dp K H' v (dL (lstW m i x)) → Q v H'
theorem ok_PList {fBtn : Addr} {fdBtn : FuncData} {fBtnT : Addr} {fdBtnT : FuncData} {f : Addr} {fd : FuncData} {k : Nat} (F : Fun K "parse_list" "parse_list" sPList f fd)
    (FBtn : Fun K "is_button" "is_button" sBtn fBtn fdBtn) (bBtn : Binds K fdBtn ["value", "many"] []) (gBtn : mg "is_button" = some (.ref fBtn))
    (FBtnT : Fun K "is_button_tuple" "is_button_tuple" sBtnT fBtnT fdBtnT) (bBtnT : Binds K fdBtnT ["value", "many"] []) (gBtnT : mg "is_button_tuple" = some (.ref fBtnT))
    (m_bool : mg "bool" = none) (m_int : mg "int" = none) (m_isinstance : mg "isinstance" = none) (m_len : mg "len" = none) (m_str : mg "str" = none) (m_tuple : mg "tuple" = none) : FnOk P w K mg base CX0 (k + 3) f fd ["word", "button", "buttons"] (spPList K) := by
  have GBtnT : FnOk P w K mg base CX0 (k + 2) fBtnT fdBtnT ["value", "many"] (spBtnT K) := ok_btnT FBtnT FBtn bBtn gBtn m_isinstance m_bool m_int m_tuple
  refine F.ok scPList (fun vs H Q E h => ?_) (fun cdv A outer s H vs Q E hr h => ?_)
  · obtain ⟨x, i, m, D, rfl, _⟩ := h
    rfl
  · obtain ⟨x, i, m, D, rfl, hx, hi, hm, eD, q⟩ := h
    refine ⟨_, pss_cons (ps_asg (pe_partition (pv 0) pe_str) (pg_tup rfl (pgs_cons (pg_name (i := 3) scPList.nd rfl (Or.inl rfl)) (pgs_cons (pg_name (i := 4) scPList.nd rfl (Or.inl rfl)) (pgs_cons (pg_name (i := 5) scPList.nd rfl (Or.inl rfl)) pgs_nil)))))
      (pss_cons (ps_if (PW.pt (pw_or (pt_cmpR op_eq (pv 4) pe_str (nomark _)) (pw_or1 (pt_cmpR op_ne (pv 3) (pe_callTy (show CallR _ _ rStrI from call_str_int) (by rfl) m_str (by decide +kernel) (pa_cons (pv 1) pa_nil)) (nomark _))))) (pss_one (ps_ret pe_non)) pss_nil)
      (pss_cons (ps_if (pt_cmpR op_eq (pv 5) pe_str (nomark _)) (pss_one (ps_ret (pe_tup pa_nil))) pss_nil)
      (pss_cons (ps_set (i := 6) scPList.nd rfl (.inl rfl) (pe_callTy (show CallR _ _ (rTupG K) from cr_tupG) (by rfl) m_tuple (by decide +kernel) (pa_cons (pe_lc (own := [("part", 7)]) (g := gName 7) (tt := tYes) rfl scPList.nd (show PI _ _ _ (iList K _) from pi_list (pe_split (pv 5) pe_str)) (blkOk_by (own := [("part", 7)]) (N := nPList) (sc := defScope sPList) (by decide +kernel)) (fun _ _ _ _ _ => pg_name (i := 7) scPList.nd rfl (Or.inl rfl)) (fun _ _ _ _ _ => pts_nil) (fun _ _ _ _ _ => pe_dget1 hr.u1 (pv 2) (pv 7) ⟨rfl, rfl, rfl, rfl⟩)) pa_nil)))
      (pss_cons (ps_if (PW.pt (pw_or (pt_not (pt_val (pe_call GBtnT (hr.mono (by omega)) (by rfl) gBtnT FBtnT.kp bBtnT .nil pass0 (pa_cons (pv 6) (pa_cons (pe_callB (show CallR _ _ (rLenDK K) from cr_lenDK) (by rfl) m_len PySem.boot_len (pa_cons (pv 2) pa_nil)) pa_nil))))) (pw_or1 (pt_cmpR (show OpR _ _ (rIn K false) from op_in_seq) (pv 1) (pv 6) (by rfl))))) (pss_one (ps_ret pe_non)) pss_nil)
      (pss_one (ps_ret (pv 6))))))), ?_⟩
    refine ⟨.str x, rfl, ?_⟩
    refine ⟨⟨x, rfl⟩, x, (">" : Str), rfl, rfl, by decide +kernel, Nat.le_of_lt (small5 (by omega)), fun T nT => ?_⟩
    have sT := same_new (H := H) (o := HO.tup [.str (Txt.partition x (">" : Str)).1, .str (Txt.partition x (">" : Str)).2.1, .str (Txt.partition x (">" : Str)).2.2]) nT
    refine ⟨T, _, rfl, .inl (.inl upd_same), rfl, _, _, rfl, _, _, rfl, _, _, rfl, rfl, ?_⟩
    have eD1 := sT _ _ eD
    generalize upd H T (.tup [.str (Txt.partition x (">" : Str)).1, .str (Txt.partition x (">" : Str)).2.1, .str (Txt.partition x (">" : Str)).2.2]) = H1 at sT eD1 ⊢
    rcases part_find x with ⟨hf, e⟩ | ⟨k, hf, e⟩
    · have el : lstW m i x = none := by unfold lstW; rw [if_pos hf]
      rw [el] at q
      rw [e]
      refine gs_if1 (gvt_or (b := true) (c := true) ((gvt_test (K := K) (gv_eqS (gv_var (i := 4) rfl (.str _)) gv_str)).to (by show decide ((Str.empty : Str) = ("" : Str)) = true; decide +kernel)) (fun Hy sy hb => by cases hb)) (fun _ H2 s2 => ?_) (fun hb H2 s2 => by cases hb)
      exact gs_ret gv_non fun v H3 s3 dv => q H3 v (sT.trans (s2.trans s3)) dv
    rw [e]
    have en : ¬ Txt.find x (">" : Str) < 0 := by rw [hf]; omega
    refine gs_if1 (b := !decide (cutS x none (some (k : Int)) = numT (i : Int))) ((gvt_or (b := false) ((gvt_test (K := K) (gv_eqS (gv_var (i := 4) rfl (.str _)) gv_str)).to (by show decide ((">" : Str) = ("" : Str)) = false; decide +kernel)) (fun Hy sy _ => gvt_test (K := K) (gv_neS (gv_var (i := 3) rfl (.str _)) (gv_numS (gv_var (i := 1) rfl (.int _)) (by omega) (by omega))))).to (by rw [Bool.false_or])) (fun hb H2 s2 => ?_) (fun hb H2 s2 => ?_)
    · have el : lstW m i x = none := by
        unfold lstW
        rw [if_neg en, hf, if_pos (by simpa using hb)]
      rw [el] at q
      exact gs_ret gv_non fun v H3 s3 dv => q H3 v (sT.trans (s2.trans s3)) dv
    have hb : cutS x none (some (k : Int)) = numT (i : Int) := by simpa using hb
    have el : lstW m i x = (if okL m i (partsR (cutS x (some ((k : Int) + 1)) none)) = true then some (valsB m (partsR (cutS x (some ((k : Int) + 1)) none))) else none) := by
      unfold lstW
      rw [if_neg en, hf, if_neg (fun z => z hb)]
    rw [el] at q
    have hrl : (cutS x (some ((k : Int) + 1)) none).length ≤ 1000 := Nat.le_trans (cutS_length x _ _) hx
    generalize cutS x (some ((k : Int) + 1)) none = rest at q hrl ⊢
    have s02 := sT.trans s2
    have eD2 := s2 _ _ eD1
    refine gs_if1 (gvt_test (K := K) (gv_eqS (gv_var (i := 5) rfl (.str rest)) gv_str)) (fun hb H3 s3 => ?_) (fun hb H3 s3 => ?_)
    · have : rest = ("" : Str) := of_decide_eq_true hb
      subst this
      refine gs_ret (K := K) (gv_tup gva_nil) fun v H4 s4 dv => q H4 v (s02.trans (s3.trans s4)) ?_
      have e1 : partsR ("" : Str) = [] := if_pos rfl
      rw [e1]
      exact dv
    have hne : rest ≠ ("" : Str) := of_decide_eq_false hb
    have ep : partsR rest = Txt.split rest ("," : Str) := if_neg hne
    have s03 := s02.trans s3
    have eD3 := s3 _ _ eD2
    have hfl : (Txt.split rest ("," : Str)).length ≤ 1001 := by
      have h1 := split_tot sep_co rest
      have h2 := tot_len (Txt.split rest ("," : Str))
      omega
    rw [ep] at q
    refine gs_set1 (K := K) ((gv_tupL ((gn_lc (K := K) (δ := PyData.str) (as := Txt.split rest ("," : Str)) (p := fun _ => true) (f := dB m) (gvi_list (gn_split rfl (gv_var (i := 5) rfl (.str rest)) gv_str (by decide +kernel) (by omega)).gv) (fun z vz Hz hz sz dz => ⟨gvt_yes, fun _ => by cases dz; exact gv_dgetB (i := 2) (j := 7) rfl (sz _ _ eD3) rfl⟩) (fun _ _ => lf_dB _ _) (by omega)).gv)).to (by rw [List.filter_eq_self.mpr (fun _ _ => rfl)])) fun R H4 s4 dR => ?_
    have eD4 := s4 _ _ eD3
    generalize Txt.split rest ("," : Str) = fs at q dR
    have hpt := btnT_parts m fs
    refine gs_if1 (b := !(okL m i fs)) ((gvt_or (b := !(btnT (m : Int) (.tuple (fs.map (dB m))))) (c := decide ((i : Int) ∈ valsB m fs)) (gvt_not (gvt_test (K := K) (gv_BtnT (j := 6) rfl dR ((gv_lenDK (i := 2) rfl eD4).to (by rw [kvsB_len]))))) (fun Hy sy hb => ?_)).to ?_) (fun hb H5 s5 => ?_) (fun hb H5 s5 => ?_)
    · have hall : fs.all (fun z => (okB m z).isSome) = true := by
        have : btnT (m : Int) (.tuple (fs.map (dB m))) = true := by simpa using hb
        rw [hpt, Bool.and_eq_true] at this
        exact this.1
      have dR2 := dR.sm sy
      rw [dB_vals hall] at dR2
      exact gvt_test (K := K) (gv_inT (gv_var (i := 1) rfl (.int _)) (gv_var (i := 6) rfl dR2))
    · rw [hpt]
      unfold okL
      simp only [Bool.not_and, Bool.not_not]
    · rw [if_neg (by simpa using hb)] at q
      exact gs_ret gv_non fun v H6 s6 dv => q H6 v (s03.trans (s4.trans (s5.trans s6))) dv
    · have hok : okL m i fs = true := by simpa using hb
      rw [if_pos hok] at q
      have hall : fs.all (fun z => (okB m z).isSome) = true := by
        unfold okL at hok
        rw [Bool.and_eq_true, Bool.and_eq_true] at hok
        exact hok.1.1
      have dR2 := dR.sm s5
      rw [dB_vals hall] at dR2
      exact gs_ret (K := K) (gv_var (i := 6) rfl dR2) fun v H6 s6 dv => q H6 v (s03.trans (s4.trans (s5.trans s6))) dv
end
end K52
namespace K52
open PySem PySem.Spec PyProof.Rows L2 Pr
def nParse : List Str := ["value", "words", "buttons", "lists", "index", "word", "released"]
theorem scParse : FnScope nParse ["value"] (defScope sParse) := ⟨rfl, rfl, rfl, by decide +kernel, rfl, by decide +kernel, by decide +kernel⟩
section
variable {P : Program} {w : World} {K : PySem.W.Frag} {mg : Str → Option Value} {base : Heap}
def spParse (K : PySem.W.Frag) (C : Addr) : Sp := fun vs H Q E => ∃ (N : Addr → Prop) (v : V) (d : PyData), vs = [v] ∧ Dq K N H v d ∧ (∀ x, d = .str x → x.length ≤ 999) ∧
  (∀ x, d = .str x → badP (Txt.split x (" " : Str)).length 0 (Txt.split x (" " : Str)) = none → ∀ H' u, Same H H' → Dp K H' u (dPan (valsP (Txt.split x (" " : Str)).length (Txt.split x (" " : Str)))) → Q u H') ∧
  (∀ x i, d = .str x → badP (Txt.split x (" " : Str)).length 0 (Txt.split x (" " : Str)) = some i → ∀ H' dd, Same H H' → H' dd = some (.xd [("index", .int (i : Nat))]) → E (.ref C) (some dd) H') ∧
  (isS d = false → ∀ H' dd, Same H H' → H' dd = some (.xd [("index", .non)]) → E (.ref C) (some dd) H')
theorem ok_Parse {f C fI fWordsOf fByText fBtn fBtnT fPList : Addr} {fd fdI fdWordsOf fdByText fdBtn fdBtnT fdPList : FuncData} {k : Nat} {tk : Tok} (F : Fun K "parse_panel" "parse_panel" sParse f fd) (T : ExF K mg "BadText" "index" "BadText.__init__" sInitT C fI fdI)
    (FWordsOf : Fun K "words_of" "words_of" sWordsOf fWordsOf fdWordsOf) (bWordsOf : Binds K fdWordsOf ["value"] []) (gWordsOf : mg "words_of" = some (.ref fWordsOf))
    (FByText : Fun K "buttons_by_text" "buttons_by_text" sByText fByText fdByText) (bByText : Binds K fdByText ["many"] []) (gByText : mg "buttons_by_text" = some (.ref fByText))
    (FBtn : Fun K "is_button" "is_button" sBtn fBtn fdBtn) (bBtn : Binds K fdBtn ["value", "many"] []) (gBtn : mg "is_button" = some (.ref fBtn))
    (FBtnT : Fun K "is_button_tuple" "is_button_tuple" sBtnT fBtnT fdBtnT) (bBtnT : Binds K fdBtnT ["value", "many"] []) (gBtnT : mg "is_button_tuple" = some (.ref fBtnT))
    (FPList : Fun K "parse_list" "parse_list" sPList fPList fdPList) (bPList : Binds K fdPList ["word", "button", "buttons"] []) (gPList : mg "parse_list" = some (.ref fPList))
    (m_bool : mg "bool" = none) (m_enumerate : mg "enumerate" = none) (m_int : mg "int" = none) (m_isinstance : mg "isinstance" = none) (m_len : mg "len" = none) (m_range : mg "range" = none) (m_str : mg "str" = none) (m_tuple : mg "tuple" = none) (y_MAX_BUTTONS : mg "MAX_BUTTONS" = some (.int 10 tk)) : FnOk P w K mg base (L2.CX P w) (k + 4) f fd ["value"] (spParse K C) := by
  have GI : FnOk P w K mg base CX0 (k + 1) fI fdI ["self", "index"] (spI K C "index") := ok_initT T.FI
  have GWordsOf : FnOk P w K mg base (L2.CX P w) (k + 3) fWordsOf fdWordsOf ["value"] (spWordsOf K C) := ok_WordsOf FWordsOf T m_isinstance m_str
  have GByText : FnOk P w K mg base CX0 (k + 3) fByText fdByText ["many"] (spByText K) := ok_ByText FByText m_range m_str
  have GPList : FnOk P w K mg base CX0 (k + 3) fPList fdPList ["word", "button", "buttons"] (spPList K) := ok_PList FPList FBtn bBtn gBtn FBtnT bBtnT gBtnT m_bool m_int m_isinstance m_len m_str m_tuple
  refine F.okX scParse (fun vs H Q E h => ?_) (fun cdv A outer s H vs Q E hr h => ?_)
  · obtain ⟨N, v, d, rfl, _⟩ := h
    rfl
  · obtain ⟨N, v, d, rfl, hd, hl, q1, q2, q3⟩ := h
    refine ⟨_, pss_cons (ps_set (i := 1) scParse.nd rfl (.inl rfl) (pe_callS (E := fun _ => E) GWordsOf (hr.mono (by omega)) (by rfl) gWordsOf FWordsOf.kp bWordsOf (fun σ => passAt (W := fun cls d _ H => E cls d H) (takes_of rfl rfl rfl rfl) σ) (pa_cons (pv 0) pa_nil)))
      (pss_cons (ps_set (i := 2) scParse.nd rfl (.inl rfl) (pe_call GByText (hr.mono (by omega)) (by rfl) gByText FByText.kp bByText .nil pass0 (pa_cons (pe_callB (show CallR _ _ (rLenG K) from cr_lenG) (by rfl) m_len PySem.boot_len (pa_cons (pv 1) pa_nil)) pa_nil)))
      (pss_cons (ps_set (i := 3) scParse.nd rfl (.inl rfl) (pe_lst pa_nil))
      (pss_cons (ps_for (passes_of rfl) rfl (pi_enum (by rfl) m_enumerate (pa_cons (pv 1) pa_nil)) (pg_tup rfl (pgs_cons (pg_name (i := 4) scParse.nd rfl (Or.inl rfl)) (pgs_cons (pg_name (i := 5) scParse.nd rfl (Or.inl rfl)) pgs_nil))) (pss_cons (ps_set (i := 6) scParse.nd rfl (.inl rfl) (pe_call GPList (hr.mono (by omega)) (by rfl) gPList FPList.kp bPList .nil pass0 (pa_cons (pv 5) (pa_cons (pv 4) (pa_cons (pv 2) pa_nil)))))
      (pss_cons (ps_if (PW.pt (pw_or (pt_cmpR op_isN (pv 6) pe_non (by rfl)) (pw_or1 (pt_cmpR op_eq (pv 4) (pe_glob (v := .int 10) (by rfl) y_MAX_BUTTONS ⟨_, rfl⟩) (nomark _))))) (pss_one (ps_raise rfl (takes_of rfl rfl rfl rfl) (pmk_oex T.oex T.iC T.tI GI (hr.mono (by omega)) T.bI .nil pass0 (by rfl) T.g (pa_cons (pv 4) pa_nil)))) pss_nil)
      (pss_one (ps_expr (show PE _ _ (tBM K "list" rAppend _ _) from pe_bm PySem.F.plainAttrs_list PySem.F.slot_list_append PySem.F.type_list_append mt_append (pv 3) (pa_cons (pv 6) pa_nil)))))))
      (pss_one (ps_ret (pe_callTy (show CallR _ _ (rTupG K) from cr_tupG) (by rfl) m_tuple (by decide +kernel) (pa_cons (pv 3) pa_nil))))))), ?_⟩
    refine ⟨v, rfl, N, v, d, rfl, hd, (fun x hx => by have := hl x hx; omega), fun x hx H1 W s1 nW eW => ?_, q3⟩
    subst hx
    cases hd
    have hx := hl x rfl
    have q1 := q1 x rfl
    have q2 := fun i => q2 x i rfl
    have wl : ∀ z ∈ Txt.split x (" " : Str), z.length ≤ 1000 := fun z hz => by
      have h1 := split_tot sep_sp x
      have h2 := tot_mem hz
      omega
    have wn : (Txt.split x (" " : Str)).length ≤ 1000 := by
      have h1 := split_tot sep_sp x
      have h2 := tot_len (Txt.split x (" " : Str))
      omega
    generalize Txt.split x (" " : Str) = ws at eW q1 q2 wl wn
    refine (gv_lenL1 (K := K) (i := 1) rfl eW).at fun vn H3 s3 dn => ?_
    cases dn
    rw [List.length_map]
    refine ⟨ws.length, rfl, wn, fun H4 D s4 nD eD => ?_⟩
    have s14 := s3.trans s4
    have s04 := s1.trans s14
    have eW4 := s14 _ _ eW
    refine gs_setN (K := K) (gn_lst gva_nil) fun R vR H5 s5 nR eR dR => ?_
    cases dR
    have s05 := s04.trans s5
    have nR0 : H R = none := s04.free nR
    have eW5 := s5 _ _ eW4
    have eD5 := s5 _ _ eD
    have WR : W ≠ R := ne_of_none eW4 nR
    have DR : D ≠ R := ne_of_none eD nR
    refine ⟨.ref W, rfl, W, _, rfl, .inl (.inl eW5), ?_⟩
    refine for_it (walk_enum (xs := ws.map V.str)) (fun i σ H' => (∀ b o, b ≠ R → H5 b = some o → H' b = some o) ∧ Kp H5 H' ∧ (∃ vs, H' R = some (.lst vs) ∧ DpAll K H' vs ((valsP ws.length (ws.take i)).map dInts)) ∧ (∀ j z, j < i → ws[j]? = some z → okP ws.length j z) ∧ ∃ x4 x5 x6, σ = [some (.str x), some (.ref W), some (.ref D), some (.ref R), x4, x5, x6])
      ⟨fun _ _ _ eb => eb, Kp.refl _, ⟨[], eR, by rw [List.take_zero]; exact .nil⟩, fun j z h => absurd h (Nat.not_lt_zero _), _, _, _, rfl⟩ (fun i σ H' _ hP => .inl (.inl (hP.1 _ _ WR eW5))) (fun i u σ H6 H7 hi hP hY => ?_) (fun σ H6 hP => ?_)
    · obtain ⟨b6, k6, ⟨vs, eR6, dR6⟩, hok, x4, x5, x6, rfl⟩ := hP
      obtain ⟨Te, y1, y2, rfl, nT, rfl, e1, e2⟩ := hY
      cases e1
      obtain ⟨z, hz, rfl⟩ := str_get e2
      have il : i < ws.length := (List.getElem?_eq_some_iff.mp hz).1
      have sT : Same H6 (upd H6 Te (.tup [.int (i : Nat), .str z])) := same_new nT
      refine ⟨Te, _, rfl, .inl (.inl upd_same), rfl, _, _, rfl, _, _, rfl, rfl, ?_⟩
      have eD7 := sT _ _ (b6 _ _ DR eD5)
      have eR7 := sT _ _ eR6
      have b7 : ∀ b o, b ≠ R → H5 b = some o → (upd H6 Te (.tup [.int (i : Nat), .str z])) b = some o := fun b o hb eb => sT _ _ (b6 b o hb eb)
      have k7 := k6.trans (Kp.of sT)
      have dR7 := dR6.sm sT
      generalize upd H6 Te (.tup [.int (i : Nat), .str z]) = H7 at eD7 eR7 b7 k7 dR7 ⊢
      have bad : (lstW ws.length i z = none ∨ i = 10) → badP ws.length 0 ws = some i := fun hb => badP_at hz hok hb
      have s07 : Same H H7 := fun b o eb => b7 b o (ne_of_none eb nR0) (s05 _ _ eb)
      refine ⟨.str z, rfl, .int (i : Nat), rfl, .ref D, rfl, z, i, ws.length, D, rfl, wl z (List.mem_of_getElem? hz), by omega, by omega, eD7, fun H8 v8 s8 d8 => ?_⟩
      have s08 := s07.trans s8
      have eR8 := s8 _ _ eR7
      refine ⟨v8, rfl, ?_⟩
      cases ho : lstW ws.length i z with
      | none =>
        rw [ho] at d8
        cases d8
        refine ⟨rfl, true, rfl, iteT ?_⟩
        exact ⟨.int (i : Nat), rfl, rzF T fun H2 dd s2 ed => q2 i (bad (.inl ho)) H2 dd (s08.trans s2) ed⟩
      | some l =>
        rw [ho] at d8
        have d8' : Dp K H8 v8 (dInts l) := d8
        obtain ⟨a8, rfl, hq8⟩ := d8'.intsI
        refine ⟨rfl, false, rfl, iteF ?_⟩
        refine ⟨.int (i : Nat), rfl, rfl, _, rfl, ?_⟩
        by_cases h10 : i = 10
        · rw [decide_eq_true (by rw [h10]; rfl)]
          exact iteT ⟨.int (i : Nat), rfl, rzF T fun H2 dd s2 ed => q2 i (bad (.inr h10)) H2 dd (s08.trans s2) ed⟩
        · rw [decide_eq_false (by intro z; injection z with z; exact h10 (by omega))]
          have lt10 : i ≤ 1000 := by omega
          refine iteF ⟨.ref R, rfl, .inl ⟨rfl, _, .inl (.inl eR8)⟩, .ref a8, rfl, ?_⟩
          refine ⟨R, _, .ref a8, rfl, rfl, eR8, ?_, ?_⟩
          · have := dR7.length
            unfold valsP at this
            rw [List.length_map, List.length_map, List.length_zipIdx, List.length_take] at this
            exact small1000 (by omega)
          · have kU : Kp H8 (upd H8 R (.lst (vs ++ [.ref a8]))) := Kp.upd eR8
            refine ⟨fun c o hc eb => by rw [upd_ne hc]; exact s8 _ _ (b7 c o hc eb), (k7.trans (Kp.of s8)).trans kU, ⟨_, upd_same, ?_⟩, fun j z' hj hz' => ?_, _, _, _, rfl⟩
            · rw [valsP_take hz, ho, List.map_append]
              exact (dpAll_kp kU _ _ (lfAll_of fun d hd => by obtain ⟨l, _, rfl⟩ := List.mem_map.mp hd; exact lf_ints l) (dR7.sm s8)).append (.cons (d8'.kp kU) .nil)
            · rcases Nat.lt_or_ge j i with h | h
              · exact hok j z' h hz'
              · have : j = i := by omega
                subst this
                rw [hz] at hz'
                cases hz'
                intro hb
                rcases hb with hb | hb
                · rw [ho] at hb; cases hb
                · exact h10 hb
    · obtain ⟨b6, k6, ⟨vs, eR6, dR6⟩, hok, x4, x5, x6, rfl⟩ := hP
      rw [List.length_map, List.take_length] at dR6
      rw [List.length_map] at hok
      have hbad : badP ws.length 0 ws = none := badP_all fun j z hz => hok j z (List.getElem?_eq_some_iff.mp hz).1 hz
      have s06 : Same H H6 := fun b o eb => b6 b o (ne_of_none eb nR0) (s05 _ _ eb)
      refine ⟨.ref R, rfl, R, _, rfl, .inl ⟨.inl (.inl eR6), fun Te nT => ?_⟩⟩
      exact q1 hbad _ _ (s06.trans (same_new nT)) (.tup (.inl (.inl upd_same)) (dR6.sm (same_new nT)))
end
end K52
namespace Pr
open PySem PySem.Spec PyProof.Rows L2
end Pr
namespace Pr
open PySem PySem.Spec PyProof.Rows L2
end Pr
namespace K52
open PySem PySem.Spec PyProof.Rows L2 Pr
theorem dig_iff (c : Nat) : c ∈ TL.tl ("0123456789" : Str) ↔ 48 ≤ c ∧ c ≤ 57 := by
  have : TL.tl ("0123456789" : Str) = [48, 49, 50, 51, 52, 53, 54, 55, 56, 57] := by decide +kernel
  rw [this]
  simp only [List.mem_cons, List.not_mem_nil, or_false]
  omega
def dNum (x : Str) : PyData := match numW x with | some n => .int (n : Int) | none => .none
theorem sep_gt : Sep (">" : Str) := ⟨⟨62, by decide +kernel, by decide⟩⟩
theorem at_gt (x : Str) (i : Nat) : StrLaws.At x (">" : Str) x.length i ↔ (TL.tl x)[i]? = some 62 := by
  have e : (">" : Str) = ⟨#[62]⟩ := by decide +kernel
  rw [e]
  exact StrLaws.subAt_one x 62 i
theorem spl_no (s : Nat) : ∀ (l acc : List Nat), s ∉ l → TL.spl [s] 0 acc l = [acc ++ l]
  | [], acc, _ => by rw [TL.spl_nil, List.append_nil]
  | c :: r, acc, h => by
    have hc : c ≠ s := fun z => h (z ▸ List.mem_cons_self)
    rw [TL.spl_miss (by rw [pre1]; exact decide_eq_false hc), spl_no s r (acc ++ [c]) (fun z => h (List.mem_cons_of_mem _ z)), List.append_assoc]; rfl
theorem spl_at (s : Nat) : ∀ (a acc b : List Nat), s ∉ a → TL.spl [s] 0 acc (a ++ s :: b) = (acc ++ a) :: TL.spl [s] 0 [] b
  | [], acc, b, _ => by rw [List.nil_append, TL.spl_hit (by rw [pre1]; exact decide_eq_true rfl), List.append_nil]; rfl
  | c :: r, acc, b, h => by
    have hc : c ≠ s := fun z => h (z ▸ List.mem_cons_self)
    rw [List.cons_append, TL.spl_miss (by rw [pre1]; exact decide_eq_false hc), spl_at s r (acc ++ [c]) b (fun z => h (List.mem_cons_of_mem _ z)), List.append_assoc]; rfl
theorem spl_mem (s : Nat) : ∀ (l acc : List Nat) (c : Nat), c ≠ s → (c ∈ acc ∨ c ∈ l) → ∃ p ∈ TL.spl [s] 0 acc l, c ∈ p
  | [], acc, c, _, h => by
    rw [TL.spl_nil]
    rcases h with h | h
    · exact ⟨acc, List.mem_singleton.mpr rfl, h⟩
    · cases h
  | d :: r, acc, c, hn, h => by
    by_cases hd : d = s
    · rw [TL.spl_hit (by rw [pre1]; exact decide_eq_true hd), show [s].length - 1 = 0 from rfl]
      rcases h with h | h
      · exact ⟨acc, List.mem_cons_self, h⟩
      · rcases List.mem_cons.mp h with h | h
        · exact absurd (h.trans hd) hn
        · obtain ⟨p, h1, h2⟩ := spl_mem s r [] c hn (.inr h)
          exact ⟨p, List.mem_cons_of_mem _ h1, h2⟩
    · rw [TL.spl_miss (by rw [pre1]; exact decide_eq_false hd)]
      refine spl_mem s r (acc ++ [d]) c hn ?_
      rcases h with h | h
      · exact .inl (List.mem_append_left _ h)
      · rcases List.mem_cons.mp h with h | h
        · exact .inl (List.mem_append_right _ (List.mem_singleton.mpr h))
        · exact .inr h
theorem map_tl_inj : ∀ {a b : List Str}, a.map TL.tl = b.map TL.tl → a = b
  | [], [], _ => rfl
  | [], _ :: _, h => by cases h
  | _ :: _, [], h => by cases h
  | x :: r, y :: t, h => by
    injection h with h1 h2
    rw [TL.ext_tl h1, map_tl_inj h2]
/-- split at '>', by find -/
theorem split_gt (x : Str) : (Txt.find x (">" : Str) < 0 ∧ Txt.split x (">" : Str) = [x]) ∨
    ∃ k : Nat, Txt.find x (">" : Str) = (k : Int) ∧ Txt.split x (">" : Str) = cutS x none (some (k : Int)) :: Txt.split (cutS x (some ((k : Int) + 1)) none) (">" : Str) := by
  obtain ⟨s, es, e⟩ := split_tl sep_gt x
  have s62 : s = 62 := by
    have : TL.tl (">" : Str) = [62] := by decide +kernel
    rw [this] at es; injection es with es _; exact es.symm
  subst s62
  rcases PyProof.Rows.find_whole x (">" : Str) with ⟨f, hn⟩ | ⟨k, f, hk, hn⟩
  · refine .inl ⟨by rw [f]; decide, map_tl_inj ?_⟩
    rw [e, spl_no 62 _ _ (fun z => ?_)]
    · rfl
    · obtain ⟨i, hi⟩ := List.getElem?_of_mem z
      exact hn i ((at_gt x i).mpr hi)
  · refine .inr ⟨k, f, map_tl_inj ?_⟩
    have hk := (at_gt x k).mp hk
    have hkl := (List.getElem?_eq_some_iff.mp hk).1
    have hk2 := (List.getElem?_eq_some_iff.mp hk).2
    have e0 : TL.tl x = (TL.tl x).take k ++ 62 :: (TL.tl x).drop (k + 1) := by
      have h1 := (List.take_append_drop k (TL.tl x)).symm
      rwa [List.drop_eq_getElem_cons hkl, hk2] at h1
    have hno : 62 ∉ (TL.tl x).take k := fun z => by
      obtain ⟨i, hi⟩ := List.getElem?_of_mem z
      have hik : i < k := by
        have := (List.getElem?_eq_some_iff.mp hi).1
        rw [List.length_take] at this; omega
      rw [List.getElem?_take, if_pos hik] at hi
      exact hn i hik ((at_gt x i).mpr hi)
    obtain ⟨s, es', e'⟩ := split_tl sep_gt (cutS x (some ((k : Int) + 1)) none)
    rw [es] at es'
    injection es' with es' _
    subst es'
    rw [List.map_cons, e', e]
    conv => lhs; rw [e0, spl_at 62 _ _ _ hno, List.nil_append]
    rw [cut_take, show (k : Int) + 1 = ((k + 1 : Nat) : Int) by omega, cut_drop]
/-- a second '>' spoils a list -/
theorem okL_gt {m i : Nat} {r : Str} (h : (Txt.split r (">" : Str)).length ≠ 1) : okL m i (partsR r) = false := by
  have h62 : 62 ∈ TL.tl r := Classical.byContradiction fun z => by
    obtain ⟨s, es, e⟩ := split_tl sep_gt r
    have s62 : s = 62 := by
      have : TL.tl (">" : Str) = [62] := by decide +kernel
      rw [this] at es; injection es with es _; exact es.symm
    subst s62
    rw [spl_no 62 _ _ z] at e
    have := congrArg List.length e
    rw [List.length_map] at this
    exact h this
  have hne : r ≠ ("" : Str) := fun z => by subst z; cases h62
  have ep : partsR r = Txt.split r ("," : Str) := if_neg hne
  obtain ⟨s, es, e⟩ := split_tl sep_co r
  have s44 : s = 44 := by
    have : TL.tl ("," : Str) = [44] := by decide +kernel
    rw [this] at es; injection es with es _; exact es.symm
  subst s44
  obtain ⟨p, hp, hc⟩ := spl_mem 44 (TL.tl r) [] 62 (by decide) (.inr h62)
  rw [← e] at hp
  obtain ⟨z, hz, rfl⟩ := List.mem_map.mp hp
  have hb : okB m z = none := by
    have hn : numW z = none := by
      unfold numW
      refine if_neg fun hn => ?_
      unfold isNumL at hn
      rw [Bool.and_eq_true, Bool.and_eq_true] at hn
      have := List.all_eq_true.mp hn.1.2 62 hc
      simp at this
    unfold okB
    rw [hn]
  unfold okL
  have : ((partsR r).all fun z => (okB m z).isSome) = false := by
    rw [List.all_eq_false]
    exact ⟨z, by rw [ep]; exact hz, by rw [hb]; exact Bool.false_ne_true⟩
  rw [this]; rfl
def nNum : List Str := ["_law_word", "_law_one"]
theorem scNum : FnScope nNum ["_law_word"] (defScope sNum) := ⟨rfl, rfl, rfl, by decide +kernel, rfl, by decide +kernel, by decide +kernel⟩
section
variable {P : Program} {w : World} {K : PySem.W.Frag} {mg : Str → Option Value} {base : Heap}
def spNum (K : PySem.W.Frag) : Sp := spP K (fun x : Str => [.str x]) (fun x => x.length ≤ 640) (fun x => dNum x)
theorem gv_Num {σ : L2.St} {H : Hp} {t : TA} {E : XK} {x : Str} (h : GvA K t σ H [.str x]) (hc : x.length ≤ 640) : Gv K (tCall (spNum K) [] E t) σ H (dNum x) := gv_call (K := K) (δ := fun x : Str => [.str x]) (C := fun x => x.length ≤ 640) (f := fun x => dNum x) x h hc
theorem ok_Num  {f : Addr} {fd : FuncData} {k : Nat} (F : Fun K "_law_number" "_law_number" sNum f fd)
    (m_int : mg "int" = none) : FnOk P w K mg base CX0 (k + 1) f fd ["_law_word"] (spNum K) := by
  refine F.ok scNum (fun vs H Q E h => ?_) (fun cdv A outer s H vs Q E hr h => ?_)
  · obtain ⟨_, hd, _⟩ := h
    exact hd.length
  · obtain ⟨x, hd, hc, q⟩ := h
    obtain ⟨v1, rfl, d1⟩ := dpAll1 hd
    try dsimp only at hc
    try dsimp only at q
    try dsimp only at d1
    refine ⟨_, pss_cons (ps_if (PW.pt (pw_or (pt_cmpR op_eq (pv 0) pe_str (nomark _)) (pw_or (pt_cmpR (show OpR _ _ rNeE1 from op_neE1 hr.units) (pe_lc (own := [("_law_one", 1)]) (g := gName 1) rfl scNum.nd (show PI _ _ _ (iStr _) from pi_str (pv 0)) (blkOk_by (own := [("_law_one", 1)]) (N := nNum) (sc := defScope sNum) (by decide +kernel)) (fun _ _ _ _ _ => pg_name (i := 1) scNum.nd rfl (Or.inl rfl)) (fun _ _ _ _ _ => pts_one (pt_cmpR op_notIn_sign (pv 1) pe_str (by rfl))) (fun _ _ _ _ _ => pv 1)) (pe_lst pa_nil) (nomark _)) (pw_or1 (PW.pt (pw_and (pt_cmpR op_eq (pe_ix ix_str (pv 0) pe_int (fun _ _ => rfl)) pe_str (nomark _)) (pw_and1 (pt_cmpR op_ne (pv 0) pe_str (nomark _))))))))) (pss_one (ps_ret pe_non)) pss_nil)
      (pss_one (ps_ret (pe_callTy call_int_str (by rfl) m_int (by decide +kernel) (pa_cons (pv 0) pa_nil)))), ?_⟩
    have z0 : TL.tl ("0" : Str) = [48] := by decide +kernel
    by_cases hx0 : x = ("" : Str)
    · have hd : dNum x = .none := by subst hx0; rfl
      rw [hd] at q
      exact gs_if1 (b := true) (gvt_or (b := true) (c := true) ((gvt_test (K := K) (gv_eqS (gv_var (i := 0) rfl d1) gv_str)).to (decide_eq_true hx0)) (fun Hy sy hb => by cases hb)) (fun _ H1 s1 => gs_ret gv_non fun v H2 s2 dv => q v H2 (s1.trans s2) dv) (fun hb H1 s1 => by cases hb)
    have hne : TL.tl x ≠ [] := fun z => hx0 (TL.ext_tl (by rw [z]; rfl))
    obtain ⟨c, l, hx⟩ : ∃ c l, TL.tl x = c :: l := List.exists_cons_of_ne_nil hne
    have b1 : ((⟨#[c]⟩ : Str) = ("0" : Str)) ↔ c = 48 := by
      constructor
      · intro z
        have := congrArg TL.tl z
        rw [z0] at this
        simpa [TL.tl] using this
      · intro z; subst z; exact TL.ext_tl z0.symm
    have b2 : (x = ("0" : Str)) ↔ TL.tl x = [48] := ⟨fun z => by rw [z, z0], fun z => TL.ext_tl (by rw [z, z0])⟩
    refine gs_if1 (b := decide (x = ("" : Str)) || (!(((TL.tl x).filter fun c => !decide (c ∈ TL.tl ("0123456789" : Str))).map fun c => PyData.str ⟨#[c]⟩).isEmpty || (decide ((⟨#[c]⟩ : Str) = ("0" : Str)) && !decide (x = ("0" : Str))))) (gvt_or (gvt_test (K := K) (gv_eqS (gv_var (i := 0) rfl d1) gv_str)) (fun Hy sy _ => gvt_or (gvt_test (gv_neEL (gn_lc (K := K) (δ := fun c => PyData.str ⟨#[c]⟩) (as := TL.tl x) (p := fun c => !decide (c ∈ TL.tl ("0123456789" : Str))) (f := fun c => PyData.str ⟨#[c]⟩) (gvi_str (gv_var (i := 0) rfl (d1.sm sy))) (fun c vc Hx hx sx dc => ⟨gvt_test (gv_notInSign rfl (gv_var (i := 1) rfl dc) gv_str), fun _ => gv_var (i := 1) rfl dc⟩) (fun _ _ => rfl) (by rw [← TL.len_tl]; omega)))) (fun Hz sz _ => gvt_and (gvt_test (gv_eqS (gv_ixS0 (gv_var (i := 0) rfl ((d1.sm sy).sm sz)) hx (by omega)) gv_str)) (fun Hw sw _ => gvt_test (gv_neS (gv_var (i := 0) rfl (((d1.sm sy).sm sz).sm sw)) gv_str))))) (fun e H1 s1 => ?_) (fun e H1 s1 => ?_)
    · have hn : isNumL (TL.tl x) = false := by
        rw [decide_eq_false hx0, Bool.false_or, Bool.or_eq_true] at e
        unfold isNumL
        rcases e with e | e
        · have : (TL.tl x).all (fun c => decide (48 ≤ c) && decide (c ≤ 57)) = false := by
            rw [List.all_eq_false]
            cases hf : (TL.tl x).filter fun c => !decide (c ∈ TL.tl ("0123456789" : Str)) with
            | nil => rw [hf] at e; cases e
            | cons c r =>
              have hc : c ∈ (TL.tl x).filter fun c => !decide (c ∈ TL.tl ("0123456789" : Str)) := by rw [hf]; exact List.mem_cons_self
              obtain ⟨h1, h2⟩ := List.mem_filter.mp hc
              refine ⟨c, h1, fun z => ?_⟩
              simp only [Bool.and_eq_true, decide_eq_true_eq] at z
              rw [decide_eq_true ((dig_iff c).mpr z)] at h2
              cases h2
          rw [this]; simp
        · rw [Bool.and_eq_true] at e
          have e1 := b1.mp (of_decide_eq_true e.1)
          have e2 : ¬ TL.tl x = [48] := fun z => by rw [decide_eq_true (b2.mpr z)] at e; cases e.2
          have hh : (TL.tl x).head? = some 48 := by rw [hx, e1]; rfl
          rw [hh, decide_eq_false e2]
          simp
      have hd : dNum x = .none := by
        unfold dNum numW
        rw [if_neg (by rw [hn]; exact Bool.false_ne_true)]
      rw [hd] at q
      exact gs_ret gv_non fun v H2 s2 dv => q v H2 (s1.trans s2) dv
    · rw [Bool.or_eq_false_iff, Bool.or_eq_false_iff] at e
      obtain ⟨e1, e2, e3⟩ := e
      have had : NumText.AllDigits (TL.tl x) := fun c hc => by
        rw [← dig_iff]
        refine Classical.byContradiction fun z => ?_
        have : c ∈ (TL.tl x).filter fun c => !decide (c ∈ TL.tl ("0123456789" : Str)) := List.mem_filter.mpr ⟨hc, by rw [decide_eq_false z]; rfl⟩
        cases hf : (TL.tl x).filter fun c => !decide (c ∈ TL.tl ("0123456789" : Str)) with
        | nil => rw [hf] at this; cases this
        | cons a r => rw [hf] at e2; cases e2
      have hi : PySem.intText? x = some ((NumText.digitsVal (TL.tl x) : Nat) : Int) := intText_digits had hne (by omega)
      have hall : (TL.tl x).all (fun c => decide (48 ≤ c) && decide (c ≤ 57)) = true := by
        rw [List.all_eq_true]
        intro c hc
        have := had c hc
        simp only [Bool.and_eq_true, decide_eq_true_eq]
        exact this
      have hd : PyData.int ((NumText.digitsVal (TL.tl x) : Nat) : Int) = dNum x := by
        unfold dNum numW isNumL
        rw [hall]
        have he : (TL.tl x).isEmpty = false := by rw [hx]; rfl
        rw [he]
        have hh : (TL.tl x).head? = some c := by rw [hx]; rfl
        rw [hh]
        by_cases hc : c = 48
        · by_cases hz : TL.tl x = [48]
          · rw [decide_eq_true hz]
            simp
          · rw [decide_eq_true (b1.mpr hc), decide_eq_false (fun z => hz (b2.mp z))] at e3
            cases e3
        · have : decide (some c ≠ some 48) = true := decide_eq_true (by intro z; injection z with z; exact hc z)
          rw [this]
          simp
      rw [← hd] at q
      exact gs_ret (K := K) (gv_intS rfl (gv_var (i := 0) rfl (d1.sm s1)) hi hc) fun v H2 s2 dv => q v H2 (s1.trans s2) dv
end
end K52
namespace K52
open PySem PySem.Spec PyProof.Rows L2 Pr
def vNum (x : Str) : V := match numW x with | some n => .int (n : Int) | none => .non
theorem lf_num (x : Str) : lf (dNum x) = true := by unfold dNum; cases numW x <;> rfl
theorem dpAll_num {K : PySem.W.Frag} {H : Hp} : ∀ (fs : List Str) (vs : List V), DpAll K H vs (fs.map dNum) → vs = fs.map vNum
  | [], vs, h => by cases h; rfl
  | f :: r, vs, h => by
    cases h with
    | cons h1 h2 =>
      rw [dpAll_num r _ h2, List.map_cons]
      congr 1
      unfold dNum at h1
      unfold vNum
      cases e : numW f with
      | none => rw [e] at h1; cases h1; rfl
      | some n => rw [e] at h1; cases h1; rfl
theorem flat_num (fs : List Str) : (fs.map vNum).all flatV = true := by
  rw [List.all_map, List.all_eq_true]
  intro x _
  show flatV (vNum x) = true
  unfold vNum
  cases numW x <;> rfl
theorem inV_num (fs : List Str) : inV .non (fs.map vNum) = fs.any fun x => (numW x).isNone := by
  unfold inV
  rw [List.any_map]
  congr 1
  funext x
  show eqV (vNum x) .non = _
  unfold vNum
  cases numW x <;> rfl
def valsN (fs : List Str) : List Int := fs.map fun x => (((numW x).getD 0 : Nat) : Int)
theorem num_vals {fs : List Str} (h : (fs.any fun x => (numW x).isNone) = false) : fs.map dNum = (valsN fs).map PyData.int := by
  unfold valsN
  rw [List.map_map]
  refine List.map_congr_left fun x hx => ?_
  have := List.any_eq_false.mp h x hx
  unfold dNum
  cases e : numW x with
  | none => rw [e] at this; exact absurd rfl this
  | some n => show PyData.int (n : Int) = .int (((numW x).getD 0 : Nat) : Int); rw [e]; rfl
/-- all below the many -/
theorem vals_small {m : Nat} {fs : List Str} (h : (fs.any fun x => (numW x).isNone) = false) (hs : ∀ y ∈ valsN fs, y < (m : Int)) : fs.all (fun z => (okB m z).isSome) = true ∧ valsB m fs = valsN fs := by
  have key : ∀ x ∈ fs, okB m x = numW x := fun x hx => by
    have h1 := List.any_eq_false.mp h x hx
    cases e : numW x with
    | none => rw [e] at h1; exact absurd rfl h1
    | some n =>
      have h2 := hs ((n : Nat) : Int) (by unfold valsN; exact List.mem_map.mpr ⟨x, hx, by rw [e]; rfl⟩)
      unfold okB
      rw [e]
      exact if_pos (by omega)
  refine ⟨?_, ?_⟩
  · rw [List.all_eq_true]
    intro x hx
    rw [key x hx]
    have h1 := List.any_eq_false.mp h x hx
    cases e : numW x with
    | none => rw [e] at h1; exact absurd rfl h1
    | some n => rfl
  · unfold valsB valsN
    exact List.map_congr_left fun x hx => by rw [key x hx]
theorem vals_all {m : Nat} {fs : List Str} (h : fs.all (fun z => (okB m z).isSome) = true) : (fs.any fun x => (numW x).isNone) = false ∧ (∀ y ∈ valsN fs, y < (m : Int)) ∧ valsB m fs = valsN fs := by
  have key : ∀ x ∈ fs, okB m x = numW x ∧ (numW x).isSome = true := fun x hx => by
    have h1 := List.all_eq_true.mp h x hx
    unfold okB at h1 ⊢
    cases e : numW x with
    | none => rw [e] at h1; cases h1
    | some n =>
      rw [e] at h1
      replace h1 : (if n < m then some n else none : Option Nat).isSome = true := h1
      by_cases hn : n < m
      · exact ⟨if_pos hn, rfl⟩
      · rw [if_neg hn] at h1; cases h1
  have e : valsB m fs = valsN fs := by
    unfold valsB valsN
    exact List.map_congr_left fun x hx => by rw [(key x hx).1]
  refine ⟨?_, fun y hy => ?_, e⟩
  · rw [List.any_eq_false]
    intro x hx
    have := (key x hx).2
    cases e : numW x with
    | none => rw [e] at this; cases this
    | some n => simp
  · rw [← e] at hy
    have := vals_rng h y hy
    omega
section
variable {K : PySem.W.Frag} {w : World} {σ : L2.St} {H : Hp}
theorem gvt_noneIn {j : Nat} {v : V} {fs : List Str} (hj : σ[j]? = some (some v)) (hv : Dp K H v (.list (fs.map dNum))) : GvT (tTest (tOp (rIn K false) (tC .non) (tVar j))) σ H (fs.any fun x => (numW x).isNone) := fun H1 s Q q => by
  obtain ⟨a, xs, rfl, hq, hr⟩ := (hv.sm s).lstI
  rw [dpAll_num _ _ hr] at hq
  refine ⟨.ref a, hj, a, _, rfl, .inl hq, rfl, flat_num fs, ?_⟩
  exact ⟨_, rfl, by rw [inV_num]; exact q _ (Same.refl _)⟩
end
theorem gv_geI {K : PySem.W.Frag} {σ : L2.St} {H : Hp} {ta tb : TE} {i j : Int} (ha : Gv K ta σ H (.int i)) (hb : Gv K tb σ H (.int j)) : Gv K (tOp (rI0 fun i j => V.bl (decide (j ≤ i))) ta tb) σ H (.bool (decide (j ≤ i))) :=
  gv_op2 ha hb fun x y H1 Q s hx hy q => by
    cases hx; cases hy
    exact ⟨i, j, rfl, rfl, q _ _ (Same.refl _) (.bl _)⟩
theorem ix_int {ns : List Int} {k : Nat} (h : k < ns.length) : (ns.map PyData.int)[k]? = some (.int (ns.getD k 0)) := by
  rw [List.getElem?_map, List.getElem?_eq_getElem h, List.getD_eq_getElem?_getD, List.getElem?_eq_getElem h]; rfl
theorem adj_pw : ∀ {l : List Int}, (∀ k, k + 1 < l.length → l.getD k 0 < l.getD (k + 1) 0) → l.Pairwise (· < ·)
  | [], _ => .nil
  | [x], _ => List.pairwise_singleton _ _
  | x :: y :: r, h => by
    have h2 : (y :: r).Pairwise (· < ·) := adj_pw fun k hk => h (k + 1) (Nat.succ_lt_succ hk)
    refine List.pairwise_cons.mpr ⟨fun z hz => ?_, h2⟩
    have xy : x < y := h 0 (by simp)
    rcases List.mem_cons.mp hz with rfl | hz
    · exact xy
    · have := (List.pairwise_cons.mp h2).1 z hz; omega
theorem asc_adjL (ns : List Int) : ((List.range (ns.length - 1)).filter fun k => decide (ns.getD (1 + k) 0 ≤ ns.getD k 0)).isEmpty = decide (ns.Pairwise (· < ·)) := by
  have iff2 : ((List.range (ns.length - 1)).filter fun k => decide (ns.getD (1 + k) 0 ≤ ns.getD k 0)).isEmpty = true ↔ ns.Pairwise (· < ·) := by
    rw [List.isEmpty_iff, List.filter_eq_nil_iff]
    constructor
    · intro h
      refine adj_pw fun k hk => ?_
      have := h k (List.mem_range.mpr (by omega))
      rw [decide_eq_true_eq, Nat.add_comm 1 k] at this
      omega
    · intro h k hk
      have hk := List.mem_range.mp hk
      have := List.pairwise_iff_getElem.mp h k (1 + k) (by omega) (by omega) (by omega)
      rw [decide_eq_true_eq, List.getD_eq_getElem?_getD, List.getD_eq_getElem?_getD, List.getElem?_eq_getElem (show k < ns.length by omega), List.getElem?_eq_getElem (show 1 + k < ns.length by omega)]
      show ¬ (ns[1 + k] ≤ ns[k])
      omega
  exact Bool.eq_iff_iff.mpr (iff2.trans (by rw [decide_eq_true_eq]))
section
variable {K : PySem.W.Frag} {σ : L2.St} {H : Hp} {i : Nat} {a : Addr} {vs : List V}
theorem gv_neEV (hi : σ[i]? = some (some (.ref a))) (e : H a = some (.lst vs)) : Gv K (tOp rNeE1 (tVar i) (tLst tNil)) σ H (.bool (!vs.isEmpty)) := fun H1 s Q q => by
  refine ⟨.ref a, hi, Nat.zero_le _, fun p np => ?_⟩
  have sp := same_new (o := HO.lst []) np
  exact ⟨a, p, vs, rfl, rfl, sp _ _ (s _ _ e), upd_same, q _ _ sp (.bl _)⟩
end
theorem len_isE {α β : Type} {a : List α} {b : List β} (h : a.length = b.length) : a.isEmpty = b.isEmpty := by
  cases a <;> cases b <;> first | rfl | cases h
def nLList : List Str := ["_law_index", "_law_many", "_law_word", "_law_parts", "_law_found", "_law_wrong", "_law_one", "_law_k"]
theorem scLList : FnScope nLList ["_law_index", "_law_many", "_law_word"] (defScope sLList) := ⟨rfl, rfl, rfl, by decide +kernel, rfl, by decide +kernel, by decide +kernel⟩
section
variable {P : Program} {w : World} {K : PySem.W.Frag} {mg : Str → Option Value} {base : Heap}
def spLList (K : PySem.W.Frag) : Sp := fun vs H Q _ => ∃ (x : Str) (i m : Nat), vs = [.int (i : Int), .int (m : Int), .str x] ∧ x.length ≤ 640 ∧ i ≤ 1000 ∧ ∀ H' v, Same H H' → Dp K H' v (dL (lstW m i x)) → Q v H'
theorem ok_LList {fNum : Addr} {fdNum : FuncData} {f : Addr} {fd : FuncData} {k : Nat} (F : Fun K "_law_list_of" "_law_list_of" sLList f fd)
    (FNum : Fun K "_law_number" "_law_number" sNum fNum fdNum) (bNum : Binds K fdNum ["_law_word"] []) (gNum : mg "_law_number" = some (.ref fNum))
    (m_int : mg "int" = none) (m_len : mg "len" = none) (m_range : mg "range" = none) (m_str : mg "str" = none) (m_tuple : mg "tuple" = none) : FnOk P w K mg base CX0 (k + 2) f fd ["_law_index", "_law_many", "_law_word"] (spLList K) := by
  have GNum : FnOk P w K mg base CX0 (k + 1) fNum fdNum ["_law_word"] (spNum K) := ok_Num FNum m_int
  refine F.ok scLList (fun vs H Q E h => ?_) (fun cdv A outer s H vs Q E hr h => ?_)
  · obtain ⟨x, i, m, rfl, _⟩ := h
    rfl
  · obtain ⟨x, i, m, rfl, hx, hi, q⟩ := h
    refine ⟨_, pss_cons (ps_set (i := 3) scLList.nd rfl (.inl rfl) (pe_split (pv 2) pe_str))
      (pss_cons (ps_if (PW.pt (pw_or (pt_cmpR op_ne (pe_callB (show CallR _ _ (rLenG K) from cr_lenG) (by rfl) m_len PySem.boot_len (pa_cons (pv 3) pa_nil)) pe_int (nomark _)) (pw_or1 (pt_cmpR op_ne (pe_ix (show IxR _ (rIxL K) from ix_list) (pv 3) pe_int (fun _ _ => rfl)) (pe_callTy (show CallR _ _ rStrI from call_str_int) (by rfl) m_str (by decide +kernel) (pa_cons (pv 0) pa_nil)) (nomark _))))) (pss_one (ps_ret pe_non)) pss_nil)
      (pss_cons (ps_set (i := 4) scLList.nd rfl (.inr rfl) (pe_lc (own := [("_law_one", 6)]) (g := gName 6) (tt := tYes) rfl scLList.nd (show PI _ _ _ (iList K _) from pi_list (pe_split (pe_ix (show IxR _ (rIxL K) from ix_list) (pv 3) pe_int (fun _ _ => rfl)) pe_str)) (blkOk_by (own := [("_law_one", 6)]) (N := nLList) (sc := defScope sLList) (by decide +kernel)) (fun _ _ _ _ _ => pg_name (i := 6) scLList.nd rfl (Or.inl rfl)) (fun _ _ _ _ _ => pts_nil) (fun _ _ _ _ _ => pe_call GNum (hr.mono (by omega)) (by rfl) gNum FNum.kp bNum .nil pass0 (pa_cons (pv 6) pa_nil))))
      (pss_cons (ps_if (pt_cmpR op_eq (pe_ix (show IxR _ (rIxL K) from ix_list) (pv 3) pe_int (fun _ _ => rfl)) pe_str (nomark _)) (pss_one (ps_set (i := 4) scLList.nd rfl (.inr rfl) (pe_lst pa_nil))) pss_nil)
      (pss_cons (ps_if (PW.pt (pw_or (pt_cmpR (show OpR _ _ (rIn K false) from op_in_seq) pe_non (pv 4) (by rfl)) (pw_or1 (pt_cmpR (show OpR _ _ rNeE1 from op_neE1 hr.units) (pe_lc (own := [("_law_one", 6)]) (g := gName 6) rfl scLList.nd (show PI _ _ _ (iList K _) from pi_list (pv 4)) (blkOk_by (own := [("_law_one", 6)]) (N := nLList) (sc := defScope sLList) (by decide +kernel)) (fun _ _ _ _ _ => pg_name (i := 6) scLList.nd rfl (Or.inl rfl)) (fun _ _ _ _ _ => pts_one (PW.pt (pw_or (pt_cmpR op_ge (pv 6) (pv 1) (nomark _)) (pw_or1 (pt_cmpR op_eq (pv 6) (pv 0) (nomark _)))))) (fun _ _ _ _ _ => pv 6)) (pe_lst pa_nil) (nomark _))))) (pss_one (ps_ret pe_non)) pss_nil)
      (pss_cons (ps_setLc (i := 5) (own := [("_law_k", 7)]) (g := gName 7) rfl scLList.nd rfl rfl (sw_true rfl rfl rfl (by decide +kernel)) (pi_range2 (by rfl) m_range (pa_cons pe_int (pa_cons (pe_callB (show CallR _ _ (rLenG K) from cr_lenG) (by rfl) m_len PySem.boot_len (pa_cons (pv 4) pa_nil)) pa_nil))) (blkOk_by (own := [("_law_k", 7)]) (N := nLList) (sc := defScope sLList) (by decide +kernel)) (fun _ _ _ _ _ => pg_name (i := 7) scLList.nd rfl (Or.inl rfl)) (fun _ _ _ _ _ => pts_one (pt_cmpR op_ge (pe_ix (show IxR _ (rIxL K) from ix_list) (pv 4) (pe_op op_sub (pv 7) pe_int) (fun _ _ => rfl)) (pe_ix (show IxR _ (rIxL K) from ix_list) (pv 4) (pv 7) (fun _ _ => rfl)) (nomark _))) (fun _ _ _ _ _ => pv 7))
      (pss_one (ps_ret (pe_ifExp (pt_cmpR (show OpR _ _ rNeE1 from op_neE1 hr.units) (pv 5) (pe_lst pa_nil) (nomark _)) pe_non (pe_callTy (show CallR _ _ (rTupG K) from cr_tupG) (by rfl) m_tuple (by decide +kernel) (pa_cons (pv 4) pa_nil)))))))))), ?_⟩
    have dx : ∀ H, Dp K H (.str x) (.str x) := fun _ => .str x
    have htl := split_tot sep_gt x
    have hpl := tot_len (Txt.split x (">" : Str))
    refine gs_setN (K := K) (gn_split rfl (gv_var (i := 2) rfl (dx _)) gv_str (by decide +kernel) (by omega)) fun W vW H1 s1 nW eW dW => ?_
    have dP : Dp K H1 (.ref W) (.list ((Txt.split x (">" : Str)).map PyData.str)) := .lst (.inl (.inl eW)) dW
    rcases split_gt x with ⟨hneg, es⟩ | ⟨k, hk, es⟩
    · have el : lstW m i x = none := by unfold lstW; rw [if_pos hneg]
      rw [el] at q
      rw [es] at dP
      refine gs_if1 (gvt_or (b := true) (c := true) ((gvt_test (K := K) (gv_neI (gv_lenL (gv_var (i := 3) rfl dP)) gv_int)).to rfl) (fun Hy sy hb => by cases hb)) (fun _ H2 s2 => ?_) (fun hb H2 s2 => by cases hb)
      exact gs_ret gv_non fun v H3 s3 dv => q H3 v (s1.trans (s2.trans s3)) dv
    have e2 : lstW m i x = if cutS x none (some (k : Int)) ≠ numT (i : Int) then none else if okL m i (partsR (cutS x (some ((k : Int) + 1)) none)) = true then some (valsB m (partsR (cutS x (some ((k : Int) + 1)) none))) else none := by
      unfold lstW
      rw [if_neg (by rw [hk]; omega), hk]
    rw [e2] at q
    have hrl : (cutS x (some ((k : Int) + 1)) none).length ≤ 640 := Nat.le_trans (cutS_length x _ _) hx
    generalize cutS x (some ((k : Int) + 1)) none = rest at q hrl es
    generalize cutS x none (some (k : Int)) = name at q es
    by_cases h1 : (Txt.split rest (">" : Str)).length = 1
    rotate_left
    · have q' : ∀ H' v, Same H H' → Dp K H' v .none → Q v H' := by
        rw [okL_gt h1] at q
        split at q
        · exact q
        · exact q
      have hl2 : ((Txt.split x (">" : Str)).map PyData.str).length ≠ 2 := by rw [es, List.length_map, List.length_cons]; omega
      refine gs_if1 (gvt_or (b := true) (c := true) ((gvt_test (K := K) (gv_neI (gv_lenL (gv_var (i := 3) rfl dP)) gv_int)).to (by rw [decide_eq_false (by omega)]; rfl)) (fun Hy sy hb => by cases hb)) (fun _ H2 s2 => ?_) (fun hb H2 s2 => by cases hb)
      exact gs_ret gv_non fun v H3 s3 dv => q' H3 v (s1.trans (s2.trans s3)) dv
    have er : Txt.split rest (">" : Str) = [rest] := by
      rcases split_gt rest with ⟨_, e⟩ | ⟨j, _, e⟩
      · exact e
      · rw [e, List.length_cons] at h1
        exact absurd (List.eq_nil_of_length_eq_zero (Nat.succ.inj h1)) (split_ne sep_gt _)
    rw [es, er] at dP
    have dPs : ∀ {H'}, Same H1 H' → Dp K H' (.ref W) (.list ([name, rest].map PyData.str)) := fun s => dP.sm s
    refine gs_if1 (b := !decide (name = numT (i : Int))) ((gvt_or (b := false) ((gvt_test (K := K) (gv_neI (gv_lenL (gv_var (i := 3) rfl dP)) gv_int)).to rfl) (fun Hy sy _ => gvt_test (K := K) (gv_neS (gv_ixL (j := 0) (d := .str name) (gv_var (i := 3) rfl (dPs sy)) gv_int rfl rfl) (gv_numS (gv_var (i := 0) rfl (.int (i : Int))) (by omega) (by omega))))).to (by rw [Bool.false_or])) (fun hb H2 s2 => ?_) (fun hb H2 s2 => ?_)
    · rw [if_pos (by simpa using hb)] at q
      exact gs_ret gv_non fun v H3 s3 dv => q H3 v (s1.trans (s2.trans s3)) dv
    rw [if_neg (by simpa using hb)] at q
    have g1 : ∀ {H'}, Same H1 H' → Gv K (tOp (rIxL K) (tVar 3) (tC (.int 1))) [some (.int (i : Int)), some (.int (m : Int)), some (.str x), some (.ref W), none, none, none, none] H' (.str rest) := fun s => gv_ixL (j := 1) (d := .str rest) (gv_var (i := 3) rfl (dPs s)) gv_int rfl rfl
    have hcl := split_tot sep_co rest
    have hcn := tot_len (Txt.split rest ("," : Str))
    refine gs_setN (K := K) (gn_lc (K := K) (δ := PyData.str) (as := Txt.split rest ("," : Str)) (p := fun _ => true) (f := dNum) (gvi_list (gn_split rfl (g1 s2) gv_str (by decide +kernel) (by omega)).gv) (fun z vz Hz hz sz dz => ⟨gvt_yes, fun _ => gv_Num (gva_cons (gv_var (i := 6) rfl dz) gva_nil) (by
        have h2 := tot_mem hz
        omega)⟩) (fun _ _ => lf_num _) (by omega)) fun F vF H3 s3 nF eF dF => ?_
    have s23 := s2.trans s3
    have dF0 : Dp K H3 (.ref F) (.list ((Txt.split rest ("," : Str)).map dNum)) := .lst (.inl (.inl eF)) (by rwa [List.filter_eq_self.mpr (fun _ _ => rfl)] at dF)
    have hfl : (partsR rest).length ≤ 641 := by
      unfold partsR
      split
      · decide
      · omega
    refine gs_seqJ (fun σ H4 => Same H3 H4 ∧ ∃ vF, Dp K H4 vF (.list ((partsR rest).map dNum)) ∧ σ = [some (.int (i : Int)), some (.int (m : Int)), some (.str x), some (.ref W), some vF, none, none, none]) (fun σ H4 hP => ?fin) fun hk0 => ?main
    case main =>
      refine gs_if (gvt_test (K := K) (gv_eqS (gv_ixL (j := 1) (d := .str rest) (gv_var (i := 3) rfl (dPs s23)) gv_int rfl rfl) gv_str)) (fun hb2 H4 s4 => ?_) (fun hb2 H4 s4 => ?_)
      · have hr : rest = ("" : Str) := of_decide_eq_true hb2
        have ep : partsR rest = [] := if_pos hr
        refine ⟨Nat.zero_le _, fun p np => hk0 _ _ ⟨s4.trans (same_new np), .ref p, ?_, rfl⟩⟩
        rw [ep]
        exact .lst (.inl (.inl upd_same)) .nil
      · have hr : rest ≠ ("" : Str) := of_decide_eq_false hb2
        have ep : partsR rest = Txt.split rest ("," : Str) := if_neg hr
        exact hk0 _ _ ⟨s4, .ref F, by rw [ep]; exact dF0.sm s4, rfl⟩
    obtain ⟨s4, vF, dF4, rfl⟩ := hP
    clear dF0 dF eF hcl hcn g1
    have s04 := s1.trans (s23.trans s4)
    generalize partsR rest = fs at q dF4 hfl
    have no : okL m i fs = true → (fs.any fun x => (numW x).isNone) = false ∧ (∀ y ∈ valsN fs, y < (m : Int)) ∧ valsB m fs = valsN fs ∧ (i : Int) ∉ valsN fs ∧ (valsN fs).Pairwise (· < ·) := fun h => by
      unfold okL at h
      rw [Bool.and_eq_true, Bool.and_eq_true] at h
      obtain ⟨⟨h1, h2⟩, h3⟩ := h
      obtain ⟨a1, a2, a3⟩ := vals_all h1
      rw [a3] at h2 h3
      exact ⟨a1, a2, a3, by simpa using h3, of_decide_eq_true h2⟩
    refine gs_if1 (b := (fs.any fun x => (numW x).isNone) || !((valsN fs).filter fun y => decide ((m : Int) ≤ y) || decide (y = (i : Int))).isEmpty) (gvt_or (gvt_noneIn (K := K) (j := 4) rfl dF4) (fun Hy sy hb => ?_)) (fun hb H5 s5 => ?_) (fun hb H5 s5 => ?_)
    · have dF2 := dF4.sm sy
      rw [num_vals hb] at dF2
      exact ((gvt_test (K := K) (gv_neEL (gn_lc (K := K) (δ := PyData.int) (as := valsN fs) (p := fun y => decide ((m : Int) ≤ y) || decide (y = (i : Int))) (f := PyData.int) (gvi_list (gv_var (i := 4) rfl dF2)) (fun y vy Hx hy sx dy => ⟨gvt_or (gvt_test (gv_geI (gv_var (i := 6) rfl dy) (gv_var (i := 1) rfl (.int (m : Int))))) (fun Hz sz _ => gvt_test (gv_eqI (gv_var (i := 6) rfl (dy.sm sz)) (gv_var (i := 0) rfl (.int (i : Int))))), fun _ => gv_var (i := 6) rfl dy⟩) (fun _ _ => rfl) (by unfold valsN; rw [List.length_map]; omega)))).to (by rw [List.isEmpty_map]))
    · have hno : ¬ okL m i fs = true := fun h => by
        obtain ⟨a1, a2, a3, a4, a5⟩ := no h
        rw [a1, Bool.false_or] at hb
        cases hf : (valsN fs).filter fun y => decide ((m : Int) ≤ y) || decide (y = (i : Int)) with
        | nil => rw [hf] at hb; cases hb
        | cons y r =>
          have : y ∈ (valsN fs).filter fun y => decide ((m : Int) ≤ y) || decide (y = (i : Int)) := by rw [hf]; exact List.mem_cons_self
          obtain ⟨h1, h2⟩ := List.mem_filter.mp this
          have := a2 y h1
          rw [Bool.or_eq_true, decide_eq_true_eq, decide_eq_true_eq] at h2
          rcases h2 with h2 | h2
          · omega
          · exact a4 (h2 ▸ h1)
      rw [if_neg hno] at q
      exact gs_ret gv_non fun v H6 s6 dv => q H6 v (s04.trans (s5.trans s6)) dv
    rw [Bool.or_eq_false_iff] at hb
    obtain ⟨b1, b2⟩ := hb
    have b3 : ∀ y ∈ valsN fs, y < (m : Int) ∧ y ≠ (i : Int) := fun y hy => by
      refine Classical.byContradiction fun z => ?_
      have : y ∈ (valsN fs).filter fun y => decide ((m : Int) ≤ y) || decide (y = (i : Int)) := List.mem_filter.mpr ⟨hy, by
        rw [Bool.or_eq_true, decide_eq_true_eq, decide_eq_true_eq]
        rcases Classical.em ((m : Int) ≤ y) with h | h
        · exact .inl h
        · exact .inr (Classical.byContradiction fun w => z ⟨by omega, w⟩)⟩
      cases hf : (valsN fs).filter fun y => decide ((m : Int) ≤ y) || decide (y = (i : Int)) with
      | nil => rw [hf] at this; cases this
      | cons a r => rw [hf] at b2; cases b2
    obtain ⟨c1, c2⟩ := vals_small b1 fun y hy => (b3 y hy).1
    have dF5 := dF4.sm s5
    rw [num_vals b1] at dF5
    have hvl : (valsN fs).length ≤ 641 := by unfold valsN; rw [List.length_map]; exact hfl
    have eok : okL m i fs = decide ((valsN fs).Pairwise (· < ·)) := by
      unfold okL
      rw [c1, c2, Bool.true_and, decide_eq_false (fun h => (b3 _ h).2 rfl)]; simp
    rw [eok, c2] at q
    refine gs_setN (K := K) (gn_lc (i := 7) (δ := fun k : Nat => PyData.int ((1 + k : Nat) : Int)) (as := List.range ((valsN fs).length - 1)) (p := fun k => decide ((valsN fs).getD (1 + k) 0 ≤ (valsN fs).getD k 0)) (f := fun k : Nat => PyData.int ((1 + k : Nat) : Int)) (gvi_range2 (lo := 1) (n := (valsN fs).length) gv_int ((gv_lenL (gv_var (i := 4) rfl dF5)).to (by rw [List.length_map])) (by decide) (by omega)) (fun k vk H8 hk s8 dk => ?_) (fun _ _ => rfl) (by rw [List.length_range]; omega)) fun Z vZ H6 s6 nZ eZ dZ => ?_
    · have hk' : k < (valsN fs).length - 1 := List.mem_range.mp hk
      refine ⟨gvt_test (gv_geI (gv_ixL (j := k) (i := (k : Int)) (gv_var (i := 4) rfl (dF5.sm s8)) ((gv_sub (gv_var (i := 7) rfl dk) gv_int).to ?_) rfl (ix_int (by omega))) (gv_ixL (j := 1 + k) (gv_var (i := 4) rfl (dF5.sm s8)) (gv_var (i := 7) rfl dk) rfl (ix_int (by omega)))), fun _ => gv_var (i := 7) rfl dk⟩
      congr 1; omega
    have dF6 := dF5.sm s6
    have ez : vZ.isEmpty = decide ((valsN fs).Pairwise (· < ·)) := by
      rw [← asc_adjL]
      refine len_isE ?_
      rw [dZ.length, List.length_map]
    refine gs_ret (K := K) ((gv_if (gvt_test (K := K) (gv_neEV (i := 5) rfl eZ)) (fun _ => gv_non) (fun _ => gv_tupL (gv_var (i := 4) rfl dF6)))) fun v H7 s7 dv => q H7 v (s04.trans (s5.trans (s6.trans s7))) ?_
    rw [ez] at dv
    by_cases hp : (valsN fs).Pairwise (· < ·)
    · rw [decide_eq_true hp] at dv ⊢
      exact dv
    · rw [decide_eq_false hp] at dv ⊢
      exact dv
end
end K52
namespace K52
open PySem PySem.Spec PyProof.Rows L2 Pr
def resTM (x : Str) : PyData := match badP (Txt.split x (" " : Str)).length 0 (Txt.split x (" " : Str)) with | some i => .list [.str "text", .int (i : Int)] | none => dPan (valsP (Txt.split x (" " : Str)).length (Txt.split x (" " : Str)))
def resT : PyData → PyData
  | .str x => resTM x
  | _ => .list [.str "text", .none]
def isLd : PyData → Bool
  | .list _ => true
  | _ => false
def DueAt (K : PySem.W.Frag) (H : Hp) (u : V) (d : PyData) : Prop := Dp K H u (resT d) ∧ (isLd (resT d) = true → ∃ l xs, u = .ref l ∧ H l = some (.lst xs))
theorem DueAt.same {K : PySem.W.Frag} {H H' : Hp} {u : V} {d : PyData} (h : DueAt K H u d) (s : Same H H') : DueAt K H' u d := ⟨h.1.sm s, fun z => let ⟨l, xs, e, q⟩ := h.2 z; ⟨l, xs, e, s _ _ q⟩⟩
theorem ret_lst {K : PySem.W.Frag} {σ : L2.St} {H : Hp} {ta : TA} {ds : List PyData} {D : Ends} (h : GvA K ta σ H ds) (hl : ds.length ≤ sizeLine) (q : ∀ l vs H', Same H H' → H' l = some (.lst vs) → DpAll K H' vs ds → D.rt (.ref l) H') : tRet (tLst ta) D σ H := (gn_lst h hl).at fun a vs H' s n e d => q a vs H' s e d
theorem gs_parQ {σ : L2.St} {H : Hp} {ta : TA} {i j : Nat} {u : TS} {D : Ends} (h : ta σ H fun vs H' => ∃ v z, vs = [v, z] ∧ u D ((σ.set i (some v)).set j (some z)) H') : tSeq (tPar i j ta) u D σ H := h
theorem tconsN_at {K : PySem.W.Frag} {t : TE} {tr : TA} {σ : L2.St} {H : Hp} {ds : List PyData} {Q : List V → Hp → Prop} (h : GvN K t σ H ds) (q : ∀ a vs H', Same H H' → H a = none → H' a = some (.lst vs) → DpAll K H' vs ds → tr σ H' fun us H2 => Q (.ref a :: us) H2) : tCons t tr σ H Q := h.at fun a vs H' s n e dv => q a vs H' s n e dv
def nDue : List Str := ["_law_value", "_law_words", "_law_panel_here", "_law_index", "_law_word", "_law_own"]
theorem scDue : FnScope nDue ["_law_value"] (defScope sDue) := ⟨rfl, rfl, rfl, by decide +kernel, rfl, by decide +kernel, by decide +kernel⟩
section
variable {P : Program} {w : World} {K : PySem.W.Frag} {mg : Str → Option Value} {base : Heap}
def spDue (K : PySem.W.Frag) : Sp := fun vs H Q _ => ∃ (N : Addr → Prop) (v : V) (d : PyData), vs = [v] ∧ Dq K N H v d ∧ (∀ x, d = .str x → x.length ≤ 640) ∧ ∀ H' u, Same H H' → DueAt K H' u d → Q u H'
theorem ok_Due {fNum : Addr} {fdNum : FuncData} {fLList : Addr} {fdLList : FuncData} {f : Addr} {fd : FuncData} {k : Nat} (F : Fun K "_law_due" "_law_due" sDue f fd)
    (FNum : Fun K "_law_number" "_law_number" sNum fNum fdNum) (bNum : Binds K fdNum ["_law_word"] []) (gNum : mg "_law_number" = some (.ref fNum))
    (FLList : Fun K "_law_list_of" "_law_list_of" sLList fLList fdLList) (bLList : Binds K fdLList ["_law_index", "_law_many", "_law_word"] []) (gLList : mg "_law_list_of" = some (.ref fLList))
    (m_enumerate : mg "enumerate" = none) (m_int : mg "int" = none) (m_isinstance : mg "isinstance" = none) (m_len : mg "len" = none) (m_range : mg "range" = none) (m_str : mg "str" = none) (m_tuple : mg "tuple" = none) : FnOk P w K mg base CX0 (k + 3) f fd ["_law_value"] (spDue K) := by
  have GLList : FnOk P w K mg base CX0 (k + 2) fLList fdLList ["_law_index", "_law_many", "_law_word"] (spLList K) := ok_LList FLList FNum bNum gNum m_int m_len m_range m_str m_tuple
  refine F.ok scDue (fun vs H Q E h => ?_) (fun cdv A outer s H vs Q E hr h => ?_)
  · obtain ⟨N, v, d, rfl, _⟩ := h
    rfl
  · obtain ⟨N, v, d, rfl, hd, hl, q⟩ := h
    refine ⟨_, pss_cons (ps_if (pt_not (pt_val (pe_callB (show CallR _ _ (rIsi K) from call_isi) (by rfl) m_isinstance (by decide +kernel) (pa_cons (pv 0) (pa_cons (pe_bltn (v := .ty "str") (by rfl) m_str (by decide +kernel) rfl) pa_nil))))) (pss_one (ps_ret (pe_lst (pa_cons pe_str (pa_cons pe_non pa_nil))))) pss_nil)
      (pss_cons (ps_par (i := 1) (j := 2) rfl scDue.nd rfl rfl (by decide) rfl rfl (pa_cons (pe_split (pv 0) pe_str) (pa_cons (pe_lst pa_nil) pa_nil)) (by rfl))
      (pss_cons (ps_for PassesOwn.never rfl (pi_enum (by rfl) m_enumerate (pa_cons (pv 1) pa_nil)) (pg_tup rfl (pgs_cons (pg_name (i := 3) scDue.nd rfl (Or.inl rfl)) (pgs_cons (pg_name (i := 4) scDue.nd rfl (Or.inl rfl)) pgs_nil))) (pss_cons (ps_set (i := 5) scDue.nd rfl (.inl rfl) (pe_call GLList (hr.mono (by omega)) (by rfl) gLList FLList.kp bLList .nil pass0 (pa_cons (pv 3) (pa_cons (pe_callB (show CallR _ _ (rLenG K) from cr_lenG) (by rfl) m_len PySem.boot_len (pa_cons (pv 1) pa_nil)) (pa_cons (pv 4) pa_nil)))))
      (pss_cons (ps_if (PW.pt (pw_or (pt_cmpR op_isN (pv 5) pe_non (by rfl)) (pw_or1 (pt_cmpR op_eq (pv 3) pe_int (nomark _))))) (pss_one (ps_ret (pe_lst (pa_cons pe_str (pa_cons (pv 3) pa_nil))))) pss_nil)
      (pss_one (ps_expr (show PE _ _ (tBM K "list" rAppend _ _) from pe_bm PySem.F.plainAttrs_list PySem.F.slot_list_append PySem.F.type_list_append mt_append (pv 2) (pa_cons (pv 5) pa_nil)))))))
      (pss_one (ps_ret (pe_callTy (show CallR _ _ (rTupG K) from cr_tupG) (by rfl) m_tuple (by decide +kernel) (pa_cons (pv 2) pa_nil)))))), ?_⟩
    refine ⟨v, rfl, v, .ty "str", _, _, _, rfl, .ty "str", hd.ty, isS_kit d, _, rfl, ?_⟩
    cases e : isS d with
    | false =>
      have er : resT d = .list [.str "text", .none] := by cases d <;> first | rfl | cases e
      refine iteT (ret_lst (K := K) (gva_cons gv_str (gva_cons gv_non gva_nil)) (by show 2 ≤ sizeLine; decide) fun l vs H2 s2 e2 d2 => q H2 (.ref l) s2 ⟨by rw [er]; exact .lst (.inl (.inl e2)) d2, fun _ => ⟨l, vs, rfl, e2⟩⟩)
    | true =>
      obtain ⟨x, rfl⟩ : ∃ x, d = .str x := by
        cases d <;> first | exact ⟨_, rfl⟩ | cases e
      cases hd
      have hx := hl x rfl
      refine iteF ?_
      have dx : Dp K H (.str x) (.str x) := .str x
      have hcnt := split_tot sep_sp x
      have hcn2 := tot_len (Txt.split x (" " : Str))
      have wl : ∀ z ∈ Txt.split x (" " : Str), z.length ≤ 640 := fun z hz => by
        have h1 := split_tot sep_sp x
        have h2 := tot_mem hz
        omega
      have er : resT (.str x) = (match badP (Txt.split x (" " : Str)).length 0 (Txt.split x (" " : Str)) with | some i => .list [.str "text", .int (i : Int)] | none => dPan (valsP (Txt.split x (" " : Str)).length (Txt.split x (" " : Str)))) := rfl
      unfold tNext
      dsimp only
      refine gs_parQ ?_
      refine tconsN_at (K := K) (gn_split rfl (gv_var (i := 0) rfl dx) gv_str (by decide +kernel) (by omega)) fun W vW H1 s1 nW eW dW => ?_
      have evW := dpAll_strJ dW
      subst evW
      have wn : (Txt.split x (" " : Str)).length ≤ 641 := by omega
      clear hcnt hcn2
      generalize Txt.split x (" " : Str) = ws at eW dW wn wl er
      refine ⟨Nat.zero_le _, fun R nR => ⟨_, _, rfl, ?_⟩⟩
      have sR := same_new (o := HO.lst []) nR
      have eW2 := sR _ _ eW
      have WR : W ≠ R := ne_of_none eW nR
      have nR0 : H R = none := s1.free nR
      have eR : (upd H1 R (.lst [])) R = some (.lst []) := upd_same
      have s02 := s1.trans sR
      generalize upd H1 R (.lst []) = H2 at sR eW2 eR s02 ⊢
      refine ⟨.ref W, rfl, W, _, rfl, .inl (.inl eW2), ?_⟩
      refine for_it (walk_enum (xs := ws.map V.str)) (fun i σ H' => (∀ b o, b ≠ R → H2 b = some o → H' b = some o) ∧ Kp H2 H' ∧ (∃ vs, H' R = some (.lst vs) ∧ DpAll K H' vs ((valsP ws.length (ws.take i)).map dInts)) ∧ (∀ j z, j < i → ws[j]? = some z → okP ws.length j z) ∧ ∃ x3 x4 x5, σ = [some (.str x), some (.ref W), some (.ref R), x3, x4, x5])
        ⟨fun _ _ _ eb => eb, Kp.refl _, ⟨[], eR, by rw [List.take_zero]; exact .nil⟩, fun j z h => absurd h (Nat.not_lt_zero _), _, _, _, rfl⟩ (fun i σ H' _ hP => .inl (.inl (hP.1 _ _ WR eW2))) (fun i u σ H6 H7 hi hP hY => ?_) (fun σ H6 hP => ?_)
      · obtain ⟨b6, k6, ⟨vs, eR6, dR6⟩, hok, x3, x4, x5, rfl⟩ := hP
        obtain ⟨Te, y1, y2, rfl, nT, rfl, e1, e2⟩ := hY
        cases e1
        obtain ⟨z, hz, rfl⟩ := str_get e2
        have il : i < ws.length := (List.getElem?_eq_some_iff.mp hz).1
        have sT : Same H6 (upd H6 Te (.tup [.int (i : Nat), .str z])) := same_new nT
        refine ⟨Te, _, rfl, .inl (.inl upd_same), rfl, _, _, rfl, _, _, rfl, rfl, ?_⟩
        have eR7 := sT _ _ eR6
        have eW7 := sT _ _ (b6 _ _ WR eW2)
        have b7 : ∀ b o, b ≠ R → H2 b = some o → (upd H6 Te (.tup [.int (i : Nat), .str z])) b = some o := fun b o hb eb => sT _ _ (b6 b o hb eb)
        have k7 := k6.trans (Kp.of sT)
        have dR7 := dR6.sm sT
        generalize upd H6 Te (.tup [.int (i : Nat), .str z]) = H7 at eR7 eW7 b7 k7 dR7 ⊢
        have bad : (lstW ws.length i z = none ∨ i = 10) → resT (.str x) = .list [.str "text", .int (i : Int)] := fun hb => by rw [er, badP_at hz hok hb]
        have s07 : Same H H7 := fun b o eb => b7 b o (ne_of_none eb nR0) (s02 _ _ eb)
        refine ⟨.int (i : Nat), rfl, (gv_lenL1 (K := K) (i := 1) rfl eW7).at fun vn H9 s9 dn => ?_⟩
        cases dn
        rw [List.length_map]
        refine ⟨.str z, rfl, z, i, ws.length, rfl, wl z (List.mem_of_getElem? hz), by omega, fun H8 v8 s98 d8 => ?_⟩
        have s8 := s9.trans s98
        have s08 := s07.trans s8
        have eR8 := s8 _ _ eR7
        cases ho : lstW ws.length i z with
        | none =>
          rw [ho] at d8
          refine gs_if (gvt_or (b := true) (c := false) (gvt_test (K := K) (gv_isN (gv_var (i := 5) rfl d8) rfl)) (fun Hy sy hb => by cases hb)) (fun _ H9 s9 => ?_) (fun hb H9 s9 => by cases hb)
          refine ret_lst (K := K) (gva_cons gv_str (gva_cons (gv_var (i := 3) rfl (.int _)) gva_nil)) (by show 2 ≤ sizeLine; decide) fun l' vs' H10 s10 e10 d10 => q H10 (.ref l') (s08.trans (s9.trans s10)) ⟨?_, fun _ => ⟨l', vs', rfl, e10⟩⟩
          rw [bad (.inl ho)]
          exact .lst (.inl (.inl e10)) d10
        | some l =>
          rw [ho] at d8
          have d8' : Dp K H8 v8 (dInts l) := d8
          refine gs_if (gvt_or (gvt_test (K := K) (gv_isN (d := dInts l) (gv_var (i := 5) rfl d8') rfl)) (fun Hy sy _ => gvt_test (K := K) (gv_eqI (gv_var (i := 3) rfl (.int (i : Nat))) gv_int))) (fun hb H9 s9 => ?_) (fun hb H9 s9 => ?_)
          · refine ret_lst (K := K) (gva_cons gv_str (gva_cons (gv_var (i := 3) rfl (.int _)) gva_nil)) (by show 2 ≤ sizeLine; decide) fun l' vs' H10 s10 e10 d10 => q H10 (.ref l') (s08.trans (s9.trans s10)) ⟨?_, fun _ => ⟨l', vs', rfl, e10⟩⟩
            have hb : (false || decide ((i : Int) = 10)) = true := hb
            rw [Bool.false_or, decide_eq_true_eq] at hb
            rw [bad (.inr (by omega))]
            exact .lst (.inl (.inl e10)) d10
          · have hb : (false || decide ((i : Int) = 10)) = false := hb
            rw [Bool.false_or, decide_eq_false_iff_not] at hb
            have eR9 := s9 _ _ eR8
            have s89 := s8.trans s9
            have d9' := d8'.sm s9
            obtain ⟨a8, rfl, hq8⟩ := d9'.intsI
            refine ⟨.ref R, rfl, .inl ⟨rfl, _, .inl (.inl eR9)⟩, .ref a8, rfl, ?_⟩
            refine ⟨R, _, .ref a8, rfl, rfl, eR9, ?_, ?_⟩
            · have := dR7.length
              unfold valsP at this
              rw [List.length_map, List.length_map, List.length_zipIdx, List.length_take] at this
              exact small1000 (by omega)
            · have kU : Kp H9 (upd H9 R (.lst (vs ++ [.ref a8]))) := Kp.upd eR9
              refine ⟨fun c o hc eb => by rw [upd_ne hc]; exact s89 _ _ (b7 c o hc eb), (k7.trans (Kp.of s89)).trans kU, ⟨_, upd_same, ?_⟩, fun j z' hj hz' => ?_, _, _, _, rfl⟩
              · rw [valsP_take hz, ho, List.map_append]
                exact (dpAll_kp kU _ _ (lfAll_of fun d hd => by obtain ⟨l, _, rfl⟩ := List.mem_map.mp hd; exact lf_ints l) (dR7.sm s89)).append (.cons (d9'.kp kU) .nil)
              · rcases Nat.lt_or_ge j i with h | h
                · exact hok j z' h hz'
                · have : j = i := by omega
                  subst this
                  rw [hz] at hz'
                  cases hz'
                  intro hb'
                  rcases hb' with hb' | hb'
                  · rw [ho] at hb'; cases hb'
                  · exact hb (by omega)
      · obtain ⟨b6, k6, ⟨vs, eR6, dR6⟩, hok, x3, x4, x5, rfl⟩ := hP
        rw [List.length_map, List.take_length] at dR6
        rw [List.length_map] at hok
        have hbad : badP ws.length 0 ws = none := badP_all fun j z hz => hok j z (List.getElem?_eq_some_iff.mp hz).1 hz
        have s06 : Same H H6 := fun b o eb => b6 b o (ne_of_none eb nR0) (s02 _ _ eb)
        refine ⟨.ref R, rfl, R, _, rfl, .inl ⟨.inl (.inl eR6), fun Te nT => ?_⟩⟩
        refine q _ _ (s06.trans (same_new nT)) ⟨?_, fun z => by rw [er, hbad] at z; cases z⟩
        rw [er, hbad]
        exact (.tup (.inl (.inl upd_same)) (dR6.sm (same_new nT)))
end
end K52
namespace K52
open PySem PySem.Spec PyProof.Rows L2 Pr
structure OkW (pan : List (List Int)) : Prop where
  few : pan.length ≤ 11
  sh : ∀ l ∈ pan, l.length ≤ 10
  dg : ∀ l ∈ pan, ∀ x ∈ l, Dg x
theorem tot_le {n : Nat} : ∀ {ws : List Str}, (∀ z ∈ ws, z.length ≤ n) → totW ws ≤ ws.length * (n + 1)
  | [], _ => Nat.zero_le _
  | a :: r, h => by
    have h1 := h a List.mem_cons_self
    have h2 := tot_le (ws := r) fun z hz => h z (List.mem_cons_of_mem _ hz)
    unfold totW at *
    rw [List.map_cons, List.sum_cons, List.length_cons, Nat.succ_mul]
    omega
theorem dpAll_strsD {K : PySem.W.Frag} {H : Hp} (l : List Str) : DpAll K H (l.map V.str) (l.map PyData.str) := by
  induction l with
  | nil => exact .nil
  | cons x l ih => exact .cons (.str x) ih
def nLPanT : List Str := ["_law_panel_here", "_law_words", "_law_index", "_law_own", "_law_one"]
theorem scLPanT : FnScope nLPanT ["_law_panel_here"] (defScope sLPanT) := ⟨rfl, rfl, rfl, by decide +kernel, rfl, by decide +kernel, by decide +kernel⟩
section
variable {P : Program} {w : World} {K : PySem.W.Frag} {mg : Str → Option Value} {base : Heap}
def spLPanT (K : PySem.W.Frag) : Sp := fun vs H Q _ => ∃ (v : V) (pan : List (List Int)), vs = [v] ∧ Dp K H v (dPan pan) ∧ OkW pan ∧ ∀ H' x, Same H H' → x.length ≤ 300 → Q (.str x) H'
theorem ok_LPanT  {f : Addr} {fd : FuncData} {k : Nat} (F : Fun K "_law_text" "_law_text" sLPanT f fd)
    (m_enumerate : mg "enumerate" = none) (m_str : mg "str" = none) : FnOk P w K mg base CX0 (k + 1) f fd ["_law_panel_here"] (spLPanT K) := by
  refine F.ok scLPanT (fun vs H Q E h => ?_) (fun cdv A outer s H vs Q E hr h => ?_)
  · obtain ⟨v, pan, rfl, _⟩ := h
    rfl
  · obtain ⟨v1, pan, rfl, d1, hc, q⟩ := h
    refine ⟨_, pss_cons (ps_set (i := 1) scLPanT.nd rfl (.inl rfl) (pe_lst pa_nil))
      (pss_cons (ps_for PassesOwn.never rfl (pi_enumT (by rfl) m_enumerate (pa_cons (pv 0) pa_nil)) (pg_tup rfl (pgs_cons (pg_name (i := 2) scLPanT.nd rfl (Or.inl rfl)) (pgs_cons (pg_name (i := 3) scLPanT.nd rfl (Or.inl rfl)) pgs_nil))) (pss_one (ps_expr (show PE _ _ (tBM K "list" rAppend _ _) from pe_bm PySem.F.plainAttrs_list PySem.F.slot_list_append PySem.F.type_list_append mt_append (pv 1) (pa_cons (pe_op op_add_str (pe_op op_add_str (pe_callTy (show CallR _ _ rStrI from call_str_int) (by rfl) m_str (by decide +kernel) (pa_cons (pv 2) pa_nil)) pe_str) (pe_join pe_str (pe_lc (own := [("_law_one", 4)]) (g := gName 4) (tt := tYes) rfl scLPanT.nd (show PI _ _ _ (iTup K _) from pi_tup (pv 3)) (blkOk_by (own := [("_law_one", 4)]) (N := nLPanT) (sc := defScope sLPanT) (by decide +kernel)) (fun _ _ _ _ _ => pg_name (i := 4) scLPanT.nd rfl (Or.inl rfl)) (fun _ _ _ _ _ => pts_nil) (fun _ _ _ _ _ => pe_callTy (show CallR _ _ rStrI from call_str_int) (by rfl) m_str (by decide +kernel) (pa_cons (pv 4) pa_nil))))) pa_nil)))))
      (pss_one (ps_ret (pe_join pe_str (pv 1))))), ?_⟩
    have few := hc.few
    have sj : Sm 1 ("," : Str) := ⟨by decide +kernel, by decide +kernel⟩
    have n2 : ∀ n < 12, (numT ((n : Nat) : Int)).length ≤ 2 := by decide +kernel
    refine gs_setN (K := K) (gn_lst gva_nil) fun D vs0 H1 s1 nD eD dv0 => ?_
    cases dv0
    refine gs_for (K := K) (ds := pan.zipIdx.map fun x => .tuple [.int (x.2 : Nat), dInts x.1]) (gvi_enumTK (δ := dInts) (gv_var (i := 0) rfl (d1.sm s1)) (fun a _ => lf_ints a)) (fun Ha k σ H' => (∀ b o, b ≠ D → Ha b = some o → H' b = some o) ∧ Kp Ha H' ∧ (∃ ws : List Str, H' D = some (.lst (ws.map V.str)) ∧ ws.length = k ∧ ∀ z ∈ ws, z.length ≤ 23) ∧ ∃ x2 x3 x4, σ = [some v1, some (.ref D), x2, x3, x4])
      (fun H2 s2 => ⟨fun _ _ _ e => e, Kp.refl _, ⟨[], s2 _ _ eD, rfl, fun z hz => by cases hz⟩, _, _, _, rfl⟩) (fun H2 k σ H' s2 hP => hP.2.1) (fun H2 k x d σ H3 H4 s2 hk hP s4 dx => ?_) (fun H2 σ H3 s2 hP => ?_)
    · obtain ⟨but, kp, ⟨ws, eD3, wl, wz⟩, x2, x3, x4, rfl⟩ := hP
      obtain ⟨y, hy, rfl⟩ : ∃ y, pan.zipIdx[k]? = some y ∧ d = .tuple [.int (y.2 : Nat), dInts y.1] := by
        rw [List.getElem?_map] at hk
        cases e : pan.zipIdx[k]? with
        | none => rw [e] at hk; cases hk
        | some y => rw [e] at hk; cases hk; exact ⟨y, rfl, rfl⟩
      have hkl : k < pan.zipIdx.length := (List.getElem?_eq_some_iff.mp hy).1
      rw [List.length_zipIdx] at hkl
      have hz := zip_ix (List.mem_of_getElem? hy)
      have hsh := hc.sh _ hz.2
      have hdg := hc.dg _ hz.2
      have hix : y.2 < 12 := by omega
      have sn : ∀ p ∈ y.1.map numT, Sm 1 p := fun p hp => by
        obtain ⟨x, hx, rfl⟩ := List.mem_map.mp hp
        exact sm_num (hdg x hx)
      have l1 := (sm_join sj sn).ln
      rw [List.length_map] at l1
      have l2 := n2 y.2 hix
      obtain ⟨a, xs, rfl, hq, hr'⟩ := dx.tupI
      obtain ⟨u1, u2, rfl, dd1, dd2⟩ := dpAll2 hr'
      cases dd1
      refine ⟨a, _, rfl, hq, rfl, _, [u2], rfl, u2, [], rfl, rfl, ?_⟩
      have eD4 := s4 _ _ eD3
      refine ⟨.ref D, rfl, .inl ⟨rfl, _, .inl (.inl eD4)⟩, (gv_addS (K := K) (gv_addS (gv_numS (gv_var (i := 2) rfl (.int (y.2 : Nat))) (by omega) (by omega)) gv_str (by have z1 : (">" : Str).length = 1 := (by decide +kernel); omega) rfl) (gv_joinT (n := 1) (ys := y.1.map numT) gv_str ((gv_lc (δ := PyData.int) (as := y.1) (p := fun _ => true) (f := fun x : Int => .str (numT x)) (gvi_tup (gv_var (i := 3) rfl dd2)) (fun x v H1 hx s dx => ⟨gvt_yes, fun _ => gv_numT (gv_var (i := 4) rfl dx) (hdg x hx)⟩) (fun _ _ => rfl) (by omega)).to (by rw [List.filter_eq_self.mpr (fun _ _ => rfl), List.map_map]; rfl)) (fun y hy => Nat.le_trans (sn y hy).ln (by decide)) (by rw [List.length_map]; omega) (by decide +kernel) rfl) (by rw [Str.length_append]; have z1 : (">" : Str).length = 1 := (by decide +kernel); omega) rfl).at fun vt H5 s5 dt => ?_⟩
      cases dt
      have eD5 := s5 _ _ eD4
      refine ⟨D, _, _, rfl, rfl, eD5, ?_, fun b o hb e => ?_, kp.trans ((Kp.of (s4.trans s5)).trans (Kp.upd eD5)), ⟨ws ++ [numT (y.2 : Nat) ++ (">" : Str) ++ Txt.join ("," : Str) (y.1.map numT)], ?_, ?_, ?_⟩, _, _, _, rfl⟩
      · rw [List.length_map]; exact small1000 (by omega)
      · rw [upd_ne hb]; exact s5 _ _ (s4 _ _ (but b o hb e))
      · rw [upd_same, List.map_append]; rfl
      · rw [List.length_append, wl]; rfl
      · intro z hz'
        rcases List.mem_append.mp hz' with h | h
        · exact wz z h
        · rw [List.mem_singleton.mp h, Str.length_append, Str.length_append]
          have z1 : (">" : Str).length = 1 := by decide +kernel
          omega
    · obtain ⟨but, kp, ⟨ws, eD3, wl, wz⟩, x2, x3, x4, rfl⟩ := hP
      rw [List.length_map, List.length_zipIdx] at wl
      have dW : Dp K H3 (.ref D) (.list (ws.map PyData.str)) := .lst (.inl (.inl eD3)) (dpAll_strsD _)
      have ht := join_tot sep_sp ws
      have ht2 := tot_le wz
      have ht3 : ws.length * (23 + 1) ≤ 11 * 24 := Nat.mul_le_mul_right 24 (by omega)
      refine gs_ret (gv_joinT (n := 1) (K := K) (ys := ws) gv_str (gv_var (i := 1) rfl dW) (fun y hy => Nat.le_trans (wz y hy) (by decide)) (by omega) (by decide +kernel) rfl) fun v H4 s4 dv => ?_
      cases dv
      refine q H4 _ (Same.trans (fun b o e => ?_) s4) (by omega)
      exact but b o (ne_of_none e nD) (s2 _ _ (s1 _ _ e))
end
end K52
namespace K52D
open PySem PySem.Spec PyProof.Rows L2 Pr K52
abbrev sInitD : Stmt := inClass (topS 37) 1
abbrev sShow : Stmt := inClass (topS 37) 2
abbrev sState : Stmt := inClass (topS 37) 16
abbrev sEdits : Stmt := inClass (topS 37) 19
abbrev sLenD : Stmt := inClass (topS 37) 21
abbrev sStrD : Stmt := inClass (topS 37) 22
def fD1 (pa : Addr) : List (Str × V) := [("past", V.ref pa), ("watched", V.bl false)]
def fldsD (pa p l h : Addr) : List (Str × V) := [("past", V.ref pa), ("watched", V.bl false), ("panel", V.ref p), ("latched", V.ref l), ("held", V.ref h)]
theorem look_past (pa p l h : Addr) : (fldsD pa p l h).lookup ("past" : Str) = some (.ref pa) := by rfl
theorem look_panel (pa p l h : Addr) : (fldsD pa p l h).lookup ("panel" : Str) = some (.ref p) := by rfl
theorem look_latched (pa p l h : Addr) : (fldsD pa p l h).lookup ("latched" : Str) = some (.ref l) := by rfl
end K52D
namespace Pr
open PySem PySem.Spec PyProof.Rows L2
theorem hideD {t : TS} {D : Ends} {σ : L2.St} {H : Hp} (h : ∀ D' : Ends, (∀ σ H, D.nx σ H → D'.nx σ H) → t D' σ H) : t D σ H := h D fun _ _ z => z
theorem seq_hide {t u : TS} {D : Ends} {σ : L2.St} {H : Hp} (h : ∀ u' : TS, (∀ D σ H, u D σ H → u' D σ H) → tSeq t u' D σ H) : tSeq t u D σ H := h u fun _ _ _ z => z
theorem next_of {D : Ends} {σ : L2.St} {H : Hp} (h : D.nx σ H) : tNext D σ H := h
end Pr
namespace K52D
open PySem PySem.Spec PyProof.Rows L2 Pr K52
theorem put_a (pa p l h : Addr) : putF "held" (.ref h) (putF "latched" (.ref l) (putF "panel" (.ref p) (fD1 pa))) = fldsD pa p l h := by rfl
theorem put_b (pa p0 l0 h0 p l h : Addr) : putF "held" (.ref h) (putF "latched" (.ref l) (putF "panel" (.ref p) (fldsD pa p0 l0 h0))) = fldsD pa p l h := by rfl
theorem put_0 (pa : Addr) : putF "watched" (.bl false) (putF "past" (.ref pa) []) = fD1 pa := by rfl
structure TxtD (K : PySem.W.Frag) (mg : Str → Option Value) (C : Addr) : Prop where
  cl : Cls K C
  nA : NoAttr K C "past"
  nW : NoAttr K C "watched"
  nP : NoAttr K C "panel"
  nL : NoAttr K C "latched"
  nH : NoAttr K C "held"
  con : ∃ u, Con K C "MOST_EDITS" (.int 60) u
  g : mg "Desk" = some (.ref C)
def dEnt (x : PyData × List (List Int) × List Int) : PyData := .tuple [x.1, dPan x.2.1, dInts x.2.2]
def dPast (past : List (PyData × List (List Int) × List Int)) : PyData := .tuple (past.map dEnt)
/-- a part of the past: the edit, and the panel and the state before it -/
def EntAt (K : PySem.W.Frag) (H : Hp) (x : V) (y : PyData × List (List Int) × List Int) : Prop := ∃ (a p l : Addr) (v : V), x = .ref a ∧ SqT K H a [v, .ref p, .ref l] ∧ Dp K H v y.1 ∧ PanT K H p y.2.1 ∧ H l = some (.tup (y.2.2.map V.int))
def PastAt (K : PySem.W.Frag) (H : Hp) (pa : Addr) (past : List (PyData × List (List Int) × List Int)) : Prop := ∃ xs, SqT K H pa xs ∧ Paired (EntAt K H) xs past
section
variable {K : PySem.W.Frag} {H H' : Hp} {pa : Addr} {past : List (PyData × List (List Int) × List Int)}
theorem EntAt.sm {x : V} {y : PyData × List (List Int) × List Int} (h : EntAt K H x y) (s : Same H H') : EntAt K H' x y := by
  obtain ⟨a, p, l, v, rfl, h1, h2, h3, h4⟩ := h
  exact ⟨a, p, l, v, rfl, same_sqT s h1, h2.sm s, h3.same s, s _ _ h4⟩
theorem EntAt.kp {x : V} {y : PyData × List (List Int) × List Int} (h : EntAt K H x y) (k : Kp H H') (hl : lf y.1 = true) : EntAt K H' x y := by
  obtain ⟨a, p, l, v, rfl, h1, h2, h3, h4⟩ := h
  exact ⟨a, p, l, v, rfl, sqT_kp k h1, h2.kp k hl, h3.kp k, k.1 _ _ h4⟩
theorem EntAt.dp {x : V} {y : PyData × List (List Int) × List Int} (h : EntAt K H x y) : Dp K H x (dEnt y) := by
  obtain ⟨a, p, l, v, rfl, h1, h2, h3, h4⟩ := h
  exact .tup h1 (.cons h2 (.cons h3.dp (.cons (dp_ints (.inl (.inl h4))) .nil)))
theorem ents_sm (s : Same H H') : ∀ {xs : List V} {past : List (PyData × List (List Int) × List Int)}, Paired (EntAt K H) xs past → Paired (EntAt K H') xs past
  | _, _, .nil => .nil
  | _, _, .cons h t => .cons (h.sm s) (ents_sm s t)
theorem ents_kp (k : Kp H H') : ∀ {xs : List V} {past : List (PyData × List (List Int) × List Int)}, (∀ x ∈ past, lf x.1 = true ∧ Good x.2.1 ∧ Asc x.2.1.length x.2.2) → Paired (EntAt K H) xs past → Paired (EntAt K H') xs past
  | _, _, _, .nil => .nil
  | _, _, e, .cons h t => .cons (h.kp k (e _ List.mem_cons_self).1) (ents_kp k (fun x hx => e x (List.mem_cons_of_mem _ hx)) t)
theorem ents_dp : ∀ {xs : List V} {past : List (PyData × List (List Int) × List Int)}, Paired (EntAt K H) xs past → DpAll K H xs (past.map dEnt)
  | _, _, .nil => .nil
  | _, _, .cons h t => .cons h.dp (ents_dp t)
theorem PastAt.sm (h : PastAt K H pa past) (s : Same H H') : PastAt K H' pa past := by
  obtain ⟨xs, h1, h2⟩ := h
  exact ⟨xs, same_sqT s h1, ents_sm s h2⟩
theorem PastAt.kp (h : PastAt K H pa past) (k : Kp H H') (e : ∀ x ∈ past, lf x.1 = true ∧ Good x.2.1 ∧ Asc x.2.1.length x.2.2) : PastAt K H' pa past := by
  obtain ⟨xs, h1, h2⟩ := h
  exact ⟨xs, sqT_kp k h1, ents_kp k e h2⟩
theorem PastAt.dp (h : PastAt K H pa past) : Dp K H (.ref pa) (dPast past) := by
  obtain ⟨xs, h1, h2⟩ := h
  exact .tup h1 (ents_dp h2)
end
/-- a desk stands at t -/
structure DeskAt (K : PySem.W.Frag) (C : Addr) (H : Hp) (t : Addr) (pan : List (List Int)) (st : List Int) (past : List (PyData × List (List Int) × List Int)) : Prop where
  ob : ∃ dx pa p l h hs, H t = some (.ins C dx (fldsD pa p l h)) ∧ PastAt K H pa past ∧ PanT K H p pan ∧ H l = some (.tup (st.map V.int)) ∧ SqT K H h (hs.map V.int) ∧ IsHeld pan st hs
  good : Good pan
  asc : Asc pan.length st
  lfe : ∀ x ∈ past, lf x.1 = true ∧ Good x.2.1 ∧ Asc x.2.1.length x.2.2
section
variable {K : PySem.W.Frag} {C : Addr} {H H' : Hp} {t : Addr} {pan : List (List Int)} {st : List Int} {past : List (PyData × List (List Int) × List Int)}
theorem DeskAt.same (h : DeskAt K C H t pan st past) (s : Same H H') : DeskAt K C H' t pan st past := by
  obtain ⟨⟨dx, pa, p, l, hh, hs, h1, h2, h3, h4, h5, h6⟩, g, a, e⟩ := h
  exact ⟨⟨dx, pa, p, l, hh, hs, s _ _ h1, h2.sm s, h3.same s, s _ _ h4, same_sqT s h5, h6⟩, g, a, e⟩
end
def nShow : List Str := ["self", "panel", "latched"]
theorem scShow : FnScope nShow ["self", "panel", "latched"] (defScope sShow) := ⟨rfl, rfl, rfl, by decide +kernel, rfl, by decide +kernel, by decide +kernel⟩
section
variable {P : Program} {w : World} {K : PySem.W.Frag} {mg : Str → Option Value} {base : Heap}
def spShow (K : PySem.W.Frag) (C : Addr) : Sp := fun vs H Q _ => ∃ (t p l dx pa : Addr) (fs : List (Str × V)) (pan : List (List Int)) (st : List Int), vs = [.ref t, .ref p, .ref l] ∧ H t = some (.ins C dx fs) ∧ (fs = fD1 pa ∨ ∃ p0 l0 h0, fs = fldsD pa p0 l0 h0) ∧ PanT K H p pan ∧ Good pan ∧ SqT K H l (st.map V.int) ∧ Asc pan.length st ∧
  ∀ H' h hs, ButO t H H' → H' t = some (.ins C dx (fldsD pa p l h)) → SqT K H' h (hs.map V.int) → IsHeld pan st hs → Q .non H'
theorem ok_Show {fAny : Addr} {fdAny : FuncData} {fHeld : Addr} {fdHeld : FuncData} {C f : Addr} {fd : FuncData} {k : Nat} (F : Fun K "show" "Desk.show" sShow f fd) (T : TxtD K mg C)
    (FAny : Fun K "releases_any" "releases_any" sAny fAny fdAny) (bAny : Binds K fdAny ["panel", "button", "others"] []) (gAny : mg "releases_any" = some (.ref fAny))
    (FHeld : Fun K "held_buttons" "held_buttons" sHeld fHeld fdHeld) (bHeld : Binds K fdHeld ["panel", "state"] []) (gHeld : mg "held_buttons" = some (.ref fHeld))
    (m_any : mg "any" = none) (m_len : mg "len" = none) (m_tuple : mg "tuple" = none) : FnOk P w K mg base CX0 (k + 3) f fd ["self", "panel", "latched"] (spShow K C) := by
  have GHeld : FnOk P w K mg base CX0 (k + 2) fHeld fdHeld ["panel", "state"] (spHeld K) := ok_held FHeld FAny bAny gAny m_len m_tuple m_any
  refine F.ok scShow (fun vs H Q E h => ?_) (fun cdv A outer s H vs Q E hr h => ?_)
  · obtain ⟨t, p, l, dx, pa, fs, pan, st, rfl, _⟩ := h
    rfl
  · obtain ⟨t, p, l, dx, pa, fs, pan, st, rfl, ht, hfs, hp, hg, hl, hst, q⟩ := h
    refine ⟨_, pss_cons (ps_fld (pv 0) (pv 1) rfl)
      (pss_cons (ps_fld (pv 0) (pv 2) rfl)
      (pss_one (ps_fld (pv 0) (pe_call GHeld (hr.mono (by omega)) (by rfl) gHeld FHeld.kp bHeld .nil pass0 (pa_cons (pv 1) (pa_cons (pv 2) pa_nil))) rfl))), ?_⟩
    have fl : fs.length ≤ 5 := by
      rcases hfs with rfl | ⟨p0, l0, h0, rfl⟩
      · show 2 ≤ 5; decide
      · exact Nat.le_refl 5
    have pl : ∀ (f : Str) (v : V) (l : List (Str × V)), (putF f v l).length ≤ l.length + 1 := fun f v l => by
      induction l with
      | nil => exact Nat.le_refl _
      | cons x r ih =>
        show (if x.1 = f then (x.1, v) :: r else x :: putF f v r).length ≤ _
        split
        · exact Nat.le_succ _
        · exact Nat.succ_le_succ ih
    refine ⟨.ref p, rfl, .ref t, rfl, t, C, dx, fs, rfl, ht, T.cl, T.nP, by omega, ?_⟩
    have k1 := ButO.upd (g := t) (H := H) (o := .ins C dx (putF "panel" (.ref p) fs))
    refine ⟨.ref l, rfl, .ref t, rfl, t, C, dx, _, rfl, upd_same, T.cl, T.nL, by have := pl "panel" (.ref p) fs; omega, ?_⟩
    have k2 := ButO.upd (g := t) (H := upd H t (.ins C dx (putF "panel" (.ref p) fs))) (o := .ins C dx (putF "latched" (.ref l) (putF "panel" (.ref p) fs)))
    have k12 := k1.trans k2
    refine ⟨.ref p, rfl, .ref l, rfl, p, l, pan, st, rfl, hp.kp (k12.kp ht), hg, sqT_kp (k12.kp ht) hl, hst, fun H3 h hs s3 hh ish => ?_⟩
    have e3 := s3 _ _ (upd_same (a := t) (o := .ins C dx (putF "latched" (.ref l) (putF "panel" (.ref p) fs))))
    refine ⟨.ref t, rfl, t, C, dx, _, rfl, e3, T.cl, T.nH, by have := pl "panel" (.ref p) fs; have := pl "latched" (.ref l) (putF "panel" (.ref p) fs); omega, ?_⟩
    have k4 := ButO.upd (g := t) (H := H3) (o := .ins C dx (putF "held" (.ref h) (putF "latched" (.ref l) (putF "panel" (.ref p) fs))))
    refine q _ h hs ((k12.trans (ButO.of s3)).trans k4) ?_ (sqT_kp (k4.kp e3) hh) ish
    rcases hfs with rfl | ⟨p0, l0, h0, rfl⟩
    · rw [put_a, upd_same]
    · rw [put_b, upd_same]
end
def nInitD : List Str := ["self", "panel", "state"]
theorem scInitD : FnScope nInitD ["self", "panel", "state"] (defScope sInitD) := ⟨rfl, rfl, rfl, by decide +kernel, rfl, by decide +kernel, by decide +kernel⟩
section
variable {P : Program} {w : World} {K : PySem.W.Frag} {mg : Str → Option Value} {base : Heap}
def spInitD (K : PySem.W.Frag) (C : Addr) : Sp := fun vs H Q _ => ∃ (t p l dx : Addr) (pan : List (List Int)) (st : List Int), vs = [.ref t, .ref p, .ref l] ∧ H t = some (.ins C dx []) ∧ PanT K H p pan ∧ Good pan ∧ H l = some (.tup (st.map V.int)) ∧ Asc pan.length st ∧
  ∀ H', ButO t H H' → DeskAt K C H' t pan st [] → Q .non H'
theorem ok_InitD {fBtn : Addr} {fdBtn : FuncData} {fBtnT : Addr} {fdBtnT : FuncData} {fPErr : Addr} {fdPErr : FuncData} {fAny : Addr} {fdAny : FuncData} {fHeld : Addr} {fdHeld : FuncData} {fChkP : Addr} {fdChkP : FuncData} {fChkS : Addr} {fdChkS : FuncData} {C f : Addr} {fd : FuncData} {k : Nat} {tk : Tok} (F : Fun K "__init__" "Desk.__init__" sInitD f fd) (T : TxtD K mg C)
    (FBtn : Fun K "is_button" "is_button" sBtn fBtn fdBtn) (bBtn : Binds K fdBtn ["value", "many"] []) (gBtn : mg "is_button" = some (.ref fBtn))
    (FBtnT : Fun K "is_button_tuple" "is_button_tuple" sBtnT fBtnT fdBtnT) (bBtnT : Binds K fdBtnT ["value", "many"] []) (gBtnT : mg "is_button_tuple" = some (.ref fBtnT))
    (FPErr : Fun K "panel_error" "panel_error" sPErr fPErr fdPErr) (bPErr : Binds K fdPErr ["value"] []) (gPErr : mg "panel_error" = some (.ref fPErr))
    (FAny : Fun K "releases_any" "releases_any" sAny fAny fdAny) (bAny : Binds K fdAny ["panel", "button", "others"] []) (gAny : mg "releases_any" = some (.ref fAny))
    (FHeld : Fun K "held_buttons" "held_buttons" sHeld fHeld fdHeld) (bHeld : Binds K fdHeld ["panel", "state"] []) (gHeld : mg "held_buttons" = some (.ref fHeld))
    (FChkP : Fun K "check_panel" "check_panel" sChkP fChkP fdChkP) (bChkP : Binds K fdChkP ["value"] []) (gChkP : mg "check_panel" = some (.ref fChkP))
    (FChkS : Fun K "check_state" "check_state" sChkS fChkS fdChkS) (bChkS : Binds K fdChkS ["panel", "value"] []) (gChkS : mg "check_state" = some (.ref fChkS))
    {fShow : Addr} {fdShow : FuncData} (FShow : Fun K "show" "Desk.show" sShow fShow fdShow) (bShow : Binds K fdShow ["self", "panel", "latched"] []) (hShow : Meth K C "show" fShow)
    (m_any : mg "any" = none) (m_bool : mg "bool" = none) (m_enumerate : mg "enumerate" = none) (m_int : mg "int" = none) (m_isinstance : mg "isinstance" = none) (m_len : mg "len" = none) (m_tuple : mg "tuple" = none) (y_MAX : mg "MAX_BUTTONS" = some (.int 10 tk)) : FnOk P w K mg base CX0 (k + 5) f fd ["self", "panel", "state"] (spInitD K C) := by
  have GChkP : FnOk P w K mg base CX0 (k + 4) fChkP fdChkP ["value"] (spChkP K) := ok_ChkP FChkP FBtn bBtn gBtn FBtnT bBtnT gBtnT FPErr bPErr gPErr m_bool m_enumerate m_int m_isinstance m_len m_tuple y_MAX
  have GChkS : FnOk P w K mg base CX0 (k + 3) fChkS fdChkS ["panel", "value"] (spChkS K) := ok_ChkS FChkS FBtn bBtn gBtn FBtnT bBtnT gBtnT m_bool m_int m_isinstance m_len m_tuple
  have GShow : FnOk P w K mg base CX0 (k + 3) fShow fdShow ["self", "panel", "latched"] (spShow K C) := ok_Show FShow T FAny bAny gAny FHeld bHeld gHeld  m_any m_len m_tuple
  refine F.ok scInitD (fun vs H Q E h => ?_) (fun cdv A outer s H vs Q E hr h => ?_)
  · obtain ⟨t, p, l, dx, pan, st, rfl, _⟩ := h
    rfl
  · obtain ⟨t, p, l, dx, pan, st, rfl, ht, hp, hg, hl, hst, q⟩ := h
    refine ⟨_, pss_cons (ps_expr (pe_call GChkP (hr.mono (by omega)) (by rfl) gChkP FChkP.kp bChkP .nil pass0 (pa_cons (pv 1) pa_nil)))
      (pss_cons (ps_expr (pe_call GChkS (hr.mono (by omega)) (by rfl) gChkS FChkS.kp bChkS .nil pass0 (pa_cons (pv 1) (pa_cons (pv 2) pa_nil))))
      (pss_cons (ps_fld (pv 0) (pe_tup pa_nil) rfl)
      (pss_cons (ps_fld (pv 0) pe_bl rfl)
      (pss_one (ps_expr (pe_meth (pv 0) T.cl hShow GShow (hr.mono (by omega)) bShow .nil pass0 (pa_cons (pv 1) (pa_cons (pv 2) pa_nil)))))))), ?_⟩
    refine ⟨.ref p, rfl, p, pan, rfl, hp, hg, fun H1 s1 => ?_⟩
    refine ⟨.ref p, rfl, .ref l, rfl, p, l, pan, st, rfl, hp.same s1, .inl (.inl (s1 _ _ hl)), hst, fun H2 s2 => ?_⟩
    have s12 := s1.trans s2
    have e2 := s12 _ _ ht
    refine ⟨Nat.zero_le _, fun pa npa => ?_⟩
    have sp := same_new (o := .tup []) npa
    refine ⟨.ref t, rfl, t, C, dx, _, rfl, sp _ _ e2, T.cl, T.nA, by show 0 < 1000; decide, ?_⟩
    have k3 := ButO.upd (g := t) (H := upd H2 pa (.tup [])) (o := .ins C dx (putF "past" (.ref pa) []))
    refine ⟨.ref t, rfl, t, C, dx, _, rfl, upd_same, T.cl, T.nW, by show 1 < 1000; decide, ?_⟩
    rw [put_0]
    have k4 := ButO.upd (g := t) (H := upd (upd H2 pa (.tup [])) t (.ins C dx (putF "past" (.ref pa) []))) (o := .ins C dx (fD1 pa))
    have kk := (k3.trans k4).kp (sp _ _ e2)
    have sH := s12.trans sp
    have pt : pa ≠ t := fun z => by rw [z, e2] at npa; cases npa
    refine ⟨.ref t, rfl, t, dx, _, rfl, upd_same, by rfl, .ref p, rfl, .ref l, rfl, t, p, l, dx, pa, fD1 pa, pan, st, rfl, upd_same, .inl rfl, (hp.same sH).kp kk, hg, .inl (.inl (kk.1 _ _ (sH _ _ hl))), hst, fun H5 h hs k5 e5 hh ish => ?_⟩
    have kAll := ((ButO.of sH).trans (k3.trans k4)).trans k5
    have kp5 := kk.trans (k5.kp upd_same)
    refine q H5 kAll ⟨⟨dx, pa, p, l, h, hs, e5, ⟨[], .inl (.inl (kp5.1 _ _ upd_same)), .nil⟩, (hp.same sH).kp kp5, kp5.1 _ _ (sH _ _ hl), hh, ish⟩, hg, hst, fun x hx => by cases hx⟩
end
end K52D
namespace K52D
open PySem PySem.Spec PyProof.Rows L2 Pr K52
section
variable {K : PySem.W.Frag} {C : Addr} {H H' : Hp} {t : Addr} {pan : List (List Int)} {st : List Int} {past : List (PyData × List (List Int) × List Int)} {σ : L2.St} {mg : Str → Option Value} {i : Nat}
theorem gv_past (T : TxtD K mg C) (hi : σ[i]? = some (some (.ref t))) (h : DeskAt K C H t pan st past) : Gv K (tFld K (tVar i) "past") σ H (dPast past) := fun H1 s Q q => by
  obtain ⟨⟨dx, pa, p, l, hh, hs, h1, h2, _⟩, _⟩ := h.same s
  exact ⟨.ref t, hi, t, C, dx, _, .ref pa, rfl, h1, T.cl, T.nA, look_past _ _ _ _, q _ H1 (Same.refl _) h2.dp⟩
theorem gv_panel (T : TxtD K mg C) (hi : σ[i]? = some (some (.ref t))) (h : DeskAt K C H t pan st past) : Gv K (tFld K (tVar i) "panel") σ H (dPan pan) := fun H1 s Q q => by
  obtain ⟨⟨dx, pa, p, l, hh, hs, h1, h2, h3, _⟩, _⟩ := h.same s
  exact ⟨.ref t, hi, t, C, dx, _, .ref p, rfl, h1, T.cl, T.nP, look_panel _ _ _ _, q _ H1 (Same.refl _) h3.dp⟩
theorem gv_latched (T : TxtD K mg C) (hi : σ[i]? = some (some (.ref t))) (h : DeskAt K C H t pan st past) : Gv K (tFld K (tVar i) "latched") σ H (dInts st) := fun H1 s Q q => by
  obtain ⟨⟨dx, pa, p, l, hh, hs, h1, h2, h3, h4, _⟩, _⟩ := h.same s
  exact ⟨.ref t, hi, t, C, dx, _, .ref l, rfl, h1, T.cl, T.nL, look_latched _ _ _ _, q _ H1 (Same.refl _) (dp_ints (.inl (.inl h4)))⟩
theorem gv_most (T : TxtD K mg C) (hi : σ[i]? = some (some (.ref t))) (h : DeskAt K C H t pan st past) : Gv K (tCon K (tVar i) "MOST_EDITS") σ H (.int 60) := fun H1 s Q q => by
  obtain ⟨⟨dx, pa, p, l, hh, hs, h1, _⟩, _⟩ := h.same s
  obtain ⟨u, hu⟩ := T.con
  exact ⟨.ref t, hi, t, C, dx, _, .int 60, u, rfl, h1, T.cl, hu, by rfl, q _ H1 (Same.refl _) (.int _)⟩
end
end K52D
namespace Pr
open PySem PySem.Spec PyProof.Rows L2
end Pr
namespace K52D
open PySem PySem.Spec PyProof.Rows L2 Pr K52
def nEdits : List Str := ["self", "edit", "panel", "latched"]
theorem scEdits : FnScope nEdits ["self"] (defScope sEdits) := ⟨rfl, rfl, rfl, by decide +kernel, rfl, by decide +kernel, by decide +kernel⟩
section
variable {P : Program} {w : World} {K : PySem.W.Frag} {mg : Str → Option Value} {base : Heap}
def spEdits (K : PySem.W.Frag) (C : Addr) : Sp := fun vs H Q _ => ∃ (t : Addr) (pan : List (List Int)) (st : List Int) (past : List (PyData × List (List Int) × List Int)), vs = [.ref t] ∧ DeskAt K C H t pan st past ∧ past.length ≤ 1000 ∧ ∀ H' v, Same H H' → Dp K H' v (.tuple (past.map (·.1))) → Q v H'
theorem ok_Edits  {C f : Addr} {fd : FuncData} {k : Nat} (F : Fun K "edits" "Desk.edits" sEdits f fd) (T : TxtD K mg C)
    (m_tuple : mg "tuple" = none) : FnOk P w K mg base CX0 (k + 1) f fd ["self"] (spEdits K C) := by
  refine F.ok scEdits (fun vs H Q E h => ?_) (fun cdv A outer s H vs Q E hr h => ?_)
  · obtain ⟨t, pan, st, past, rfl, _⟩ := h
    rfl
  · obtain ⟨t, pan, st, past, rfl, hD, few, q⟩ := h
    have hD' := hD
    obtain ⟨⟨dx, pa, p, l, hh, hs, h1, h2, h3, h4, h5, h6⟩, hg, hst, lfe⟩ := hD'
    refine ⟨_, pss_one (ps_ret (pe_callTy (show CallR _ _ (rTupG K) from cr_tupG) (by rfl) m_tuple (by decide +kernel) (pa_cons (pe_lc (own := [("edit", 1), ("panel", 2), ("latched", 3)]) (g := gTup K 3 (gCons (gName 1) (gCons (gName 2) (gCons (gName 3) gNil)))) (tt := tYes) rfl scEdits.nd (show PI _ _ _ (iTup K _) from pi_tup (pe_fld (pv 0) rfl)) (blkOk_by (own := [("edit", 1), ("panel", 2), ("latched", 3)]) (N := nEdits) (sc := defScope sEdits) (by decide +kernel)) (fun _ _ _ _ _ => pg_tup rfl (pgs_cons (pg_name (i := 1) scEdits.nd rfl (Or.inl rfl)) (pgs_cons (pg_name (i := 2) scEdits.nd rfl (Or.inl rfl)) (pgs_cons (pg_name (i := 3) scEdits.nd rfl (Or.inl rfl)) pgs_nil)))) (fun _ _ _ _ _ => pts_nil) (fun _ _ _ _ _ => pv 1)) pa_nil))), ?_⟩
    refine gs_ret (K := K) (gv_tupL ((gn_lc3 (δ1 := fun x : PyData × List (List Int) × List Int => x.1) (δ2 := fun x => dPan x.2.1) (δ3 := fun x => dInts x.2.2) (as := past) (p := fun _ => true) (f := fun x => x.1) (gvi_tup (gv_past T rfl hD)) (fun x v u w H1 hx s1 dv du dw => ⟨gvt_yes, fun _ => gv_var rfl dv⟩) (fun x hx => (lfe x hx).1) (by omega) (by decide) (by decide) (by decide)).gv)) fun v H1 s1 dv => q H1 v s1 ?_
    rwa [List.filter_eq_self.mpr (fun _ _ => rfl)] at dv
end
def nLenD : List Str := ["self"]
theorem scLenD : FnScope nLenD ["self"] (defScope sLenD) := ⟨rfl, rfl, rfl, by decide +kernel, rfl, by decide +kernel, by decide +kernel⟩
section
variable {P : Program} {w : World} {K : PySem.W.Frag} {mg : Str → Option Value} {base : Heap}
def spLenD (K : PySem.W.Frag) (C : Addr) : Sp := fun vs H Q _ => ∃ (t : Addr) (pan : List (List Int)) (st : List Int) (past : List (PyData × List (List Int) × List Int)), vs = [.ref t] ∧ DeskAt K C H t pan st past ∧ ∀ H', Same H H' → Q (.int (past.length : Nat)) H'
theorem ok_LenD  {C f : Addr} {fd : FuncData} {k : Nat} (F : Fun K "__len__" "Desk.__len__" sLenD f fd) (T : TxtD K mg C)
    (m_len : mg "len" = none) : FnOk P w K mg base CX0 (k + 1) f fd ["self"] (spLenD K C) := by
  refine F.ok scLenD (fun vs H Q E h => ?_) (fun cdv A outer s H vs Q E hr h => ?_)
  · obtain ⟨t, pan, st, past, rfl, _⟩ := h
    rfl
  · obtain ⟨t, pan, st, past, rfl, hD, q⟩ := h
    have hD' := hD
    obtain ⟨⟨dx, pa, p, l, hh, hs, h1, h2, h3, h4, h5, h6⟩, hg, hst, lfe⟩ := hD'
    refine ⟨_, pss_one (ps_ret (pe_callB (show CallR _ _ (rLenG K) from cr_lenG) (by rfl) m_len PySem.boot_len (pa_cons (pe_fld (pv 0) rfl) pa_nil))), ?_⟩
    refine gs_ret (K := K) (gv_lenT (gv_past T rfl hD)) fun v H1 s1 dv => ?_
    cases dv
    rw [List.length_map]
    exact q H1 s1
end
theorem len_num (n : Nat) (h : n ≤ 1000) : ((toString (n : Int) : Str)).length ≤ 10 := by
  have : ∀ n < 1001, ((toString ((n : Nat) : Int) : Str)).length ≤ 10 := by decide +kernel
  exact this n (by omega)
theorem log_num (n : Nat) (h : n ≤ 1000) : ((n : Int)).natAbs.log2 < 1920 := by
  have : ∀ n < 1001, (((n : Nat) : Int)).natAbs.log2 < 1920 := by decide +kernel
  exact this n (by omega)
def txtD (a b c : Nat) : Str := ((((((Str.empty ++ (toString (a : Int) : Str)) ++ (" buttons, " : Str)) ++ (toString (b : Int) : Str)) ++ (" latched, " : Str)) ++ (toString (c : Int) : Str)) ++ (" edits" : Str))
def nStrD : List Str := ["self"]
theorem scStrD : FnScope nStrD ["self"] (defScope sStrD) := ⟨rfl, rfl, rfl, by decide +kernel, rfl, by decide +kernel, by decide +kernel⟩
section
variable {P : Program} {w : World} {K : PySem.W.Frag} {mg : Str → Option Value} {base : Heap}
def spStrD (K : PySem.W.Frag) (C : Addr) : Sp := fun vs H Q _ => ∃ (t : Addr) (pan : List (List Int)) (st : List Int) (past : List (PyData × List (List Int) × List Int)), vs = [.ref t] ∧ DeskAt K C H t pan st past ∧ past.length ≤ 1000 ∧ ∀ H', Same H H' → Q (.str (txtD pan.length st.length past.length)) H'
theorem ok_StrD  {C f : Addr} {fd : FuncData} {k : Nat} (F : Fun K "__str__" "Desk.__str__" sStrD f fd) (T : TxtD K mg C)
    (m_len : mg "len" = none) : FnOk P w K mg base CX0 (k + 1) f fd ["self"] (spStrD K C) := by
  refine F.ok scStrD (fun vs H Q E h => ?_) (fun cdv A outer s H vs Q E hr h => ?_)
  · obtain ⟨t, pan, st, past, rfl, _⟩ := h
    rfl
  · obtain ⟨t, pan, st, past, rfl, hD, few, q⟩ := h
    have hD' := hD
    obtain ⟨⟨dx, pa, p, l, hh, hs, h1, h2, h3, h4, h5, h6⟩, hg, hst, lfe⟩ := hD'
    refine ⟨_, pss_one (ps_ret (pe_joined (.cons (pe_fmt (pe_callB (show CallR _ _ (rLenG K) from cr_lenG) (by rfl) m_len PySem.boot_len (pa_cons (pe_fld (pv 0) rfl) pa_nil))) (.cons pe_str (.cons (pe_fmt (pe_callB (show CallR _ _ (rLenG K) from cr_lenG) (by rfl) m_len PySem.boot_len (pa_cons (pe_fld (pv 0) rfl) pa_nil))) (.cons pe_str (.cons (pe_fmt (pe_callB (show CallR _ _ (rLenG K) from cr_lenG) (by rfl) m_len PySem.boot_len (pa_cons (pe_fld (pv 0) rfl) pa_nil))) (.cons pe_str .nil)))))))), ?_⟩
    have f1 := hg.few
    have f2 := hst.len
    have n1 := len_num pan.length (by omega)
    have n2 := len_num st.length (by omega)
    have n3 := len_num past.length few
    have sz : ∀ {n : Nat}, n ≤ 1000 → n ≤ sizeLine := fun h => Nat.le_of_lt (small1000 h)
    refine (gv_lenT (K := K) (gv_panel (i := 0) T rfl hD)).at fun v1 H1 s1 d1 => ?_
    cases d1
    rw [List.length_map]
    refine .inr ⟨_, rfl, log_num _ (by omega), _, rfl, ?_, _, rfl, ?_, ?_⟩
    · rw [Str.length_append]; exact sz (by show 0 + _ ≤ _; omega)
    · rw [Str.length_append, Str.length_append]; exact sz (by show 0 + _ + 10 ≤ _; omega)
    refine (gv_lenT (K := K) (gv_latched (i := 0) T rfl (hD.same s1))).at fun v2 H2 s2 d2 => ?_
    cases d2
    rw [List.length_map]
    refine .inr ⟨_, rfl, log_num _ (by omega), _, rfl, ?_, _, rfl, ?_, ?_⟩
    · simp only [Str.length_append]; exact sz (by show 0 + _ + 10 + _ ≤ _; omega)
    · simp only [Str.length_append]; exact sz (by show 0 + _ + 10 + _ + 10 ≤ _; omega)
    refine (gv_lenT (K := K) (gv_past (i := 0) T rfl ((hD.same s1).same s2))).at fun v3 H3 s3 d3 => ?_
    cases d3
    rw [List.length_map]
    refine .inr ⟨_, rfl, log_num _ few, _, rfl, ?_, _, rfl, ?_, ?_⟩
    · simp only [Str.length_append]; exact sz (by show 0 + _ + 10 + _ + 10 + _ ≤ _; omega)
    · simp only [Str.length_append]; exact sz (by show 0 + _ + 10 + _ + 10 + _ + 6 ≤ _; omega)
    exact q H3 ((s1.trans s2).trans s3)
end
end K52D
namespace Pr
open PySem PySem.Spec PyProof.Rows L2
section
variable {X : Cx} {C f : Addr} {fd : FuncData} {k : Nat} {sp : Sp}
theorem run_in {A' : Around} {pins : List (Addr × Obj)} {σ : L2.St} {H : Hp} {s : Shared} {Q : VK} {a : Addr} {E : XK} (fr : A'.frames = X.A.frames) (F : FnOk X.prog X.w X.K X.mg X.base CX0 k f fd ["self"] sp) (hr : Room k A') (hb : Binds X.K fd ["self"] []) (J : Inv X pins σ H s) (h : sp [.ref a] H Q E) :
    wpAny (model X.prog X.w) A' (call (.ref f) [.ref a]) (EP X pins σ Q) X.xe s := by
  have e := J.env0
  have e0 : Env0 X.prog X.w X.K X.mg X.base A' X.stack s H := ⟨by rw [fr]; exact e.frames, e.mod, e.bs, e.bsz, e.funs, e.frf, e.hok, e.bare⟩
  have bd := hb s [.ref a] J.kIn rfl
  refine wpAny_call (codeAny_mono (F.run A' X.stack s H ⟨[.ref a], []⟩ [.ref a] [.ref a] Q E hr e0 (by simpa using bd) (.cons rfl .nil) h) fun r s' hq => ?_)
  cases r with
  | error er => exact hq.elim
  | ok fl =>
    cases fl with
    | ret u => exact J.after hq
    | next => exact hq.elim
    | brk => exact hq.elim
    | cont => exact hq.elim
def rStrO (C : Addr) (sp : Sp) : List V → Hp → VK → Prop := fun xs H Q => ∃ a dx fs, xs = [.ref a] ∧ H a = some (.ins C dx fs) ∧ sp [.ref a] H (fun v H' => ∃ y, v = .str y ∧ Q (.str y) H') (fun _ _ _ => False)
theorem cr_strO (F : FnOk X.prog X.w X.K X.mg X.base CX0 k f fd ["self"] sp) (hr : Room (k + 2) X.A) (hb : Binds X.K fd ["self"] []) (hs : PySem.W.findIn X.K (.ref C) "__str__" = some (some (.ref f))) (hf : PySem.W.isFn X.K (.ref f) = true) : CallR X (.type "str") (rStrO C sp) := by
  intro pins s σ H xs us Q J r h
  obtain ⟨a, dx, fs, rfl, ha, h⟩ := h
  rw [Vals.ref1 r]
  obtain ⟨mA, O, _⟩ := ins_get J.hok ha
  obtain ⟨od, O, _⟩ := O.look
  refine PySem.W.kso_call (Room.in1 (Room.in1 hr)).units0 J.kIn O hs hf (wpAny_mono (run_in rfl F (Room.in1 (Room.in1 hr)) hb J h) (fun v s' z => ?_) fun _ _ z => z)
  obtain ⟨x, H', J', rx, y, rfl, q⟩ := z
  obtain ⟨t, rfl⟩ := rx
  exact ⟨.str y, H', J', ⟨t, rfl⟩, q⟩
def rLenO (C : Addr) (sp : Sp) : List V → Hp → VK → Prop := fun xs H Q => ∃ a dx fs, xs = [.ref a] ∧ H a = some (.ins C dx fs) ∧ sp [.ref a] H (fun v H' => ∃ n : Int, v = .int n ∧ 0 ≤ n ∧ n < 2 ^ 63 ∧ Q (.int n) H') (fun _ _ _ => False)
theorem cr_lenO (F : FnOk X.prog X.w X.K X.mg X.base CX0 k f fd ["self"] sp) (hr : Room (k + 1) X.A) (hb : Binds X.K fd ["self"] []) (hs : PySem.W.findIn X.K (.ref C) "__len__" = some (some (.ref f))) (hf : PySem.W.isFn X.K (.ref f) = true) : CallR X (.builtin "len") (rLenO C sp) := by
  intro pins s σ H xs us Q J r h
  obtain ⟨a, dx, fs, rfl, ha, h⟩ := h
  rw [Vals.ref1 r]
  obtain ⟨mA, O, _⟩ := ins_get J.hok ha
  obtain ⟨od, O, _⟩ := O.look
  obtain ⟨m, hF⟩ := J.fr
  refine PySem.W.len_K hF J.ok.mod.kin O hs hf (wpAny_mono (run_in rfl F (Room.in1 hr) hb J h) (fun v s' z => ?_) fun _ _ z => z)
  obtain ⟨x, H', J', rx, n, rfl, n0, n1, q⟩ := z
  obtain ⟨t, rfl⟩ := rx
  exact ⟨⟨n0, n1⟩, .int n, H', J'.tok _, ⟨_, rfl⟩, q⟩
end
end Pr
namespace Pr
open PySem PySem.Spec PyProof.Rows L2
/-- a method with one keyword-only parameter (and what stands before it), given by its name -/
theorem kb_one {K : PySem.W.Frag} {x qual : Str} {params : Arguments} {body : List Stmt} {scope : Scope} {kws : List (Str × V)} {f : Addr} {fd : FuncData} {ps : List Str} (F : FunD K x qual params body scope [] kws f fd) (n : Nat) (kw : Str) (hk : kws ≠ [])
    (h : ∀ (D : Addr) (doc pm : Value) (an : Option Addr) (cdv ct : Value) (us : List Value) (v : Value), us.length = n → bindArgs (PySem.W.fnOf x qual params body scope .none (.ref D) doc pm an cdv ct) ⟨us, [(kw, v)]⟩ = pure (ps.zip (us ++ [v]))) :
    KBn K fd ps n [kw] (fun us ws => us ++ ws) (fun vs zs => vs ++ zs) := by
  obtain ⟨mv, hb⟩ := F.kbinds0 n [kw] [] (fun us _ ws => us ++ ws) (ps := ps) hk (fun q hq => by cases hq) (fun r1 _ r3 => r1.append r3) (fun D doc pm an cdv ct us mv ws h1 h2 h3 => by
    match ws, h3 with
    | [v], _ => exact h D doc pm an cdv ct us v h1)
  exact hb
end Pr
namespace Pr
open PySem PySem.Spec PyProof.Rows L2
end Pr
namespace Pr
open PySem PySem.Spec PyProof.Rows L2
end Pr
namespace Pr
open PySem PySem.Spec PyProof.Rows L2 PySem.Builtin PySem.Builtin.ObjectAttr
end Pr
namespace K52D
open PySem PySem.Spec PyProof.Rows L2 Pr K52
def nState : List Str := ["self", "version", "edit", "panel", "latched"]
theorem scState : FnScope nState ["self", "version"] (defScope sState) := ⟨rfl, rfl, rfl, by decide +kernel, rfl, by decide +kernel, by decide +kernel⟩
section
variable {P : Program} {w : World} {K : PySem.W.Frag} {mg : Str → Option Value} {base : Heap}
def spState (K : PySem.W.Frag) (C : Addr) : Sp := fun vs H Q _ => ∃ (t : Addr) (pan : List (List Int)) (st : List Int) (past : List (PyData × List (List Int) × List Int)), vs = [.ref t, .non] ∧ DeskAt K C H t pan st past ∧ ∀ H' v, Same H H' → Dp K H' v (.tuple [dPan pan, dInts st]) → Q v H'
theorem ok_State {C f : Addr} {fd : FuncData} {k : Nat} (F : FunD K "state" "Desk.state" (defArgs sState) (defBody sState) (defScope sState) [] [("version", .non)] f fd) (T : TxtD K mg C) : FnOk P w K mg base CX0 (k + 1) f fd ["self", "version"] (spState K C) := by
  refine F.ok scState (fun vs H Q E h => ?_) (fun cdv A outer s H vs Q E hr h => ?_)
  · obtain ⟨t, pan, st, past, rfl, _⟩ := h
    rfl
  · obtain ⟨t, pan, st, past, rfl, hD, q⟩ := h
    refine ⟨_, pss_cons (ps_if (pt_cmpR op_isN (pv 1) pe_non (by rfl)) (pss_one (ps_ret (pe_tup (pa_cons (pe_fld (pv 0) rfl) (pa_cons (pe_fld (pv 0) rfl) pa_nil))))) pss_nil)
      (pss_cons ps_never
      (pss_cons ps_never
      (pss_cons ps_never
      (pss_one ps_never)))), ?_⟩
    refine ⟨.non, rfl, rfl, _, rfl, iteT ?_⟩
    exact gs_ret (K := K) (gv_tup (gva_cons (gv_panel (i := 0) T rfl hD) (gva_cons (gv_latched (i := 0) T rfl hD) gva_nil))) fun v H1 s1 dv => q H1 v s1 dv
end
end K52D
namespace K52D
open PySem PySem.Spec PyProof.Rows L2 Pr K52
section
variable {K : PySem.W.Frag} {C : Addr} {H H' : Hp} {t : Addr} {pan : List (List Int)} {st : List Int} {past : List (PyData × List (List Int) × List Int)} {σ : L2.St} {i : Nat} {E : XK} {te : TE}
theorem DeskAt.at {P : Prop} (h : DeskAt K C H t pan st past) (q : ∀ dx fs, H t = some (.ins C dx fs) → (∀ m : Str, m ∉ (["past", "watched", "panel", "latched", "held"] : List Str) → fs.lookup m = none) → P) : P := by
  obtain ⟨⟨dx, pa, p, l, hh, hs, h1, h2, h3, h4, _⟩, _⟩ := h
  refine q dx _ h1 fun m hm => ?_
  simp only [List.mem_cons, List.mem_nil_iff, or_false, not_or] at hm
  obtain ⟨n1, n2, n3, n4, n5⟩ := hm
  unfold fldsD
  simp only [List.lookup_cons, List.lookup_nil]
  have : ∀ {a b : Str}, a ≠ b → (a == b) = false := fun h => by simpa using h
  rw [this n1, this n2, this n3, this n4, this n5]
theorem gv_StateD (hi : σ[i]? = some (some (.ref t))) (h : DeskAt K C H t pan st past) : Gv K (tMeth C "state" (spState K C) [.non] E (tVar i) tNil) σ H (.tuple [dPan pan, dInts st]) := fun H1 s Q q => by
  have hD := h.same s
  exact hD.at fun dx fs e l => ⟨.ref t, hi, t, dx, fs, rfl, e, l _ (by decide +kernel), t, pan, st, past, rfl, hD, fun H2 v s2 dv => q v H2 s2 dv⟩
theorem gv_EditsD (hi : σ[i]? = some (some (.ref t))) (h : DeskAt K C H t pan st past) (few : past.length ≤ 1000) : Gv K (tMeth C "edits" (spEdits K C) [] E (tVar i) tNil) σ H (.tuple (past.map (·.1))) := fun H1 s Q q => by
  have hD := h.same s
  exact hD.at fun dx fs e l => ⟨.ref t, hi, t, dx, fs, rfl, e, l _ (by decide +kernel), t, pan, st, past, rfl, hD, few, fun H2 v s2 dv => q v H2 s2 dv⟩
theorem gv_lenD (hi : σ[i]? = some (some (.ref t))) (h : DeskAt K C H t pan st past) (few : past.length ≤ 1000) : Gv K (tCB (rLenO C (spLenD K C)) (tCons (tVar i) tNil)) σ H (.int (past.length : Nat)) := fun H1 s Q q => by
  have hD := h.same s
  exact hD.at fun dx fs e l => ⟨.ref t, hi, t, dx, fs, rfl, e, t, pan, st, past, rfl, hD, fun H2 s2 => ⟨_, rfl, by omega, by omega, q _ H2 s2 (.int _)⟩⟩
theorem gv_strD (hi : σ[i]? = some (some (.ref t))) (h : DeskAt K C H t pan st past) (few : past.length ≤ 1000) : Gv K (tCB (rStrO C (spStrD K C)) (tCons (tVar i) tNil)) σ H (.str (txtD pan.length st.length past.length)) := fun H1 s Q q => by
  have hD := h.same s
  exact hD.at fun dx fs e l => ⟨.ref t, hi, t, dx, fs, rfl, e, t, pan, st, past, rfl, hD, few, fun H2 s2 => ⟨_, rfl, q _ H2 s2 (.str _)⟩⟩
theorem gv_strI {n : Nat} (h : Gv K te σ H (.int (n : Int))) (hn : n ≤ 1000) : Gv K (tCB rStrI (tCons te tNil)) σ H (.str (toString (n : Int))) := gv_cb (gva_cons h gva_nil) fun vs H1 Q s hd' q => by
  obtain ⟨v, rfl, hv⟩ := dpAll1 hd'
  cases hv
  exact ⟨_, rfl, log_num n hn, q _ _ (Same.refl _) (.str _)⟩
theorem dpAll_strI : ∀ {vs : List V} {l : List Str}, DpAll K H vs (l.map PyData.str) → vs = l.map V.str
  | [], [], _ => rfl
  | _, _ :: _, h => by
    cases h with
    | cons h1 h2 =>
      cases h1
      rw [dpAll_strI h2]; rfl
theorem gv_join1 {td tl : TE} {a : Str} {ys : List Str} (h1 : Gv K td σ H (.str a)) (h2 : Gv K tl σ H (.list (ys.map PyData.str))) (hl : (ys.map (·.length)).sum + ys.length * a.length ≤ 16777216) :
    Gv K (tM1 (fun x xs H Q => ∃ a p, ∃ ys : List Str, x = .str a ∧ xs = [.ref p] ∧ (SqL K H p (ys.map V.str) ∨ SqT K H p (ys.map V.str)) ∧
      (ys.map (·.length)).sum + ys.length * a.length ≤ 16777216 ∧ Q (.str (Txt.join a ys)) H) td tl) σ H (.str (Txt.join a ys)) := fun H1 s Q q => h1 H1 s _ fun v H2 s2 d2 => by
  cases d2
  refine ⟨⟨_, rfl⟩, h2 H2 (s.trans s2) _ fun w H3 s3 d3 => ?_⟩
  obtain ⟨p, xs, rfl, hp, hr⟩ := d3.lstI
  rw [dpAll_strI hr] at hp
  exact ⟨_, p, ys, rfl, rfl, .inl hp, hl, q _ H3 (s2.trans s3) (.str _)⟩
end
theorem txt_is (a b c : Nat) : txtD a b c = Txt.join (" " : Str) [(toString (a : Int) : Str), "buttons,", (toString (b : Int) : Str), "latched,", (toString (c : Int) : Str), "edits"] := by
  have e1 : (" buttons, " : Str) = (" " : Str) ++ (("buttons," : Str) ++ (" " : Str)) := by decide +kernel
  have e2 : (" latched, " : Str) = (" " : Str) ++ (("latched," : Str) ++ (" " : Str)) := by decide +kernel
  have e3 : (" edits" : Str) = (" " : Str) ++ ("edits" : Str) := by decide +kernel
  have j : Txt.join (" " : Str) [(toString (a : Int) : Str), "buttons,", (toString (b : Int) : Str), "latched,", (toString (c : Int) : Str), "edits"] = (toString (a : Int) : Str) ++ " " ++ (("buttons," : Str) ++ " " ++ ((toString (b : Int) : Str) ++ " " ++ (("latched," : Str) ++ " " ++ ((toString (c : Int) : Str) ++ " " ++ ("edits" : Str))))) := (TL.join_eq _ _).trans rfl
  rw [j]
  unfold txtD
  rw [e1, e2, e3]
  simp only [Str.empty_append, Str.append_assoc]
structure DM (P : Program) (w : World) (K : PySem.W.Frag) (mg : Str → Option Value) (base : Heap) (C : Addr) where
  fInitD : Addr
  fdInitD : FuncData
  bInitD : Binds K fdInitD ["self", "panel", "state"] []
  MkD : Mk K C fInitD
  GInitD : FnOk P w K mg base CX0 5 fInitD fdInitD ["self", "panel", "state"] (spInitD K C)
  fState : Addr
  fdState : FuncData
  dsState : List Value
  vState : Vals [V.non] dsState
  kbState : KBn K fdState ["self", "version"] 1 ["version"] (fun us ws => us ++ ws) (fun vs zs => vs ++ zs)
  bState : Binds K fdState ["self", "version"] dsState
  hState : Meth K C "state" fState
  GState : FnOk P w K mg base CX0 1 fState fdState ["self", "version"] (spState K C)
  fEdits : Addr
  fdEdits : FuncData
  bEdits : Binds K fdEdits ["self"] []
  hEdits : Meth K C "edits" fEdits
  GEdits : FnOk P w K mg base CX0 1 fEdits fdEdits ["self"] (spEdits K C)
  fLenD : Addr
  fdLenD : FuncData
  bLenD : Binds K fdLenD ["self"] []
  xLenD : PySem.W.findIn K (.ref C) "__len__" = some (some (.ref fLenD))
  yLenD : PySem.W.isFn K (.ref fLenD) = true
  GLenD : FnOk P w K mg base CX0 1 fLenD fdLenD ["self"] (spLenD K C)
  fStrD : Addr
  fdStrD : FuncData
  bStrD : Binds K fdStrD ["self"] []
  xStrD : PySem.W.findIn K (.ref C) "__str__" = some (some (.ref fStrD))
  yStrD : PySem.W.isFn K (.ref fStrD) = true
  GStrD : FnOk P w K mg base CX0 1 fStrD fdStrD ["self"] (spStrD K C)
end K52D
namespace K52G
open PySem PySem.Spec PyProof.Rows L2 Pr K52
abbrev sInitD : Stmt := inClass (topS 37) 1
abbrev sShow : Stmt := inClass (topS 37) 2
abbrev sState : Stmt := inClass (topS 37) 16
abbrev sEdits : Stmt := inClass (topS 37) 19
abbrev sLenD : Stmt := inClass (topS 37) 21
abbrev sStrD : Stmt := inClass (topS 37) 22
def fD1 (pa : Addr) : List (Str × V) := [("past", V.ref pa), ("watched", V.bl false)]
def fldsD (pa p l h kn : Addr) : List (Str × V) := [("past", V.ref pa), ("watched", V.bl false), ("panel", V.ref p), ("latched", V.ref l), ("held", V.ref h), ("known", V.ref kn)]
theorem look_past (pa p l h kn : Addr) : (fldsD pa p l h kn).lookup ("past" : Str) = some (.ref pa) := by rfl
theorem look_panel (pa p l h kn : Addr) : (fldsD pa p l h kn).lookup ("panel" : Str) = some (.ref p) := by rfl
theorem look_latched (pa p l h kn : Addr) : (fldsD pa p l h kn).lookup ("latched" : Str) = some (.ref l) := by rfl
end K52G
namespace K52G
open PySem PySem.Spec PyProof.Rows L2 Pr K52
theorem put_0 (pa : Addr) : putF "watched" (.bl false) (putF "past" (.ref pa) []) = fD1 pa := by rfl
structure TxtD (K : PySem.W.Frag) (mg : Str → Option Value) (C : Addr) : Prop where
  cl : Cls K C
  nA : NoAttr K C "past"
  nW : NoAttr K C "watched"
  nP : NoAttr K C "panel"
  nL : NoAttr K C "latched"
  nH : NoAttr K C "held"
  nK : NoAttr K C "known"
  con : ∃ u, Con K C "MOST_EDITS" (.int 60) u
  g : mg "GuessDesk" = some (.ref C)
def dEnt (x : PyData × List (List Int) × List Int) : PyData := .tuple [x.1, dPan x.2.1, dInts x.2.2]
def dPast (past : List (PyData × List (List Int) × List Int)) : PyData := .tuple (past.map dEnt)
/-- a part of the past: the edit, and the panel and the state before it -/
def EntAt (K : PySem.W.Frag) (H : Hp) (x : V) (y : PyData × List (List Int) × List Int) : Prop := ∃ (a p l : Addr) (v : V), x = .ref a ∧ SqT K H a [v, .ref p, .ref l] ∧ Dp K H v y.1 ∧ PanT K H p y.2.1 ∧ H l = some (.tup (y.2.2.map V.int))
def PastAt (K : PySem.W.Frag) (H : Hp) (pa : Addr) (past : List (PyData × List (List Int) × List Int)) : Prop := ∃ xs, SqT K H pa xs ∧ Paired (EntAt K H) xs past
section
variable {K : PySem.W.Frag} {H H' : Hp} {pa : Addr} {past : List (PyData × List (List Int) × List Int)}
theorem EntAt.sm {x : V} {y : PyData × List (List Int) × List Int} (h : EntAt K H x y) (s : Same H H') : EntAt K H' x y := by
  obtain ⟨a, p, l, v, rfl, h1, h2, h3, h4⟩ := h
  exact ⟨a, p, l, v, rfl, same_sqT s h1, h2.sm s, h3.same s, s _ _ h4⟩
theorem EntAt.kp {x : V} {y : PyData × List (List Int) × List Int} (h : EntAt K H x y) (k : Kp H H') (hl : lf y.1 = true) : EntAt K H' x y := by
  obtain ⟨a, p, l, v, rfl, h1, h2, h3, h4⟩ := h
  exact ⟨a, p, l, v, rfl, sqT_kp k h1, h2.kp k hl, h3.kp k, k.1 _ _ h4⟩
theorem EntAt.dp {x : V} {y : PyData × List (List Int) × List Int} (h : EntAt K H x y) : Dp K H x (dEnt y) := by
  obtain ⟨a, p, l, v, rfl, h1, h2, h3, h4⟩ := h
  exact .tup h1 (.cons h2 (.cons h3.dp (.cons (dp_ints (.inl (.inl h4))) .nil)))
theorem ents_sm (s : Same H H') : ∀ {xs : List V} {past : List (PyData × List (List Int) × List Int)}, Paired (EntAt K H) xs past → Paired (EntAt K H') xs past
  | _, _, .nil => .nil
  | _, _, .cons h t => .cons (h.sm s) (ents_sm s t)
theorem ents_kp (k : Kp H H') : ∀ {xs : List V} {past : List (PyData × List (List Int) × List Int)}, (∀ x ∈ past, lf x.1 = true ∧ Good x.2.1 ∧ Asc x.2.1.length x.2.2) → Paired (EntAt K H) xs past → Paired (EntAt K H') xs past
  | _, _, _, .nil => .nil
  | _, _, e, .cons h t => .cons (h.kp k (e _ List.mem_cons_self).1) (ents_kp k (fun x hx => e x (List.mem_cons_of_mem _ hx)) t)
theorem ents_dp : ∀ {xs : List V} {past : List (PyData × List (List Int) × List Int)}, Paired (EntAt K H) xs past → DpAll K H xs (past.map dEnt)
  | _, _, .nil => .nil
  | _, _, .cons h t => .cons h.dp (ents_dp t)
theorem prGet {α β : Type} {R : α → β → Prop} : ∀ {xs : List α} {ys : List β} {i : Nat} {y : β}, Paired R xs ys → ys[i]? = some y → ∃ x, xs[i]? = some x ∧ R x y
  | _, _, i, y, .nil, e => by simp at e
  | x :: xs, z :: ys, 0, y, .cons a b, e => by cases e; exact ⟨x, rfl, a⟩
  | x :: xs, z :: ys, i + 1, y, .cons a b, e => prGet (i := i) b e
theorem PastAt.sm (h : PastAt K H pa past) (s : Same H H') : PastAt K H' pa past := by
  obtain ⟨xs, h1, h2⟩ := h
  exact ⟨xs, same_sqT s h1, ents_sm s h2⟩
theorem PastAt.kp (h : PastAt K H pa past) (k : Kp H H') (e : ∀ x ∈ past, lf x.1 = true ∧ Good x.2.1 ∧ Asc x.2.1.length x.2.2) : PastAt K H' pa past := by
  obtain ⟨xs, h1, h2⟩ := h
  exact ⟨xs, sqT_kp k h1, ents_kp k e h2⟩
theorem PastAt.dp (h : PastAt K H pa past) : Dp K H (.ref pa) (dPast past) := by
  obtain ⟨xs, h1, h2⟩ := h
  exact .tup h1 (ents_dp h2)
end
def isPress (y : PyData) : Option Int := match y with
  | .tuple [.str x, .int b] => if x = ("press" : Str) then some b else none
  | _ => none
/-- what the edits that stand have told -/
def knM (n : Nat) (past : List (PyData × List (List Int) × List Int)) : List Str := past.foldl (fun k x => match isPress x.1 with | some b => joinM k (pressW x.2.1 b) | none => k) (List.replicate n wSame)
/-- an edit of the past: a press, or a change of a list -/
def PEd (n : Nat) (x : PyData × List (List Int) × List Int) : Prop := x.2.1.length = n ∧ ((∃ b : Int, x.1 = .tuple [.str "press", .int b] ∧ 0 ≤ b ∧ b < (n : Int)) ∨ ∃ (y : Str) (one other : Int), y ≠ "press" ∧ x.1 = .tuple [.str y, .int one, .int other])
theorem knM_len {n : Nat} {past : List (PyData × List (List Int) × List Int)} (h : ∀ x ∈ past, PEd n x) : (knM n past).length = n := by
  unfold knM
  have key : ∀ (l : List (PyData × List (List Int) × List Int)) (k : List Str), (∀ x ∈ l, PEd n x) → k.length = n → (l.foldl (fun k x => match isPress x.1 with | some b => joinM k (pressW x.2.1 b) | none => k) k).length = n := by
    intro l
    induction l with
    | nil => intro k _ hk; exact hk
    | cons x r ih =>
      intro k hx hk
      rw [List.foldl_cons]
      refine ih _ (fun y hy => hx y (List.mem_cons_of_mem _ hy)) ?_
      have hx0 := (hx x List.mem_cons_self).1
      cases isPress x.1 with
      | none => exact hk
      | some b => 
        have e1 : k.length = (pressW x.2.1 b).length := by rw [pressW_len]; omega
        show (joinM k (pressW x.2.1 b)).length = n
        rw [joinM_len e1, pressW_len]; exact hx0
  exact key past _ h (List.length_replicate ..)
/-- a desk stands at t -/
structure DeskAt (K : PySem.W.Frag) (C : Addr) (H : Hp) (t : Addr) (pan : List (List Int)) (st : List Int) (past : List (PyData × List (List Int) × List Int)) : Prop where
  ob : ∃ dx pa p l h hs kn, H t = some (.ins C dx (fldsD pa p l h kn)) ∧ PastAt K H pa past ∧ PanT K H p pan ∧ H l = some (.tup (st.map V.int)) ∧ SqT K H h (hs.map V.int) ∧ IsHeld pan st hs ∧ FT H kn ((knM pan.length past).map V.str)
  good : Good pan
  asc : Asc pan.length st
  lfe : ∀ x ∈ past, lf x.1 = true ∧ Good x.2.1 ∧ Asc x.2.1.length x.2.2 ∧ PEd pan.length x
section
variable {K : PySem.W.Frag} {C : Addr} {H H' : Hp} {t : Addr} {pan : List (List Int)} {st : List Int} {past : List (PyData × List (List Int) × List Int)}
theorem DeskAt.same (h : DeskAt K C H t pan st past) (s : Same H H') : DeskAt K C H' t pan st past := by
  obtain ⟨⟨dx, pa, p, l, hh, hs, kn, h1, h2, h3, h4, h5, h6, h7⟩, g, a, e⟩ := h
  exact ⟨⟨dx, pa, p, l, hh, hs, kn, s _ _ h1, h2.sm s, h3.same s, s _ _ h4, same_sqT s h5, h6, h7.same s⟩, g, a, e⟩
end
def spShow (K : PySem.W.Frag) (C : Addr) : Sp := fun vs H Q _ => ∃ (t p l dx pa : Addr) (fs : List (Str × V)) (pan : List (List Int)) (st : List Int) (past : List (PyData × List (List Int) × List Int)), vs = [.ref t, .ref p, .ref l] ∧ H t = some (.ins C dx fs) ∧ (fs = fD1 pa ∨ ∃ p0 l0 h0 k0, fs = fldsD pa p0 l0 h0 k0) ∧ PanT K H p pan ∧ Good pan ∧ SqT K H l (st.map V.int) ∧ Asc pan.length st ∧ PastAt K H pa past ∧ (∀ x ∈ past, lf x.1 = true ∧ Good x.2.1 ∧ Asc x.2.1.length x.2.2 ∧ PEd pan.length x) ∧
  ∀ H' h hs kn, ButO t H H' → H' t = some (.ins C dx (fldsD pa p l h kn)) → SqT K H' h (hs.map V.int) → IsHeld pan st hs → FT H' kn ((knM pan.length past).map V.str) → Q .non H'
def nInitD : List Str := ["self", "panel", "state"]
theorem scInitD : FnScope nInitD ["self", "panel", "state"] (defScope sInitD) := ⟨rfl, rfl, rfl, by decide +kernel, rfl, by decide +kernel, by decide +kernel⟩
section
variable {P : Program} {w : World} {K : PySem.W.Frag} {mg : Str → Option Value} {base : Heap}
def spInitD (K : PySem.W.Frag) (C : Addr) : Sp := fun vs H Q _ => ∃ (t p l dx : Addr) (pan : List (List Int)) (st : List Int), vs = [.ref t, .ref p, .ref l] ∧ H t = some (.ins C dx []) ∧ PanT K H p pan ∧ Good pan ∧ H l = some (.tup (st.map V.int)) ∧ Asc pan.length st ∧
  ∀ H', ButO t H H' → DeskAt K C H' t pan st [] → Q .non H'
theorem ok_InitD {fBtn : Addr} {fdBtn : FuncData} {fBtnT : Addr} {fdBtnT : FuncData} {fPErr : Addr} {fdPErr : FuncData} {fChkP : Addr} {fdChkP : FuncData} {fChkS : Addr} {fdChkS : FuncData} {C f : Addr} {fd : FuncData} {k : Nat} {tk : Tok} (F : Fun K "__init__" "Desk.__init__" sInitD f fd) (T : TxtD K mg C)
    (FBtn : Fun K "is_button" "is_button" sBtn fBtn fdBtn) (bBtn : Binds K fdBtn ["value", "many"] []) (gBtn : mg "is_button" = some (.ref fBtn))
    (FBtnT : Fun K "is_button_tuple" "is_button_tuple" sBtnT fBtnT fdBtnT) (bBtnT : Binds K fdBtnT ["value", "many"] []) (gBtnT : mg "is_button_tuple" = some (.ref fBtnT))
    (FPErr : Fun K "panel_error" "panel_error" sPErr fPErr fdPErr) (bPErr : Binds K fdPErr ["value"] []) (gPErr : mg "panel_error" = some (.ref fPErr))
    (FChkP : Fun K "check_panel" "check_panel" sChkP fChkP fdChkP) (bChkP : Binds K fdChkP ["value"] []) (gChkP : mg "check_panel" = some (.ref fChkP))
    (FChkS : Fun K "check_state" "check_state" sChkS fChkS fdChkS) (bChkS : Binds K fdChkS ["panel", "value"] []) (gChkS : mg "check_state" = some (.ref fChkS))
    {fShow : Addr} {fdShow : FuncData} (GShow0 : ∀ k0 : Nat, FnOk P w K mg base CX0 (k0 + 6) fShow fdShow ["self", "panel", "latched"] (spShow K C)) (bShow : Binds K fdShow ["self", "panel", "latched"] []) (hShow : Meth K C "show" fShow)
    (m_bool : mg "bool" = none) (m_enumerate : mg "enumerate" = none) (m_int : mg "int" = none) (m_isinstance : mg "isinstance" = none) (m_len : mg "len" = none) (m_tuple : mg "tuple" = none) (y_MAX : mg "MAX_BUTTONS" = some (.int 10 tk)) : FnOk P w K mg base CX0 (k + 7) f fd ["self", "panel", "state"] (spInitD K C) := by
  have GChkP : FnOk P w K mg base CX0 (k + 4) fChkP fdChkP ["value"] (spChkP K) := ok_ChkP FChkP FBtn bBtn gBtn FBtnT bBtnT gBtnT FPErr bPErr gPErr m_bool m_enumerate m_int m_isinstance m_len m_tuple y_MAX
  have GChkS : FnOk P w K mg base CX0 (k + 3) fChkS fdChkS ["panel", "value"] (spChkS K) := ok_ChkS FChkS FBtn bBtn gBtn FBtnT bBtnT gBtnT m_bool m_int m_isinstance m_len m_tuple
  have GShow : FnOk P w K mg base CX0 (k + 6) fShow fdShow ["self", "panel", "latched"] (spShow K C) := GShow0 k
  refine F.ok scInitD (fun vs H Q E h => ?_) (fun cdv A outer s H vs Q E hr h => ?_)
  · obtain ⟨t, p, l, dx, pan, st, rfl, _⟩ := h
    rfl
  · obtain ⟨t, p, l, dx, pan, st, rfl, ht, hp, hg, hl, hst, q⟩ := h
    refine ⟨_, pss_cons (ps_expr (pe_call GChkP (hr.mono (by omega)) (by rfl) gChkP FChkP.kp bChkP .nil pass0 (pa_cons (pv 1) pa_nil)))
      (pss_cons (ps_expr (pe_call GChkS (hr.mono (by omega)) (by rfl) gChkS FChkS.kp bChkS .nil pass0 (pa_cons (pv 1) (pa_cons (pv 2) pa_nil))))
      (pss_cons (ps_fld (pv 0) (pe_tup pa_nil) rfl)
      (pss_cons (ps_fld (pv 0) pe_bl rfl)
      (pss_one (ps_expr (pe_meth (pv 0) T.cl hShow GShow (hr.mono (by omega)) bShow .nil pass0 (pa_cons (pv 1) (pa_cons (pv 2) pa_nil)))))))), ?_⟩
    refine ⟨.ref p, rfl, p, pan, rfl, hp, hg, fun H1 s1 => ?_⟩
    refine ⟨.ref p, rfl, .ref l, rfl, p, l, pan, st, rfl, hp.same s1, .inl (.inl (s1 _ _ hl)), hst, fun H2 s2 => ?_⟩
    have s12 := s1.trans s2
    have e2 := s12 _ _ ht
    refine ⟨Nat.zero_le _, fun pa npa => ?_⟩
    have sp := same_new (o := .tup []) npa
    refine ⟨.ref t, rfl, t, C, dx, _, rfl, sp _ _ e2, T.cl, T.nA, by show 0 < 1000; decide, ?_⟩
    have k3 := ButO.upd (g := t) (H := upd H2 pa (.tup [])) (o := .ins C dx (putF "past" (.ref pa) []))
    refine ⟨.ref t, rfl, t, C, dx, _, rfl, upd_same, T.cl, T.nW, by show 1 < 1000; decide, ?_⟩
    rw [put_0]
    have k4 := ButO.upd (g := t) (H := upd (upd H2 pa (.tup [])) t (.ins C dx (putF "past" (.ref pa) []))) (o := .ins C dx (fD1 pa))
    have kk := (k3.trans k4).kp (sp _ _ e2)
    have sH := s12.trans sp
    have pt : pa ≠ t := fun z => by rw [z, e2] at npa; cases npa
    refine ⟨.ref t, rfl, t, dx, _, rfl, upd_same, by rfl, .ref p, rfl, .ref l, rfl, t, p, l, dx, pa, fD1 pa, pan, st, [], rfl, upd_same, .inl rfl, (hp.same sH).kp kk, hg, .inl (.inl (kk.1 _ _ (sH _ _ hl))), hst, ⟨[], .inl (.inl (k4.kp upd_same |>.1 _ _ (by rw [upd_ne pt]; exact upd_same))), .nil⟩, (fun x hx => by cases hx), fun H5 h hs kn k5 e5 hh ish hkn => ?_⟩
    have kAll := ((ButO.of sH).trans (k3.trans k4)).trans k5
    have kp5 := kk.trans (k5.kp upd_same)
    refine q H5 kAll ⟨⟨dx, pa, p, l, h, hs, kn, e5, ⟨[], .inl (.inl (kp5.1 _ _ upd_same)), .nil⟩, (hp.same sH).kp kp5, kp5.1 _ _ (sH _ _ hl), hh, ish, hkn⟩, hg, hst, fun x hx => by cases hx⟩
end
end K52G
namespace K52G
open PySem PySem.Spec PyProof.Rows L2 Pr K52
section
variable {K : PySem.W.Frag} {C : Addr} {H H' : Hp} {t : Addr} {pan : List (List Int)} {st : List Int} {past : List (PyData × List (List Int) × List Int)} {σ : L2.St} {mg : Str → Option Value} {i : Nat}
theorem gv_past (T : TxtD K mg C) (hi : σ[i]? = some (some (.ref t))) (h : DeskAt K C H t pan st past) : Gv K (tFld K (tVar i) "past") σ H (dPast past) := fun H1 s Q q => by
  obtain ⟨⟨dx, pa, p, l, hh, hs, kn, h1, h2, _⟩, _⟩ := h.same s
  exact ⟨.ref t, hi, t, C, dx, _, .ref pa, rfl, h1, T.cl, T.nA, look_past _ _ _ _ _, q _ H1 (Same.refl _) h2.dp⟩
theorem gv_panel (T : TxtD K mg C) (hi : σ[i]? = some (some (.ref t))) (h : DeskAt K C H t pan st past) : Gv K (tFld K (tVar i) "panel") σ H (dPan pan) := fun H1 s Q q => by
  obtain ⟨⟨dx, pa, p, l, hh, hs, kn, h1, h2, h3, _⟩, _⟩ := h.same s
  exact ⟨.ref t, hi, t, C, dx, _, .ref p, rfl, h1, T.cl, T.nP, look_panel _ _ _ _ _, q _ H1 (Same.refl _) h3.dp⟩
theorem gv_latched (T : TxtD K mg C) (hi : σ[i]? = some (some (.ref t))) (h : DeskAt K C H t pan st past) : Gv K (tFld K (tVar i) "latched") σ H (dInts st) := fun H1 s Q q => by
  obtain ⟨⟨dx, pa, p, l, hh, hs, kn, h1, h2, h3, h4, _⟩, _⟩ := h.same s
  exact ⟨.ref t, hi, t, C, dx, _, .ref l, rfl, h1, T.cl, T.nL, look_latched _ _ _ _ _, q _ H1 (Same.refl _) (dp_ints (.inl (.inl h4)))⟩
theorem gv_most (T : TxtD K mg C) (hi : σ[i]? = some (some (.ref t))) (h : DeskAt K C H t pan st past) : Gv K (tCon K (tVar i) "MOST_EDITS") σ H (.int 60) := fun H1 s Q q => by
  obtain ⟨⟨dx, pa, p, l, hh, hs, kn, h1, _⟩, _⟩ := h.same s
  obtain ⟨u, hu⟩ := T.con
  exact ⟨.ref t, hi, t, C, dx, _, .int 60, u, rfl, h1, T.cl, hu, by rfl, q _ H1 (Same.refl _) (.int _)⟩
end
end K52G
namespace K52G
open PySem PySem.Spec PyProof.Rows L2 Pr K52
def nEdits : List Str := ["self", "edit", "panel", "latched"]
theorem scEdits : FnScope nEdits ["self"] (defScope sEdits) := ⟨rfl, rfl, rfl, by decide +kernel, rfl, by decide +kernel, by decide +kernel⟩
section
variable {P : Program} {w : World} {K : PySem.W.Frag} {mg : Str → Option Value} {base : Heap}
def spEdits (K : PySem.W.Frag) (C : Addr) : Sp := fun vs H Q _ => ∃ (t : Addr) (pan : List (List Int)) (st : List Int) (past : List (PyData × List (List Int) × List Int)), vs = [.ref t] ∧ DeskAt K C H t pan st past ∧ past.length ≤ 1000 ∧ ∀ H' v, Same H H' → Dp K H' v (.tuple (past.map (·.1))) → Q v H'
theorem ok_Edits  {C f : Addr} {fd : FuncData} {k : Nat} (F : Fun K "edits" "Desk.edits" sEdits f fd) (T : TxtD K mg C)
    (m_tuple : mg "tuple" = none) : FnOk P w K mg base CX0 (k + 1) f fd ["self"] (spEdits K C) := by
  refine F.ok scEdits (fun vs H Q E h => ?_) (fun cdv A outer s H vs Q E hr h => ?_)
  · obtain ⟨t, pan, st, past, rfl, _⟩ := h
    rfl
  · obtain ⟨t, pan, st, past, rfl, hD, few, q⟩ := h
    have hD' := hD
    obtain ⟨⟨dx, pa, p, l, hh, hs, kn, h1, h2, h3, h4, h5, h6, h7⟩, hg, hst, lfe⟩ := hD'
    refine ⟨_, pss_one (ps_ret (pe_callTy (show CallR _ _ (rTupG K) from cr_tupG) (by rfl) m_tuple (by decide +kernel) (pa_cons (pe_lc (own := [("edit", 1), ("panel", 2), ("latched", 3)]) (g := gTup K 3 (gCons (gName 1) (gCons (gName 2) (gCons (gName 3) gNil)))) (tt := tYes) rfl scEdits.nd (show PI _ _ _ (iTup K _) from pi_tup (pe_fld (pv 0) rfl)) (blkOk_by (own := [("edit", 1), ("panel", 2), ("latched", 3)]) (N := nEdits) (sc := defScope sEdits) (by decide +kernel)) (fun _ _ _ _ _ => pg_tup rfl (pgs_cons (pg_name (i := 1) scEdits.nd rfl (Or.inl rfl)) (pgs_cons (pg_name (i := 2) scEdits.nd rfl (Or.inl rfl)) (pgs_cons (pg_name (i := 3) scEdits.nd rfl (Or.inl rfl)) pgs_nil)))) (fun _ _ _ _ _ => pts_nil) (fun _ _ _ _ _ => pv 1)) pa_nil))), ?_⟩
    refine gs_ret (K := K) (gv_tupL ((gn_lc3 (δ1 := fun x : PyData × List (List Int) × List Int => x.1) (δ2 := fun x => dPan x.2.1) (δ3 := fun x => dInts x.2.2) (as := past) (p := fun _ => true) (f := fun x => x.1) (gvi_tup (gv_past T rfl hD)) (fun x v u w H1 hx s1 dv du dw => ⟨gvt_yes, fun _ => gv_var rfl dv⟩) (fun x hx => (lfe x hx).1) (by omega) (by decide) (by decide) (by decide)).gv)) fun v H1 s1 dv => q H1 v s1 ?_
    rwa [List.filter_eq_self.mpr (fun _ _ => rfl)] at dv
end
def nLenD : List Str := ["self"]
theorem scLenD : FnScope nLenD ["self"] (defScope sLenD) := ⟨rfl, rfl, rfl, by decide +kernel, rfl, by decide +kernel, by decide +kernel⟩
section
variable {P : Program} {w : World} {K : PySem.W.Frag} {mg : Str → Option Value} {base : Heap}
def spLenD (K : PySem.W.Frag) (C : Addr) : Sp := fun vs H Q _ => ∃ (t : Addr) (pan : List (List Int)) (st : List Int) (past : List (PyData × List (List Int) × List Int)), vs = [.ref t] ∧ DeskAt K C H t pan st past ∧ ∀ H', Same H H' → Q (.int (past.length : Nat)) H'
theorem ok_LenD  {C f : Addr} {fd : FuncData} {k : Nat} (F : Fun K "__len__" "Desk.__len__" sLenD f fd) (T : TxtD K mg C)
    (m_len : mg "len" = none) : FnOk P w K mg base CX0 (k + 1) f fd ["self"] (spLenD K C) := by
  refine F.ok scLenD (fun vs H Q E h => ?_) (fun cdv A outer s H vs Q E hr h => ?_)
  · obtain ⟨t, pan, st, past, rfl, _⟩ := h
    rfl
  · obtain ⟨t, pan, st, past, rfl, hD, q⟩ := h
    have hD' := hD
    obtain ⟨⟨dx, pa, p, l, hh, hs, kn, h1, h2, h3, h4, h5, h6, h7⟩, hg, hst, lfe⟩ := hD'
    refine ⟨_, pss_one (ps_ret (pe_callB (show CallR _ _ (rLenG K) from cr_lenG) (by rfl) m_len PySem.boot_len (pa_cons (pe_fld (pv 0) rfl) pa_nil))), ?_⟩
    refine gs_ret (K := K) (gv_lenT (gv_past T rfl hD)) fun v H1 s1 dv => ?_
    cases dv
    rw [List.length_map]
    exact q H1 s1
end
theorem len_num (n : Nat) (h : n ≤ 1000) : ((toString (n : Int) : Str)).length ≤ 10 := by
  have : ∀ n < 1001, ((toString ((n : Nat) : Int) : Str)).length ≤ 10 := by decide +kernel
  exact this n (by omega)
theorem log_num (n : Nat) (h : n ≤ 1000) : ((n : Int)).natAbs.log2 < 1920 := by
  have : ∀ n < 1001, (((n : Nat) : Int)).natAbs.log2 < 1920 := by decide +kernel
  exact this n (by omega)
def txtD (a b c : Nat) : Str := ((((((Str.empty ++ (toString (a : Int) : Str)) ++ (" buttons, " : Str)) ++ (toString (b : Int) : Str)) ++ (" latched, " : Str)) ++ (toString (c : Int) : Str)) ++ (" edits" : Str))
def nStrD : List Str := ["self"]
theorem scStrD : FnScope nStrD ["self"] (defScope sStrD) := ⟨rfl, rfl, rfl, by decide +kernel, rfl, by decide +kernel, by decide +kernel⟩
section
variable {P : Program} {w : World} {K : PySem.W.Frag} {mg : Str → Option Value} {base : Heap}
def spStrD (K : PySem.W.Frag) (C : Addr) : Sp := fun vs H Q _ => ∃ (t : Addr) (pan : List (List Int)) (st : List Int) (past : List (PyData × List (List Int) × List Int)), vs = [.ref t] ∧ DeskAt K C H t pan st past ∧ past.length ≤ 1000 ∧ ∀ H', Same H H' → Q (.str (txtD pan.length st.length past.length)) H'
theorem ok_StrD  {C f : Addr} {fd : FuncData} {k : Nat} (F : Fun K "__str__" "Desk.__str__" sStrD f fd) (T : TxtD K mg C)
    (m_len : mg "len" = none) : FnOk P w K mg base CX0 (k + 1) f fd ["self"] (spStrD K C) := by
  refine F.ok scStrD (fun vs H Q E h => ?_) (fun cdv A outer s H vs Q E hr h => ?_)
  · obtain ⟨t, pan, st, past, rfl, _⟩ := h
    rfl
  · obtain ⟨t, pan, st, past, rfl, hD, few, q⟩ := h
    have hD' := hD
    obtain ⟨⟨dx, pa, p, l, hh, hs, kn, h1, h2, h3, h4, h5, h6, h7⟩, hg, hst, lfe⟩ := hD'
    refine ⟨_, pss_one (ps_ret (pe_joined (.cons (pe_fmt (pe_callB (show CallR _ _ (rLenG K) from cr_lenG) (by rfl) m_len PySem.boot_len (pa_cons (pe_fld (pv 0) rfl) pa_nil))) (.cons pe_str (.cons (pe_fmt (pe_callB (show CallR _ _ (rLenG K) from cr_lenG) (by rfl) m_len PySem.boot_len (pa_cons (pe_fld (pv 0) rfl) pa_nil))) (.cons pe_str (.cons (pe_fmt (pe_callB (show CallR _ _ (rLenG K) from cr_lenG) (by rfl) m_len PySem.boot_len (pa_cons (pe_fld (pv 0) rfl) pa_nil))) (.cons pe_str .nil)))))))), ?_⟩
    have f1 := hg.few
    have f2 := hst.len
    have n1 := len_num pan.length (by omega)
    have n2 := len_num st.length (by omega)
    have n3 := len_num past.length few
    have sz : ∀ {n : Nat}, n ≤ 1000 → n ≤ sizeLine := fun h => Nat.le_of_lt (small1000 h)
    refine (gv_lenT (K := K) (gv_panel (i := 0) T rfl hD)).at fun v1 H1 s1 d1 => ?_
    cases d1
    rw [List.length_map]
    refine .inr ⟨_, rfl, log_num _ (by omega), _, rfl, ?_, _, rfl, ?_, ?_⟩
    · rw [Str.length_append]; exact sz (by show 0 + _ ≤ _; omega)
    · rw [Str.length_append, Str.length_append]; exact sz (by show 0 + _ + 10 ≤ _; omega)
    refine (gv_lenT (K := K) (gv_latched (i := 0) T rfl (hD.same s1))).at fun v2 H2 s2 d2 => ?_
    cases d2
    rw [List.length_map]
    refine .inr ⟨_, rfl, log_num _ (by omega), _, rfl, ?_, _, rfl, ?_, ?_⟩
    · simp only [Str.length_append]; exact sz (by show 0 + _ + 10 + _ ≤ _; omega)
    · simp only [Str.length_append]; exact sz (by show 0 + _ + 10 + _ + 10 ≤ _; omega)
    refine (gv_lenT (K := K) (gv_past (i := 0) T rfl ((hD.same s1).same s2))).at fun v3 H3 s3 d3 => ?_
    cases d3
    rw [List.length_map]
    refine .inr ⟨_, rfl, log_num _ few, _, rfl, ?_, _, rfl, ?_, ?_⟩
    · simp only [Str.length_append]; exact sz (by show 0 + _ + 10 + _ + 10 + _ ≤ _; omega)
    · simp only [Str.length_append]; exact sz (by show 0 + _ + 10 + _ + 10 + _ + 6 ≤ _; omega)
    exact q H3 ((s1.trans s2).trans s3)
end
end K52G
namespace K52G
open PySem PySem.Spec PyProof.Rows L2 Pr K52
def nState : List Str := ["self", "version", "edit", "panel", "latched"]
theorem scState : FnScope nState ["self", "version"] (defScope sState) := ⟨rfl, rfl, rfl, by decide +kernel, rfl, by decide +kernel, by decide +kernel⟩
section
variable {P : Program} {w : World} {K : PySem.W.Frag} {mg : Str → Option Value} {base : Heap}
def spState (K : PySem.W.Frag) (C : Addr) : Sp := fun vs H Q _ => ∃ (t : Addr) (pan : List (List Int)) (st : List Int) (past : List (PyData × List (List Int) × List Int)), vs = [.ref t, .non] ∧ DeskAt K C H t pan st past ∧ ∀ H' v, Same H H' → Dp K H' v (.tuple [dPan pan, dInts st]) → Q v H'
theorem ok_State {C f : Addr} {fd : FuncData} {k : Nat} (F : FunD K "state" "Desk.state" (defArgs sState) (defBody sState) (defScope sState) [] [("version", .non)] f fd) (T : TxtD K mg C) : FnOk P w K mg base CX0 (k + 1) f fd ["self", "version"] (spState K C) := by
  refine F.ok scState (fun vs H Q E h => ?_) (fun cdv A outer s H vs Q E hr h => ?_)
  · obtain ⟨t, pan, st, past, rfl, _⟩ := h
    rfl
  · obtain ⟨t, pan, st, past, rfl, hD, q⟩ := h
    refine ⟨_, pss_cons (ps_if (pt_cmpR op_isN (pv 1) pe_non (by rfl)) (pss_one (ps_ret (pe_tup (pa_cons (pe_fld (pv 0) rfl) (pa_cons (pe_fld (pv 0) rfl) pa_nil))))) pss_nil)
      (pss_cons ps_never
      (pss_cons ps_never
      (pss_cons ps_never
      (pss_one ps_never)))), ?_⟩
    refine ⟨.non, rfl, rfl, _, rfl, iteT ?_⟩
    exact gs_ret (K := K) (gv_tup (gva_cons (gv_panel (i := 0) T rfl hD) (gva_cons (gv_latched (i := 0) T rfl hD) gva_nil))) fun v H1 s1 dv => q H1 v s1 dv
end
end K52G
namespace K52G
open PySem PySem.Spec PyProof.Rows L2 Pr K52
theorem scNo : FnScope ["panel"] ["panel"] (defScope sNo) := ⟨rfl, rfl, rfl, by decide +kernel, rfl, by decide +kernel, by decide +kernel⟩
theorem scPressE : FnScope ["panel", "button", "words", "other"] ["panel", "button"] (defScope sPressE) := ⟨rfl, rfl, rfl, by decide +kernel, rfl, by decide +kernel, by decide +kernel⟩
def nJoin : List Str := ["first", "second", "early", "late"]
theorem scJoin : FnScope nJoin ["first", "second"] (defScope sJoin) := ⟨rfl, rfl, rfl, by decide +kernel, rfl, by decide +kernel, by decide +kernel⟩
theorem scWith : FnScope ["panel", "effect", "button"] ["panel", "effect", "button"] (defScope sWith) := ⟨rfl, rfl, rfl, by decide +kernel, rfl, by decide +kernel, by decide +kernel⟩
section
variable {P : Program} {w : World} {K : PySem.W.Frag} {mg : Str → Option Value} {base : Heap}
def spNo (K : PySem.W.Frag) : Sp := fun vs H Q _ => ∃ (p : Addr) (pan : List (List Int)), vs = [.ref p] ∧ PanT K H p pan ∧ Good pan ∧
  ∀ H' t, Same H H' → FT H' t ((effM pan []).map V.str) → Q (.ref t) H'
theorem ok_no {f : Addr} {fd : FuncData} {k : Nat} (F : Fun K "no_effect" "no_effect" sNo f fd) (ml : mg "len" = none) : FnOk P w K mg base CX0 (k + 1) f fd ["panel"] (spNo K) := by
  refine F.ok scNo (fun vs H Q E h => ?_) (fun cdv A outer s H vs Q E hr h => ?_)
  · obtain ⟨p, pan, rfl, _⟩ := h
    rfl
  · obtain ⟨p, pan, rfl, hp, hg, q⟩ := h
    refine ⟨_, pss_one (ps_ret (pe_op op_repF (pe_tupF (pa_cons pe_str pa_nil)) (pe_callB call_len_seq (by rfl) ml PySem.boot_len (pa_cons (pv 0) pa_nil)))), ?_⟩
    obtain ⟨xs, hxs, hl⟩ := hp.len
    have few := hg.few
    have pos := hg.pos
    refine ⟨by show 1 ≤ sizeLine; decide, fun T o nT ho => ?_⟩
    have sT : Same H (upd H T (.frz o (.tup [.str wSame]))) := same_new nT
    refine ⟨.ref p, rfl, p, _, rfl, .inr (same_sqT sT hxs), T, .str wSame, pan.length, rfl, by rw [hl], ⟨o, upd_same, ho⟩, pos, by omega, fun t H' s' ht => q H' t (sT.trans s') ?_⟩
    rw [effM_nil, List.map_replicate]; exact ht
def spPressE (K : PySem.W.Frag) : Sp := fun vs H Q _ => ∃ (p : Addr) (pan : List (List Int)) (b : Int), vs = [.ref p, .int b] ∧ PanT K H p pan ∧ Good pan ∧ 0 ≤ b ∧ b < (pan.length : Int) ∧
  ∀ H' t, Same H H' → H' t = some (.tup ((pressW pan b).map V.str)) → Q (.ref t) H'
theorem ok_pressE {f fN : Addr} {fd fdN : FuncData} {k : Nat} (F : Fun K "press_effect" "press_effect" sPressE f fd) (FN : Fun K "no_effect" "no_effect" sNo fN fdN) (bN : Binds K fdN ["panel"] []) (gN : mg "no_effect" = some (.ref fN))
    (ml : mg "len" = none) (mli : mg "list" = none) (mt : mg "tuple" = none) : FnOk P w K mg base CX0 (k + 2) f fd ["panel", "button"] (spPressE K) := by
  have GN : FnOk P w K mg base CX0 (k + 1) fN fdN ["panel"] (spNo K) := ok_no FN ml
  refine F.ok scPressE (fun vs H Q E h => ?_) (fun cdv A outer s H vs Q E hr h => ?_)
  · obtain ⟨p, pan, b, rfl, _⟩ := h
    rfl
  · obtain ⟨p, pan, b, rfl, hp, hg, b0, b1, q⟩ := h
    refine ⟨_, pss_cons (ps_set (i := 2) scPressE.nd rfl (.inl rfl) (pe_callTy call_list_of (by rfl) mli (by decide +kernel) (pa_cons (pe_call GN hr (by rfl) gN FN.kp bN .nil pass0 (pa_cons (pv 0) pa_nil)) pa_nil)))
      (pss_cons (ps_asg pe_str (pg_sub (pv 2) (pv 1) set_list))
      (pss_cons (ps_for PassesOwn.never rfl (pi_tup (pe_ix ix_tup (pv 0) (pv 1) (fun _ _ => rfl))) (pg_name (i := 3) scPressE.nd rfl (.inl rfl))
        (pss_one (ps_asg pe_str (pg_sub (pv 2) (pv 3) set_list))))
      (pss_one (ps_ret (pe_callTy call_tuple_of (by rfl) mt (by decide +kernel) (pa_cons (pv 2) pa_nil)))))), ?_⟩
    refine ⟨.ref p, rfl, p, pan, rfl, hp, hg, fun H1 t s1 et => ?_⟩
    refine ⟨t, _, rfl, .inr et.sq, fun W nW => ?_⟩
    have s2 : Same H (upd H1 W (.lst ((effM pan []).map V.str))) := s1.trans (same_new nW)
    have nW' : H W = none := s1.free nW
    obtain ⟨bn, rfl⟩ : ∃ bn : Nat, b = (bn : Int) := ⟨b.toNat, (Int.toNat_of_nonneg b0).symm⟩
    have hbn : bn < pan.length := by omega
    refine ⟨.ref W, rfl, .int (bn : Int), rfl, W, _, _, bn, rfl, rfl, upd_same, ixN_nat (by rw [List.length_map, effM_len]; exact hbn), ?_⟩
    obtain ⟨qs, q', hq, ha, hr', _⟩ := panT_at hp (b := (bn : Int)) b0 b1
    have s3 : Same H (upd (upd H1 W (.lst ((effM pan []).map V.str))) W (.lst (((effM pan []).map V.str).set bn (.str wOn)))) := fun x o e => by
      rw [upd_ne (ne_of_none e nW')]; exact s2 _ _ e
    refine ⟨.ref p, rfl, .int (bn : Int), rfl, p, _, _, .ref q', rfl, rfl, same_sqT s3 hq, ha, q', rfl, ⟨_, same_sqT s3 hr'⟩, ?_⟩
    generalize hl0 : pan.getD ((bn : Int)).toNat [] = l at hr'
    have hin : ∀ x ∈ l, 0 ≤ x ∧ x < (pan.length : Int) := fun x hx => by
      rw [← hl0, Int.toNat_natCast, List.getD_eq_getElem?_getD, List.getElem?_eq_getElem hbn] at hx
      exact hg.rng _ (List.getElem_mem hbn) x hx
    refine for_tup (xs := l.map V.int) (fun i σ H4 => Same H H4 ∧ H4 W = some (.lst (((List.range pan.length).map (onM (l.take i) (bn : Int))).map V.str)) ∧ ∃ x3, σ = [some (.ref p), some (.int (bn : Int)), some (.ref W), x3])
      ⟨s3, ?_, none, rfl⟩ (fun i σ H4 _ hP => same_sqT hP.1 hr') (fun i x σ H4 hx hP => ?_) (fun σ H4 hP => ?_)
    · rw [upd_same, effM_nil, replicate_map_range, List.map_map, set_map_range, List.map_map]
      refine congrArg _ (congrArg _ (List.map_congr_left fun c _ => ?_))
      show (if c = bn then V.str wOn else V.str wSame) = V.str (onM [] (bn : Int) c)
      unfold onM
      have e0 : ¬ ((c : Int) ∈ ([] : List Int)) := by simp
      by_cases e : c = bn
      · have e1 : (c : Int) = (bn : Int) := by omega
        rw [if_pos e, if_neg e0, if_pos e1]
      · have e1 : ¬ (c : Int) = (bn : Int) := by omega
        rw [if_neg e, if_neg e0, if_neg e1]
    · obtain ⟨s4, eW, x3, rfl⟩ := hP
      obtain ⟨z, hz, rfl⟩ := int_get hx
      have hzr := hin z (List.mem_of_getElem? hz)
      obtain ⟨zn, rfl⟩ : ∃ zn : Nat, z = (zn : Int) := ⟨z.toNat, (Int.toNat_of_nonneg hzr.1).symm⟩
      refine ⟨.ref W, rfl, .int (zn : Int), rfl, W, _, _, zn, rfl, rfl, eW, ixN_nat (by rw [List.length_map, List.length_map, List.length_range]; omega), ?_, ?_, _, rfl⟩
      · intro b o e
        rw [upd_ne (ne_of_none e nW')]; exact s4 _ _ e
      · rw [upd_same, List.map_map, set_map_range, List.map_map]
        refine congrArg _ (congrArg _ (List.map_congr_left fun c _ => ?_))
        show (if c = zn then V.str wOff else V.str (onM (l.take i) (bn : Int) c)) = V.str (onM (l.take (i + 1)) (bn : Int) c)
        unfold onM
        rw [List.take_add_one, hz]
        by_cases e : c = zn
        · rw [if_pos e, if_pos (by rw [e]; simp)]
        · have hne : (c : Int) ≠ (zn : Int) := by omega
          rw [if_neg e]
          congr 1
          by_cases e2 : (c : Int) ∈ l.take i
          · rw [if_pos e2, if_pos (List.mem_append_left _ e2)]
          · rw [if_neg e2, if_neg fun h => (List.mem_append.mp h).elim e2 fun h => hne (by simpa using h)]
    · obtain ⟨s4, eW, x3, rfl⟩ := hP
      rw [List.length_map, List.take_length] at eW
      refine ⟨.ref W, rfl, W, _, rfl, .inl ⟨.inl (.inl eW), fun t nt => q _ t (s4.trans (same_new nt)) ?_⟩⟩
      rw [upd_same]
      unfold pressW
      rw [hl0]
def spJoin (K : PySem.W.Frag) : Sp := fun vs H Q _ => ∃ (a b : Addr) (xs ys : List Str), vs = [.ref a, .ref b] ∧ SqT K H a (xs.map V.str) ∧ SqT K H b (ys.map V.str) ∧ xs.length = ys.length ∧ ys.length ≤ 100 ∧
  ∀ H' t, Same H H' → FT H' t ((joinM xs ys).map V.str) → Q (.ref t) H'
theorem ok_join {f : Addr} {fd : FuncData} {k : Nat} (F : Fun K "joined_effect" "joined_effect" sJoin f fd) (mz : mg "zip" = none) (mt : mg "tuple" = none) : FnOk P w K mg base CX0 (k + 1) f fd ["first", "second"] (spJoin K) := by
  refine F.ok scJoin (fun vs H Q E h => ?_) (fun cdv A outer s H vs Q E hr h => ?_)
  · obtain ⟨a, b, xs, ys, rfl, _⟩ := h
    rfl
  · obtain ⟨a, b, xs, ys, rfl, ha, hb, hl, few, q⟩ := h
    refine ⟨_, pss_one (ps_ret (pe_callTy call_tupF (by rfl) mt (by decide +kernel) (pa_cons
      (pe_lc (own := [("early", 2), ("late", 3)]) (g := gTup K 2 (gCons (gName 2) (gCons (gName 3) gNil))) (tt := tYes) rfl scJoin.nd (RZ.pi_zipA (by rfl) mz (pa_cons (pv 0) (pa_cons (pv 1) pa_nil)))
        (blkOk_by (own := [("early", 2), ("late", 3)]) (N := nJoin) (sc := defScope sJoin) (by decide +kernel))
        (fun _ _ _ _ _ => pg_tup rfl (pgs_cons (pg_name (i := 2) scJoin.nd rfl (Or.inl rfl)) (pgs_cons (pg_name (i := 3) scJoin.nd rfl (Or.inl rfl)) pgs_nil)))
        (fun _ _ _ _ _ => pts_nil)
        (fun _ _ _ _ _ => pe_ifExp (pt_cmpR op_eq (pv 3) pe_str (nomark _)) (pv 2) (pv 3))) pa_nil))), ?_⟩
    refine ⟨.ref a, rfl, .ref b, rfl, a, b, _, _, rfl, .inr ⟨ha, hb, fun D nD => ?_⟩⟩
    have hjl := joinM_len hl
    refine lc_it (walk_zipT (n := ys.length) (xs := xs.map V.str) (ys := ys.map V.str) (by rw [List.length_map, List.length_map, hl, Nat.min_self])) (fun i H3 => Same H H3 ∧ H3 D = some (.lst (((joinM xs ys).take i).map V.str))) ⟨same_new nD, upd_same⟩
      (fun i H3 _ hP => ⟨same_sqT hP.1 ha, same_sqT hP.1 hb⟩) (fun i x H3 H4 hi hP hY => ?_) (fun H3 hP => ?_)
    · obtain ⟨s3, eD⟩ := hP
      obtain ⟨T, x1, x2, rfl, nT, rfl, e1, e2⟩ := hY
      obtain ⟨y1, f1, rfl⟩ := str_get e1
      obtain ⟨y2, f2, rfl⟩ := str_get e2
      have sT : Same H3 (upd H3 T (.tup [.str y1, .str y2])) := same_new nT
      have eD4 := sT _ _ eD
      have g := joinM_get f1 f2
      have fin : ∀ v : V, v = .str (if y2 = wSame then y1 else y2) → ∃ acc, (upd H3 T (.tup [.str y1, .str y2])) D = some (.lst acc) ∧ acc.length < sizeLine ∧ Same H (upd (upd H3 T (.tup [.str y1, .str y2])) D (.lst (acc ++ [v]))) ∧
          (upd (upd H3 T (.tup [.str y1, .str y2])) D (.lst (acc ++ [v]))) D = some (.lst (((joinM xs ys).take (i + 1)).map V.str)) := by
        intro v hv
        refine ⟨_, eD4, ?_, ?_, ?_⟩
        · rw [List.length_map, List.length_take]; exact small1000 (by omega)
        · intro b' o e
          rw [upd_ne (ne_of_none e nD)]
          exact sT _ _ (s3 _ _ e)
        · rw [upd_same, List.take_add_one, g, List.map_append, hv]; rfl
      refine ⟨T, _, rfl, .inl (.inl upd_same), rfl, _, _, rfl, _, _, rfl, rfl, rfl, tyes (iteT ⟨.str y2, rfl, rfl, _, rfl, ite2 (fun e => ?_) (fun e => ?_)⟩)⟩
      · have e' : y2 = wSame := V.str.inj (of_decide_eq_true e)
        exact ⟨.str y1, rfl, fin _ (by rw [if_pos e'])⟩
      · have e' : y2 ≠ wSame := fun z => e (by rw [z]; exact decide_eq_true rfl)
        exact ⟨.str y2, rfl, fin _ (by rw [if_neg e'])⟩
    · obtain ⟨s3, eD⟩ := hP
      rw [List.take_of_length_le (by rw [hjl]; exact Nat.le_refl _)] at eD
      refine ⟨D, _, rfl, .inl (.inl eD), fun t o nt ho => ?_⟩
      exact q _ t (s3.trans (same_new nt)) ⟨o, upd_same, ho⟩
def spWith (K : PySem.W.Frag) : Sp := fun vs H Q _ => ∃ (p t : Addr) (pan : List (List Int)) (xs : List Str) (b : Int), vs = [.ref p, .ref t, .int b] ∧ PanT K H p pan ∧ Good pan ∧ SqT K H t (xs.map V.str) ∧ xs.length = pan.length ∧ 0 ≤ b ∧ b < (pan.length : Int) ∧
  ∀ H' u, Same H H' → FT H' u ((joinM xs (pressW pan b)).map V.str) → Q (.ref u) H'
theorem ok_with {f fN fP fJ : Addr} {fd fdN fdP fdJ : FuncData} {k : Nat} (F : Fun K "effect_with_press" "effect_with_press" sWith f fd) (FN : Fun K "no_effect" "no_effect" sNo fN fdN) (bN : Binds K fdN ["panel"] []) (gN : mg "no_effect" = some (.ref fN))
    (FP : Fun K "press_effect" "press_effect" sPressE fP fdP) (bP : Binds K fdP ["panel", "button"] []) (gP : mg "press_effect" = some (.ref fP))
    (FJ : Fun K "joined_effect" "joined_effect" sJoin fJ fdJ) (bJ : Binds K fdJ ["first", "second"] []) (gJ : mg "joined_effect" = some (.ref fJ))
    (ml : mg "len" = none) (mli : mg "list" = none) (mt : mg "tuple" = none) (mz : mg "zip" = none) : FnOk P w K mg base CX0 (k + 3) f fd ["panel", "effect", "button"] (spWith K) := by
  have GP : FnOk P w K mg base CX0 (k + 2) fP fdP ["panel", "button"] (spPressE K) := ok_pressE FP FN bN gN ml mli mt
  have GJ : FnOk P w K mg base CX0 (k + 2) fJ fdJ ["first", "second"] (spJoin K) := ok_join FJ mz mt
  refine F.ok scWith (fun vs H Q E h => ?_) (fun cdv A outer s H vs Q E hr h => ?_)
  · obtain ⟨p, t, pan, xs, b, rfl, _⟩ := h
    rfl
  · obtain ⟨p, t, pan, xs, b, rfl, hp, hg, ht, hxl, b0, b1, q⟩ := h
    refine ⟨_, pss_one (ps_ret (pe_call GJ hr (by rfl) gJ FJ.kp bJ .nil pass0 (pa_cons (pv 1) (pa_cons (pe_call GP hr (by rfl) gP FP.kp bP .nil pass0 (pa_cons (pv 0) (pa_cons (pv 2) pa_nil))) pa_nil)))), ?_⟩
    have few := hg.few
    refine ⟨.ref t, rfl, .ref p, rfl, .int b, rfl, p, pan, b, rfl, hp, hg, b0, b1, fun H1 u s1 eu => ?_⟩
    exact ⟨t, u, xs, pressW pan b, rfl, same_sqT s1 ht, .inl (.inl eu), by rw [pressW_len, hxl], by rw [pressW_len]; omega, fun H2 v s2 ev => q _ v (s1.trans s2) ev⟩
end
end K52G
namespace K52G
open PySem PySem.Spec PyProof.Rows L2 Pr K52
theorem knM_app (n : Nat) (past : List (PyData × List (List Int) × List Int)) (x : PyData × List (List Int) × List Int) : knM n (past ++ [x]) = (match isPress x.1 with | some b => joinM (knM n past) (pressW x.2.1 b) | none => knM n past) := by
  unfold knM
  rw [List.foldl_append]; rfl
theorem take_succ_get {α : Type} {l : List α} {i : Nat} {x : α} (h : l[i]? = some x) : l.take (i + 1) = l.take i ++ [x] := by
  rw [List.take_succ, h]; rfl
def nKAft : List Str := ["panel", "past", "known", "edit", "seen", "latched"]
theorem scKAft : FnScope nKAft ["panel", "past"] (defScope sKAft) := ⟨rfl, rfl, rfl, by decide +kernel, rfl, by decide +kernel, by decide +kernel⟩
section
variable {P : Program} {w : World} {K : PySem.W.Frag} {mg : Str → Option Value} {base : Heap}
def spKAft (K : PySem.W.Frag) : Sp := fun vs H Q _ => ∃ (p pa : Addr) (pan : List (List Int)) (past : List (PyData × List (List Int) × List Int)), vs = [.ref p, .ref pa] ∧ PanT K H p pan ∧ Good pan ∧ PastAt K H pa past ∧ (∀ x ∈ past, lf x.1 = true ∧ Good x.2.1 ∧ Asc x.2.1.length x.2.2 ∧ PEd pan.length x) ∧
  ∀ H' u, Same H H' → FT H' u ((knM pan.length past).map V.str) → Q (.ref u) H'
theorem ok_KAft {fNo : Addr} {fdNo : FuncData} {fPressE : Addr} {fdPressE : FuncData} {fJoin : Addr} {fdJoin : FuncData} {fWith : Addr} {fdWith : FuncData} {f : Addr} {fd : FuncData} {k : Nat} (F : Fun K "known_after" "known_after" sKAft f fd)
    (FNo : Fun K "no_effect" "no_effect" sNo fNo fdNo) (bNo : Binds K fdNo ["panel"] []) (gNo : mg "no_effect" = some (.ref fNo))
    (FPressE : Fun K "press_effect" "press_effect" sPressE fPressE fdPressE) (bPressE : Binds K fdPressE ["panel", "button"] []) (gPressE : mg "press_effect" = some (.ref fPressE))
    (FJoin : Fun K "joined_effect" "joined_effect" sJoin fJoin fdJoin) (bJoin : Binds K fdJoin ["first", "second"] []) (gJoin : mg "joined_effect" = some (.ref fJoin))
    (FWith : Fun K "effect_with_press" "effect_with_press" sWith fWith fdWith) (bWith : Binds K fdWith ["panel", "effect", "button"] []) (gWith : mg "effect_with_press" = some (.ref fWith))
    (m_len : mg "len" = none) (m_list : mg "list" = none) (m_tuple : mg "tuple" = none) (m_zip : mg "zip" = none) : FnOk P w K mg base CX0 (k + 4) f fd ["panel", "past"] (spKAft K) := by
  have GNo : FnOk P w K mg base CX0 (k + 1) fNo fdNo ["panel"] (spNo K) := ok_no FNo m_len
  have GWith : FnOk P w K mg base CX0 (k + 3) fWith fdWith ["panel", "effect", "button"] (spWith K) := ok_with FWith FNo bNo gNo FPressE bPressE gPressE FJoin bJoin gJoin m_len m_list m_tuple m_zip
  refine F.ok scKAft (fun vs H Q E h => ?_) (fun cdv A outer s H vs Q E hr h => ?_)
  · obtain ⟨p, pa, pan, past, rfl, _⟩ := h
    rfl
  · obtain ⟨p, pa, pan, past, rfl, hp, hg, hP, lfe, q⟩ := h
    refine ⟨_, pss_cons (ps_set (i := 2) scKAft.nd rfl (.inl rfl) (pe_call GNo (hr.mono (by omega)) (by rfl) gNo FNo.kp bNo .nil pass0 (pa_cons (pv 0) pa_nil)))
      (pss_cons (ps_for PassesOwn.never rfl (show PI _ _ _ (iTup K _) from pi_tup (pv 1)) (pg_tup rfl (pgs_cons (pg_name (i := 3) scKAft.nd rfl (Or.inl rfl)) (pgs_cons (pg_name (i := 4) scKAft.nd rfl (Or.inl rfl)) (pgs_cons (pg_name (i := 5) scKAft.nd rfl (Or.inl rfl)) pgs_nil)))) (pss_one (ps_if (pt_cmpR op_eq (pe_ix (show IxR _ (rIxT K) from ix_tup) (pv 3) pe_int (fun _ _ => rfl)) pe_str (nomark _)) (pss_one (ps_set (i := 2) scKAft.nd rfl (.inl rfl) (pe_call GWith (hr.mono (by omega)) (by rfl) gWith FWith.kp bWith .nil pass0 (pa_cons (pv 4) (pa_cons (pv 2) (pa_cons (pe_ix (show IxR _ (rIxT K) from ix_tup) (pv 3) pe_int (fun _ _ => rfl)) pa_nil)))))) pss_nil)))
      (pss_one (ps_ret (pv 2)))), ?_⟩
    refine ⟨.ref p, rfl, p, pan, rfl, hp, hg, fun H1 t s1 et => ?_⟩
    obtain ⟨xs, hpa, hxs⟩ := hP
    refine ⟨.ref pa, rfl, pa, rfl, ⟨_, same_sqT s1 hpa⟩, ?_⟩
    refine for_tup (xs := xs) (fun i σ H2 => Same H H2 ∧ ∃ u x3 x4 x5, FT H2 u ((knM pan.length (past.take i)).map V.str) ∧ σ = [some (.ref p), some (.ref pa), some (.ref u), x3, x4, x5])
      ⟨s1, t, _, _, _, by rw [List.take_zero, show knM pan.length [] = effM pan [] from (effM_nil pan).symm]; exact et, rfl⟩ (fun i σ H2 _ hP => same_sqT hP.1 hpa) (fun i x σ H2 hx hP => ?_) (fun σ H2 hP => ?_)
    · obtain ⟨s2, u, x3, x4, x5, eu, rfl⟩ := hP
      obtain ⟨y, hy, hE⟩ : ∃ y, past[i]? = some y ∧ EntAt K H x y := by
        have hi : i < xs.length := (List.getElem?_eq_some_iff.mp hx).1
        have hi2 : i < past.length := by rw [← hxs.length]; exact hi
        obtain ⟨x', hx', hE⟩ := prGet hxs (List.getElem?_eq_getElem hi2)
        rw [hx] at hx'; cases hx'
        exact ⟨_, List.getElem?_eq_getElem hi2, hE⟩
      obtain ⟨au, pu, lu, vu, rfl, hau, dvu, hpu, elu⟩ := hE.sm s2
      have hy' := lfe y (List.mem_of_getElem? hy)
      have hn := knM_len (past := past.take i) (n := pan.length) fun x hx => (lfe x (List.mem_of_mem_take hx)).2.2.2
      refine ⟨au, _, rfl, hau, rfl, vu, [.ref pu, .ref lu], rfl, .ref pu, [.ref lu], rfl, .ref lu, [], rfl, rfl, ?_⟩
      refine hideD fun E0 hn0 => ?_
      have key := knM_app pan.length (past.take i) y
      rw [← take_succ_get hy] at key
      obtain ⟨hl, hc⟩ := hy'.2.2.2
      rcases hc with ⟨b, eb, b0, b1⟩ | ⟨z, one, other, hz, eb⟩
      · have ep : isPress y.1 = some b := by rw [eb]; show (if ("press" : Str) = ("press" : Str) then some b else none) = some b; exact if_pos rfl
        rw [eb] at dvu
        refine (gvt_test (K := K) (gv_eqS (gv_ixT (j := 0) (gv_var rfl dvu) gv_int rfl rfl) gv_str)).at fun H3 s3 => ?_
        rw [decide_eq_true rfl]
        refine iteT ?_
        refine ⟨.ref pu, rfl, .ref u, rfl, (gv_ixT (K := K) (j := 1) (d := .int b) (gv_var rfl (dvu.sm s3)) gv_int rfl rfl).at fun vb H4 s4 db => ?_⟩
        cases db
        have s34 := s3.trans s4
        refine ⟨pu, u, y.2.1, _, b, rfl, hpu.same s34, hy'.2.1, (eu.same s34).sq, by rw [hn, hl], b0, by rw [hl]; exact b1, fun H5 v s5 ev => hn0 _ _ ⟨(s2.trans s34).trans s5, v, _, _, _, ?_, rfl⟩⟩
        rw [ep] at key
        rw [key]; exact ev
      · have ep : isPress y.1 = none := by rw [eb]; rfl
        rw [eb] at dvu
        refine (gvt_test (K := K) (gv_eqS (gv_ixT (j := 0) (gv_var rfl dvu) gv_int rfl rfl) gv_str)).at fun H3 s3 => ?_
        rw [decide_eq_false hz]
        refine iteF (hn0 _ _ ⟨s2.trans s3, u, _, _, _, ?_, rfl⟩)
        rw [ep] at key
        rw [key]; exact eu.same s3
    · obtain ⟨s2, u, x3, x4, x5, eu, rfl⟩ := hP
      rw [hxs.length, List.take_length] at eu
      exact ⟨.ref u, rfl, q _ u s2 eu⟩
end
end K52G
namespace Pr
open PySem PySem.Spec PyProof.Rows L2 NdefX
/-- the def as it stands behind the top: its class is D, told by the cell at cc; its code object is at c -/
structure SFun (K : PySem.W.Frag) (x qual : Str) (st : Stmt) (cc c : Addr) (f : Addr) (fd : FuncData) : Prop where
  ex : ∃ (oc : Value) (od : Option Addr) (kV doc pm : Value) (an : Option Addr) (ct : Value) (osl : Array (Option Value)),
    fd = PySem.W.fnX x qual (defArgs st) (defBody st) (defScope st) [("__class__", cc)] .none kV doc pm an (.ref c) ct ∧ K.lookup f = some ⟨oc, od, .func fd, osl⟩ ∧ PySem.W.codeIn K (.ref c) qual = true
  kp : PySem.W.keepIn K (.ref f) = true
abbrev sNF (x qual : Str) (st : Stmt) (cc c : Addr) : NF := ⟨x, qual, defArgs st, defBody st, defScope st, [("__class__", cc)], c⟩
/-- the class that the cell holds, the file of the code, the name of the first parameter -/
structure SCls (prog : Program) (K : PySem.W.Frag) (mg : Str → Option Value) (cc c D : Addr) : Prop where
  cell : ∃ (oc : Value) (od : Option Addr) (osl : Array (Option Value)), K.lookup cc = some ⟨oc, od, .cell (some (.ref D)), osl⟩
  code : ∃ (oc : Value) (od : Option Addr) (vs : Array Value) (osl : Array (Option Value)) (file : Str) (tf : Tok), K.lookup c = some ⟨oc, od, .fields vs, osl⟩ ∧ vs[2]? = some (.str file tf) ∧ ((prog.main.file : Str) == file) = true
  cls : ∃ cd, PySem.W.clsIn K D = some cd
  top : (prog.main.scope.names.lookup ("super" : Str)).isSome = false
  mgs : mg "super" = none
/-- the method that super() finds for an instance of C -/
structure SMeth (K : PySem.W.Frag) (C D : Addr) (m : Str) (g : Addr) : Prop where
  sub : PySem.W.mroIn K C (.ref D) = some true
  at_ : PySem.W.ks_superIn K C D m = some (some (.ref g))
  ty : PySem.W.typeIn K (.ref g) = some (.type "function")
  fi : PySem.W.fnIn K g = true
  op : PySem.W.nsIn K cStatics "thirdparty.any" = some none
section
variable {P : Program} {w : World} {K : PySem.W.Frag} {mg : Str → Option Value} {base : Heap}
theorem SFun.ok {CX : CXT} {x qual : Str} {st : Stmt} {cc c D f : Addr} {fd : FuncData} {N ps : List Str} {k : Nat} {sp : Sp} (F : SFun K x qual st cc c f fd) (T : SCls P K mg cc c D) (S : NScope N ps ["__class__"] (defScope st)) (len : ∀ vs H Q E, sp vs H Q E → vs.length = ps.length)
    (hbody : ∀ (A : Around) (outer : List Env) (s : Shared) (H : Hp) (vs : List V) (Q : VK) (E : XK), Room k (A.deeper (envF (sNF x qual st cc c) f s.heap.objs.size)) → sp vs H Q E → ∀ s1,
      Inv (ncx CX P w K mg base N (sNF x qual st cc c) f A outer s H E) [] (startF N vs [none]) H s1 →
      _root_.PySem.wpAt (model P w) (A.deeper (envF (sNF x qual st cc c) f s.heap.objs.size)) (.func (defBody st) (envF (sNF x qual st cc c) f s.heap.objs.size)) (execs (defBody st) (envF (sNF x qual st cc c) f s.heap.objs.size))
        (SP (ncx CX P w K mg base N (sNF x qual st cc c) f A outer s H E) [] { nx := fun _ H' => Q .non H', rt := Q }) (ncx CX P w K mg base N (sNF x qual st cc c) f A outer s H E).xe s1) :
    FnOk P w K mg base CX (k + 1) f fd ps sp := by
  obtain ⟨oc, od, kV, doc, pm, an, ct, osl, rfl, lk, hcd⟩ := F.ex
  obtain ⟨occ, odc, osc, hcell⟩ := T.cell
  refine ⟨len, fun A outer s H args us vs Q E hr e0 hb r hsp => ?_⟩
  have hl := len _ _ _ _ hsp
  have kin : K.In s.heap := e0.mod.kin.keeps fun b o e => (e0.bs b o e).1
  have lim : s.heap.NoLimit := e0.mod.nolimit.keeps fun b o e => (e0.bs b o e).1
  have Cc : s.heap.IsCell cc (some (.ref D)) := ⟨_, kin _ _ hcell, rfl⟩
  have Hc : H cc = none := (e0.bs cc _ (e0.mod.kin _ _ hcell)).2
  have lkc : ∀ (y : Str) (d : Addr), [(("__class__" : Str), cc)].lookup y = some d → y = "__class__" ∧ d = cc := by
    intro y d e
    have := PySem.mem_of_lookup e
    simp at this
    exact this
  have CA : CellsAt [(("__class__" : Str), cc)] ["__class__"] [none] s.heap H := by
    refine ⟨rfl, fun y d e => ?_, fun y z d e1 e2 => ?_, fun i y hi => ?_⟩
    · obtain ⟨_, rfl⟩ := lkc y d e
      exact ⟨Hc, _, Cc⟩
    · rw [(lkc y d e1).1, (lkc z d e2).1]
    · have : y = "__class__" := by
        cases i with
        | zero => simpa using hi.symm
        | succ i => simp at hi
      subst this
      refine ⟨cc, rfl, fun v hv => ?_⟩
      cases i with
      | zero => simp at hv
      | succ i => simp at hv
  have hloc : ∀ y ∈ ps.zip us, (defScope st).names.lookup y.1 = some .local := fun ⟨n, v⟩ hy => S.par n (List.of_mem_zip hy).1
  refine PySem.ks_codeAny_call_defAt (fd := PySem.W.fnX x qual (defArgs st) (defBody st) (defScope st) [("__class__", cc)] .none kV doc pm an (.ref c) ct) (body := defBody st) (binds := ps.zip us) hr.depth (kin _ _ lk) rfl lim (PySem.W.codeRec_of kin hcd) rfl hb (fun y hy => S.nocell y hy) hloc (fun h₁ hns kp => ?_) S.co S.gen S.kind
  have I : Inv (ncx CX P w K mg base N (sNF x qual st cc c) f A outer s H E) [] (startF N vs [none]) H { s with heap := h₁, toks := s.toks + (ps.zip us).length } := inv_startN S hr.hd e0 hl r CA hns kp
  refine PySem.ks_wpAt_mono (hbody A outer s H vs Q E (hr.deeper _) hsp _ I) (fun fl s' hs => ?_) fun e s' hs => hs
  have fin : ∀ {σ' : L2.St} {H' : Hp} {v : V} {u : Value}, Inv (ncx CX P w K mg base N (sNF x qual st cc c) f A outer s H E) [] σ' H' s' → L2.RelV v u → Q v H' → CE outer P w H s Q u s' :=
    fun {σ' H' v u} J rv q => ⟨v, H', J.os, J.bare, J.base, J.hok, rv, q⟩
  cases fl with
  | ret u =>
    obtain ⟨v, σ', H', J, rv, q⟩ := hs
    exact fin J rv q
  | next =>
    obtain ⟨σ', H', J, q⟩ := hs
    exact fin (v := V.non) (u := Value.none) J rfl q
  | brk =>
    obtain ⟨_, _, _, q⟩ := hs
    exact False.elim q
  | cont =>
    obtain ⟨_, _, _, q⟩ := hs
    exact False.elim q
theorem SFun.binds {x qual : Str} {st : Stmt} {cc c f : Addr} {fd : FuncData} {ps : List Str} (F : SFun K x qual st cc c f fd)
    (h : ∀ (kV doc pm : Value) (an : Option Addr) (ct : Value) (us : List Value), us.length = ps.length → bindArgs (PySem.W.fnX x qual (defArgs st) (defBody st) (defScope st) [("__class__", cc)] .none kV doc pm an (.ref c) ct) ⟨us, []⟩ = pure (ps.zip us)) : Binds K fd ps [] := by
  obtain ⟨oc, od, kV, doc, pm, an, ct, osl, rfl, lk, hcd⟩ := F.ex
  exact .all (h kV doc pm an ct)
theorem sfun_mk {x qual : Str} {st : Stmt} {cc c f : Addr} {oc : Value} {od an : Option Addr} {osl : Array (Option Value)} {kV doc pm ct : Value} (l : K.lookup f = some ⟨oc, od, .func (PySem.W.fnX x qual (defArgs st) (defBody st) (defScope st) [("__class__", cc)] .none kV doc pm an (.ref c) ct), osl⟩)
    (hc : PySem.W.codeIn K (.ref c) qual = true) (k : PySem.W.keepIn K (.ref f) = true) : SFun K x qual st cc c f (PySem.W.fnX x qual (defArgs st) (defBody st) (defScope st) [("__class__", cc)] .none kV doc pm an (.ref c) ct) := ⟨⟨oc, od, kV, doc, pm, an, ct, osl, rfl, l, hc⟩, k⟩
end
/-- the running def's frame, as super() reads it -/
structure SEnv (X : Cx) (f cc c D : Addr) (slf : Str) : Prop where
  cls : SCls X.prog X.K X.mg cc c D
  fu : X.env.func = some f
  co : X.env.code = .ref c
  cel : X.env.cells.lookup ("__class__" : Str) = some cc
  fo : ∃ (oc : Value) (od : Option Addr) (fd : FuncData) (osl : Array (Option Value)) (ar : Arg), X.K.lookup f = some ⟨oc, od, .func fd, osl⟩ ∧ (fd.params.posonlyargs ++ fd.params.args).head? = some ar ∧ ar.arg = slf
  ks : X.env.kindOf "super" = some .globalImplicit
  kc : X.env.kindOf "__class__" = some .free
  kslf : X.env.kindOf slf = some .local
section
variable {X : Cx} {pins : List (Addr × Obj)} {σ : L2.St} {H : Hp} {s : Shared} {f cc c D C x dx g : Addr} {slf m : Str} {fs : List (Str × V)} {E : Value → Shared → Prop}
theorem clsIn_obj {K : PySem.W.Frag} {h : Heap} {D : Addr} {cd : ClassData} (kin : K.In h) (e : PySem.W.clsIn K D = some cd) : ∃ o, h.get? D = some o ∧ o.data = .cls cd := by
  unfold PySem.W.clsIn at e
  split at e
  · rename_i c d cd' sl ho
    cases e
    exact ⟨_, kin _ _ ho, rfl⟩
  · cases e
theorem sup_ld {name : Str} {u : Value} {Q : Value → Shared → Prop} (I : Inv X pins σ H s) (hg : X.env.kindOf name = some .globalImplicit) (hm : X.mg name = none) (hv : bootBuiltins name = some u) (h : Q u s) (hn : name ≠ "__name__" := by decide) :
    wpAny (model X.prog X.w) X.A (loadName X.env name) Q E s := by
  obtain ⟨mb, h1, h2⟩ := I.mod.blt
  exact PySem.W.ks_loadName_global I.ok.kind hg (Calls.loadGlobal_builtin (by rw [I.ok.glob]; exact I.mod.glob.keeps I.bk) hm (by rw [I.ok.blt]; exact h1.keeps I.bk) ((h2 name hn).trans hv) h)
/-- the base of the attribute: a super object, new, pinned -/
theorem sup_base {body : List Stmt} {p0 p1 : Pos} {whole : Sem Value} {Q : Value → Shared → Prop} {i : Nat} {od : Option Obj} {ox : Obj} (I : Inv X pins σ H s) (B : SEnv X f cc c D slf) (hN : X.N[i]? = some slf) (hσ : σ[i]? = some (some (.ref x)))
    (J : PySem.W.InstAt s.heap x ox C od) (hsub : PySem.W.mroIn X.K C (.ref D) = some true) (hat : (m == ("__class__" : Str)) = false)
    (h : ∀ s', Inv X ((s.heap.objs.size, PySem.W.ks_superObj D x C) :: pins) σ H s' → (∀ y o, s.heap.get? y = some o → s'.heap.get? y = some o) → Q (.ref s.heap.objs.size) s') :
    _root_.PySem.wpAt (model X.prog X.w) X.A (.func body X.env) (attributeBase (.Call (.Name "super" p0) [] [] p1) m X.env whole) Q E s := by
  obtain ⟨ocf, odf, fd, osf, ar, hf, hp, har⟩ := B.fo
  obtain ⟨occ, odc, osc, hcell⟩ := B.cls.cell
  obtain ⟨ocd, odd, vs, osd, file, tf, hcode, hvs, hfile⟩ := B.cls.code
  obtain ⟨cd, hcd⟩ := B.cls.cls
  obtain ⟨oD, hD1, hD2⟩ := clsIn_obj I.kIn hcd
  refine PySem.ks_wpAt_super_base (env := X.env) B.ks B.kc hat B.fu (I.kIn _ _ hf) rfl hp B.co (I.kIn _ _ hcode) rfl hvs hfile B.cls.top ?_
  refine sup_ld I B.ks B.cls.mgs (show bootBuiltins "super" = some (.type "super") by first | rfl | decide +kernel | kernel_rfl) ⟨rfl, ?_⟩
  refine wpAny_loadName_free I.ok.kind B.kc B.cel ⟨_, I.kIn _ _ hcell, rfl⟩ ?_
  obtain ⟨mm, hn, hl⟩ := I.loc
  obtain ⟨u, ru, lo⟩ := hl i slf (.ref x) hN hσ (.inl B.kslf)
  obtain rfl : u = Value.ref x := ru
  have hmm : mm slf = some (.ref x) := by
    rcases lo with ⟨_, q⟩ | ⟨q, _⟩
    · exact q
    · rw [B.kslf] at q
      rcases q with q | q <;> cases q
  rw [har]
  refine wpAny_loadName_local I.ok.kind B.kslf hn hmm ?_
  refine PySem.ks_wpAny_isType_cls hD1 hD2 ⟨rfl, ?_⟩
  obtain ⟨hh, gg, d, t, os⟩ := s
  refine PySem.ks_wpAny_call_super hD1 hD2 J.at_ J.cls (fun cc' e => ?_) (PySem.W.looks_mroIn I.kIn hsub) (fun h' e k => ?_)
  · have := J.no
    unfold PySem.W.notCls at this
    rw [e] at this
    exact Bool.noConfusion this
  · exact h _ (ClX.pin_new (t' := t) I k (Nat.le_refl _) e fun v z => nomatch z) k
/-- the method, bound to the receiver -/
theorem sup_meth {pl : Sem Bool} {so : Addr} {Q : Value × List Value → Shared → Prop} {od : Option Obj} {ox : Obj} (I : Inv X ((so, PySem.W.ks_superObj D x C) :: pins) σ H s) (J : PySem.W.InstAt s.heap x ox C od) (k : SMeth X.K C D m g) (hn : (m == ("__class__" : Str)) = false)
    (h : ∀ s', Inv X ((s.heap.objs.size, PySem.W.methodObj (.ref g) (.ref x)) :: pins) σ H s' → X.base.get? s.heap.objs.size = none → Q (.ref s.heap.objs.size, []) s') : wpAny (model X.prog X.w) X.A (getMethod (.ref so) m pl) Q E s := by
  obtain ⟨cd, hcd⟩ : ∃ cd, PySem.W.clsIn X.K C = some cd := by
    have q := k.at_
    unfold PySem.W.ks_superIn at q
    cases z : PySem.W.clsIn X.K C with
    | none => rw [z] at q; cases q
    | some cd => exact ⟨cd, rfl⟩
  have ha := k.at_
  unfold PySem.W.ks_superIn at ha
  rw [hcd] at ha
  have ht : (X.K.lookup g).map (·.cls) = some (.type "function") := k.ty
  obtain ⟨og, lg, cg⟩ := Option.map_eq_some_iff.mp ht
  have I0 := ClX.unpin I
  have hso := ClX.pin_at I
  have hbn := ClX.base_none I0 (Nat.le_refl s.heap.objs.size)
  have I1 := ClX.met_new (g := g) (C := x) I0
  have kin := I.kIn
  have hmro : PySem.W.Looks (model X.prog X.w) s.heap (mroOf (.ref C)) cd.mro := (PySem.W.looks_clsIn kin hcd).andThen .now
  obtain ⟨hh, gg, d, t, os⟩ := s
  exact PySem.ks_wpAny_getMethod_super hso (PySem.W.looks_opaque kin k.op) hmro rfl kin ha (kin _ _ lg) cg (PySem.W.ks_ne kin J hcd) hn (h _ I1 hbn)
/-- super().m(e, ..) in the body of a def of the class D, the receiver an instance of C -/
theorem sup_eval {CX : CXT} {k : Nat} {sp : Sp} {EX : XK} {Q : VK} {body : List Stmt} {p0 p1 apos pos : Pos} {e : Expr} {es : List Expr} {ta : TA} {i : Nat} (I : Inv X pins σ H s) (B : SEnv X f cc c D slf) (hN : X.N[i]? = some slf) (hσ : σ[i]? = some (some (.ref x)))
    (hx : H x = some (.ins C dx fs)) (M : SMeth X.K C D m g) (F : FnR X.prog X.w X.K X.mg X.base CX k g sp) (hr : Room k X.A) (hp : Passes CX X EX) (ha : PA X (e :: es) ta) (q : ta σ H fun vs H1 => sp (.ref x :: vs) H1 Q EX)
    (hm : (m == ("__class__" : Str)) = false := by decide) (hst : starEach (e :: es) X.env = (false, eval e X.env) :: starEach es X.env := by rfl) (hpl : (backTo pos (starEach es X.env)).any (·.1) = false := by rfl)
    (pl : Sem Bool) (ht : eval (.Call (.Attribute (.Call (.Name "super" p0) [] [] p1) m apos) (e :: es) [] pos) X.env = (do
      let ov ← attributeBase (.Call (.Name "super" p0) [] [] p1) m X.env (eval (.Call (.Name "super" p0) [] [] p1) X.env)
      standAt apos.atName
      let (f, first) ← holding [ov] (getMethod ov m pl)
      callWith pos f first (backTo pos (starEach (e :: es) X.env)) []) := by rfl) :
    _root_.PySem.wpAt (model X.prog X.w) X.A (.func body X.env) (eval (.Call (.Attribute (.Call (.Name "super" p0) [] [] p1) m apos) (e :: es) [] pos) X.env) (EP X pins σ Q) X.xe s := by
  obtain ⟨mA, O, _, _, _, hdx⟩ := ins_get I.hok hx
  obtain ⟨od, hod, _⟩ := lookIn_ns O.ns
  have J : PySem.W.InstAt s.heap x (PySem.W.instObj C dx) C (some od) := ⟨O.obj, rfl, rfl, hod⟩
  refine PySem.ks_wpAt_MethodCall (pl := pl) ?_ ht
  refine sup_base I B hN hσ J M.sub hm fun s1 I1 k1 => ?_
  have J1 : PySem.W.InstAt s1.heap x (PySem.W.instObj C dx) C (some od) := ⟨k1 _ _ O.obj, rfl, rfl, k1 _ _ hod⟩
  refine sup_meth I1 J1 M hm fun s2 I2 hb => ?_
  refine ClX.callwith_cm I2 hb M.fi (thn (ha.run pos _ s2 σ H _ I2 q) fun us s3 ⟨vs, H3, I3, r3, q3⟩ => ⟨⟨ClX.pin_at I3, I3.kIn⟩, ?_⟩) hst hpl
  exact ClX.run_cm F hr hp I3 r3 q3
/-- .. as the first statement of the body, then the rest -/
theorem sup_first {CX : CXT} {k : Nat} {sp : Sp} {EX : XK} {body rest : List Stmt} {p0 p1 apos pos p2 : Pos} {e : Expr} {es : List Expr} {ta : TA} {u : TS} {D' : Ends} {i : Nat} (I : Inv X pins σ H s) (B : SEnv X f cc c D slf) (hN : X.N[i]? = some slf) (hσ : σ[i]? = some (some (.ref x)))
    (hx : H x = some (.ins C dx fs)) (M : SMeth X.K C D m g) (F : FnR X.prog X.w X.K X.mg X.base CX k g sp) (hr : Room k X.A) (hp : Passes CX X EX) (ha : PA X (e :: es) ta) (hrest : PSs X rest u)
    (q : ta σ H fun vs H1 => sp (.ref x :: vs) H1 (fun _ H2 => u D' σ H2) EX)
    (pl : Sem Bool) (ht : eval (.Call (.Attribute (.Call (.Name "super" p0) [] [] p1) m apos) (e :: es) [] pos) X.env = (do
      let ov ← attributeBase (.Call (.Name "super" p0) [] [] p1) m X.env (eval (.Call (.Name "super" p0) [] [] p1) X.env)
      standAt apos.atName
      let (f, first) ← holding [ov] (getMethod ov m pl)
      callWith pos f first (backTo pos (starEach (e :: es) X.env)) []) := by rfl)
    (hi : interactive X.env = false := by rfl) (hs : swapsWith (.Call (.Attribute (.Call (.Name "super" p0) [] [] p1) m apos) (e :: es) [] pos) none p2.line X.env = pure false := by rfl)
    (hm : (m == ("__class__" : Str)) = false := by decide) (hst : starEach (e :: es) X.env = (false, eval e X.env) :: starEach es X.env := by rfl) (hpl : (backTo pos (starEach es X.env)).any (·.1) = false := by rfl) :
    _root_.PySem.wpAt (model X.prog X.w) X.A (.func body X.env) (execs (.Expr (.Call (.Attribute (.Call (.Name "super" p0) [] [] p1) m apos) (e :: es) [] pos) p2 :: rest) X.env) (SP X pins D') X.xe s := by
  refine PySem.ks_wpAt_execs_cons (PySem.ks_wpAt_Expr_any (PySem.ks_wpAt_mono (sup_eval (body := body) I B hN hσ hx M F hr hp ha q hm hst hpl pl ht) (fun v s' hv => ?_) fun _ _ z => z) hi hs)
  obtain ⟨y, H2, I2, _, q2⟩ := hv
  exact wpAt_of_wpAny (hrest.run pins s' σ H2 D' I2 q2)
end
end Pr
namespace Pr
open PySem PySem.Spec PyProof.Rows L2 NdefX
theorem fr_of {P : Program} {w : World} {K : PySem.W.Frag} {mg : Str → Option Value} {base : Heap} {CX : CXT} {k : Nat} {f : Addr} {fd : FuncData} {ps : List Str} {sp : Sp} (F : FnOk P w K mg base CX k f fd ps sp) (hb : Binds K fd ps []) : FnR P w K mg base CX k f sp := (F.raw hb .nil).imp fun vs H Q E h => by rw [List.append_nil]; exact h
theorem passAt0 {X : Cx} {E : L2.St → XK} : ∀ σ, PassesAt CX0 X σ (E σ) := fun _ _ _ _ _ _ _ h => h.elim
def tCFun (C : Addr) (sp : Sp) (E : L2.St → XK) (ta : TE) (t : TA) : TE := fun σ H Q => ta σ H fun x H1 => x = .ref C ∧ t σ H1 fun vs H2 => sp vs H2 Q (E σ)
section
variable {X : Cx} {CX : CXT} {k : Nat} {C g : Addr} {mc : Value} {sp : Sp} {E : L2.St → XK} {o e : Expr} {es : List Expr} {m : Str} {pos apos : Pos} {ta : TE} {t : TA} {pl : Sem Bool}
theorem pe_cfun (he : PE X o ta) (r : ClX.CRead X.K C mc) (c : ClX.CVal X.K C mc m (.ref g) (.ref g)) (hk : PySem.W.keepIn X.K (.ref g) = true) (F : FnR X.prog X.w X.K X.mg X.base CX k g sp) (hr : Room k X.A) (hx : ∀ σ, PassesAt CX X σ (E σ)) (ha : PA X (e :: es) t)
    (hst : starEach (e :: es) X.env = (false, eval e X.env) :: starEach es X.env := by rfl) (hpl : (backTo pos (starEach es X.env)).any (·.1) = false := by rfl)
    (ht : eval (.Call (.Attribute o m apos) (e :: es) [] pos) X.env = (do
      let ov ← eval o X.env
      standAt apos.atName
      let (f, first) ← holding [ov] (getMethod ov m pl)
      callWith pos f first (backTo pos (starEach (e :: es) X.env)) (backToKw pos (keywordEach [] X.env))) := by rfl) :
    PE X (.Call (.Attribute o m apos) (e :: es) [] pos) (tCFun C sp E ta t) := by
  refine ⟨fun pins s σ H Q I h => ?_⟩
  refine PySem.W.methodCall_KW (pl := pl) (thn (he.run pins s σ H _ I h) fun u s1 ⟨x, H1, I1, rx, ex, q⟩ => ?_) ht
  subst ex
  obtain rfl : u = Value.ref C := rx
  refine PySem.W.method_cls I1.kIn r.ga (ClX.getcval_ok I1 r c fun s2 I2 => ?_)
  refine PySem.W.callWith_K (h₀ := X.base) I2.ok.mod.kin hk (thn (ha.run pos pins s2 σ H1 _ I2 q) fun us s3 ⟨vs, H2, I3, rv, q2⟩ => ⟨I3.kIn, ?_⟩) hst hpl
  refine wpAny_call (codeAny_mono (F X.A X.stack s3 H2 us vs Q (E σ) hr I3.env0 rv q2) fun r s' hq => ?_)
  cases r with
  | error e => exact hx σ pins H2 s3 e s' I3 hq
  | ok fl =>
    cases fl with
    | ret u => exact I3.after hq
    | next => exact False.elim hq
    | brk => exact False.elim hq
    | cont => exact False.elim hq
end
end Pr
namespace K52G
open PySem PySem.Spec PyProof.Rows L2 Pr K52
abbrev sShowB : Stmt := sShow
def nShowB : List Str := ["self", "panel", "latched"]
theorem scShowB : FnScope nShowB ["self", "panel", "latched"] (defScope sShowB) := ⟨rfl, rfl, rfl, by decide +kernel, rfl, by decide +kernel, by decide +kernel⟩
section
variable {P : Program} {w : World} {K : PySem.W.Frag} {mg : Str → Option Value} {base : Heap}
def spShowB (K : PySem.W.Frag) (C : Addr) : Sp := fun vs H Q _ => ∃ (t p l dx : Addr) (fs : List (Str × V)) (pan : List (List Int)) (st : List Int), vs = [.ref t, .ref p, .ref l] ∧ H t = some (.ins C dx fs) ∧ fs.length ≤ 6 ∧ PanT K H p pan ∧ Good pan ∧ SqT K H l (st.map V.int) ∧ Asc pan.length st ∧
  ∀ H' h hs, ButO t H H' → H' t = some (.ins C dx (putF "held" (.ref h) (putF "latched" (.ref l) (putF "panel" (.ref p) fs)))) → SqT K H' h (hs.map V.int) → IsHeld pan st hs → Q .non H'
theorem ok_ShowB {fAny : Addr} {fdAny : FuncData} {fHeld : Addr} {fdHeld : FuncData} {C f : Addr} {fd : FuncData} {k : Nat} (F : Fun K "show" "Desk.show" sShowB f fd) (T : TxtD K mg C)
    (FAny : Fun K "releases_any" "releases_any" sAny fAny fdAny) (bAny : Binds K fdAny ["panel", "button", "others"] []) (gAny : mg "releases_any" = some (.ref fAny))
    (FHeld : Fun K "held_buttons" "held_buttons" sHeld fHeld fdHeld) (bHeld : Binds K fdHeld ["panel", "state"] []) (gHeld : mg "held_buttons" = some (.ref fHeld))
    (m_any : mg "any" = none) (m_len : mg "len" = none) (m_tuple : mg "tuple" = none) : FnOk P w K mg base CX0 (k + 3) f fd ["self", "panel", "latched"] (spShowB K C) := by
  have GHeld : FnOk P w K mg base CX0 (k + 2) fHeld fdHeld ["panel", "state"] (spHeld K) := ok_held FHeld FAny bAny gAny m_len m_tuple m_any
  refine F.ok scShowB (fun vs H Q E h => ?_) (fun cdv A outer s H vs Q E hr h => ?_)
  · obtain ⟨t, p, l, dx, fs, pan, st, rfl, _⟩ := h
    rfl
  · obtain ⟨t, p, l, dx, fs, pan, st, rfl, ht, fl, hp, hg, hl, hst, q⟩ := h
    refine ⟨_, pss_cons (ps_fld (pv 0) (pv 1) rfl)
      (pss_cons (ps_fld (pv 0) (pv 2) rfl)
      (pss_one (ps_fld (pv 0) (pe_call GHeld (hr.mono (by omega)) (by rfl) gHeld FHeld.kp bHeld .nil pass0 (pa_cons (pv 1) (pa_cons (pv 2) pa_nil))) rfl))), ?_⟩
    have pl : ∀ (f : Str) (v : V) (l : List (Str × V)), (putF f v l).length ≤ l.length + 1 := fun f v l => by
      induction l with
      | nil => exact Nat.le_refl _
      | cons x r ih =>
        show (if x.1 = f then (x.1, v) :: r else x :: putF f v r).length ≤ _
        split
        · exact Nat.le_succ _
        · exact Nat.succ_le_succ ih
    refine ⟨.ref p, rfl, .ref t, rfl, t, C, dx, fs, rfl, ht, T.cl, T.nP, by omega, ?_⟩
    have k1 := ButO.upd (g := t) (H := H) (o := .ins C dx (putF "panel" (.ref p) fs))
    refine ⟨.ref l, rfl, .ref t, rfl, t, C, dx, _, rfl, upd_same, T.cl, T.nL, by have := pl "panel" (.ref p) fs; omega, ?_⟩
    have k2 := ButO.upd (g := t) (H := upd H t (.ins C dx (putF "panel" (.ref p) fs))) (o := .ins C dx (putF "latched" (.ref l) (putF "panel" (.ref p) fs)))
    have k12 := k1.trans k2
    refine ⟨.ref p, rfl, .ref l, rfl, p, l, pan, st, rfl, hp.kp (k12.kp ht), hg, sqT_kp (k12.kp ht) hl, hst, fun H3 h hs s3 hh ish => ?_⟩
    have e3 := s3 _ _ (upd_same (a := t) (o := .ins C dx (putF "latched" (.ref l) (putF "panel" (.ref p) fs))))
    refine ⟨.ref t, rfl, t, C, dx, _, rfl, e3, T.cl, T.nH, by have := pl "panel" (.ref p) fs; have := pl "latched" (.ref l) (putF "panel" (.ref p) fs); omega, ?_⟩
    have k4 := ButO.upd (g := t) (H := H3) (o := .ins C dx (putF "held" (.ref h) (putF "latched" (.ref l) (putF "panel" (.ref p) fs))))
    exact q _ h hs ((k12.trans (ButO.of s3)).trans k4) upd_same (sqT_kp (k4.kp e3) hh) ish
end
theorem put_sa (pa p l h : Addr) : (putF "held" (.ref h) (putF "latched" (.ref l) (putF "panel" (.ref p) (fD1 pa)))).lookup ("past" : Str) = some (.ref pa) := by rfl
theorem put_sb (pa p0 l0 h0 k0 p l h : Addr) : (putF "held" (.ref h) (putF "latched" (.ref l) (putF "panel" (.ref p) (fldsD pa p0 l0 h0 k0)))).lookup ("past" : Str) = some (.ref pa) := by rfl
theorem put_ka (pa p l h kn : Addr) : putF "known" (.ref kn) (putF "held" (.ref h) (putF "latched" (.ref l) (putF "panel" (.ref p) (fD1 pa)))) = fldsD pa p l h kn := by rfl
theorem put_kb (pa p0 l0 h0 k0 p l h kn : Addr) : putF "known" (.ref kn) (putF "held" (.ref h) (putF "latched" (.ref l) (putF "panel" (.ref p) (fldsD pa p0 l0 h0 k0)))) = fldsD pa p l h kn := by rfl
theorem put_pan (pa p0 l h kn p : Addr) : putF "panel" (.ref p) (fldsD pa p0 l h kn) = fldsD pa p l h kn := by rfl
theorem put_kn (pa p l h k0 kn : Addr) : putF "known" (.ref kn) (fldsD pa p l h k0) = fldsD pa p l h kn := by rfl
abbrev sShowG : Stmt := inClass (topS 39) 1
def nShowG : List Str := ["self", "panel", "latched", "__class__"]
theorem scShowG : NdefX.NScope nShowG ["self", "panel", "latched"] ["__class__"] (defScope sShowG) := NdefX.nscope_by (by decide +kernel)
section
variable {P : Program} {w : World} {K : PySem.W.Frag} {mg : Str → Option Value} {base : Heap}
theorem ok_ShowG {fNo : Addr} {fdNo : FuncData} {fPressE : Addr} {fdPressE : FuncData} {fJoin : Addr} {fdJoin : FuncData} {fWith : Addr} {fdWith : FuncData} {fAny : Addr} {fdAny : FuncData} {fHeld : Addr} {fdHeld : FuncData} {fKAft : Addr} {fdKAft : FuncData} {C D cc c f fB : Addr} {fd fdB : FuncData} {k : Nat} (F : SFun K "show" "GuessDesk.show" sShowG cc c f fd) (S : SCls P K mg cc c D) (SM : SMeth K C D "show" fB) (FB : Fun K "show" "Desk.show" sShow fB fdB) (bB : Binds K fdB ["self", "panel", "latched"] []) (T : TxtD K mg C)
    (FNo : Fun K "no_effect" "no_effect" sNo fNo fdNo) (bNo : Binds K fdNo ["panel"] []) (gNo : mg "no_effect" = some (.ref fNo))
    (FPressE : Fun K "press_effect" "press_effect" sPressE fPressE fdPressE) (bPressE : Binds K fdPressE ["panel", "button"] []) (gPressE : mg "press_effect" = some (.ref fPressE))
    (FJoin : Fun K "joined_effect" "joined_effect" sJoin fJoin fdJoin) (bJoin : Binds K fdJoin ["first", "second"] []) (gJoin : mg "joined_effect" = some (.ref fJoin))
    (FWith : Fun K "effect_with_press" "effect_with_press" sWith fWith fdWith) (bWith : Binds K fdWith ["panel", "effect", "button"] []) (gWith : mg "effect_with_press" = some (.ref fWith))
    (FAny : Fun K "releases_any" "releases_any" sAny fAny fdAny) (bAny : Binds K fdAny ["panel", "button", "others"] []) (gAny : mg "releases_any" = some (.ref fAny))
    (FHeld : Fun K "held_buttons" "held_buttons" sHeld fHeld fdHeld) (bHeld : Binds K fdHeld ["panel", "state"] []) (gHeld : mg "held_buttons" = some (.ref fHeld))
    (FKAft : Fun K "known_after" "known_after" sKAft fKAft fdKAft) (bKAft : Binds K fdKAft ["panel", "past"] []) (gKAft : mg "known_after" = some (.ref fKAft))
    (m_any : mg "any" = none) (m_len : mg "len" = none) (m_list : mg "list" = none) (m_tuple : mg "tuple" = none) (m_zip : mg "zip" = none) : FnOk P w K mg base CX0 (k + 6) f fd ["self", "panel", "latched"] (spShow K C) := by
  have GB : FnOk P w K mg base CX0 (k + 3) fB fdB ["self", "panel", "latched"] (spShowB K C) := ok_ShowB FB T FAny bAny gAny FHeld bHeld gHeld m_any m_len m_tuple
  have GKAft : FnOk P w K mg base CX0 (k + 4) fKAft fdKAft ["panel", "past"] (spKAft K) := ok_KAft FKAft FNo bNo gNo FPressE bPressE gPressE FJoin bJoin gJoin FWith bWith gWith m_len m_list m_tuple m_zip
  refine SFun.ok F S scShowG (fun vs H Q E h => ?_) (fun A outer s H vs Q E hr h s1 I => ?_)
  · obtain ⟨t, p, l, dx, pa, fs, pan, st, past, rfl, _⟩ := h
    rfl
  · obtain ⟨t, p, l, dx, pa, fs, pan, st, past, rfl, ht, hfs, hp, hg, hl, hst, hP, lfe, q⟩ := h
    obtain ⟨oc, od, kV, doc, pm, an, ct, osl, rfl, lkf, _⟩ := F.ex
    have B : SEnv (NdefX.ncx CX0 P w K mg base nShowG (sNF "show" "GuessDesk.show" sShowG cc c) f A outer s H E) f cc c D "self" := { cls := S, fu := rfl, co := rfl, cel := rfl, fo := ⟨_, _, _, _, _, lkf, rfl, rfl⟩, ks := rfl, kc := rfl, kslf := rfl }
    have fl : fs.length ≤ 6 := by
      rcases hfs with rfl | ⟨p0, l0, h0, k0, rfl⟩
      · show 2 ≤ 6; decide
      · exact Nat.le_refl 6
    refine sup_first I B (i := 0) rfl rfl ht SM (fr_of GB bB) (hr.mono (by omega)) pass0 (pa_cons (pv 1) (pa_cons (pv 2) pa_nil)) (pss_one (ps_fld (pv 0) (pe_call GKAft (hr.mono (by omega)) (by rfl) gKAft FKAft.kp bKAft .nil pass0 (pa_cons (pv 1) (pa_cons (pe_fld (pv 0) rfl) pa_nil))) rfl)) ?_ _ (by rfl)
    refine ⟨.ref p, rfl, .ref l, rfl, t, p, l, dx, fs, pan, st, rfl, ht, fl, hp, hg, hl, hst, fun H1 h hs k1 e1 hh ish => ?_⟩
    have kp1 := k1.kp ht
    have lfp : ∀ x ∈ past, lf x.1 = true ∧ Good x.2.1 ∧ Asc x.2.1.length x.2.2 := fun x hx => ⟨(lfe x hx).1, (lfe x hx).2.1, (lfe x hx).2.2.1⟩
    have hP1 := hP.kp kp1 lfp
    refine ⟨.ref p, rfl, .ref t, rfl, t, C, dx, _, .ref pa, rfl, e1, T.cl, T.nA, ?_, p, pa, pan, past, rfl, hp.kp kp1, hg, hP1, lfe, fun H2 u s2 hu => ?_⟩
    · rcases hfs with rfl | ⟨p0, l0, h0, k0, rfl⟩
      · exact put_sa _ _ _ _
      · exact put_sb _ _ _ _ _ _ _ _
    have e2 := s2 _ _ e1
    refine ⟨.ref t, rfl, t, C, dx, _, rfl, e2, T.cl, T.nK, ?_, ?_⟩
    · rcases hfs with rfl | ⟨p0, l0, h0, k0, rfl⟩
      · show 5 < 1000; decide
      · show 6 < 1000; decide
    have k3 := ButO.upd (g := t) (H := H2) (o := .ins C dx (fldsD pa p l h u))
    have ef : putF "known" (.ref u) (putF "held" (.ref h) (putF "latched" (.ref l) (putF "panel" (.ref p) fs))) = fldsD pa p l h u := by
      rcases hfs with rfl | ⟨p0, l0, h0, k0, rfl⟩
      · exact put_ka _ _ _ _ _
      · exact put_kb _ _ _ _ _ _ _ _ _
    rw [ef]
    exact q _ h hs u ((k1.trans (ButO.of s2)).trans k3) upd_same (sqT_kp (k3.kp e2) (same_sqT s2 hh)) ish (hu.kp (k3.kp e2))
end
end K52G
namespace K52G
open PySem PySem.Spec PyProof.Rows L2 Pr K52
abbrev sInitU : Stmt := inClass (topS 38) 0
def nInitU : List Str := ["self", "panel"]
theorem scInitU : FnScope nInitU ["self", "panel"] (defScope sInitU) := ⟨rfl, rfl, rfl, by decide +kernel, rfl, by decide +kernel, by decide +kernel⟩
section
variable {P : Program} {w : World} {K : PySem.W.Frag} {mg : Str → Option Value} {base : Heap}
def spInitU (K : PySem.W.Frag) (C : Addr) : Sp := fun vs H Q _ => ∃ (t p : Addr) (pan : List (List Int)) (st : List Int), vs = [.ref t, .ref p] ∧ DeskAt K C H t pan st [] ∧ PanT K H p pan ∧ ∀ H', ButO t H H' → DeskAt K C H' t pan st [] → Q .non H'
theorem ok_InitU {fNo : Addr} {fdNo : FuncData} {fBtn : Addr} {fdBtn : FuncData} {fBtnT : Addr} {fdBtnT : FuncData} {fPErr : Addr} {fdPErr : FuncData} {fChkP : Addr} {fdChkP : FuncData} {C f : Addr} {fd : FuncData} {k : Nat} {tk : Tok} (F : Fun K "__init__" "Guess.__init__" sInitU f fd) (T : TxtD K mg C)
    (FNo : Fun K "no_effect" "no_effect" sNo fNo fdNo) (bNo : Binds K fdNo ["panel"] []) (gNo : mg "no_effect" = some (.ref fNo))
    (FBtn : Fun K "is_button" "is_button" sBtn fBtn fdBtn) (bBtn : Binds K fdBtn ["value", "many"] []) (gBtn : mg "is_button" = some (.ref fBtn))
    (FBtnT : Fun K "is_button_tuple" "is_button_tuple" sBtnT fBtnT fdBtnT) (bBtnT : Binds K fdBtnT ["value", "many"] []) (gBtnT : mg "is_button_tuple" = some (.ref fBtnT))
    (FPErr : Fun K "panel_error" "panel_error" sPErr fPErr fdPErr) (bPErr : Binds K fdPErr ["value"] []) (gPErr : mg "panel_error" = some (.ref fPErr))
    (FChkP : Fun K "check_panel" "check_panel" sChkP fChkP fdChkP) (bChkP : Binds K fdChkP ["value"] []) (gChkP : mg "check_panel" = some (.ref fChkP))
    (m_bool : mg "bool" = none) (m_enumerate : mg "enumerate" = none) (m_int : mg "int" = none) (m_isinstance : mg "isinstance" = none) (m_len : mg "len" = none) (m_tuple : mg "tuple" = none) (y_MAX : mg "MAX_BUTTONS" = some (.int 10 tk)) : FnOk P w K mg base CX0 (k + 5) f fd ["self", "panel"] (spInitU K C) := by
  have GNo : FnOk P w K mg base CX0 (k + 1) fNo fdNo ["panel"] (spNo K) := ok_no FNo m_len
  have GChkP : FnOk P w K mg base CX0 (k + 4) fChkP fdChkP ["value"] (spChkP K) := ok_ChkP FChkP FBtn bBtn gBtn FBtnT bBtnT gBtnT FPErr bPErr gPErr m_bool m_enumerate m_int m_isinstance m_len m_tuple y_MAX
  refine F.ok scInitU (fun vs H Q E h => ?_) (fun cdv A outer s H vs Q E hr h => ?_)
  · obtain ⟨t, p, pan, st, rfl, _⟩ := h
    rfl
  · obtain ⟨t, p, pan, st, rfl, hD, hp, q⟩ := h
    refine ⟨_, pss_cons (ps_expr (pe_call GChkP (hr.mono (by omega)) (by rfl) gChkP FChkP.kp bChkP .nil pass0 (pa_cons (pv 1) pa_nil)))
      (pss_cons (ps_fld (pv 0) (pv 1) rfl)
      (pss_one (ps_fld (pv 0) (pe_call GNo (hr.mono (by omega)) (by rfl) gNo FNo.kp bNo .nil pass0 (pa_cons (pv 1) pa_nil)) rfl))), ?_⟩
    refine ⟨.ref p, rfl, p, pan, rfl, hp, hD.good, fun H1 s1 => ?_⟩
    have hD1 := hD.same s1
    obtain ⟨⟨dx, pa, p0, l, hh, hs, kn, h1, h2, h3, h4, h5, h6, h7⟩, hg, hst, lfe⟩ := hD1
    refine ⟨.ref p, rfl, .ref t, rfl, t, C, dx, _, rfl, h1, T.cl, T.nP, by show 6 < 1000; decide, ?_⟩
    rw [put_pan]
    have k2 := ButO.upd (g := t) (H := H1) (o := .ins C dx (fldsD pa p l hh kn))
    have kp2 := k2.kp h1
    refine ⟨.ref p, rfl, p, pan, rfl, (hp.same s1).kp kp2, hg, fun H3 u s3 hu => ?_⟩
    have e3 := s3 _ _ (upd_same (a := t) (H := H1) (o := .ins C dx (fldsD pa p l hh kn)))
    refine ⟨.ref t, rfl, t, C, dx, _, rfl, e3, T.cl, T.nK, by show 6 < 1000; decide, ?_⟩
    rw [put_kn]
    have k4 := ButO.upd (g := t) (H := H3) (o := .ins C dx (fldsD pa p l hh u))
    have kp4 := k4.kp e3
    have kp24 := (kp2.trans (Kp.of s3)).trans kp4
    exact q _ ((((ButO.of s1).trans k2).trans (ButO.of s3)).trans k4) ⟨⟨dx, pa, p, l, hh, hs, u, upd_same, h2.kp kp24 (fun x hx => by cases hx), (hp.same s1).kp kp24, kp24.1 _ _ h4, sqT_kp kp24 h5, h6, by rw [show knM pan.length [] = effM pan [] from (effM_nil pan).symm]; exact hu.kp kp4⟩, hg, hst, lfe⟩
end
abbrev sInitG : Stmt := inClass (topS 39) 0
def nInitG : List Str := ["self", "panel", "state"]
theorem scInitG : FnScope nInitG ["self", "panel", "state"] (defScope sInitG) := ⟨rfl, rfl, rfl, by decide +kernel, rfl, by decide +kernel, by decide +kernel⟩
section
variable {P : Program} {w : World} {K : PySem.W.Frag} {mg : Str → Option Value} {base : Heap}
def spInitG (K : PySem.W.Frag) (C : Addr) : Sp := fun vs H Q _ => ∃ (t p l dx : Addr) (pan : List (List Int)) (st : List Int), vs = [.ref t, .ref p, .ref l] ∧ H t = some (.ins C dx []) ∧ PanT K H p pan ∧ Good pan ∧ H l = some (.tup (st.map V.int)) ∧ Asc pan.length st ∧
  ∀ H', ButO t H H' → DeskAt K C H' t pan st [] → Q .non H'
/-- C.__init__ read off the class, and how -/
abbrev CInit (K : PySem.W.Frag) (C : Addr) (mc : Value) (g : Addr) : Prop := ClX.CRead K C mc ∧ ClX.CVal K C mc "__init__" (.ref g) (.ref g)
theorem ok_InitG {fNo : Addr} {fdNo : FuncData} {fBtn : Addr} {fdBtn : FuncData} {fBtnT : Addr} {fdBtnT : FuncData} {fPErr : Addr} {fdPErr : FuncData} {fChkP : Addr} {fdChkP : FuncData} {fChkS : Addr} {fdChkS : FuncData} {fInitD fInitU : Addr} {fdInitD fdInitU : FuncData} {mcD mcU : Value} {CD CU C f : Addr} {fd : FuncData} {k : Nat} {tk : Tok} (F : Fun K "__init__" "GuessDesk.__init__" sInitG f fd) (T : TxtD K mg C)
    (gCD : mg "Desk" = some (.ref CD)) (gCU : mg "Guess" = some (.ref CU)) (cvD : CInit K CD mcD fInitD) (cvU : CInit K CU mcU fInitU) (FInitD : Fun K "__init__" "Desk.__init__" sInitD fInitD fdInitD) (bInitD : Binds K fdInitD ["self", "panel", "state"] []) (FInitU : Fun K "__init__" "Guess.__init__" sInitU fInitU fdInitU) (bInitU : Binds K fdInitU ["self", "panel"] [])
    {fShow : Addr} {fdShow : FuncData} (GShow0 : ∀ k0 : Nat, FnOk P w K mg base CX0 (k0 + 6) fShow fdShow ["self", "panel", "latched"] (spShow K C)) (bShow : Binds K fdShow ["self", "panel", "latched"] []) (hShow : Meth K C "show" fShow)
    (FNo : Fun K "no_effect" "no_effect" sNo fNo fdNo) (bNo : Binds K fdNo ["panel"] []) (gNo : mg "no_effect" = some (.ref fNo))
    (FBtn : Fun K "is_button" "is_button" sBtn fBtn fdBtn) (bBtn : Binds K fdBtn ["value", "many"] []) (gBtn : mg "is_button" = some (.ref fBtn))
    (FBtnT : Fun K "is_button_tuple" "is_button_tuple" sBtnT fBtnT fdBtnT) (bBtnT : Binds K fdBtnT ["value", "many"] []) (gBtnT : mg "is_button_tuple" = some (.ref fBtnT))
    (FPErr : Fun K "panel_error" "panel_error" sPErr fPErr fdPErr) (bPErr : Binds K fdPErr ["value"] []) (gPErr : mg "panel_error" = some (.ref fPErr))
    (FChkP : Fun K "check_panel" "check_panel" sChkP fChkP fdChkP) (bChkP : Binds K fdChkP ["value"] []) (gChkP : mg "check_panel" = some (.ref fChkP))
    (FChkS : Fun K "check_state" "check_state" sChkS fChkS fdChkS) (bChkS : Binds K fdChkS ["panel", "value"] []) (gChkS : mg "check_state" = some (.ref fChkS))
    (m_bool : mg "bool" = none) (m_enumerate : mg "enumerate" = none) (m_int : mg "int" = none) (m_isinstance : mg "isinstance" = none) (m_len : mg "len" = none) (m_tuple : mg "tuple" = none) (y_MAX : mg "MAX_BUTTONS" = some (.int 10 tk)) : FnOk P w K mg base CX0 (k + 8) f fd ["self", "panel", "state"] (spInitG K C) := by
  have kInitD := FInitD.kp
  have kInitU := FInitU.kp
  have GInitD : FnOk P w K mg base CX0 (k + 7) fInitD fdInitD ["self", "panel", "state"] (spInitD K C) := ok_InitD FInitD T FBtn bBtn gBtn FBtnT bBtnT gBtnT FPErr bPErr gPErr FChkP bChkP gChkP FChkS bChkS gChkS GShow0 bShow hShow m_bool m_enumerate m_int m_isinstance m_len m_tuple y_MAX
  have GInitU : FnOk P w K mg base CX0 (k + 5) fInitU fdInitU ["self", "panel"] (spInitU K C) := ok_InitU FInitU T FNo bNo gNo FBtn bBtn gBtn FBtnT bBtnT gBtnT FPErr bPErr gPErr FChkP bChkP gChkP m_bool m_enumerate m_int m_isinstance m_len m_tuple y_MAX
  refine F.ok scInitG (fun vs H Q E h => ?_) (fun cdv A outer s H vs Q E hr h => ?_)
  · obtain ⟨t, p, l, dx, pan, st, rfl, _⟩ := h
    rfl
  · obtain ⟨t, p, l, dx, pan, st, rfl, ht, hp, hg, hl, hst, q⟩ := h
    refine ⟨_, pss_cons (ps_expr (pe_cfun (E := fun _ => E0) (pe_glob (v := .ref CD) (by rfl) gCD rfl) cvD.1 cvD.2 kInitD (fr_of GInitD bInitD) (hr.mono (by omega)) passAt0 (pa_cons (pv 0) (pa_cons (pv 1) (pa_cons (pv 2) pa_nil)))))
      (pss_one (ps_expr (pe_cfun (E := fun _ => E0) (pe_glob (v := .ref CU) (by rfl) gCU rfl) cvU.1 cvU.2 kInitU (fr_of GInitU bInitU) (hr.mono (by omega)) passAt0 (pa_cons (pv 0) (pa_cons (pv 1) pa_nil))))), ?_⟩
    refine ⟨rfl, .ref t, rfl, .ref p, rfl, .ref l, rfl, t, p, l, dx, pan, st, rfl, ht, hp, hg, hl, hst, fun H1 k1 D1 => ?_⟩
    refine ⟨rfl, .ref t, rfl, .ref p, rfl, t, p, pan, st, rfl, D1, hp.kp (k1.kp ht), fun H2 k2 D2 => q H2 (k1.trans k2) D2⟩
end
end K52G
namespace K52G
open PySem PySem.Spec PyProof.Rows L2 Pr K52
section
variable {K : PySem.W.Frag} {C : Addr} {H H' : Hp} {t : Addr} {pan : List (List Int)} {st : List Int} {past : List (PyData × List (List Int) × List Int)} {σ : L2.St} {i : Nat} {E : XK} {te : TE}
theorem DeskAt.at {P : Prop} (h : DeskAt K C H t pan st past) (q : ∀ dx fs, H t = some (.ins C dx fs) → (∀ m : Str, m ∉ (["past", "watched", "panel", "latched", "held", "known"] : List Str) → fs.lookup m = none) → P) : P := by
  obtain ⟨⟨dx, pa, p, l, hh, hs, kn, h1, h2, h3, h4, _⟩, _⟩ := h
  refine q dx _ h1 fun m hm => ?_
  simp only [List.mem_cons, List.mem_nil_iff, or_false, not_or] at hm
  obtain ⟨n1, n2, n3, n4, n5, n6⟩ := hm
  unfold fldsD
  simp only [List.lookup_cons, List.lookup_nil]
  have : ∀ {a b : Str}, a ≠ b → (a == b) = false := fun h => by simpa using h
  rw [this n1, this n2, this n3, this n4, this n5, this n6]
theorem gv_StateD (hi : σ[i]? = some (some (.ref t))) (h : DeskAt K C H t pan st past) : Gv K (tMeth C "state" (spState K C) [.non] E (tVar i) tNil) σ H (.tuple [dPan pan, dInts st]) := fun H1 s Q q => by
  have hD := h.same s
  exact hD.at fun dx fs e l => ⟨.ref t, hi, t, dx, fs, rfl, e, l _ (by decide +kernel), t, pan, st, past, rfl, hD, fun H2 v s2 dv => q v H2 s2 dv⟩
theorem gv_EditsD (hi : σ[i]? = some (some (.ref t))) (h : DeskAt K C H t pan st past) (few : past.length ≤ 1000) : Gv K (tMeth C "edits" (spEdits K C) [] E (tVar i) tNil) σ H (.tuple (past.map (·.1))) := fun H1 s Q q => by
  have hD := h.same s
  exact hD.at fun dx fs e l => ⟨.ref t, hi, t, dx, fs, rfl, e, l _ (by decide +kernel), t, pan, st, past, rfl, hD, few, fun H2 v s2 dv => q v H2 s2 dv⟩
theorem gv_lenD (hi : σ[i]? = some (some (.ref t))) (h : DeskAt K C H t pan st past) (few : past.length ≤ 1000) : Gv K (tCB (rLenO C (spLenD K C)) (tCons (tVar i) tNil)) σ H (.int (past.length : Nat)) := fun H1 s Q q => by
  have hD := h.same s
  exact hD.at fun dx fs e l => ⟨.ref t, hi, t, dx, fs, rfl, e, t, pan, st, past, rfl, hD, fun H2 s2 => ⟨_, rfl, by omega, by omega, q _ H2 s2 (.int _)⟩⟩
theorem gv_strD (hi : σ[i]? = some (some (.ref t))) (h : DeskAt K C H t pan st past) (few : past.length ≤ 1000) : Gv K (tCB (rStrO C (spStrD K C)) (tCons (tVar i) tNil)) σ H (.str (txtD pan.length st.length past.length)) := fun H1 s Q q => by
  have hD := h.same s
  exact hD.at fun dx fs e l => ⟨.ref t, hi, t, dx, fs, rfl, e, t, pan, st, past, rfl, hD, few, fun H2 s2 => ⟨_, rfl, q _ H2 s2 (.str _)⟩⟩
theorem look_known (pa p l h kn : Addr) : (fldsD pa p l h kn).lookup ("known" : Str) = some (.ref kn) := by rfl
theorem gv_known {mg : Str → Option Value} (T : TxtD K mg C) (hi : σ[i]? = some (some (.ref t))) (h : DeskAt K C H t pan st past) : Gv K (tFld K (tVar i) "known") σ H (dStrs (knM pan.length past)) := fun H1 s Q q => by
  obtain ⟨⟨dx, pa, p, l, hh, hs, kn, h1, h2, h3, h4, h5, h6, h7⟩, _⟩ := h.same s
  exact ⟨.ref t, hi, t, C, dx, _, .ref kn, rfl, h1, T.cl, T.nK, look_known _ _ _ _ _, q _ H1 (Same.refl _) (dp_strs h7.sq)⟩
end
structure DM (P : Program) (w : World) (K : PySem.W.Frag) (mg : Str → Option Value) (base : Heap) (C : Addr) where
  fInitG : Addr
  fdInitG : FuncData
  bInitG : Binds K fdInitG ["self", "panel", "state"] []
  MkG : Mk K C fInitG
  GInitG : FnOk P w K mg base CX0 8 fInitG fdInitG ["self", "panel", "state"] (spInitG K C)
  fState : Addr
  fdState : FuncData
  dsState : List Value
  vState : Vals [V.non] dsState
  kbState : KBn K fdState ["self", "version"] 1 ["version"] (fun us ws => us ++ ws) (fun vs zs => vs ++ zs)
  bState : Binds K fdState ["self", "version"] dsState
  hState : Meth K C "state" fState
  GState : FnOk P w K mg base CX0 1 fState fdState ["self", "version"] (spState K C)
  fEdits : Addr
  fdEdits : FuncData
  bEdits : Binds K fdEdits ["self"] []
  hEdits : Meth K C "edits" fEdits
  GEdits : FnOk P w K mg base CX0 1 fEdits fdEdits ["self"] (spEdits K C)
  fLenD : Addr
  fdLenD : FuncData
  bLenD : Binds K fdLenD ["self"] []
  xLenD : PySem.W.findIn K (.ref C) "__len__" = some (some (.ref fLenD))
  yLenD : PySem.W.isFn K (.ref fLenD) = true
  GLenD : FnOk P w K mg base CX0 1 fLenD fdLenD ["self"] (spLenD K C)
  fStrD : Addr
  fdStrD : FuncData
  bStrD : Binds K fdStrD ["self"] []
  xStrD : PySem.W.findIn K (.ref C) "__str__" = some (some (.ref fStrD))
  yStrD : PySem.W.isFn K (.ref fStrD) = true
  GStrD : FnOk P w K mg base CX0 1 fStrD fdStrD ["self"] (spStrD K C)
end K52G
namespace K52
open PySem PySem.Spec PyProof.Rows L2 Pr
def tAlt (t u : TE) : TE := fun σ H Q => t σ H Q ∨ u σ H Q
theorem pe_or {X : Cx} {e : Expr} {t u : TE} (h1 : PE X e t) (h2 : PE X e u) : PE X e (tAlt t u) := ⟨fun pins s σ H Q I h => h.elim (h1.run pins s σ H Q I) (h2.run pins s σ H Q I)⟩
/-- a new desk, of the class that b says -/
def NewAt (K : PySem.W.Frag) (CD CG : Addr) (b : Bool) (H : Hp) (t : Addr) (pan : List (List Int)) : Prop := (b = false ∧ K52D.DeskAt K CD H t pan [] []) ∨ (b = true ∧ K52G.DeskAt K CG H t pan [] [])
def clsB (CD CG : Addr) : Bool → Addr
  | false => CD
  | true => CG
section
variable {K : PySem.W.Frag} {CD CG : Addr} {H H' : Hp} {t : Addr} {pan : List (List Int)} {b : Bool} {σ : L2.St} {i : Nat} {E1 E2 : XK} {mg : Str → Option Value}
theorem NewAt.same (h : NewAt K CD CG b H t pan) (s : Same H H') : NewAt K CD CG b H' t pan := h.imp (fun h => ⟨h.1, h.2.same s⟩) (fun h => ⟨h.1, h.2.same s⟩)
theorem NewAt.good (h : NewAt K CD CG b H t pan) : Good pan := by
  rcases h with ⟨_, h⟩ | ⟨_, h⟩
  · exact h.good
  · exact h.good
theorem NewAt.ins (h : NewAt K CD CG b H t pan) : ∃ dx fs, H t = some (.ins (clsB CD CG b) dx fs) := by
  rcases h with ⟨rfl, h⟩ | ⟨rfl, h⟩
  · obtain ⟨⟨dx, pa, p, l, hh, hs, h1, _⟩, _⟩ := h; exact ⟨dx, _, h1⟩
  · obtain ⟨⟨dx, pa, p, l, hh, hs, kn, h1, _⟩, _⟩ := h; exact ⟨dx, _, h1⟩
theorem gv_or1 {t u : TE} {d : PyData} (h : Gv K t σ H d) : Gv K (tAlt t u) σ H d := fun H1 s Q q => .inl (h H1 s Q q)
theorem gv_or2 {t u : TE} {d : PyData} (h : Gv K u σ H d) : Gv K (tAlt t u) σ H d := fun H1 s Q q => .inr (h H1 s Q q)
theorem any_panel (TD : K52D.TxtD K mg CD) (TG : K52G.TxtD K mg CG) (hi : σ[i]? = some (some (.ref t))) (h : NewAt K CD CG b H t pan) : Gv K (tFld K (tVar i) "panel") σ H (dPan pan) := by
  rcases h with ⟨_, h⟩ | ⟨_, h⟩
  · exact K52D.gv_panel TD hi h
  · exact K52G.gv_panel TG hi h
theorem any_latched (TD : K52D.TxtD K mg CD) (TG : K52G.TxtD K mg CG) (hi : σ[i]? = some (some (.ref t))) (h : NewAt K CD CG b H t pan) : Gv K (tFld K (tVar i) "latched") σ H (dInts []) := by
  rcases h with ⟨_, h⟩ | ⟨_, h⟩
  · exact K52D.gv_latched TD hi h
  · exact K52G.gv_latched TG hi h
theorem any_most (TD : K52D.TxtD K mg CD) (TG : K52G.TxtD K mg CG) (hi : σ[i]? = some (some (.ref t))) (h : NewAt K CD CG b H t pan) : Gv K (tCon K (tVar i) "MOST_EDITS") σ H (.int 60) := by
  rcases h with ⟨_, h⟩ | ⟨_, h⟩
  · exact K52D.gv_most TD hi h
  · exact K52G.gv_most TG hi h
theorem any_state (hi : σ[i]? = some (some (.ref t))) (h : NewAt K CD CG b H t pan) : Gv K (tAlt (tMeth CD "state" (K52D.spState K CD) [.non] E1 (tVar i) tNil) (tMeth CG "state" (K52G.spState K CG) [.non] E2 (tVar i) tNil)) σ H (.tuple [dPan pan, dInts []]) := by
  rcases h with ⟨_, h⟩ | ⟨_, h⟩
  · exact gv_or1 (K52D.gv_StateD hi h)
  · exact gv_or2 (K52G.gv_StateD hi h)
theorem any_edits (hi : σ[i]? = some (some (.ref t))) (h : NewAt K CD CG b H t pan) : Gv K (tAlt (tMeth CD "edits" (K52D.spEdits K CD) [] E1 (tVar i) tNil) (tMeth CG "edits" (K52G.spEdits K CG) [] E2 (tVar i) tNil)) σ H (.tuple []) := by
  rcases h with ⟨_, h⟩ | ⟨_, h⟩
  · exact gv_or1 (K52D.gv_EditsD hi h (Nat.zero_le _))
  · exact gv_or2 (K52G.gv_EditsD hi h (Nat.zero_le _))
theorem any_len (hi : σ[i]? = some (some (.ref t))) (h : NewAt K CD CG b H t pan) : Gv K (tAlt (tCB (rLenO CD (K52D.spLenD K CD)) (tCons (tVar i) tNil)) (tCB (rLenO CG (K52G.spLenD K CG)) (tCons (tVar i) tNil))) σ H (.int (0 : Nat)) := by
  rcases h with ⟨_, h⟩ | ⟨_, h⟩
  · exact gv_or1 (K52D.gv_lenD hi h (Nat.zero_le _))
  · exact gv_or2 (K52G.gv_lenD hi h (Nat.zero_le _))
theorem txt_same (a b c : Nat) : K52G.txtD a b c = K52D.txtD a b c := by unfold K52G.txtD K52D.txtD; rfl
theorem any_str (hi : σ[i]? = some (some (.ref t))) (h : NewAt K CD CG b H t pan) : Gv K (tAlt (tCB (rStrO CD (K52D.spStrD K CD)) (tCons (tVar i) tNil)) (tCB (rStrO CG (K52G.spStrD K CG)) (tCons (tVar i) tNil))) σ H (.str (K52D.txtD pan.length 0 0)) := by
  rcases h with ⟨_, h⟩ | ⟨_, h⟩
  · have g := K52D.gv_strD hi h (Nat.zero_le _)
    rw [show ([] : List Int).length = 0 from rfl, show ([] : List (PyData × List (List Int) × List Int)).length = 0 from rfl] at g
    exact gv_or1 g
  · have g := K52G.gv_strD hi h (Nat.zero_le _)
    rw [show ([] : List Int).length = 0 from rfl, show ([] : List (PyData × List (List Int) × List Int)).length = 0 from rfl, txt_same] at g
    exact gv_or2 g
end
end K52
namespace Pr
open PySem PySem.Spec PyProof.Rows L2
def tCMethS (C : Addr) (sp : Sp) (E : L2.St → XK) (ta : TE) (t : TA) : TE := fun σ H Q => ta σ H fun x H1 => x = .ref C ∧ t σ H1 fun vs H2 => sp (.ref C :: vs) H2 Q (E σ)
def tMakeV (C : Addr) (sp : Sp) (dvs : List V) (E : XK) (tf : TE) (t : TA) : TE := fun σ H Q => tf σ H fun c H0 => c = .ref C ∧ t σ H0 fun vs H1 => ∀ x dx, H1 x = none → H1 dx = none → dx ≠ x → sp (.ref x :: (vs ++ dvs)) (upd (upd H1 dx (.own x)) x (.ins C dx [])) (fun v H2 => v = .non ∧ Q (.ref x) H2) E
section
variable {X : Cx} {CX : CXT} {k : Nat} {C p g f : Addr} {mc : Value} {sp : Sp} {o e : Expr} {es : List Expr} {m : Str} {pos apos np : Pos} {ta tf : TE} {t : TA} {pl : Sem Bool} {pins : List (Addr × Obj)} {σ : L2.St} {H : Hp} {s : Shared}
theorem run_cmS {q : Addr} {E : XK} {Q : VK} {us : List Value} {vs : List V} (F : FnR X.prog X.w X.K X.mg X.base CX k g sp) (hr : Room k X.A) (hx : PassesAt CX X σ E) (I : Inv X ((q, PySem.W.methodObj (.ref g) (.ref C)) :: pins) σ H s)
    (r : Vals vs us) (h : sp (.ref C :: vs) H Q E) : wpAny (model X.prog X.w) X.A (call (.ref q) us) (EP X pins σ Q) X.xe s := by
  have z : wpAny (model X.prog X.w) X.A (call (.ref q) us) (EP X ((q, PySem.W.methodObj (.ref g) (.ref C)) :: pins) σ Q) X.xe s := by
    refine wpAny_call (PySem.W.method_call (ClX.pin_at I) (codeAny_mono (F X.A X.stack s H (.ref C :: us) (.ref C :: vs) Q E hr I.env0 (.cons rfl r) h) fun r s' hq => ?_))
    cases r with
    | error e => exact hx _ H s e s' I hq
    | ok fl =>
      cases fl with
      | ret u => exact I.after hq
      | next => exact False.elim hq
      | brk => exact False.elim hq
      | cont => exact False.elim hq
  exact thn z fun _ _ y => ClX.unpinE y
theorem pe_cmethS {E : L2.St → XK} (he : PE X o ta) (r : ClX.CRead X.K C mc) (c : ClX.CMet X.K C mc m p g) (F : FnR X.prog X.w X.K X.mg X.base CX k g sp) (hr : Room k X.A) (hx : ∀ σ, PassesAt CX X σ (E σ)) (ha : PA X (e :: es) t)
    (hst : starEach (e :: es) X.env = (false, eval e X.env) :: starEach es X.env := by rfl) (hpl : (backTo pos (starEach es X.env)).any (·.1) = false := by rfl)
    (ht : eval (.Call (.Attribute o m apos) (e :: es) [] pos) X.env = (do
      let ov ← eval o X.env
      standAt apos.atName
      let (f, first) ← holding [ov] (getMethod ov m pl)
      callWith pos f first (backTo pos (starEach (e :: es) X.env)) (backToKw pos (keywordEach [] X.env))) := by rfl) :
    PE X (.Call (.Attribute o m apos) (e :: es) [] pos) (tCMethS C sp E ta t) := by
  refine ⟨fun pins s σ H Q I h => ?_⟩
  refine PySem.W.methodCall_KW (pl := pl) (thn (he.run pins s σ H _ I h) fun u s1 ⟨x, H1, I1, rx, ex, q⟩ => ?_) ht
  subst ex
  obtain rfl : u = Value.ref C := rx
  refine ClX.getmethcm_ok I1 r c fun s2 I2 => ?_
  refine ClX.callwith_cm I2 (ClX.base_none I1 (Nat.le_refl _)) c.fi (thn (ha.run pos _ s2 σ H1 _ I2 q) fun us s3 ⟨vs, H2, I3, rv, q2⟩ => ⟨⟨ClX.pin_at I3, I3.kIn⟩, ?_⟩) hst hpl
  exact run_cmS F hr (hx σ) I3 rv q2
theorem pe_makeV {E : XK} {fd : FuncData} {ps : List Str} {ds : List Value} {dvs : List V} {x : Str} (M : Mk X.K C f) (F : FnOk X.prog X.w X.K X.mg X.base CX k f fd ps sp) (hr : Room (k + 1) X.A) (hb : Binds X.K fd ps ds) (hd : Vals dvs ds) (hx : Passes CX X E)
    (hf : PE X (.Name x np) tf) (ha : PA X (e :: es) t) (he : starEach (e :: es) X.env = (false, eval e X.env) :: starEach es X.env := by rfl) (hpl : (backTo pos (starEach es X.env)).any (·.1) = false := by rfl) :
    PE X (.Call (.Name x np) (e :: es) [] pos) (tMakeV C sp dvs E tf t) := by
  refine ⟨fun pins s σ H Q I h => ?_⟩
  refine wpAny_Call_Name_kw (thn (hf.run pins s σ H _ I h) fun u s1 ⟨c, H1, I1, rc, ec, q1⟩ => ?_)
  subst ec
  obtain rfl : u = Value.ref C := rc
  refine PySem.W.callWith_K (h₀ := X.base) I.ok.mod.kin M.kp (thn (ha.run pos pins s1 σ H1 _ I1 q1) fun us s2 ⟨vs, H2, I2, r, q⟩ => ⟨I2.kIn, ?_⟩) he hpl
  exact run_make M F hr hb hd hx I2 r q
end
end Pr
namespace K52
open PySem PySem.Spec PyProof.Rows L2 Pr
theorem badP_none {m : Nat} : ∀ (ws : List Str) (j : Nat), badP m j ws = none → ∀ k x, ws[k]? = some x → ∃ l, lstW m (j + k) x = some l ∧ j + k ≠ 10
  | [], j, h, k, x, hx => by simp at hx
  | a :: r, j, h, k, x, hx => by
    replace h : (if lstW m j a = none ∨ j = 10 then some j else badP m (j + 1) r) = none := h
    by_cases c : lstW m j a = none ∨ j = 10
    · rw [if_pos c] at h; cases h
    · rw [if_neg c] at h
      cases k with
      | zero =>
        simp only [List.getElem?_cons_zero, Option.some.injEq] at hx
        subst hx
        rw [Nat.add_zero]
        cases e : lstW m j a with
        | none => exact absurd (.inl e) c
        | some l => exact ⟨l, rfl, fun z => c (.inr z)⟩
      | succ k =>
        have := badP_none r _ h k x (by simpa using hx)
        rw [show j + (k + 1) = j + 1 + k by omega]
        exact this
theorem lstW_good {m i : Nat} {x : Str} {l : List Int} (h : lstW m i x = some l) : l.Pairwise (· < ·) ∧ (∀ y ∈ l, 0 ≤ y ∧ y < (m : Int)) ∧ (i : Int) ∉ l := by
  unfold lstW at h
  split at h
  · cases h
  · split at h
    · cases h
    · split at h
      · rename_i hok
        injection h with h
        subst h
        unfold okL at hok
        rw [Bool.and_eq_true, Bool.and_eq_true] at hok
        exact ⟨of_decide_eq_true hok.1.2, vals_rng hok.1.1, by simpa using hok.2⟩
      · cases h
abbrev sRd : Stmt := inClass (topS 37) 20
theorem resP_good {ws : List Str} (hne : ws ≠ []) (h : badP ws.length 0 ws = none) : Good (valsP ws.length ws) := by
  have hk : ∀ k x, ws[k]? = some x → ∃ l, lstW ws.length k x = some l ∧ k ≠ 10 := fun k x hx => by
    have := badP_none ws 0 h k x hx
    rwa [Nat.zero_add] at this
  have few : ws.length ≤ 10 := by
    refine Classical.byContradiction fun z => ?_
    obtain ⟨l, _, hne⟩ := hk 10 ws[10] (List.getElem?_eq_getElem (by omega))
    exact hne rfl
  have ln : (valsP ws.length ws).length = ws.length := by unfold valsP; rw [List.length_map, List.length_zipIdx]
  have each : ∀ (k : Nat) (l : List Int), (valsP ws.length ws)[k]? = some l → l.Pairwise (· < ·) ∧ (∀ y ∈ l, 0 ≤ y ∧ y < (ws.length : Int)) ∧ (k : Int) ∉ l := fun k l hl => by
    unfold valsP at hl
    rw [List.getElem?_map] at hl
    cases e : ws.zipIdx[k]? with
    | none => rw [e] at hl; cases hl
    | some x =>
      rw [e] at hl
      rw [List.getElem?_zipIdx] at e
      cases e2 : ws[k]? with
      | none => rw [e2] at e; cases e
      | some z =>
        rw [e2] at e
        simp only [Option.map_some, Option.some.injEq] at e
        subst e
        obtain ⟨l', e', _⟩ := hk k z e2
        simp only [Option.map_some, Option.some.injEq] at hl
        have e0 : (0 : Nat) + k = k := Nat.zero_add k
        rw [e0, e'] at hl
        replace hl : l' = l := hl
        subst hl
        exact lstW_good e'
  refine ⟨by rw [ln]; exact List.length_pos_iff.mpr hne, by rw [ln]; exact few, fun l hl => ?_, fun l hl x hx => ?_, fun i l hl => (each i l hl).2.2⟩
  · obtain ⟨k, hk⟩ := List.getElem?_of_mem hl
    exact (each k l hk).1
  · obtain ⟨k, hk⟩ := List.getElem?_of_mem hl
    rw [ln]
    exact (each k l hk).2.1 x hx
def nRd : List Str := ["cls", "text"]
theorem scRd : FnScope nRd ["cls", "text"] (defScope sRd) := ⟨rfl, rfl, rfl, by decide +kernel, rfl, by decide +kernel, by decide +kernel⟩
section
variable {P : Program} {w : World} {K : PySem.W.Frag} {mg : Str → Option Value} {base : Heap}
def spRd (K : PySem.W.Frag) (CD CG C : Addr) : Sp := fun vs H Q E => ∃ (b : Bool) (N : Addr → Prop) (v : V) (d : PyData), vs = [.ref (clsB CD CG b), v] ∧ Dq K N H v d ∧ (∀ x, d = .str x → x.length ≤ 999) ∧
  (∀ x, d = .str x → badP (Txt.split x (" " : Str)).length 0 (Txt.split x (" " : Str)) = none → ∀ H' t, Same H H' → NewAt K CD CG b H' t (valsP (Txt.split x (" " : Str)).length (Txt.split x (" " : Str))) → Q (.ref t) H') ∧
  (∀ x i, d = .str x → badP (Txt.split x (" " : Str)).length 0 (Txt.split x (" " : Str)) = some i → ∀ H' dd, Same H H' → H' dd = some (.xd [("index", .int (i : Nat))]) → E (.ref C) (some dd) H') ∧
  (isS d = false → ∀ H' dd, Same H H' → H' dd = some (.xd [("index", .non)]) → E (.ref C) (some dd) H')
theorem make_at {H : Hp} {t tx C : Addr} (nt : H t = none) (ntx : H tx = none) : Same H (upd (upd H tx (.own t)) t (.ins C tx [])) := fun o y e => by
  rw [upd_ne (ne_of_none e nt), upd_ne (ne_of_none e ntx)]; exact e
theorem make_same {H H2 : Hp} {C x dx : Addr} (nx : H x = none) (ndx : H dx = none) (b : ButO x (upd (upd H dx (.own x)) x (.ins C dx [])) H2) : Same H H2 := fun c o e => by
  have hx : c ≠ x := ne_of_none e nx
  have hd : c ≠ dx := ne_of_none e ndx
  exact b c o hx (by rw [upd_ne hx, upd_ne hd]; exact e)
theorem ok_Rd {fWordsOf : Addr} {fdWordsOf : FuncData} {fByText : Addr} {fdByText : FuncData} {fBtn : Addr} {fdBtn : FuncData} {fBtnT : Addr} {fdBtnT : FuncData} {fPList : Addr} {fdPList : FuncData} {fParse : Addr} {fdParse : FuncData} {C CD CG f fI fInitD fInitG : Addr} {fd fdI fdInitD fdInitG : FuncData} {k : Nat} {tk : Tok} (F : Fun K "read" "Desk.read" sRd f fd) (T : ExF K mg "BadText" "index" "BadText.__init__" sInitT C fI fdI)
    (MkD : Mk K CD fInitD) (GInitD : FnOk P w K mg base CX0 5 fInitD fdInitD ["self", "panel", "state"] (K52D.spInitD K CD)) (bInitD : Binds K fdInitD ["self", "panel", "state"] [])
    (MkG : Mk K CG fInitG) (GInitG : FnOk P w K mg base CX0 8 fInitG fdInitG ["self", "panel", "state"] (K52G.spInitG K CG)) (bInitG : Binds K fdInitG ["self", "panel", "state"] [])
    (FWordsOf : Fun K "words_of" "words_of" sWordsOf fWordsOf fdWordsOf) (bWordsOf : Binds K fdWordsOf ["value"] []) (gWordsOf : mg "words_of" = some (.ref fWordsOf))
    (FByText : Fun K "buttons_by_text" "buttons_by_text" sByText fByText fdByText) (bByText : Binds K fdByText ["many"] []) (gByText : mg "buttons_by_text" = some (.ref fByText))
    (FBtn : Fun K "is_button" "is_button" sBtn fBtn fdBtn) (bBtn : Binds K fdBtn ["value", "many"] []) (gBtn : mg "is_button" = some (.ref fBtn))
    (FBtnT : Fun K "is_button_tuple" "is_button_tuple" sBtnT fBtnT fdBtnT) (bBtnT : Binds K fdBtnT ["value", "many"] []) (gBtnT : mg "is_button_tuple" = some (.ref fBtnT))
    (FPList : Fun K "parse_list" "parse_list" sPList fPList fdPList) (bPList : Binds K fdPList ["word", "button", "buttons"] []) (gPList : mg "parse_list" = some (.ref fPList))
    (FParse : Fun K "parse_panel" "parse_panel" sParse fParse fdParse) (bParse : Binds K fdParse ["value"] []) (gParse : mg "parse_panel" = some (.ref fParse))
    (m_bool : mg "bool" = none) (m_enumerate : mg "enumerate" = none) (m_int : mg "int" = none) (m_isinstance : mg "isinstance" = none) (m_len : mg "len" = none) (m_range : mg "range" = none) (m_str : mg "str" = none) (m_tuple : mg "tuple" = none) (y_MAX_BUTTONS : mg "MAX_BUTTONS" = some (.int 10 tk)) : FnOk P w K mg base (L2.CX P w) (k + 20) f fd ["cls", "text"] (spRd K CD CG C) := by
  have GParse : FnOk P w K mg base (L2.CX P w) (k + 4) fParse fdParse ["value"] (spParse K C) := ok_Parse FParse T FWordsOf bWordsOf gWordsOf FByText bByText gByText FBtn bBtn gBtn FBtnT bBtnT gBtnT FPList bPList gPList m_bool m_enumerate m_int m_isinstance m_len m_range m_str m_tuple y_MAX_BUTTONS
  refine F.okX scRd (fun vs H Q E h => ?_) (fun cdv A outer s H vs Q E hr h => ?_)
  · obtain ⟨b, N, v, d, rfl, _⟩ := h
    rfl
  · obtain ⟨b, N, v, d, rfl, hd, hl, q1, q2, q3⟩ := h
    refine ⟨_, pss_one (ps_ret (pe_or (pe_makeV MkD GInitD (hr.mono (by omega)) bInitD .nil pass0 (pv 0) (pa_cons (pe_callS (E := fun _ => E) GParse (hr.mono (by omega)) (by rfl) gParse FParse.kp bParse (fun σ => passAt (W := fun cls d _ H => E cls d H) (takes_of rfl rfl rfl rfl) σ) (pa_cons (pv 1) pa_nil)) (pa_cons (pe_tup pa_nil) pa_nil))) (pe_makeV MkG GInitG (hr.mono (by omega)) bInitG .nil pass0 (pv 0) (pa_cons (pe_callS (E := fun _ => E) GParse (hr.mono (by omega)) (by rfl) gParse FParse.kp bParse (fun σ => passAt (W := fun cls d _ H => E cls d H) (takes_of rfl rfl rfl rfl) σ) (pa_cons (pv 1) pa_nil)) (pa_cons (pe_tup pa_nil) pa_nil))))), ?_⟩
    have body : ∀ (H1 : Hp) (x : Str) (u : V), d = .str x → badP (Txt.split x (" " : Str)).length 0 (Txt.split x (" " : Str)) = none → Same H H1 → Dp K H1 u (dPan (valsP (Txt.split x (" " : Str)).length (Txt.split x (" " : Str)))) → ∀ l, H1 l = none → ∃ p, u = .ref p ∧ PanT K (upd H1 l (.tup [])) p (valsP (Txt.split x (" " : Str)).length (Txt.split x (" " : Str))) ∧ Good (valsP (Txt.split x (" " : Str)).length (Txt.split x (" " : Str))) := fun H1 x u _ hb s1 du l nl => by
      obtain ⟨p, rfl, hp⟩ := panT_dp du
      exact ⟨p, rfl, hp.same (same_new nl), resP_good (split_ne sep_sp x) hb⟩
    cases b with
    | false =>
      refine .inl ⟨.ref CD, rfl, rfl, v, rfl, N, v, d, rfl, hd, hl, fun x hx hb H1 u s1 du => ⟨Nat.zero_le _, fun l nl => ?_⟩, q2, q3⟩
      obtain ⟨p, rfl, hp, hg⟩ := body H1 x u hx hb s1 du l nl
      have sl := same_new (o := HO.tup []) nl
      refine fun t dx nt ndx ne => ⟨t, p, l, dx, _, [], rfl, upd_same, hp.same (make_at nt ndx), hg, make_at nt ndx _ _ upd_same, Asc.nil _, fun H2 b2 D2 => ⟨rfl, q1 x hx hb H2 t (s1.trans (sl.trans (make_same nt ndx b2))) (.inl ⟨rfl, D2⟩)⟩⟩
    | true =>
      refine .inr ⟨.ref CG, rfl, rfl, v, rfl, N, v, d, rfl, hd, hl, fun x hx hb H1 u s1 du => ⟨Nat.zero_le _, fun l nl => ?_⟩, q2, q3⟩
      obtain ⟨p, rfl, hp, hg⟩ := body H1 x u hx hb s1 du l nl
      have sl := same_new (o := HO.tup []) nl
      refine fun t dx nt ndx ne => ⟨t, p, l, dx, _, [], rfl, upd_same, hp.same (make_at nt ndx), hg, make_at nt ndx _ _ upd_same, Asc.nil _, fun H2 b2 D2 => ⟨rfl, q1 x hx hb H2 t (s1.trans (sl.trans (make_same nt ndx b2))) (.inr ⟨rfl, D2⟩)⟩⟩
end
end K52
namespace K52
open PySem PySem.Spec PyProof.Rows L2 Pr
theorem all2 {p : PyData → Prop} {a b : PyData} (ha : p a) (hb : p b) : ∀ x ∈ [a, b], p x := fun x hx => by
  rcases (show x = a ∨ x = b by simpa using hx) with rfl | rfl <;> assumption
theorem all5 {p : PyData → Prop} {a b c d e : PyData} (ha : p a) (hb : p b) (hc : p c) (hd : p d) (he : p e) : ∀ x ∈ [a, b, c, d, e], p x := fun x hx => by
  rcases (show x = a ∨ x = b ∨ x = c ∨ x = d ∨ x = e by simpa using hx) with rfl | rfl | rfl | rfl | rfl <;> assumption
theorem shw_str {x : Str} {n : Nat} (h : (PyData.shown (.str x)).length ≤ n) : Shw 0 n (.str x) := ⟨by simp only [PyData.showable], by simp only [PyData.hasDict], by simp [PyData.depth], h⟩
theorem rep_found {pan : List (List Int)} {st : List Int} {es : List PyData} (g : Good pan) (hst : Asc pan.length st) (he : ∀ d ∈ es, Shw 1 39 d) (hl : es.length ≤ 60) : RepOk (.list [dPan pan, dInts st, .tuple [dPan pan, dInts st], .tuple es, .int (es.length : Int)]) := by
  have few := g.few
  have s0 : Shw 1 33 (dInts st) := (shw_ints (m := 10) (by have := hst.len; omega) fun x hx => by have := hst.rng x hx; omega).mono (by decide) (by decide)
  have s1 : Shw 3 713 (.tuple [dPan pan, dInts st]) := (Shw.tuple (m := 2) (n := 353) (dep := 2) (all2 g.shw (s0.mono (by decide) (by decide))) (by simp)).mono (by decide) (by decide)
  have s2 : Shw 2 2463 (.tuple es) := (Shw.tuple (m := 60) he hl).mono (by decide) (by decide)
  have s3 : Shw 0 2 (.int (es.length : Int)) := Shw.int (by omega) (by decide) (by decide) (by show _ < (100 : Int); omega)
  exact .inr ⟨(Shw.list (m := 5) (n := 2463) (dep := 3) (all5 (g.shw.mono (by decide) (by decide)) (s0.mono (by decide) (by decide)) (s1.mono (by decide) (by decide)) (s2.mono (by decide) (by decide)) (s3.mono (by decide) (by decide))) (by simp)).mono (by decide) (by decide), _, .inr rfl⟩
def nRight : List Str := ["_law_table", "_law_state", "_law_edits", "_law_panel_here", "_law_latched", "_law_found", "_law_words"]
theorem scRight : FnScope nRight ["_law_table", "_law_state", "_law_edits"] (defScope sRight) := ⟨rfl, rfl, rfl, by decide +kernel, rfl, by decide +kernel, by decide +kernel⟩
section
variable {P : Program} {w : World} {K : PySem.W.Frag} {mg : Str → Option Value} {base : Heap}
def dPS (pan : List (List Int)) (st : List Int) : PyData := .list [dPan pan, dInts st]
def spRight (K : PySem.W.Frag) (CD CG : Addr) : Sp := fun vs H Q _ => ∃ (b : Bool) (t : Addr) (pan : List (List Int)) (v e : V), vs = [.ref t, v, e] ∧ NewAt K CD CG b H t pan ∧ Dp K H v (dPS pan []) ∧ Dp K H e (.list []) ∧ ∀ H', Same H H' → Q (.bl true) H'
theorem ok_Right  {f : Addr} {fd : FuncData} {k : Nat} (F : Fun K "_law_right" "_law_right" sRight f fd)
    (m_len : mg "len" = none) (m_repr : mg "repr" = none) (m_str : mg "str" = none) (m_tuple : mg "tuple" = none) {CD CG : Addr} (TD : K52D.TxtD K mg CD) (TG : K52G.TxtD K mg CG) (DXD : K52D.DM P w K mg base CD) (DXG : K52G.DM P w K mg base CG) : FnG P w K mg base (k + 25) f fd ["_law_table", "_law_state", "_law_edits"] (spRight K CD CG) := by
  refine okG F scRight (fun vs H Q E h => ?_) (fun cdv A outer s H vs Q E gd hr h => ?_)
  · obtain ⟨b, t, pan, v, e, rfl, _⟩ := h
    rfl
  · obtain ⟨b, t, pan, v, e, rfl, hD, dv, de, q⟩ := h
    refine ⟨_, pss_cons (ps_asg (pv 1) (pg_unl rfl (pgs_cons (pg_name (i := 3) scRight.nd rfl (Or.inl rfl)) (pgs_cons (pg_name (i := 4) scRight.nd rfl (Or.inl rfl)) pgs_nil))))
      (pss_cons (ps_set (i := 5) scRight.nd rfl (.inl rfl) (pe_lst (pa_cons (pe_fld (pv 0) rfl) (pa_cons (pe_fld (pv 0) rfl) (pa_cons (pe_or (pe_meth0 (pv 0) TD.cl DXD.hState DXD.GState (hr.mono (by omega)) DXD.bState DXD.vState pass0) (pe_meth0 (pv 0) TG.cl DXG.hState DXG.GState (hr.mono (by omega)) DXG.bState DXG.vState pass0)) (pa_cons (pe_or (pe_meth0 (pv 0) TD.cl DXD.hEdits DXD.GEdits (hr.mono (by omega)) DXD.bEdits .nil pass0) (pe_meth0 (pv 0) TG.cl DXG.hEdits DXG.GEdits (hr.mono (by omega)) DXG.bEdits .nil pass0)) (pa_cons (pe_or (pe_callB (show CallR _ _ (rLenO CD (K52D.spLenD K CD)) from cr_lenO DXD.GLenD (hr.mono (by omega)) DXD.bLenD DXD.xLenD DXD.yLenD) (by rfl) m_len PySem.boot_len (pa_cons (pv 0) pa_nil)) (pe_callB (show CallR _ _ (rLenO CG (K52G.spLenD K CG)) from cr_lenO DXG.GLenD (hr.mono (by omega)) DXG.bLenD DXG.xLenD DXG.yLenD) (by rfl) m_len PySem.boot_len (pa_cons (pv 0) pa_nil))) pa_nil)))))))
      (pss_cons (ps_if (pt_cmpR op_ne (pe_callB (show CallR _ _ (rReprA K) from cr_reprA gd hr) (by rfl) m_repr (by decide +kernel) (pa_cons (pv 5) pa_nil)) (pe_callB (show CallR _ _ (rReprA K) from cr_reprA gd hr) (by rfl) m_repr (by decide +kernel) (pa_cons (pe_lst (pa_cons (pv 3) (pa_cons (pv 4) (pa_cons (pe_tup (pa_cons (pv 3) (pa_cons (pv 4) pa_nil))) (pa_cons (pe_callTy (show CallR _ _ (rTupG K) from cr_tupG) (by rfl) m_tuple (by decide +kernel) (pa_cons (pv 2) pa_nil)) (pa_cons (pe_callB (show CallR _ _ (rLenG K) from cr_lenG) (by rfl) m_len PySem.boot_len (pa_cons (pv 2) pa_nil)) pa_nil)))))) pa_nil)) (nomark _)) (pss_one (ps_ret pe_bl)) pss_nil)
      (pss_cons (ps_set (i := 6) scRight.nd rfl (.inl rfl) (pe_lst (pa_cons (pe_callTy (show CallR _ _ rStrI from call_str_int) (by rfl) m_str (by decide +kernel) (pa_cons (pe_callB (show CallR _ _ (rLenG K) from cr_lenG) (by rfl) m_len PySem.boot_len (pa_cons (pv 3) pa_nil)) pa_nil)) (pa_cons pe_str (pa_cons (pe_callTy (show CallR _ _ rStrI from call_str_int) (by rfl) m_str (by decide +kernel) (pa_cons (pe_callB (show CallR _ _ (rLenG K) from cr_lenG) (by rfl) m_len PySem.boot_len (pa_cons (pv 4) pa_nil)) pa_nil)) (pa_cons pe_str (pa_cons (pe_callTy (show CallR _ _ rStrI from call_str_int) (by rfl) m_str (by decide +kernel) (pa_cons (pe_callB (show CallR _ _ (rLenG K) from cr_lenG) (by rfl) m_len PySem.boot_len (pa_cons (pv 2) pa_nil)) pa_nil)) (pa_cons pe_str pa_nil))))))))
      (pss_one (ps_ret (pe_cmpR op_eq (pe_or (pe_callTy (show CallR _ _ (rStrO CD (K52D.spStrD K CD)) from cr_strO DXD.GStrD (hr.mono (by omega)) DXD.bStrD DXD.xStrD DXD.yStrD) (by rfl) m_str (by decide +kernel) (pa_cons (pv 0) pa_nil)) (pe_callTy (show CallR _ _ (rStrO CG (K52G.spStrD K CG)) from cr_strO DXG.GStrD (hr.mono (by omega)) DXG.bStrD DXG.xStrD DXG.yStrD) (by rfl) m_str (by decide +kernel) (pa_cons (pv 0) pa_nil))) (pe_join pe_str (pv 6)) (nomark _))))))), ?_⟩
    obtain ⟨a, xs, rfl, hq, hr'⟩ := dv.lstI
    obtain ⟨vp, vl, rfl, dp, dl⟩ := dpAll2 hr'
    have hg := hD.good
    have pf := hg.few
    have hlp : (pan.map dInts).length = pan.length := List.length_map _
    refine ⟨.ref a, rfl, a, _, rfl, hq, rfl, vp, [vl], rfl, vl, [], rfl, rfl, ?_⟩
    refine gs_set1 (K := K) (gv_lst (gva_cons (any_panel TD TG rfl hD) (gva_cons (any_latched TD TG rfl hD) (gva_cons (any_state rfl hD) (gva_cons (any_edits rfl hD) (gva_cons (any_len rfl hD) gva_nil)))))) fun vf H1 s1 df => ?_
    have rep := rep_found (es := []) hg (Asc.nil _) (fun x hx => by cases hx) (Nat.zero_le _)
    refine gs_no (gvt_test (K := K) (gv_neS (gv_reprA (gv_var rfl df) rep) (gv_reprA (gv_lst (gva_cons (gv_var rfl (dp.sm s1)) (gva_cons (gv_var rfl (dl.sm s1)) (gva_cons (gv_tup (gva_cons (gv_var rfl (dp.sm s1)) (gva_cons (gv_var rfl (dl.sm s1)) gva_nil))) (gva_cons (gv_tupL (gv_var rfl (de.sm s1))) (gva_cons (gv_lenL (gv_var rfl (de.sm s1))) gva_nil)))))) rep))) (by simp) fun H2 s2 => ?_
    have s12 := s1.trans s2
    refine gs_set1 (K := K) ((gv_lst (gva_cons (K52D.gv_strI (n := pan.length) ((gv_lenT (gv_var rfl (dp.sm s12))).to (by rw [hlp])) (by omega)) (gva_cons gv_str (gva_cons (K52D.gv_strI (n := 0) (gv_lenT (gv_var rfl (dl.sm s12))) (by omega)) (gva_cons gv_str (gva_cons (K52D.gv_strI (n := 0) (gv_lenL (gv_var rfl (de.sm s12))) (by omega)) (gva_cons gv_str gva_nil)))))))) fun vw H3 s3 dw => ?_
    have n1 := K52D.len_num pan.length (by omega)
    have n2 := K52D.len_num 0 (by omega)
    refine gs_ret (K := K) (d := .bool true) ((gv_eqS (any_str rfl (hD.same (s12.trans s3))) (K52D.gv_join1 (ys := [(toString (pan.length : Int) : Str), "buttons,", (toString ((0 : Nat) : Int) : Str), "latched,", (toString ((0 : Nat) : Int) : Str), "edits"]) gv_str (gv_var rfl dw) ?_)).to ?_) fun v H4 s4 d4 => ?_
    rotate_left
    · rw [decide_eq_true (K52D.txt_is _ _ _)]
    · cases d4
      exact q H4 ((s12.trans s3).trans s4)
    · show (toString (pan.length : Int) : Str).length + (8 + ((toString ((0 : Nat) : Int) : Str).length + (8 + ((toString ((0 : Nat) : Int) : Str).length + (5 + 0))))) + 6 * 1 ≤ 16777216
      omega
end
def nRead : List Str := ["_law_value", "_law_is_guessed", "e"]
theorem scRead : FnScope nRead ["_law_value", "_law_is_guessed"] (defScope sRead) := ⟨rfl, rfl, rfl, by decide +kernel, rfl, by decide +kernel, by decide +kernel⟩
/-- what the top says of the classes, for the law's try -/
structure TryTxt (K : PySem.W.Frag) (mg : Str → Option Value) (C CP CB CR CS : Addr) : Prop where
  exc : ExcC K C
  xf : XfC K C
  gP : mg "PanelError" = some (.ref CP)
  gB : mg "BadPanel" = some (.ref CB)
  gR : mg "BadRow" = some (.ref CR)
  gS : mg "BadState" = some (.ref CS)
  m1 : PySem.W.exmOne K (.ref C) (.ref CP) = some true
  kV : PySem.W.kitOne K (.ref C) (.type "ValueError") = some true
  k3 : PySem.W.kitAny K (.ref C) [.ref CB, .ref CR, .ref CS] = some false
/-- how a desk is read off its class -/
structure RM (P : Program) (w : World) (K : PySem.W.Frag) (mg : Str → Option Value) (base : Heap) (CD CG C : Addr) where
  fRd : Addr
  GRd : FnR P w K mg base (L2.CX P w) 20 fRd (spRd K CD CG C)
  mcD : Value
  rD : ClX.CRead K CD mcD
  pD : Addr
  cD : ClX.CMet K CD mcD "read" pD fRd
  mcG : Value
  rG : ClX.CRead K CG mcG
  pG : Addr
  cG : ClX.CMet K CG mcG "read" pG fRd
section
variable {P : Program} {w : World} {K : PySem.W.Frag} {mg : Str → Option Value} {base : Heap}
def spRead (K : PySem.W.Frag) (CD CG : Addr) : Sp := fun vs H Q _ => ∃ (b : Bool) (N : Addr → Prop) (v : V) (d : PyData), vs = [v, .bl b] ∧ Dq K N H v d ∧ (∀ x, d = .str x → x.length ≤ 999) ∧
  (∀ x, d = .str x → badP (Txt.split x (" " : Str)).length 0 (Txt.split x (" " : Str)) = none → ∀ H' t, Same H H' → NewAt K CD CG b H' t (valsP (Txt.split x (" " : Str)).length (Txt.split x (" " : Str))) → Q (.ref t) H') ∧
  ((∀ x, d = .str x → badP (Txt.split x (" " : Str)).length 0 (Txt.split x (" " : Str)) ≠ none) → ∀ H' u, Same H H' → Dp K H' u (resT d) → (∃ l xs, u = .ref l ∧ H' l = some (.lst xs)) → Q u H')
def t_held (K : PySem.W.Frag) (C CB CR CS : Addr) : Addr → Value → Option Addr → TS := fun a cls d =>
  tIfS (tAnd (tB (tCB (rIsY K C a cls d) (tCons (tVar 2) (tCons (tC (.ref C)) tNil)))) (tAnd (tB (tCB (rIsY K C a cls d) (tCons (tVar 2) (tCons (tC (.ty "ValueError")) tNil)))) (tNot (tB (tCB (rIsYT K C a cls d) (tCons (tVar 2) (tCons (tTup (tCons (tC (.ref CB)) (tCons (tC (.ref CR)) (tCons (tC (.ref CS)) tNil)))) tNil)))))))
    (tRet (tLst (tCons (tC (.str "text")) (tCons (tXf a cls d C "index" (tVar 2)) tNil)))) tNext
theorem ok_Read {C CP CB CR CS CD CG fI f : Addr} {fd fdI : FuncData} {k : Nat} (F : Fun K "_law_read" "_law_read" sRead f fd)
    (m_ValueError : mg "ValueError" = none) (m_isinstance : mg "isinstance" = none) (T : ExF K mg "BadText" "index" "BadText.__init__" sInitT C fI fdI) (Y : TryTxt K mg C CP CB CR CS) (TD : K52D.TxtD K mg CD) (TG : K52G.TxtD K mg CG) (RX : RM P w K mg base CD CG C) : FnOk P w K mg base CX0 (k + 22) f fd ["_law_value", "_law_is_guessed"] (spRead K CD CG) := by
  refine F.ok scRead (fun vs H Q E h => ?_) (fun cdv A outer s H vs Q E hr h => ?_)
  · obtain ⟨b, N, v, d, rfl, _⟩ := h
    rfl
  · obtain ⟨b, N, v, d, rfl, hd, hl, q1, q2⟩ := h
    refine ⟨_, pss_cons (ps_try_as (i := 2) (tb := fun W => tSeq (tIfS (tB (tVar 1)) (tRet (tCMethS CG (spRd K CD CG C) (WE W) (tC (.ref CG)) (tCons (tVar 0) tNil))) tNext) (tRet (tCMethS CD (spRd K CD CG C) (WE W) (tC (.ref CD)) (tCons (tVar 0) tNil)))) (ts := t_held K C CB CR CS) (Wout := fun _ _ _ _ => False) rfl rfl scRead.nd rfl rfl ⟨rfl, by decide, Or.inl Y.gP⟩ takes0
        (fun W pn xe tk _ => pss_cons (ps_if (pt_val (pv 1)) (pss_one (ps_ret (by exact (pe_cmethS (pe_glob (v := .ref CG) (by rfl) TG.g rfl) RX.rG RX.cG RX.GRd (hr.mono (by omega)) (fun σ => passAt tk σ) (pa_cons (pv 0) pa_nil))))) pss_nil)
          (pss_one (ps_ret (by exact (pe_cmethS (pe_glob (v := .ref CD) (by rfl) TD.g rfl) RX.rD RX.cD RX.GRd (hr.mono (by omega)) (fun σ => passAt tk σ) (pa_cons (pv 0) pa_nil))))))
        (fun a oe cls d pn hz hf => pss_one (ps_if (PW.pt (pw_and (pt_val (pe_callB (call_isY Y.exc hz hf) (by rfl) m_isinstance (by decide +kernel) (pa_cons (pv 2) (pa_cons (pe_glob (v := .ref C) (by rfl) T.g rfl) pa_nil))))
            (pw_and (pt_val (pe_callB (call_isY Y.exc hz hf) (by rfl) m_isinstance (by decide +kernel) (pa_cons (pv 2) (pa_cons (pe_bltn (v := .ty "ValueError") (by rfl) m_ValueError (by decide +kernel) rfl) pa_nil))))
              (pw_and1 (pt_not (pt_val (pe_callB (call_isYT Y.exc hz hf) (by rfl) m_isinstance (by decide +kernel) (pa_cons (pv 2) (pa_cons (pe_tup (pa_cons (pe_glob (v := .ref CB) (by rfl) Y.gB rfl) (pa_cons (pe_glob (v := .ref CR) (by rfl) Y.gR rfl) (pa_cons (pe_glob (v := .ref CS) (by rfl) Y.gS rfl) pa_nil)))) pa_nil)))))))))
          (pss_one (ps_ret (pe_lst (pa_cons pe_str (pa_cons (pe_xf Y.xf T.noN hz hf (pv 2)) pa_nil))))) pss_nil))) (pss_one (ps_ret (pe_lst (pa_cons pe_str pa_nil)))), ?_⟩
    have fail : ∀ (D : Ends) (y : V) (H1 : Hp) (dd : Addr), D.rt = Q → Same H H1 → H1 dd = some (.xd [("index", y)]) → (∀ l H2, Same H1 H2 → H2 l = some (.lst [.str "text", y]) → Q (.ref l) H2) → ∀ a, t_held K C CB CR CS a (.ref C) (some dd) D [some v, some (.bl b), some (.ref a)] H1 := fun D y H1 dd eD s1 ea qL a => by
      refine ⟨.ref a, rfl, ⟨rfl, .inr ⟨dd, _, rfl, ea⟩⟩, .ref C, .ref C, true, rfl, .own C, kit_selfY, true, rfl, iteT ?_⟩
      refine ⟨.ref a, rfl, ⟨rfl, .inr ⟨dd, _, rfl, ea⟩⟩, .ty "ValueError", .type "ValueError", true, rfl, .ty _, Y.kV, true, rfl, iteT ?_⟩
      refine ⟨.ref a, rfl, by show 3 ≤ sizeLine; decide, fun tp ntp => ?_⟩
      have sT : Same H1 (upd H1 tp (.tup [.ref CB, .ref CR, .ref CS])) := same_new ntp
      refine ⟨⟨rfl, .inr ⟨dd, _, rfl, sT _ _ ea⟩⟩, tp, _, [.ref CB, .ref CR, .ref CS], false, rfl, upd_same, .cons (.own CB) (.cons (.own CR) (.cons (.own CS) .nil)), Y.k3, false, rfl, iteT ?_⟩
      refine ⟨.ref a, rfl, rfl, rfl, dd, _, _, rfl, sT _ _ ea, rfl, by show 2 ≤ sizeLine; decide, fun l nl => ?_⟩
      rw [eD]
      exact qL l _ (sT.trans (same_new nl)) upd_same
    have out : ∀ (D : Ends), D.rt = Q → ∀ x i, d = .str x → badP (Txt.split x (" " : Str)).length 0 (Txt.split x (" " : Str)) = some i → ∀ H1 dd, Same H H1 → H1 dd = some (.xd [("index", .int (i : Nat))]) → ∀ a, t_held K C CB CR CS a (.ref C) (some dd) D [some v, some (.bl b), some (.ref a)] H1 := fun D eD x i hx hb H1 dd s1 ea a => by
      subst hx
      refine fail D _ H1 dd eD s1 ea (fun l H2 s2 el => q2 (fun y hy => by injection hy with hy; rw [← hy, hb]; exact fun z => by cases z) H2 _ (s1.trans s2) ?_ ⟨l, _, rfl, el⟩) a
      have : resT (.str x) = .list [.str "text", .int (i : Int)] := by
        show (match badP (Txt.split x (" " : Str)).length 0 (Txt.split x (" " : Str)) with | some i => PyData.list [.str "text", .int (i : Int)] | none => dPan (valsP (Txt.split x (" " : Str)).length (Txt.split x (" " : Str)))) = _
        rw [hb]
      rw [this]
      exact .lst (.inl (.inl el)) (.cons (.str _) (.cons (.int _) .nil))
    have out2 : ∀ (D : Ends), D.rt = Q → isS d = false → ∀ H1 dd, Same H H1 → H1 dd = some (.xd [("index", .non)]) → ∀ a, t_held K C CB CR CS a (.ref C) (some dd) D [some v, some (.bl b), some (.ref a)] H1 := fun D eD hs H1 dd s1 ea a => by
      refine fail D _ H1 dd eD s1 ea (fun l H2 s2 el => q2 (fun y hy => by rw [hy] at hs; cases hs) H2 _ (s1.trans s2) ?_ ⟨l, _, rfl, el⟩) a
      have : resT d = .list [.str "text", .none] := by cases d <;> first | rfl | cases hs
      rw [this]
      exact .lst (.inl (.inl el)) (.cons (.str _) (.cons .non .nil))
    refine ⟨.bl b, rfl, b, rfl, ?_⟩
    cases b with
    | true =>
      exact iteT ⟨rfl, v, rfl, true, N, v, d, rfl, hd, hl, fun x hx hb H1 t s1 hN => q1 x hx hb H1 t s1 hN, fun x i hx hb H1 dd s1 ea => ⟨true, Y.m1, fun _ a na => out _ rfl x i hx hb H1 dd s1 ea a, fun z => Bool.noConfusion z⟩, fun hs H1 dd s1 ea => ⟨true, Y.m1, fun _ a na => out2 _ rfl hs H1 dd s1 ea a, fun z => Bool.noConfusion z⟩⟩
    | false =>
      exact iteF ⟨rfl, v, rfl, false, N, v, d, rfl, hd, hl, fun x hx hb H1 t s1 hN => q1 x hx hb H1 t s1 hN, fun x i hx hb H1 dd s1 ea => ⟨true, Y.m1, fun _ a na => out _ rfl x i hx hb H1 dd s1 ea a, fun z => Bool.noConfusion z⟩, fun hs H1 dd s1 ea => ⟨true, Y.m1, fun _ a na => out2 _ rfl hs H1 dd s1 ea a, fun z => Bool.noConfusion z⟩⟩
end
end K52
namespace K52
open PySem PySem.Spec PyProof.Rows L2 Pr
section
variable {K : PySem.W.Frag} {σ : L2.St} {H : Hp} {t : TE} {pan : List (List Int)}
theorem dp_flat {xs : List V} {ds : List PyData} (h : DpAll K H xs ds) : ∀ n, DpAll K H (List.replicate n xs).flatten (List.replicate n ds).flatten
  | 0 => .nil
  | n + 1 => by
    rw [List.replicate_succ, List.replicate_succ, List.flatten_cons, List.flatten_cons]
    exact h.append (dp_flat h n)
theorem gv_repP {ds : List PyData} {k : Int} (h : Gv K t σ H (.tuple ds)) (hne : ds ≠ []) (h2 : 2 ≤ k) (hk : k ≤ 1000) (hl : ds.length ≤ 1000) : Gv K (tOp (rRepT K) t (tC (.int k))) σ H (.tuple (List.replicate k.toNat ds).flatten) := fun H1 s Q q => h H1 s _ fun v H2 s2 dv => by
  obtain ⟨l, xs, rfl, hq, hr⟩ := dv.tupI
  exact ⟨l, k, xs, rfl, rfl, hq, (fun z => by subst z; cases hr; exact hne rfl), h2, hk, by rw [hr.length]; exact hl, fun p np => q _ _ (s2.trans (same_new np)) (.tup (.inl (.inl upd_same)) ((dp_flat hr _).sm (same_new np)))⟩
def p4 (pan : List (List Int)) : List (List Int) := (List.replicate 11 pan).flatten.take 11
def p5 (pan : List (List Int)) : List (List Int) := pan.drop 1 ++ pan.take 1
theorem gv_p4 (h : Gv K t σ H (dPan pan)) (hg : Good pan) : Gv K (tSl (rSlS K) (tOp (rRepT K) t (tC (.int 11))) tNoPart (tPart (tC (.int 11)))) σ H (dPan (p4 pan)) := by
  have few := hg.few
  have pos := hg.pos
  have hlp : (pan.map dInts).length = pan.length := List.length_map _
  refine (gv_cutToG (k := 11) (gv_repP (k := 11) h (fun z => by have := congrArg List.length z; rw [hlp] at this; have z0 : ([] : List PyData).length = 0 := rfl; omega) (by decide) (by decide) (by omega)) gv_int ?_).to ?_
  · rw [List.length_flatten, List.map_replicate, List.sum_replicate_nat, hlp]
    show 11 ≤ 11 * pan.length
    omega
  · unfold p4 dPan
    rw [List.map_take, List.map_flatten, List.map_replicate]; rfl
theorem gv_p5 (h : Gv K t σ H (dPan pan)) (hg : Good pan) : Gv K (tOp (rCatS K) (tSl (rSlS K) t (tPart (tC (.int 1))) tNoPart) (tSl (rSlS K) t tNoPart (tPart (tC (.int 1))))) σ H (dPan (p5 pan)) := by
  have few := hg.few
  have pos := hg.pos
  have hlp : (pan.map dInts).length = pan.length := List.length_map _
  refine (gv_catT (gv_cutFromG (k := 1) h gv_int (by omega)) (gv_cutToG (k := 1) h gv_int (by omega)) (by rw [List.length_drop, List.length_take]; omega)).to ?_
  unfold p5 dPan
  rw [List.map_append, List.map_drop, List.map_take]
theorem okw_of {pan qs : List (List Int)} (hg : Good pan) (hl : qs.length ≤ 11) (h : ∀ l ∈ qs, l ∈ pan) : OkW qs := by
  have few := hg.few
  refine ⟨hl, fun l m => ?_, fun l m x hx => ?_⟩
  · have := pw_length (n := 10) (lo := 0) (hg.up l (h l m)) fun x hx => by have := hg.rng l (h l m) x hx; omega
    omega
  · have := hg.rng l (h l m) x hx
    exact ⟨by omega, by omega⟩
theorem five_ok {pan : List (List Int)} (hg : Good pan) {j : Nat} (hj : j < 5) : ∃ z, ([dPan pan, dPan pan, dPan pan, dPan (p4 pan), dPan (p5 pan)] : List PyData)[j]? = some (dPan z) ∧ OkW z := by
  have few := hg.few
  have o1 : OkW pan := okw_of hg (by omega) fun l h => h
  have o4 : OkW (p4 pan) := okw_of hg (by unfold p4; rw [List.length_take]; omega) fun l h => by
    unfold p4 at h
    obtain ⟨r, hr, hlr⟩ := List.mem_flatten.mp (List.mem_of_mem_take h)
    rw [List.eq_of_mem_replicate hr] at hlr
    exact hlr
  have o5 : OkW (p5 pan) := okw_of hg (by unfold p5; rw [List.length_append, List.length_drop, List.length_take]; omega) fun l h => by
    unfold p5 at h
    rcases List.mem_append.mp h with h | h
    · exact List.mem_of_mem_drop h
    · exact List.mem_of_mem_take h
  obtain h | h | h | h | h : j = 0 ∨ j = 1 ∨ j = 2 ∨ j = 3 ∨ j = 4 := by omega
  · rw [h]; exact ⟨pan, rfl, o1⟩
  · rw [h]; exact ⟨pan, rfl, o1⟩
  · rw [h]; exact ⟨pan, rfl, o1⟩
  · rw [h]; exact ⟨_, rfl, o4⟩
  · rw [h]; exact ⟨_, rfl, o5⟩
theorem lf_five (a b c : List (List Int)) : lfAll [dPan a, dPan a, dPan a, dPan b, dPan c] = true := lfAll_of fun d hd => by
  rcases (show d = dPan a ∨ d = dPan b ∨ d = dPan c by simpa using hd) with rfl | rfl | rfl
  · exact lf_pan _
  · exact lf_pan _
  · exact lf_pan _
theorem dpAll_at {vs : List V} {ds : List PyData} {i : Nat} {d : PyData} (h : DpAll K H vs ds) (hd : ds[i]? = some d) : ∃ v, vs[i]? = some v ∧ Dp K H v d := h.get i d hd
def markL : List Str := [("0" : Str), "7", " ", ">", ",", "10", "-", "+", "_", "x", "", "  ", "\n", "1>"]
theorem mark_len : ∀ x ∈ markL, x.length ≤ 2 := fun x hx => of_decide_eq_true (List.all_eq_true.mp (show markL.all (fun x => decide (x.length ≤ 2)) = true by decide +kernel) x hx)
theorem at_seq {te : TE} {ta : TA} {sp : Sp} {E : XK} {i : Nat} {u : TS} {D : Ends} (h : tCons te ta σ H fun vs H2 => sp (vs ++ []) H2 (fun y H3 => u D (σ.set i (some y)) H3) E) : tSeq (tAsg (tCall sp [] E (tCons te ta)) (gName i)) u D σ H := h
theorem at_cons {te : TE} {ta : TA} {Q : List V → Hp → Prop} (h : te σ H fun x H1 => ta σ H1 fun xs H2 => Q (x :: xs) H2) : tCons te ta σ H Q := h
theorem at_asg {te : TE} {i : Nat} {u : TS} {D : Ends} (h : te σ H fun y H3 => u D (σ.set i (some y)) H3) : tSeq (tAsg te (gName i)) u D σ H := h
theorem op_lst {r : R2} {ta : TA} {tb : TE} {ds : List PyData} {Q : VK} (h : GvA K ta σ H ds) (hl : ds.length ≤ sizeLine) (q : ∀ a vs H1, Same H H1 → H a = none → H1 a = some (.lst vs) → DpAll K H1 vs ds → tb σ H1 fun y H2 => r (.ref a) y H2 Q) : tOp r (tLst ta) tb σ H Q := (gn_lst h hl).at fun a vs H' s n e d => q a vs H' s n e d
theorem asg_op {r : R2} {ta tb : TE} {i : Nat} {d : PyData} {D : Ends} (h : Gv K ta σ H d) (q : ∀ x H1, Same H H1 → Dp K H1 x d → tb σ H1 fun y H2 => r x y H2 fun z H3 => D.nx (σ.set i (some z)) H3) : tAsg (tOp r ta tb) (gName i) D σ H := h.at q
def oddV (T L D : Addr) : List V := [.non, .int 5, .bl true, .ref T, .ref L, .ref D, .str "", .str ">", .str "0", .str "0>", .str "0>0", .str "1>", .str "00>", .str "0>1", .str "0>1 1>", .str " 0>", .str "0>\n"]
theorem odd_at {i : Nat} {T L D : Addr} (eT : H T = some (.tup [])) (zL : L ≠ sysModules) (eL : H L = some (.lst [])) (eD : H D = some (.dK [])) (hi : i < 17) : ∃ v d, (oddV T L D)[i]? = some v ∧ Dq K (fun _ => False) H v d ∧ ∀ x, d = .str x → x.length ≤ 640 := by
  have hs : ∀ z : Str, z.length ≤ 640 → ∃ d, Dq K (fun _ => False) H (.str z) d ∧ ∀ x, d = .str x → x.length ≤ 640 := fun z hz => ⟨.str z, .str z, fun x hx => by injection hx with hx; rw [← hx]; exact hz⟩
  have all : ∀ v ∈ oddV T L D, ∃ d, Dq K (fun _ => False) H v d ∧ ∀ x, d = .str x → x.length ≤ 640 := by
    intro v hv
    unfold oddV at hv
    simp only [List.mem_cons, List.not_mem_nil, or_false] at hv
    rcases hv with rfl | rfl | rfl | rfl | rfl | rfl | rfl | rfl | rfl | rfl | rfl | rfl | rfl | rfl | rfl | rfl | rfl
    · exact ⟨.none, .non, fun x hx => by cases hx⟩
    · exact ⟨.int 5, .int 5, fun x hx => by cases hx⟩
    · exact ⟨.bool true, .bl true, fun x hx => by cases hx⟩
    · exact ⟨.tuple [], .tup (.inl (.inl eT)) .nil, fun x hx => by cases hx⟩
    · exact ⟨.list [], .lst zL (fun h => h) eL .nil, fun x hx => by cases hx⟩
    · exact ⟨.dict [], .dct0 eD, fun x hx => by cases hx⟩
    all_goals exact hs _ (by decide +kernel)
  have hl : i < (oddV T L D).length := hi
  obtain ⟨d, h1, h2⟩ := all (oddV T L D)[i] (List.getElem_mem hl)
  exact ⟨_, d, List.getElem?_eq_getElem hl, h1, h2⟩
end
section
variable {K : PySem.W.Frag} {σ : L2.St} {H : Hp} {i j : Nat} {t : TE} {CD CG : Addr} {b : Bool} {p : Addr} {pan : List (List Int)} {mg : Str → Option Value}
theorem gv_isD {d : PyData} {c : V} {T u : Value} {b : Bool} (h : Gv K t σ H d) (hc : ClsV c u) (hk : PySem.W.kitOne K T u = some b) (ht : ∀ v H', Dp K H' v d → TyX K H' v T) : Gv K (tCB (rIsi K) (tCons t (tCons (tC c) tNil))) σ H (.bool b) := fun H1 s Q q => h H1 s _ fun v H2 s2 d2 => ⟨v, c, T, u, b, rfl, hc, ht v H2 d2, hk, q _ H2 s2 (.bl b)⟩
theorem ty_tupD {ds : List PyData} (v : V) (H' : Hp) (h : Dp K H' v (.tuple ds)) : TyX K H' v (.type "tuple") := by
  cases h with
  | tup hs _ => exact tyT hs
theorem gv_isL {l : Addr} {xs : List V} {c : V} {u : Value} {b : Bool} (hi : σ[i]? = some (some (.ref l))) (e : H l = some (.lst xs)) (hc : ClsV c u) (hk : PySem.W.kitOne K (.type "list") u = some b) : Gv K (tCB (rIsi K) (tCons (tVar i) (tCons (tC c) tNil))) σ H (.bool b) := fun H1 s Q q =>
  ⟨.ref l, hi, .ref l, c, .type "list", u, b, rfl, hc, .base (.lst (s _ _ e)), hk, q _ H1 (Same.refl _) (.bl b)⟩
/-- what isinstance asks of an own class -/
structure OwnIs (K : PySem.W.Frag) (C : Addr) : Prop where
  ha : PySem.W.findIn K (.ref C) "__class__" = some (some (.builtin "object.__class__"))
  hn : PySem.W.specialIn K (.builtin "object.__class__") "__get__" = some (some (.builtin "getset_descriptor.__get__"))
  htk : PySem.W.takesIn K (.builtin "object.__class__") = some true
  hm : PySem.W.mroIn K C (.type "object") = some true
  cl : Cls K C
theorem NewAt.isi {c : V} {u : Value} {z : Bool} (OD : OwnIs K CD) (OG : OwnIs K CG) (hi : σ[i]? = some (some (.ref p))) (h : NewAt K CD CG b H p pan) (hc : ClsV c u) (hk : PySem.W.kitOne K (.ref (clsB CD CG b)) u = some z) : Gv K (tCB (rIsi K) (tCons (tVar i) (tCons (tC c) tNil))) σ H (.bool z) := fun H1 s Q q => by
  obtain ⟨dx, fs, e⟩ := (h.same s).ins
  have O : OwnIs K (clsB CD CG b) := by cases b <;> assumption
  exact ⟨.ref p, hi, .ref p, c, .ref (clsB CD CG b), u, z, rfl, hc, .base (.ins e O.cl O.ha O.hn O.htk O.hm), hk, q _ H1 (Same.refl _) (.bl z)⟩
theorem gv_isN2 {c : V} {u : Value} {z : Bool} (OD : OwnIs K CD) (OG : OwnIs K CG) (hi : σ[i]? = some (some (.ref p))) (h : NewAt K CD CG b H p pan) (hc : ClsV c u) (k1 : PySem.W.kitOne K (.ref CD) u = some z) (k2 : PySem.W.kitOne K (.ref CG) u = some z) : Gv K (tCB (rIsi K) (tCons (tVar i) (tCons (tC c) tNil))) σ H (.bool z) := h.isi OD OG hi hc (by cases b <;> assumption)
theorem gv_isN3 {c : V} {u : Value} (OD : OwnIs K CD) (OG : OwnIs K CG) (hi : σ[i]? = some (some (.ref p))) (h : NewAt K CD CG b H p pan) (hc : ClsV c u) (k1 : PySem.W.kitOne K (.ref CD) u = some false) (k2 : PySem.W.kitOne K (.ref CG) u = some true) : Gv K (tCB (rIsi K) (tCons (tVar i) (tCons (tC c) tNil))) σ H (.bool b) := h.isi OD OG hi hc (by cases b <;> assumption)
theorem gv_Right {E : XK} {u : V} (hi : σ[i]? = some (some (.ref p))) (hj : σ[j]? = some (some u)) (h : NewAt K CD CG b H p pan) (du : Dp K H u (dPan pan)) : Gv K (tCall (spRight K CD CG) [] E (tCons (tVar i) (tCons (tLst (tCons (tVar j) (tCons (tTup tNil) tNil))) (tCons (tLst tNil) tNil)))) σ H (.bool true) := fun H1 s Q q =>
  ⟨.ref p, hi, (gv_lst (K := K) (ds := [dPan pan, dInts []]) (gva_cons (gv_var hj (du.sm s)) (gva_cons (gv_tup gva_nil) gva_nil))).at fun v H2 s2 dv => (gv_lst (K := K) (ds := []) gva_nil).at fun e H3 s3 de => ⟨b, p, pan, v, e, rfl, h.same (s.trans (s2.trans s3)), dv.sm s3, de, fun H4 s4 => q _ H4 (s2.trans (s3.trans s4)) (.bl true)⟩⟩
theorem any_known (TG : K52G.TxtD K mg CG) (hi : σ[i]? = some (some (.ref p))) (hb : b = true) (h : NewAt K CD CG b H p pan) : Gv K (tFld K (tVar i) "known") σ H (.tuple (List.replicate pan.length (.str wSame))) := by
  rcases h with ⟨z, _⟩ | ⟨_, h⟩
  · rw [hb] at z; cases z
  · refine (K52G.gv_known TG hi h).to ?_
    show dStrs (List.replicate pan.length wSame) = _
    unfold dStrs
    rw [List.map_replicate]
theorem shp_same (n : Nat) : SeqAt.shaped (.tuple (List.replicate n (.str wSame))) = true := by
  have := shp_words (xs := List.replicate n wSame) fun x hx => .inl (List.eq_of_mem_replicate hx)
  unfold dStrs at this
  rwa [List.map_replicate] at this
theorem eqv_same (n : Nat) : PyData.eqv (.tuple (List.replicate n (.str wSame))) (.tuple (List.replicate n (.str wSame))) = true := by
  have := eqv_strs (List.replicate n wSame) (List.replicate n wSame)
  unfold dStrs at this
  rw [List.map_replicate] at this
  rw [this]; exact decide_eq_true rfl
theorem due_isL {d : PyData} (hne : ∀ x, d = .str x → badP (Txt.split x (" " : Str)).length 0 (Txt.split x (" " : Str)) ≠ none) : isLd (resT d) = true := by
  cases d with
  | str x =>
    have := hne x rfl
    show isLd (match badP (Txt.split x (" " : Str)).length 0 (Txt.split x (" " : Str)) with | some i => PyData.list [.str "text", .int (i : Int)] | none => dPan (valsP (Txt.split x (" " : Str)).length (Txt.split x (" " : Str)))) = true
    cases h : badP (Txt.split x (" " : Str)).length 0 (Txt.split x (" " : Str)) with
    | none => exact absurd h this
    | some i => rfl
  | _ => rfl
theorem badP_le {m i : Nat} : ∀ (ws : List Str) (j : Nat), badP m j ws = some i → i < j + ws.length
  | [], j, h => by cases h
  | a :: r, j, h => by
    replace h : (if lstW m j a = none ∨ j = 10 then some j else badP m (j + 1) r) = some i := h
    rw [List.length_cons]
    split at h
    · injection h with h; omega
    · have := badP_le r _ h; omega
theorem due_rep {d : PyData} (hl : ∀ x, d = .str x → x.length ≤ 640) (h : isLd (resT d) = true) : RepOk (resT d) := by
  have stx : Shw 0 10 (.str "text") := shw_str (by simp only [PyData.shown]; decide +kernel)
  have two : ∀ e : PyData, Shw 0 10 e → RepOk (.list [.str "text", e]) := fun e he => .inr ⟨((Shw.list (m := 2) (n := 10) (dep := 0) (ds := [.str "text", e]) (fun d hd => by
    rcases (show d = .str "text" ∨ d = e by simpa using hd) with rfl | rfl
    · exact stx
    · exact he) (Nat.le_refl 2)).mono (by decide) (by decide)), _, .inr rfl⟩
  have sN : Shw 0 10 .none := ⟨by decide +kernel, by decide +kernel, by decide +kernel, by decide +kernel⟩
  cases d with
  | str x =>
    have hx := hl x rfl
    have h1 := split_tot sep_sp x
    have h2 := tot_len (Txt.split x (" " : Str))
    replace h : isLd (resTM x) = true := h
    show RepOk (resTM x)
    unfold resTM at h ⊢
    generalize Txt.split x (" " : Str) = ws at h h1 h2 ⊢
    cases hb : badP ws.length 0 ws with
    | some i =>
      have := badP_le _ _ hb
      exact two _ ((Shw.int (k := 3) (by omega) (by decide) (by decide) (by omega)).mono (by decide) (by decide))
    | none => rw [hb] at h; cases h
  | _ => exact two _ sN
end
end K52
namespace K52
open PySem PySem.Spec PyProof.Rows L2 Pr
def nLaw : List Str := ["_law_script", "_law_deck_here", "_law_turn", "_law_panel_here", "_law_value", "_law_at", "_law_mark", "_law_odd", "_law_text_here", "_law_due_here", "_law_is_guessed", "_law_found"]
theorem scLaw : FnScope nLaw ["_law_script"] (defScope sLaw) := ⟨rfl, rfl, rfl, by decide +kernel, rfl, by decide +kernel, by decide +kernel⟩
section
variable {P : Program} {w : World} {K : PySem.W.Frag} {mg : Str → Option Value} {base : Heap}
def spLaw (K : PySem.W.Frag) : Sp := fun vs H Q _ => ∃ (s : Addr) (ns : List Int), vs = [.ref s] ∧ SqL K H s (ns.map V.int) ∧ ns.length ≤ 63 ∧ ∀ H', Q (.bl true) H'
theorem ok_law {fNo : Addr} {fdNo : FuncData} {fPressE : Addr} {fdPressE : FuncData} {fJoin : Addr} {fdJoin : FuncData} {fWith : Addr} {fdWith : FuncData} {fBtn : Addr} {fdBtn : FuncData} {fBtnT : Addr} {fdBtnT : FuncData} {fPErr : Addr} {fdPErr : FuncData} {fPress : Addr} {fdPress : FuncData} {fAny : Addr} {fdAny : FuncData} {fHeld : Addr} {fdHeld : FuncData} {fWordsOf : Addr} {fdWordsOf : FuncData} {fByText : Addr} {fdByText : FuncData} {fPList : Addr} {fdPList : FuncData} {fParse : Addr} {fdParse : FuncData} {fChkP : Addr} {fdChkP : FuncData} {fChkS : Addr} {fdChkS : FuncData} {fChkB : Addr} {fdChkB : FuncData} {fKAft : Addr} {fdKAft : FuncData} {fDeck : Addr} {fdDeck : FuncData} {fDraw : Addr} {fdDraw : FuncData} {fPanel : Addr} {fdPanel : FuncData} {fRight : Addr} {fdRight : FuncData} {fNum : Addr} {fdNum : FuncData} {fLList : Addr} {fdLList : FuncData} {fDue : Addr} {fdDue : FuncData} {fLPanT : Addr} {fdLPanT : FuncData} {fRead : Addr} {fdRead : FuncData} {f : Addr} {fd : FuncData} (F : Fun K "law" "law" sLaw f fd)
    (FNo : Fun K "no_effect" "no_effect" sNo fNo fdNo) (bNo : Binds K fdNo ["panel"] []) (gNo : mg "no_effect" = some (.ref fNo))
    (FPressE : Fun K "press_effect" "press_effect" sPressE fPressE fdPressE) (bPressE : Binds K fdPressE ["panel", "button"] []) (gPressE : mg "press_effect" = some (.ref fPressE))
    (FJoin : Fun K "joined_effect" "joined_effect" sJoin fJoin fdJoin) (bJoin : Binds K fdJoin ["first", "second"] []) (gJoin : mg "joined_effect" = some (.ref fJoin))
    (FWith : Fun K "effect_with_press" "effect_with_press" sWith fWith fdWith) (bWith : Binds K fdWith ["panel", "effect", "button"] []) (gWith : mg "effect_with_press" = some (.ref fWith))
    (FBtn : Fun K "is_button" "is_button" sBtn fBtn fdBtn) (bBtn : Binds K fdBtn ["value", "many"] []) (gBtn : mg "is_button" = some (.ref fBtn))
    (FBtnT : Fun K "is_button_tuple" "is_button_tuple" sBtnT fBtnT fdBtnT) (bBtnT : Binds K fdBtnT ["value", "many"] []) (gBtnT : mg "is_button_tuple" = some (.ref fBtnT))
    (FPErr : Fun K "panel_error" "panel_error" sPErr fPErr fdPErr) (bPErr : Binds K fdPErr ["value"] []) (gPErr : mg "panel_error" = some (.ref fPErr))
    (FPress : Fun K "press_button" "press_button" sPress fPress fdPress) (bPress : Binds K fdPress ["panel", "state", "button"] []) (gPress : mg "press_button" = some (.ref fPress))
    (FAny : Fun K "releases_any" "releases_any" sAny fAny fdAny) (bAny : Binds K fdAny ["panel", "button", "others"] []) (gAny : mg "releases_any" = some (.ref fAny))
    (FHeld : Fun K "held_buttons" "held_buttons" sHeld fHeld fdHeld) (bHeld : Binds K fdHeld ["panel", "state"] []) (gHeld : mg "held_buttons" = some (.ref fHeld))
    (FWordsOf : Fun K "words_of" "words_of" sWordsOf fWordsOf fdWordsOf) (bWordsOf : Binds K fdWordsOf ["value"] []) (gWordsOf : mg "words_of" = some (.ref fWordsOf))
    (FByText : Fun K "buttons_by_text" "buttons_by_text" sByText fByText fdByText) (bByText : Binds K fdByText ["many"] []) (gByText : mg "buttons_by_text" = some (.ref fByText))
    (FPList : Fun K "parse_list" "parse_list" sPList fPList fdPList) (bPList : Binds K fdPList ["word", "button", "buttons"] []) (gPList : mg "parse_list" = some (.ref fPList))
    (FParse : Fun K "parse_panel" "parse_panel" sParse fParse fdParse) (bParse : Binds K fdParse ["value"] []) (gParse : mg "parse_panel" = some (.ref fParse))
    (FChkP : Fun K "check_panel" "check_panel" sChkP fChkP fdChkP) (bChkP : Binds K fdChkP ["value"] []) (gChkP : mg "check_panel" = some (.ref fChkP))
    (FChkS : Fun K "check_state" "check_state" sChkS fChkS fdChkS) (bChkS : Binds K fdChkS ["panel", "value"] []) (gChkS : mg "check_state" = some (.ref fChkS))
    (FChkB : Fun K "check_button" "check_button" sChkB fChkB fdChkB) (bChkB : Binds K fdChkB ["panel", "value"] []) (gChkB : mg "check_button" = some (.ref fChkB))
    (FKAft : Fun K "known_after" "known_after" sKAft fKAft fdKAft) (bKAft : Binds K fdKAft ["panel", "past"] []) (gKAft : mg "known_after" = some (.ref fKAft))
    (FDeck : Fun K "_law_deck" "_law_deck" sDeck fDeck fdDeck) (bDeck : Binds K fdDeck ["_law_script"] []) (gDeck : mg "_law_deck" = some (.ref fDeck))
    (FDraw : Fun K "_law_draw" "_law_draw" sDraw fDraw fdDraw) (bDraw : Binds K fdDraw ["_law_deck_here", "_law_many"] []) (gDraw : mg "_law_draw" = some (.ref fDraw))
    (FPanel : Fun K "_law_panel" "_law_panel" sPanel fPanel fdPanel) (bPanel : Binds K fdPanel ["_law_deck_here", "_law_most"] []) (gPanel : mg "_law_panel" = some (.ref fPanel))
    (FRight : Fun K "_law_right" "_law_right" sRight fRight fdRight) (bRight : Binds K fdRight ["_law_table", "_law_state", "_law_edits"] []) (gRight : mg "_law_right" = some (.ref fRight))
    (FNum : Fun K "_law_number" "_law_number" sNum fNum fdNum) (bNum : Binds K fdNum ["_law_word"] []) (gNum : mg "_law_number" = some (.ref fNum))
    (FLList : Fun K "_law_list_of" "_law_list_of" sLList fLList fdLList) (bLList : Binds K fdLList ["_law_index", "_law_many", "_law_word"] []) (gLList : mg "_law_list_of" = some (.ref fLList))
    (FDue : Fun K "_law_due" "_law_due" sDue fDue fdDue) (bDue : Binds K fdDue ["_law_value"] []) (gDue : mg "_law_due" = some (.ref fDue))
    (FLPanT : Fun K "_law_text" "_law_text" sLPanT fLPanT fdLPanT) (bLPanT : Binds K fdLPanT ["_law_panel_here"] []) (gLPanT : mg "_law_text" = some (.ref fLPanT))
    (FRead : Fun K "_law_read" "_law_read" sRead fRead fdRead) (bRead : Binds K fdRead ["_law_value", "_law_is_guessed"] []) (gRead : mg "_law_read" = some (.ref fRead))
    (m_ValueError : mg "ValueError" = none) (m_abs : mg "abs" = none) (m_any : mg "any" = none) (m_bool : mg "bool" = none) (m_enumerate : mg "enumerate" = none) (m_int : mg "int" = none) (m_isinstance : mg "isinstance" = none) (m_len : mg "len" = none) (m_list : mg "list" = none) (m_min : mg "min" = none) (m_range : mg "range" = none) (m_repr : mg "repr" = none) (m_sorted : mg "sorted" = none) (m_str : mg "str" = none) (m_tuple : mg "tuple" = none) {CD CG : Addr} (TD : K52D.TxtD K mg CD) (TG : K52G.TxtD K mg CG) (DXD : K52D.DM P w K mg base CD) (DXG : K52G.DM P w K mg base CG) {C CP CB CR CS fI : Addr} {fdI : FuncData} (T : ExF K mg "BadText" "index" "BadText.__init__" sInitT C fI fdI) (Y : TryTxt K mg C CP CB CR CS) (RX : RM P w K mg base CD CG C) (OD : OwnIs K CD) (OG : OwnIs K CG) (KL : PySem.W.kitOne K (.ref CD) (.type "list") = some false ∧ PySem.W.kitOne K (.ref CG) (.type "list") = some false) (KG : PySem.W.kitOne K (.ref CD) (.ref CG) = some false ∧ PySem.W.kitOne K (.ref CG) (.ref CG) = some true) : FnG P w K mg base (30) f fd ["_law_script"] (spLaw K) := by
  have GDeck : FnOk P w K mg base CX0 (1) fDeck fdDeck ["_law_script"] (spDeck K) := ok_deck FDeck m_abs
  have GPanel : FnOk P w K mg base CX0 (2) fPanel fdPanel ["_law_deck_here", "_law_most"] (spPanel K) := ok_Panel FPanel FDraw bDraw gDraw m_len m_list m_min m_range m_tuple
  have GLPanT : FnOk P w K mg base CX0 (1) fLPanT fdLPanT ["_law_panel_here"] (spLPanT K) := ok_LPanT FLPanT m_enumerate m_str
  have GDraw : FnOk P w K mg base CX0 (1) fDraw fdDraw ["_law_deck_here", "_law_many"] spDraw := ok_draw FDraw m_len
  have GDue : FnOk P w K mg base CX0 (3) fDue fdDue ["_law_value"] (spDue K) := ok_Due FDue FNum bNum gNum FLList bLList gLList m_enumerate m_int m_isinstance m_len m_range m_str m_tuple
  have GRead : FnOk P w K mg base CX0 (22) fRead fdRead ["_law_value", "_law_is_guessed"] (spRead K CD CG) := ok_Read FRead m_ValueError m_isinstance T Y TD TG RX
  have GRight : FnG P w K mg base (25) fRight fdRight ["_law_table", "_law_state", "_law_edits"] (spRight K CD CG) := ok_Right FRight m_len m_repr m_str m_tuple TD TG DXD DXG
  refine okG F scLaw (fun vs H Q E h => ?_) (fun cdv A outer s H vs Q E gd hr h => ?_)
  · obtain ⟨s, ns, rfl, _⟩ := h
    rfl
  · obtain ⟨sc, ns, rfl, hS, hlen, q⟩ := h
    refine ⟨_, pss_cons (ps_set (i := 1) scLaw.nd rfl (.inl rfl) (pe_call GDeck (hr.mono (by omega)) (by rfl) gDeck FDeck.kp bDeck .nil pass0 (pa_cons (pv 0) pa_nil)))
      (pss_cons (ps_for PassesOwn.never rfl (pi_range1 (by rfl) m_range (pa_cons pe_int pa_nil)) (pg_name (i := 2) scLaw.nd rfl (Or.inl rfl)) (pss_cons (ps_set (i := 3) scLaw.nd rfl (.inl rfl) (pe_call GPanel (hr.mono (by omega)) (by rfl) gPanel FPanel.kp bPanel .nil pass0 (pa_cons (pv 1) (pa_cons pe_int pa_nil))))
      (pss_cons (ps_set (i := 4) scLaw.nd rfl (.inl rfl) (pe_call GLPanT (hr.mono (by omega)) (by rfl) gLPanT FLPanT.kp bLPanT .nil pass0 (pa_cons (pe_ix (show IxR _ (rIxL K) from ix_list) (pe_lst (pa_cons (pv 3) (pa_cons (pv 3) (pa_cons (pv 3) (pa_cons (pe_slice (show SlR _ (rSlS K) from sl_tupS) (pe_op (show OpR _ _ (rRepT K) from op_repT) (pv 3) pe_int) po_none (po_some pe_int)) (pa_cons (pe_op (show OpR _ _ (rCatS K) from op_catS) (pe_slice (show SlR _ (rSlS K) from sl_tupS) (pv 3) (po_some pe_int) po_none) (pe_slice (show SlR _ (rSlS K) from sl_tupS) (pv 3) po_none (po_some pe_int))) pa_nil)))))) (pe_call GDraw (hr.mono (by omega)) (by rfl) gDraw FDraw.kp bDraw .nil pass0 (pa_cons (pv 1) (pa_cons pe_int pa_nil))) (fun _ _ => rfl)) pa_nil)))
      (pss_cons (ps_if (pt_cmpR op_eq (pe_call GDraw (hr.mono (by omega)) (by rfl) gDraw FDraw.kp bDraw .nil pass0 (pa_cons (pv 1) (pa_cons pe_int pa_nil))) pe_int (nomark _)) (pss_cons (ps_set (i := 5) scLaw.nd rfl (.inl rfl) (pe_call GDraw (hr.mono (by omega)) (by rfl) gDraw FDraw.kp bDraw .nil pass0 (pa_cons (pv 1) (pa_cons (pe_op op_add (pe_callB call_len_str (by rfl) m_len PySem.boot_len (pa_cons (pv 4) pa_nil)) pe_int) pa_nil))))
      (pss_cons (ps_set (i := 6) scLaw.nd rfl (.inl rfl) (pe_ix (show IxR _ (rIxL K) from ix_list) (pe_lst (pa_cons pe_str (pa_cons pe_str (pa_cons pe_str (pa_cons pe_str (pa_cons pe_str (pa_cons pe_str (pa_cons pe_str (pa_cons pe_str (pa_cons pe_str (pa_cons pe_str (pa_cons pe_str (pa_cons pe_str (pa_cons pe_str (pa_cons pe_str pa_nil))))))))))))))) (pe_call GDraw (hr.mono (by omega)) (by rfl) gDraw FDraw.kp bDraw .nil pass0 (pa_cons (pv 1) (pa_cons pe_int pa_nil))) (fun _ _ => rfl)))
      (pss_one (ps_set (i := 4) scLaw.nd rfl (.inl rfl) (pe_op op_add_str (pe_op op_add_str (pe_slice (show SlR _ L2.rSlS from sl_str) (pv 4) po_none (po_some (pv 5))) (pv 6)) (pe_slice (show SlR _ L2.rSlS from sl_str) (pv 4) (po_some (pe_op op_add (pv 5) (pe_call GDraw (hr.mono (by omega)) (by rfl) gDraw FDraw.kp bDraw .nil pass0 (pa_cons (pv 1) (pa_cons pe_int pa_nil))))) po_none)))))) pss_nil)
      (pss_cons (ps_set (i := 7) scLaw.nd rfl (.inl rfl) (pe_lst (pa_cons pe_non (pa_cons pe_int (pa_cons pe_bl (pa_cons (pe_tup pa_nil) (pa_cons (pe_lstG pa_nil) (pa_cons pe_dnewK (pa_cons pe_str (pa_cons pe_str (pa_cons pe_str (pa_cons pe_str (pa_cons pe_str (pa_cons pe_str (pa_cons pe_str (pa_cons pe_str (pa_cons pe_str (pa_cons pe_str (pa_cons pe_str pa_nil)))))))))))))))))))
      (pss_one (ps_for PassesOwn.never rfl (show PI _ _ _ (iList K _) from pi_list (pe_lst (pa_cons (pv 4) (pa_cons (pe_ix (show IxR _ (rIxL K) from ix_list) (pv 7) (pe_call GDraw (hr.mono (by omega)) (by rfl) gDraw FDraw.kp bDraw .nil pass0 (pa_cons (pv 1) (pa_cons pe_int pa_nil))) (fun _ _ => rfl)) pa_nil)))) (pg_name (i := 8) scLaw.nd rfl (Or.inl rfl)) (pss_cons (ps_set (i := 9) scLaw.nd rfl (.inl rfl) (pe_call GDue (hr.mono (by omega)) (by rfl) gDue FDue.kp bDue .nil pass0 (pa_cons (pv 8) pa_nil)))
      (pss_one (ps_for PassesOwn.never rfl (show PI _ _ _ (iList K _) from pi_list (pe_lst (pa_cons pe_bl (pa_cons pe_bl pa_nil)))) (pg_name (i := 10) scLaw.nd rfl (Or.inl rfl)) (pss_cons (ps_set (i := 11) scLaw.nd rfl (.inl rfl) (pe_call GRead (hr.mono (by omega)) (by rfl) gRead FRead.kp bRead .nil pass0 (pa_cons (pv 8) (pa_cons (pv 10) pa_nil))))
      (pss_one (ps_if (pt_val (pe_callB (show CallR _ _ (rIsi K) from call_isi) (by rfl) m_isinstance (by decide +kernel) (pa_cons (pv 9) (pa_cons (pe_bltn (v := .ty "list") (by rfl) m_list (by decide +kernel) rfl) pa_nil)))) (pss_one (ps_if (PW.pt (pw_or (pt_not (pt_val (pe_callB (show CallR _ _ (rIsi K) from call_isi) (by rfl) m_isinstance (by decide +kernel) (pa_cons (pv 11) (pa_cons (pe_bltn (v := .ty "list") (by rfl) m_list (by decide +kernel) rfl) pa_nil))))) (pw_or1 (pt_cmpR op_ne (pe_callB (show CallR _ _ (rReprA K) from cr_reprA gd hr) (by rfl) m_repr (by decide +kernel) (pa_cons (pv 11) pa_nil)) (pe_callB (show CallR _ _ (rReprA K) from cr_reprA gd hr) (by rfl) m_repr (by decide +kernel) (pa_cons (pv 9) pa_nil)) (nomark _))))) (pss_one (ps_ret pe_bl)) pss_nil)) (pss_one (ps_if (PW.pt (pw_or (pt_val (pe_callB (show CallR _ _ (rIsi K) from call_isi) (by rfl) m_isinstance (by decide +kernel) (pa_cons (pv 11) (pa_cons (pe_bltn (v := .ty "list") (by rfl) m_list (by decide +kernel) rfl) pa_nil)))) (pw_or1 (pt_cmpR op_ne (pe_callB (show CallR _ _ (rIsi K) from call_isi) (by rfl) m_isinstance (by decide +kernel) (pa_cons (pv 11) (pa_cons (pe_glob (v := .ref CG) (by rfl) TG.g rfl) pa_nil))) (pv 10) (nomark _))))) (pss_one (ps_ret pe_bl)) (pss_one (ps_if (PW.pt (pw_or (pt_not (pt_val (pe_callG GRight gd (hr.mono (by omega)) (by rfl) gRight FRight.kp bRight (pa_cons (pv 11) (pa_cons (pe_lst (pa_cons (pv 9) (pa_cons (pe_tup pa_nil) pa_nil))) (pa_cons (pe_lst pa_nil) pa_nil)))))) (pw_or1 (pt_cmpR op_ne (pe_con (pv 11) rfl) pe_int (nomark _))))) (pss_one (ps_ret pe_bl)) (pss_one (ps_if (PW.pt (pw_and (pt_val (pv 10)) (pw_and1 (pt_cmpR (show OpR _ _ (rNeD K) from op_neD hr.units) (pe_fld (pv 11) rfl) (pe_op (show OpR _ _ (rRepA K) from op_repA) (pe_tup (pa_cons pe_str pa_nil)) (pe_callB (show CallR _ _ (rLenG K) from cr_lenG) (by rfl) m_len PySem.boot_len (pa_cons (pv 9) pa_nil))) (nomark _))))) (pss_one (ps_ret pe_bl)) pss_nil)))))))))))))))))))
      (pss_one (ps_ret pe_bl))), ?_⟩
    refine ⟨.ref sc, rfl, sc, ns, rfl, hS, hlen, fun H1 a c s1 D1 => ?_⟩
    refine ⟨6, rfl, by decide, by decide, ?_⟩
    refine for_range (n := 6) (fun k σ H' => Deck H' a c (7000 - 1000 * k) ∧ ∃ x2 x3 x4 x5 x6 x7 x8 x9 x10 x11, σ = [some (.ref sc), some (.ref a), x2, x3, x4, x5, x6, x7, x8, x9, x10, x11])
      ⟨D1.less (by decide), _, _, _, _, _, _, _, _, _, _, rfl⟩ (fun k σ H2 hk hP => ?step) (fun σ H2 hP => ?done)
    case done =>
      dsimp only
      exact gs_ret (K := K) gv_bl fun v H3 s3 dv => by cases dv; exact q H3
    refine hideD fun D0 hn0 => seq_hide fun u1 hu1 => ?_
    obtain ⟨D2, x2, x3, x4, x5, x6, x7, x8, x9, x10, x11, rfl⟩ := hP
    obtain ⟨m, hm, hm1⟩ : ∃ m : Nat, 7000 - 1000 * k = m + 1000 ∧ 7000 - 1000 * (k + 1) = m := ⟨6000 - 1000 * k, by omega, by omega⟩
    rw [hm] at D2
    refine ⟨.ref a, rfl, a, c, m + 700, 10, rfl, D2.less (by omega), by decide, by decide, fun H4 vp pan b4 D4 dp hg hml => ?_⟩
    refine hu1 _ _ _ (seq_hide fun u2 hu2 => ?_)
    have few := hg.few
    refine at_seq (at_cons (op_lst (K := K) (ds := [dPan pan, dPan pan, dPan pan, dPan (p4 pan), dPan (p5 pan)]) (gva_cons (gv_var (i := 3) rfl dp) (gva_cons (gv_var (i := 3) rfl dp) (gva_cons (gv_var (i := 3) rfl dp) (gva_cons (gv_p4 (gv_var (i := 3) rfl dp) hg) (gva_cons (gv_p5 (gv_var (i := 3) rfl dp) hg) gva_nil))))) (by show 5 ≤ sizeLine; decide) fun W vW H5 s5 nW eW dW => ?_))
    have oW := D4.fresh nW
    have D5 := D4.same s5
    refine ⟨.ref a, rfl, a, c, m + 690, 5, rfl, D5.less (by omega), by decide, by decide, fun H6 y b6 D6 y0 y5 => ?_⟩
    have eW6 := b6 _ _ oW.1 oW.2 eW
    have dW6 := dpAll_kp (Kp.but D5 b6) _ _ (lf_five _ _ _) dW
    obtain ⟨j, rfl⟩ : ∃ j : Nat, y = (j : Int) := ⟨y.toNat, (Int.toNat_of_nonneg y0).symm⟩
    obtain ⟨pz, hpz, okw⟩ := five_ok hg (show j < 5 by omega)
    obtain ⟨vj, hvj, dvj⟩ := dpAll_at dW6 hpz
    refine ⟨W, vW, (j : Int), vj, rfl, rfl, .inl (.inl eW6), atI_nat hvj, vj, pz, rfl, dvj, okw, fun H7 x s7 hx => ?_⟩
    refine hu2 _ _ _ ?_
    have D7 := D6.same s7
    clear eW6 dW6 hvj dvj oW eW dW D5 D4 b6 b4 D2
    refine gs_seqJ (fun σ H' => Deck H' a c (m + 600) ∧ ∃ (z : Str) (x5 x6 : Option V), z.length ≤ 640 ∧ σ = [some (.ref sc), some (.ref a), some (.int (0 + (k : Int))), some vp, some (.str z), x5, x6, x7, x8, x9, x10, x11]) (fun σ H8 hJ => ?rest) fun hk0 => ?ifp
    case ifp =>
      refine hideD fun D1' hn1 => ?_
      have hk0 := fun σ H z => hn1 σ H (hk0 σ H z)
      refine ⟨.ref a, rfl, a, c, m + 680, 2, rfl, D7.less (by omega), by decide, by decide, fun H8 y b8 D8 y0 y2 => ⟨rfl, _, rfl, ite2 (fun e => ?_) (fun e => next_of (hk0 _ _ ⟨D8.less (by omega), x, _, _, by omega, rfl⟩))⟩⟩
      refine seq_hide fun v1 hv1 => ?_
      refine ⟨.ref a, rfl, ?_⟩
      refine ⟨.str x, rfl, x, rfl, Nat.le_of_lt (small5 (by omega)), _, 1, rfl, rfl, ?_⟩
      refine ⟨a, c, m + 670, (x.length : Int) + 1, rfl, D8.less (by omega), by omega, by omega, fun H9 p b9 D9 p0 pl => ?_⟩
      refine hv1 _ _ _ (seq_hide fun v2 hv2 => ?_)
      refine at_asg (op_lst (K := K) (ds := markL.map PyData.str) (gva_cons gv_str (gva_cons gv_str (gva_cons gv_str (gva_cons gv_str (gva_cons gv_str (gva_cons gv_str (gva_cons gv_str (gva_cons gv_str (gva_cons gv_str (gva_cons gv_str (gva_cons gv_str (gva_cons gv_str (gva_cons gv_str (gva_cons gv_str gva_nil)))))))))))))) (by show 14 ≤ sizeLine; decide) fun M vM H10 s10 nM eM dM => ?_)
      have evM := dpAll_strJ (l := markL) dM
      rw [evM] at eM
      have oM := D9.fresh nM
      refine ⟨.ref a, rfl, a, c, m + 660, 14, rfl, (D9.same s10).less (by omega), by decide, by decide, fun H11 y b11 D11 y0 y14 => ?_⟩
      have eM11 := b11 _ _ oM.1 oM.2 eM
      obtain ⟨i, rfl⟩ : ∃ i : Nat, y = (i : Int) := ⟨y.toNat, (Int.toNat_of_nonneg y0).symm⟩
      have hi : i < markL.length := by show i < 14; omega
      have hml2 := mark_len markL[i] (List.getElem_mem hi)
      refine ⟨M, _, (i : Int), .str markL[i], rfl, rfl, .inl (.inl eM11), atI_nat (by rw [List.getElem?_map, List.getElem?_eq_getElem hi]; rfl), ?_⟩
      refine hv2 _ _ _ ?_
      have c1 := cutS_length x none (some p)
      refine asg_op (K := K) (gv_addS (gv_cutST (gv_var (i := 4) rfl (.str x)) (gv_var (i := 5) rfl (.int p)) (by omega)) (gv_var (i := 6) rfl (.str markL[i])) (by omega) rfl) fun u H12 s12 du => ?_
      cases du
      refine ⟨.str x, rfl, .int p, rfl, .ref a, rfl, a, c, m + 650, 2, rfl, (D11.same s12).less (by omega), by decide, by decide, fun H13 o b13 D13 o0 o2 => ⟨p, o, rfl, rfl, p + o, rfl, x, rfl, Nat.le_of_lt (small5 (by omega)), ?_⟩⟩
      have c2 := cutS_length x (some (p + o)) none
      refine ⟨_, _, rfl, rfl, ?_, hk0 _ _ ⟨D13.less (by omega), _, _, _, ?_, rfl⟩⟩
      · rw [Str.length_append]; exact Nat.le_of_lt (small5 (by omega))
      · rw [Str.length_append, Str.length_append]; omega
    obtain ⟨D8, z, y5, y6, hz, rfl⟩ := hJ
    clear D7 hx
    refine seq_hide fun w1 hw1 => ?_
    refine ⟨Nat.zero_le _, fun T nT => ?_⟩
    have s1' := same_new (o := HO.tup []) nT
    refine ⟨Nat.zero_le _, fun L nL zL => ?_⟩
    have s2' := same_new (o := HO.lst []) nL
    intro Dd nDd
    have s3' := same_new (o := HO.dK []) nDd
    refine ⟨by show 17 ≤ sizeLine; decide, fun O nO => ?_⟩
    have s4' := same_new (o := HO.lst (oddV T L Dd)) nO
    have oT := D8.fresh nT
    have oL := (D8.same s1').fresh nL
    have oDd := ((D8.same s1').same s2').fresh nDd
    have oO := (((D8.same s1').same s2').same s3').fresh nO
    refine gen_heap (fun HF => Same H8 HF ∧ HF T = some (.tup []) ∧ HF L = some (.lst []) ∧ HF Dd = some (.dK []) ∧ HF O = some (.lst (oddV T L Dd))) ⟨s1'.trans (s2'.trans (s3'.trans s4')), (s2'.trans (s3'.trans s4')) _ _ upd_same, (s3'.trans s4') _ _ upd_same, s4' _ _ upd_same, upd_same⟩ fun HF ⟨sF, eT, eL, eD, eO⟩ => ?_
    clear s1' s2' s3' s4' nT nL nDd nO
    have DF := D8.same sF
    refine hw1 _ _ _ ?_
    refine ⟨.str z, rfl, .ref O, rfl, .ref a, rfl, a, c, m + 590, 17, rfl, DF.less (by omega), by decide, by decide, fun H9 y b9 D9 y0 y17 => ?_⟩
    have eO9 := b9 _ _ oO.1 oO.2 eO
    obtain ⟨i, rfl⟩ : ∃ i : Nat, y = (i : Int) := ⟨y.toNat, (Int.toNat_of_nonneg y0).symm⟩
    obtain ⟨v, d, hv, hdq, hsm⟩ := odd_at (K := K) (i := i) (b9 _ _ oT.1 oT.2 eT) zL (b9 _ _ oL.1 oL.2 eL) (b9 _ _ oDd.1 oDd.2 eD) (by omega)
    refine ⟨O, _, (i : Int), v, rfl, rfl, .inl (.inl eO9), atI_nat hv, by show 2 ≤ sizeLine; decide, fun Vl nV => ⟨Vl, rfl, ⟨_, .inl (.inl upd_same)⟩, ?_⟩⟩
    have sV := same_new (o := HO.lst [.str z, v]) nV
    have dB : ∀ (t : V) (i : Nat), ([.str z, v] : List V)[i]? = some t → ∃ d, Dq K (fun _ => False) (upd H9 Vl (.lst [.str z, v])) t d ∧ ∀ x, d = .str x → x.length ≤ 640 := fun t i hi => by
      have ht : t ∈ ([.str z, v] : List V) := List.mem_of_getElem? hi
      rcases (show t = .str z ∨ t = v by simpa using ht) with rfl | rfl
      · exact ⟨.str z, .str z, fun x hx => by injection hx with hx; rw [← hx]; exact hz⟩
      · exact ⟨d, Dq.same sV _ _ hdq, hsm⟩
    have D10 := D9.same sV
    have eV : (upd H9 Vl (.lst [.str z, v])) Vl = some (.lst [.str z, v]) := upd_same
    generalize upd H9 Vl (.lst [.str z, v]) = HB at dB D10 eV ⊢
    clear sV nV hdq hsm hv eO9 b9 D9 DF eT eL eD eO oT oL oDd oO sF D8
    refine for_list (K := K) (a := Vl) (xs := [.str z, v]) (g := gName 8) (fun i σ H' => Same HB H' ∧ ∃ x8 x9 x10 x11, σ = [some (.ref sc), some (.ref a), some (.int (0 + (k : Int))), some vp, some (.str z), y5, y6, some (.ref O), x8, x9, x10, x11])
      ⟨Same.refl _, _, _, _, _, rfl⟩ (fun i σ H' _ hP => .inl (.inl (hP.1 _ _ eV))) (fun i t σ H' hx hP => ?_) (fun σ H' hP => hn0 _ _ ⟨by rw [hm1]; exact (D10.same hP.1).less (by omega), by obtain ⟨_, x8, x9, x10, x11, rfl⟩ := hP; exact ⟨_, _, _, _, _, _, _, _, _, _, rfl⟩⟩)
    refine hideD fun D2' hn2 => seq_hide fun y1 hy1 => ?_
    obtain ⟨sB, x8, x9, x10, x11, rfl⟩ := hP
    obtain ⟨d, hdq0, hsm⟩ := dB t i hx
    have hdq := Dq.same sB _ _ hdq0
    refine ⟨t, rfl, fun _ => False, t, d, rfl, hdq, hsm, fun H3 u s3 hu => ?_⟩
    refine hy1 _ _ _ ?_
    refine ⟨by show 2 ≤ sizeLine; decide, fun B nB => ⟨B, rfl, ⟨_, .inl (.inl upd_same)⟩, ?_⟩⟩
    have sN := same_new (o := HO.lst [.bl false, .bl true]) nB
    have eB : (upd H3 B (.lst [.bl false, .bl true])) B = some (.lst [.bl false, .bl true]) := upd_same
    have hu0 := hu.same sN
    have hdq3 := Dq.same (s3.trans sN) _ _ hdq
    have sB3 := sB.trans (s3.trans sN)
    generalize upd H3 B (.lst [.bl false, .bl true]) = HC at eB hu0 hdq3 sB3 ⊢
    clear sN nB s3 hu hdq hdq0 sB
    refine for_list (K := K) (a := B) (xs := [.bl false, .bl true]) (g := gName 10) (fun j σ H4 => Same HC H4 ∧ ∃ x10 x11, σ = [some (.ref sc), some (.ref a), some (.int (0 + (k : Int))), some vp, some (.str z), y5, y6, some (.ref O), some t, some u, x10, x11])
      ⟨Same.refl _, _, _, rfl⟩ (fun j σ H4 _ hP => .inl (.inl (hP.1 _ _ eB))) (fun j bv σ H4 hbv hP => ?_) (fun σ H4 hP => hn2 _ _ (by obtain ⟨s4, x10, x11, rfl⟩ := hP; exact ⟨sB3.trans s4, _, _, _, _, rfl⟩))
    refine hideD fun D3 hn3 => seq_hide fun z1 hz1 => ?_
    obtain ⟨s4, x10, x11, rfl⟩ := hP
    obtain ⟨b, rfl⟩ : ∃ b, bv = V.bl b := by
      rcases (show bv = .bl false ∨ bv = .bl true by simpa using List.mem_of_getElem? hbv) with rfl | rfl
      · exact ⟨_, rfl⟩
      · exact ⟨_, rfl⟩
    have hu4 := hu0.same s4
    refine ⟨t, rfl, .bl b, rfl, b, fun _ => False, t, d, rfl, Dq.same s4 _ _ hdq3, (fun x hx => by have := hsm x hx; omega), fun x hx hb H5 tt s5 hN => ?_, fun hne H5 w s5 dw hw => ?_⟩
    · subst hx
      refine hz1 _ _ _ ?_
      have hu5 := (hu4.same s5).1
      have er : resT (.str x) = dPan (valsP (Txt.split x (" " : Str)).length (Txt.split x (" " : Str))) := by
        show (match badP (Txt.split x (" " : Str)).length 0 (Txt.split x (" " : Str)) with | some i => PyData.list [.str "text", .int (i : Int)] | none => dPan (valsP (Txt.split x (" " : Str)).length (Txt.split x (" " : Str)))) = _
        rw [hb]
      rw [er] at hu5
      generalize valsP (Txt.split x (" " : Str)).length (Txt.split x (" " : Str)) = pn at hN hu5
      have few2 := hN.good.few
      refine gs_if (b := false) (gvt_b (gv_isD (K := K) (gv_var (i := 9) rfl hu5) (.ty "list") (kit_ty (show kitB "tuple" "list" = some false by decide +kernel)) ty_tupD)) (fun z => by cases z) fun _ H6 s6 => ?_
      refine gs_if (b := false) ((gvt_or (b := false) (c := false) (gvt_b (gv_isN2 OD OG (i := 11) rfl (hN.same s6) (.ty "list") KL.1 KL.2)) (fun Hy sy _ => ((gvt_test (K := K) (gv_neB (gv_isN3 OD OG (i := 11) rfl (hN.same (s6.trans sy)) (.own CG) KG.1 KG.2) (gv_var (i := 10) rfl (.bl b)))).to (by simp))))) (fun z => by cases z) fun _ H7 s7 => ?_
      have s57 := s6.trans s7
      refine gs_if (b := false) ((gvt_or (b := false) (c := false) (gvt_not (b := true) (gvt_b (gv_Right (i := 11) (j := 9) rfl rfl (hN.same s57) (hu5.sm s57)))) (fun Hy sy _ => ((gvt_test (K := K) (gv_neI (any_most TD TG (i := 11) rfl (hN.same (s57.trans sy))) gv_int)).to (by decide))))) (fun z => by cases z) fun _ H8 s8 => ?_
      have s58 := s57.trans s8
      refine gs_noN (b := b && false) (gvt_and (gvt_b (K := K) (gv_var (i := 10) rfl (.bl b))) (fun Hy sy hbt => ((gvt_test (K := K) (gv_neD (any_known TG (i := 11) rfl hbt (hN.same (s58.trans sy))) (gv_repA (gv_tup (gva_cons gv_str gva_nil)) ((gv_lenT (gv_var (i := 9) rfl (hu5.sm (s58.trans sy)))).to (by rw [List.length_map])) (by omega)) (shp_same pn.length) (shp_same pn.length))).to (by rw [eqv_same]; rfl)))) (by cases b <;> rfl) fun H9 s9 => hn3 _ _ ⟨(s4.trans s5).trans (s58.trans s9), _, _, rfl⟩
    · refine hz1 _ _ _ ?_
      have hl := due_isL hne
      obtain ⟨l1, xs1, rfl, e1⟩ := (hu4.same s5).2 hl
      obtain ⟨l2, xs2, rfl, e2⟩ := hw
      have du := (hu4.same s5).1
      have rep := due_rep (d := d) hsm hl
      refine gs_if (b := true) (gvt_b (gv_isL (K := K) (i := 9) rfl e1 (.ty "list") (kit_ty (show kitB "list" "list" = some true by decide +kernel)))) (fun _ H6 s6 => ?_) (fun z => by cases z)
      refine gs_noN (b := false) (gvt_or (b := false) (c := false) (gvt_not (b := true) (gvt_b (gv_isL (K := K) (i := 11) rfl (s6 _ _ e2) (.ty "list") (kit_ty (show kitB "list" "list" = some true by decide +kernel))))) (fun Hy sy _ => ((gvt_test (K := K) (gv_neS (gv_reprA (gv_var (i := 11) rfl (dw.sm (s6.trans sy))) rep) (gv_reprA (gv_var (i := 9) rfl (du.sm (s6.trans sy))) rep))).to (by simp)))) rfl fun H7 s7 => hn3 _ _ ⟨(s4.trans s5).trans (s6.trans s7), _, _, rfl⟩
end
end K52
namespace K52
open PySem PySem.Spec PyProof.Rows L2 Pr
theorem all_mk {l : PySem.W.OpenLaw} {w : World} {K : PySem.W.Frag} {h : Heap} {mg : Str → Option Value} {fa f1 f2 f3 f4 f5 f6 f7 f8 f9 f10 f11 f12 f13 f14 f15 f16 f17 f18 f19 f20 f21 f22 f23 f24 f25 f26 f27 f28 : Addr} (X : K.In h) (G : h.Ns mainGlobals mg) (hfa : mg "law" = some (.ref fa))
    {od1 an1 od2 an2 od3 an3 od4 an4 od5 an5 od6 an6 od7 an7 od8 an8 od9 an9 od10 an10 od11 an11 od12 an12 od13 an13 od14 an14 od15 an15 od16 an16 od17 an17 od18 an18 od19 an19 od20 an20 od21 an21 od22 an22 od23 an23 od24 an24 od25 an25 od26 an26 od27 an27 od28 an28 : Option Addr} {sl1 sl2 sl3 sl4 sl5 sl6 sl7 sl8 sl9 sl10 sl11 sl12 sl13 sl14 sl15 sl16 sl17 sl18 sl19 sl20 sl21 sl22 sl23 sl24 sl25 sl26 sl27 sl28 : Array (Option Value)} {oc1 kV1 dc1 pm1 cd1 ct1 oc2 kV2 dc2 pm2 cd2 ct2 oc3 kV3 dc3 pm3 cd3 ct3 oc4 kV4 dc4 pm4 cd4 ct4 oc5 kV5 dc5 pm5 cd5 ct5 oc6 kV6 dc6 pm6 cd6 ct6 oc7 kV7 dc7 pm7 cd7 ct7 oc8 kV8 dc8 pm8 cd8 ct8 oc9 kV9 dc9 pm9 cd9 ct9 oc10 kV10 dc10 pm10 cd10 ct10 oc11 kV11 dc11 pm11 cd11 ct11 oc12 kV12 dc12 pm12 cd12 ct12 oc13 kV13 dc13 pm13 cd13 ct13 oc14 kV14 dc14 pm14 cd14 ct14 oc15 kV15 dc15 pm15 cd15 ct15 oc16 kV16 dc16 pm16 cd16 ct16 oc17 kV17 dc17 pm17 cd17 ct17 oc18 kV18 dc18 pm18 cd18 ct18 oc19 kV19 dc19 pm19 cd19 ct19 oc20 kV20 dc20 pm20 cd20 ct20 oc21 kV21 dc21 pm21 cd21 ct21 oc22 kV22 dc22 pm22 cd22 ct22 oc23 kV23 dc23 pm23 cd23 ct23 oc24 kV24 dc24 pm24 cd24 ct24 oc25 kV25 dc25 pm25 cd25 ct25 oc26 kV26 dc26 pm26 cd26 ct26 oc27 kV27 dc27 pm27 cd27 ct27 oc28 kV28 dc28 pm28 cd28 ct28 : Value}
    (a1 : PySem.W.nsIn K mainGlobals "no_effect" = some (some (.ref f1))) (l1 : K.lookup f1 = some ⟨oc1, od1, .func (PySem.W.fnOf "no_effect" "no_effect" (defArgs sNo) (defBody sNo) (defScope sNo) .none kV1 dc1 pm1 an1 cd1 ct1), sl1⟩) (c1 : PySem.W.codeIn K cd1 "no_effect" = true) (k1 : PySem.W.keepIn K (.ref f1) = true)
    (a2 : PySem.W.nsIn K mainGlobals "press_effect" = some (some (.ref f2))) (l2 : K.lookup f2 = some ⟨oc2, od2, .func (PySem.W.fnOf "press_effect" "press_effect" (defArgs sPressE) (defBody sPressE) (defScope sPressE) .none kV2 dc2 pm2 an2 cd2 ct2), sl2⟩) (c2 : PySem.W.codeIn K cd2 "press_effect" = true) (k2 : PySem.W.keepIn K (.ref f2) = true)
    (a3 : PySem.W.nsIn K mainGlobals "joined_effect" = some (some (.ref f3))) (l3 : K.lookup f3 = some ⟨oc3, od3, .func (PySem.W.fnOf "joined_effect" "joined_effect" (defArgs sJoin) (defBody sJoin) (defScope sJoin) .none kV3 dc3 pm3 an3 cd3 ct3), sl3⟩) (c3 : PySem.W.codeIn K cd3 "joined_effect" = true) (k3 : PySem.W.keepIn K (.ref f3) = true)
    (a4 : PySem.W.nsIn K mainGlobals "effect_with_press" = some (some (.ref f4))) (l4 : K.lookup f4 = some ⟨oc4, od4, .func (PySem.W.fnOf "effect_with_press" "effect_with_press" (defArgs sWith) (defBody sWith) (defScope sWith) .none kV4 dc4 pm4 an4 cd4 ct4), sl4⟩) (c4 : PySem.W.codeIn K cd4 "effect_with_press" = true) (k4 : PySem.W.keepIn K (.ref f4) = true)
    (a5 : PySem.W.nsIn K mainGlobals "is_button" = some (some (.ref f5))) (l5 : K.lookup f5 = some ⟨oc5, od5, .func (PySem.W.fnOf "is_button" "is_button" (defArgs sBtn) (defBody sBtn) (defScope sBtn) .none kV5 dc5 pm5 an5 cd5 ct5), sl5⟩) (c5 : PySem.W.codeIn K cd5 "is_button" = true) (k5 : PySem.W.keepIn K (.ref f5) = true)
    (a6 : PySem.W.nsIn K mainGlobals "is_button_tuple" = some (some (.ref f6))) (l6 : K.lookup f6 = some ⟨oc6, od6, .func (PySem.W.fnOf "is_button_tuple" "is_button_tuple" (defArgs sBtnT) (defBody sBtnT) (defScope sBtnT) .none kV6 dc6 pm6 an6 cd6 ct6), sl6⟩) (c6 : PySem.W.codeIn K cd6 "is_button_tuple" = true) (k6 : PySem.W.keepIn K (.ref f6) = true)
    (a7 : PySem.W.nsIn K mainGlobals "panel_error" = some (some (.ref f7))) (l7 : K.lookup f7 = some ⟨oc7, od7, .func (PySem.W.fnOf "panel_error" "panel_error" (defArgs sPErr) (defBody sPErr) (defScope sPErr) .none kV7 dc7 pm7 an7 cd7 ct7), sl7⟩) (c7 : PySem.W.codeIn K cd7 "panel_error" = true) (k7 : PySem.W.keepIn K (.ref f7) = true)
    (a8 : PySem.W.nsIn K mainGlobals "press_button" = some (some (.ref f8))) (l8 : K.lookup f8 = some ⟨oc8, od8, .func (PySem.W.fnOf "press_button" "press_button" (defArgs sPress) (defBody sPress) (defScope sPress) .none kV8 dc8 pm8 an8 cd8 ct8), sl8⟩) (c8 : PySem.W.codeIn K cd8 "press_button" = true) (k8 : PySem.W.keepIn K (.ref f8) = true)
    (a9 : PySem.W.nsIn K mainGlobals "releases_any" = some (some (.ref f9))) (l9 : K.lookup f9 = some ⟨oc9, od9, .func (PySem.W.fnOf "releases_any" "releases_any" (defArgs sAny) (defBody sAny) (defScope sAny) .none kV9 dc9 pm9 an9 cd9 ct9), sl9⟩) (c9 : PySem.W.codeIn K cd9 "releases_any" = true) (k9 : PySem.W.keepIn K (.ref f9) = true)
    (a10 : PySem.W.nsIn K mainGlobals "held_buttons" = some (some (.ref f10))) (l10 : K.lookup f10 = some ⟨oc10, od10, .func (PySem.W.fnOf "held_buttons" "held_buttons" (defArgs sHeld) (defBody sHeld) (defScope sHeld) .none kV10 dc10 pm10 an10 cd10 ct10), sl10⟩) (c10 : PySem.W.codeIn K cd10 "held_buttons" = true) (k10 : PySem.W.keepIn K (.ref f10) = true)
    (a11 : PySem.W.nsIn K mainGlobals "words_of" = some (some (.ref f11))) (l11 : K.lookup f11 = some ⟨oc11, od11, .func (PySem.W.fnOf "words_of" "words_of" (defArgs sWordsOf) (defBody sWordsOf) (defScope sWordsOf) .none kV11 dc11 pm11 an11 cd11 ct11), sl11⟩) (c11 : PySem.W.codeIn K cd11 "words_of" = true) (k11 : PySem.W.keepIn K (.ref f11) = true)
    (a12 : PySem.W.nsIn K mainGlobals "buttons_by_text" = some (some (.ref f12))) (l12 : K.lookup f12 = some ⟨oc12, od12, .func (PySem.W.fnOf "buttons_by_text" "buttons_by_text" (defArgs sByText) (defBody sByText) (defScope sByText) .none kV12 dc12 pm12 an12 cd12 ct12), sl12⟩) (c12 : PySem.W.codeIn K cd12 "buttons_by_text" = true) (k12 : PySem.W.keepIn K (.ref f12) = true)
    (a13 : PySem.W.nsIn K mainGlobals "parse_list" = some (some (.ref f13))) (l13 : K.lookup f13 = some ⟨oc13, od13, .func (PySem.W.fnOf "parse_list" "parse_list" (defArgs sPList) (defBody sPList) (defScope sPList) .none kV13 dc13 pm13 an13 cd13 ct13), sl13⟩) (c13 : PySem.W.codeIn K cd13 "parse_list" = true) (k13 : PySem.W.keepIn K (.ref f13) = true)
    (a14 : PySem.W.nsIn K mainGlobals "parse_panel" = some (some (.ref f14))) (l14 : K.lookup f14 = some ⟨oc14, od14, .func (PySem.W.fnOf "parse_panel" "parse_panel" (defArgs sParse) (defBody sParse) (defScope sParse) .none kV14 dc14 pm14 an14 cd14 ct14), sl14⟩) (c14 : PySem.W.codeIn K cd14 "parse_panel" = true) (k14 : PySem.W.keepIn K (.ref f14) = true)
    (a15 : PySem.W.nsIn K mainGlobals "check_panel" = some (some (.ref f15))) (l15 : K.lookup f15 = some ⟨oc15, od15, .func (PySem.W.fnOf "check_panel" "check_panel" (defArgs sChkP) (defBody sChkP) (defScope sChkP) .none kV15 dc15 pm15 an15 cd15 ct15), sl15⟩) (c15 : PySem.W.codeIn K cd15 "check_panel" = true) (k15 : PySem.W.keepIn K (.ref f15) = true)
    (a16 : PySem.W.nsIn K mainGlobals "check_state" = some (some (.ref f16))) (l16 : K.lookup f16 = some ⟨oc16, od16, .func (PySem.W.fnOf "check_state" "check_state" (defArgs sChkS) (defBody sChkS) (defScope sChkS) .none kV16 dc16 pm16 an16 cd16 ct16), sl16⟩) (c16 : PySem.W.codeIn K cd16 "check_state" = true) (k16 : PySem.W.keepIn K (.ref f16) = true)
    (a17 : PySem.W.nsIn K mainGlobals "check_button" = some (some (.ref f17))) (l17 : K.lookup f17 = some ⟨oc17, od17, .func (PySem.W.fnOf "check_button" "check_button" (defArgs sChkB) (defBody sChkB) (defScope sChkB) .none kV17 dc17 pm17 an17 cd17 ct17), sl17⟩) (c17 : PySem.W.codeIn K cd17 "check_button" = true) (k17 : PySem.W.keepIn K (.ref f17) = true)
    (a18 : PySem.W.nsIn K mainGlobals "known_after" = some (some (.ref f18))) (l18 : K.lookup f18 = some ⟨oc18, od18, .func (PySem.W.fnOf "known_after" "known_after" (defArgs sKAft) (defBody sKAft) (defScope sKAft) .none kV18 dc18 pm18 an18 cd18 ct18), sl18⟩) (c18 : PySem.W.codeIn K cd18 "known_after" = true) (k18 : PySem.W.keepIn K (.ref f18) = true)
    (a19 : PySem.W.nsIn K mainGlobals "_law_deck" = some (some (.ref f19))) (l19 : K.lookup f19 = some ⟨oc19, od19, .func (PySem.W.fnOf "_law_deck" "_law_deck" (defArgs sDeck) (defBody sDeck) (defScope sDeck) .none kV19 dc19 pm19 an19 cd19 ct19), sl19⟩) (c19 : PySem.W.codeIn K cd19 "_law_deck" = true) (k19 : PySem.W.keepIn K (.ref f19) = true)
    (a20 : PySem.W.nsIn K mainGlobals "_law_draw" = some (some (.ref f20))) (l20 : K.lookup f20 = some ⟨oc20, od20, .func (PySem.W.fnOf "_law_draw" "_law_draw" (defArgs sDraw) (defBody sDraw) (defScope sDraw) .none kV20 dc20 pm20 an20 cd20 ct20), sl20⟩) (c20 : PySem.W.codeIn K cd20 "_law_draw" = true) (k20 : PySem.W.keepIn K (.ref f20) = true)
    (a21 : PySem.W.nsIn K mainGlobals "_law_panel" = some (some (.ref f21))) (l21 : K.lookup f21 = some ⟨oc21, od21, .func (PySem.W.fnOf "_law_panel" "_law_panel" (defArgs sPanel) (defBody sPanel) (defScope sPanel) .none kV21 dc21 pm21 an21 cd21 ct21), sl21⟩) (c21 : PySem.W.codeIn K cd21 "_law_panel" = true) (k21 : PySem.W.keepIn K (.ref f21) = true)
    (a22 : PySem.W.nsIn K mainGlobals "_law_right" = some (some (.ref f22))) (l22 : K.lookup f22 = some ⟨oc22, od22, .func (PySem.W.fnOf "_law_right" "_law_right" (defArgs sRight) (defBody sRight) (defScope sRight) .none kV22 dc22 pm22 an22 cd22 ct22), sl22⟩) (c22 : PySem.W.codeIn K cd22 "_law_right" = true) (k22 : PySem.W.keepIn K (.ref f22) = true)
    (a23 : PySem.W.nsIn K mainGlobals "_law_number" = some (some (.ref f23))) (l23 : K.lookup f23 = some ⟨oc23, od23, .func (PySem.W.fnOf "_law_number" "_law_number" (defArgs sNum) (defBody sNum) (defScope sNum) .none kV23 dc23 pm23 an23 cd23 ct23), sl23⟩) (c23 : PySem.W.codeIn K cd23 "_law_number" = true) (k23 : PySem.W.keepIn K (.ref f23) = true)
    (a24 : PySem.W.nsIn K mainGlobals "_law_list_of" = some (some (.ref f24))) (l24 : K.lookup f24 = some ⟨oc24, od24, .func (PySem.W.fnOf "_law_list_of" "_law_list_of" (defArgs sLList) (defBody sLList) (defScope sLList) .none kV24 dc24 pm24 an24 cd24 ct24), sl24⟩) (c24 : PySem.W.codeIn K cd24 "_law_list_of" = true) (k24 : PySem.W.keepIn K (.ref f24) = true)
    (a25 : PySem.W.nsIn K mainGlobals "_law_due" = some (some (.ref f25))) (l25 : K.lookup f25 = some ⟨oc25, od25, .func (PySem.W.fnOf "_law_due" "_law_due" (defArgs sDue) (defBody sDue) (defScope sDue) .none kV25 dc25 pm25 an25 cd25 ct25), sl25⟩) (c25 : PySem.W.codeIn K cd25 "_law_due" = true) (k25 : PySem.W.keepIn K (.ref f25) = true)
    (a26 : PySem.W.nsIn K mainGlobals "_law_text" = some (some (.ref f26))) (l26 : K.lookup f26 = some ⟨oc26, od26, .func (PySem.W.fnOf "_law_text" "_law_text" (defArgs sLPanT) (defBody sLPanT) (defScope sLPanT) .none kV26 dc26 pm26 an26 cd26 ct26), sl26⟩) (c26 : PySem.W.codeIn K cd26 "_law_text" = true) (k26 : PySem.W.keepIn K (.ref f26) = true)
    (a27 : PySem.W.nsIn K mainGlobals "_law_read" = some (some (.ref f27))) (l27 : K.lookup f27 = some ⟨oc27, od27, .func (PySem.W.fnOf "_law_read" "_law_read" (defArgs sRead) (defBody sRead) (defScope sRead) .none kV27 dc27 pm27 an27 cd27 ct27), sl27⟩) (c27 : PySem.W.codeIn K cd27 "_law_read" = true) (k27 : PySem.W.keepIn K (.ref f27) = true)
    (a28 : PySem.W.nsIn K mainGlobals "law" = some (some (.ref f28))) (l28 : K.lookup f28 = some ⟨oc28, od28, .func (PySem.W.fnOf "law" "law" (defArgs sLaw) (defBody sLaw) (defScope sLaw) .none kV28 dc28 pm28 an28 cd28 ct28), sl28⟩) (c28 : PySem.W.codeIn K cd28 "law" = true) (k28 : PySem.W.keepIn K (.ref f28) = true)
    {tk_MAX_BUTTONS : Tok} (y_MAX_BUTTONS : PySem.W.nsIn K mainGlobals "MAX_BUTTONS" = some (some (.int 10 tk_MAX_BUTTONS)))
    {CD CG CGu : Addr} {tkD tkG : Tok} {pR : Addr} {rsR : List Value} {fShow ccShow cdShow : Addr} {ocShow kVShow dcShow pmShow ctShow : Value} {odShow anShow : Option Addr} {slShow : Array (Option Value)} {occShow ocdShow : Value} {odcShow oddShow : Option Addr} {slcShow sldShow : Array (Option Value)} {vsShow : Array Value} {fileShow : Str} {tfShow : Tok} {fState : Addr} {ocState dcState pmState cdState ctState : Value} {odState anState : Option Addr} {slState : Array (Option Value)} {aKState : Addr} {fEdits : Addr} {ocEdits kVEdits dcEdits pmEdits cdEdits ctEdits : Value} {odEdits anEdits : Option Addr} {slEdits : Array (Option Value)} {fLenD : Addr} {ocLenD kVLenD dcLenD pmLenD cdLenD ctLenD : Value} {odLenD anLenD : Option Addr} {slLenD : Array (Option Value)} {fStrD : Addr} {ocStrD kVStrD dcStrD pmStrD cdStrD ctStrD : Value} {odStrD anStrD : Option Addr} {slStrD : Array (Option Value)} {fShowB : Addr} {ocShowB kVShowB dcShowB pmShowB cdShowB ctShowB : Value} {odShowB anShowB : Option Addr} {slShowB : Array (Option Value)} {fInitG : Addr} {ocInitG kVInitG dcInitG pmInitG cdInitG ctInitG : Value} {odInitG anInitG : Option Addr} {slInitG : Array (Option Value)} {fInitD : Addr} {ocInitD kVInitD dcInitD pmInitD cdInitD ctInitD : Value} {odInitD anInitD : Option Addr} {slInitD : Array (Option Value)} {fInitU : Addr} {ocInitU kVInitU dcInitU pmInitU cdInitU ctInitU : Value} {odInitU anInitU : Option Addr} {slInitU : Array (Option Value)} {fRd : Addr} {ocRd kVRd dcRd pmRd cdRd ctRd : Value} {odRd anRd : Option Addr} {slRd : Array (Option Value)} {C CP CB CR CS fI : Addr} {nm q : Str} {Nn : Addr} {bs : List Value} {sn : List Str} {sub : List Value} {ab : Bool} {col : Option Bool} {dd : Option Addr} {q0 q1 q2 q3 q5 : Option Value} {ocI kVI dcI pmI cdI ctI : Value} {odI anI : Option Addr} {slI : Array (Option Value)}
    (uND : PySem.W.nsIn K mainGlobals "Desk" = some (some (.ref CD)))
    (pgD : PySem.W.plainGet K CD Str.empty = true)
    (hdD : PySem.W.hasDictIn K CD = true)
    (poD : PySem.W.plainOver K CD = true)
    (saD : PySem.W.findIn K (.ref CD) "__setattr__" = some (some (.builtin "object.__setattr__")))
    (mkD : PySem.W.makesIn K CD = true)
    (kcD : PySem.W.keepIn K (.ref CD) = true)
    (nAD : PySem.W.findIn K (.ref CD) "past" = some none)
    (nWD : PySem.W.findIn K (.ref CD) "watched" = some none)
    (nPD : PySem.W.findIn K (.ref CD) "panel" = some none)
    (nLD : PySem.W.findIn K (.ref CD) "latched" = some none)
    (nHD : PySem.W.findIn K (.ref CD) "held" = some none)
    (cMD : PySem.W.findIn K (.ref CD) "MOST_EDITS" = some (some (.int 60 tkD)))
    (cGD : PySem.W.specialIn K (.int 60 tkD) "__get__" = some none)
    (cCD : PySem.W.copiedNames.contains ("MOST_EDITS" : Str) = false)
    (oaD : PySem.W.findIn K (.ref CD) "__class__" = some (some (.builtin "object.__class__")))
    (omD : PySem.W.mroIn K CD (.type "object") = some true)
    (kLD : PySem.W.kitOne K (.ref CD) (.type "list") = some false)
    (kGD : PySem.W.kitOne K (.ref CD) (.ref CG) = some false)
    (uNG : PySem.W.nsIn K mainGlobals "GuessDesk" = some (some (.ref CG)))
    (pgG : PySem.W.plainGet K CG Str.empty = true)
    (hdG : PySem.W.hasDictIn K CG = true)
    (poG : PySem.W.plainOver K CG = true)
    (saG : PySem.W.findIn K (.ref CG) "__setattr__" = some (some (.builtin "object.__setattr__")))
    (mkG : PySem.W.makesIn K CG = true)
    (kcG : PySem.W.keepIn K (.ref CG) = true)
    (nAG : PySem.W.findIn K (.ref CG) "past" = some none)
    (nWG : PySem.W.findIn K (.ref CG) "watched" = some none)
    (nPG : PySem.W.findIn K (.ref CG) "panel" = some none)
    (nLG : PySem.W.findIn K (.ref CG) "latched" = some none)
    (nHG : PySem.W.findIn K (.ref CG) "held" = some none)
    (nKG : PySem.W.findIn K (.ref CG) "known" = some none)
    (cMG : PySem.W.findIn K (.ref CG) "MOST_EDITS" = some (some (.int 60 tkG)))
    (cGG : PySem.W.specialIn K (.int 60 tkG) "__get__" = some none)
    (cCG : PySem.W.copiedNames.contains ("MOST_EDITS" : Str) = false)
    (oaG : PySem.W.findIn K (.ref CG) "__class__" = some (some (.builtin "object.__class__")))
    (omG : PySem.W.mroIn K CG (.type "object") = some true)
    (kLG : PySem.W.kitOne K (.ref CG) (.type "list") = some false)
    (kGG : PySem.W.kitOne K (.ref CG) (.ref CG) = some true)
    (uCGu : PySem.W.nsIn K mainGlobals "Guess" = some (some (.ref CGu)))
    (wShow : PySem.W.findIn K (.ref CG) "show" = some (some (.ref fShow)))
    (vfShow : PySem.W.isFn K (.ref fShow) = true)
    (lShow : K.lookup fShow = some ⟨ocShow, odShow, .func (PySem.W.fnX "show" "GuessDesk.show" (defArgs K52G.sShowG) (defBody K52G.sShowG) (defScope K52G.sShowG) [("__class__", ccShow)] .none kVShow dcShow pmShow anShow (.ref cdShow) ctShow), slShow⟩)
    (cShow : PySem.W.codeIn K (.ref cdShow) "GuessDesk.show" = true)
    (kShow : PySem.W.keepIn K (.ref fShow) = true)
    (lcShow : K.lookup ccShow = some ⟨occShow, odcShow, .cell (some (.ref CG)), slcShow⟩)
    (ldShow : K.lookup cdShow = some ⟨ocdShow, oddShow, .fields vsShow, sldShow⟩)
    (vsShow : vsShow[2]? = some (.str fileShow tfShow))
    (fiShow : ((l.prog.main.file : Str) == fileShow) = true)
    (tpShow : (l.prog.main.scope.names.lookup ("super" : Str)).isSome = false)
    (zsShow : PySem.W.nsIn K mainGlobals "super" = some none)
    (icShow : PySem.W.isClsIn K CG = true)
    (wState : PySem.W.findIn K (.ref CD) "state" = some (some (.ref fState)))
    (vfState : PySem.W.isFn K (.ref fState) = true)
    (lState : K.lookup fState = some ⟨ocState, odState, .func (PySem.W.fnOf "state" "Desk.state" (defArgs K52D.sState) (defBody K52D.sState) (defScope K52D.sState) .none (.ref aKState) dcState pmState anState cdState ctState), slState⟩)
    (cState : PySem.W.codeIn K cdState "Desk.state" = true)
    (kState : PySem.W.keepIn K (.ref fState) = true)
    (eKState : PySem.W.nsIn K aKState "version" = some (some .none))
    (wgState : PySem.W.findIn K (.ref CG) "state" = some (some (.ref fState)))
    (wEdits : PySem.W.findIn K (.ref CD) "edits" = some (some (.ref fEdits)))
    (vfEdits : PySem.W.isFn K (.ref fEdits) = true)
    (lEdits : K.lookup fEdits = some ⟨ocEdits, odEdits, .func (PySem.W.fnOf "edits" "Desk.edits" (defArgs K52D.sEdits) (defBody K52D.sEdits) (defScope K52D.sEdits) .none kVEdits dcEdits pmEdits anEdits cdEdits ctEdits), slEdits⟩)
    (cEdits : PySem.W.codeIn K cdEdits "Desk.edits" = true)
    (kEdits : PySem.W.keepIn K (.ref fEdits) = true)
    (wgEdits : PySem.W.findIn K (.ref CG) "edits" = some (some (.ref fEdits)))
    (wLenD : PySem.W.findIn K (.ref CD) "__len__" = some (some (.ref fLenD)))
    (vfLenD : PySem.W.isFn K (.ref fLenD) = true)
    (lLenD : K.lookup fLenD = some ⟨ocLenD, odLenD, .func (PySem.W.fnOf "__len__" "Desk.__len__" (defArgs K52D.sLenD) (defBody K52D.sLenD) (defScope K52D.sLenD) .none kVLenD dcLenD pmLenD anLenD cdLenD ctLenD), slLenD⟩)
    (cLenD : PySem.W.codeIn K cdLenD "Desk.__len__" = true)
    (kLenD : PySem.W.keepIn K (.ref fLenD) = true)
    (wgLenD : PySem.W.findIn K (.ref CG) "__len__" = some (some (.ref fLenD)))
    (wStrD : PySem.W.findIn K (.ref CD) "__str__" = some (some (.ref fStrD)))
    (vfStrD : PySem.W.isFn K (.ref fStrD) = true)
    (lStrD : K.lookup fStrD = some ⟨ocStrD, odStrD, .func (PySem.W.fnOf "__str__" "Desk.__str__" (defArgs K52D.sStrD) (defBody K52D.sStrD) (defScope K52D.sStrD) .none kVStrD dcStrD pmStrD anStrD cdStrD ctStrD), slStrD⟩)
    (cStrD : PySem.W.codeIn K cdStrD "Desk.__str__" = true)
    (kStrD : PySem.W.keepIn K (.ref fStrD) = true)
    (wgStrD : PySem.W.findIn K (.ref CG) "__str__" = some (some (.ref fStrD)))
    (wShowB : PySem.W.findIn K (.ref CD) "show" = some (some (.ref fShowB)))
    (vfShowB : PySem.W.isFn K (.ref fShowB) = true)
    (lShowB : K.lookup fShowB = some ⟨ocShowB, odShowB, .func (PySem.W.fnOf "show" "Desk.show" (defArgs K52G.sShow) (defBody K52G.sShow) (defScope K52G.sShow) .none kVShowB dcShowB pmShowB anShowB cdShowB ctShowB), slShowB⟩)
    (cShowB : PySem.W.codeIn K cdShowB "Desk.show" = true)
    (kShowB : PySem.W.keepIn K (.ref fShowB) = true)
    (smB : PySem.W.mroIn K CG (.ref CG) = some true)
    (saB : PySem.W.ks_superIn K CG CG "show" = some (some (.ref fShowB)))
    (stB : PySem.W.typeIn K (.ref fShowB) = some (.type "function"))
    (sfB : PySem.W.fnIn K fShowB = true)
    (soB : PySem.W.nsIn K PySem.cStatics "thirdparty.any" = some none)
    (wInitG : PySem.W.findIn K (.ref CG) "__init__" = some (some (.ref fInitG)))
    (vfInitG : PySem.W.isFn K (.ref fInitG) = true)
    (lInitG : K.lookup fInitG = some ⟨ocInitG, odInitG, .func (PySem.W.fnOf "__init__" "GuessDesk.__init__" (defArgs K52G.sInitG) (defBody K52G.sInitG) (defScope K52G.sInitG) .none kVInitG dcInitG pmInitG anInitG cdInitG ctInitG), slInitG⟩)
    (cInitG : PySem.W.codeIn K cdInitG "GuessDesk.__init__" = true)
    (kInitG : PySem.W.keepIn K (.ref fInitG) = true)
    (rdInitD : PySem.W.readsIn K CD (.type "type") = true)
    (gaInitD : PySem.W.specialIn K (.ref CD) "__getattribute__" = some (some (.builtin "type.__getattribute__")))
    (fcInitD : PySem.W.findCls K (.ref CD) (.type "type") "__init__" = some (.val (.ref fInitD)))
    (lInitD : K.lookup fInitD = some ⟨ocInitD, odInitD, .func (PySem.W.fnOf "__init__" "Desk.__init__" (defArgs K52G.sInitD) (defBody K52G.sInitD) (defScope K52G.sInitD) .none kVInitD dcInitD pmInitD anInitD cdInitD ctInitD), slInitD⟩)
    (cInitD : PySem.W.codeIn K cdInitD "Desk.__init__" = true)
    (kInitD : PySem.W.keepIn K (.ref fInitD) = true)
    (wInitD : PySem.W.findIn K (.ref CD) "__init__" = some (some (.ref fInitD)))
    (vfInitD : PySem.W.isFn K (.ref fInitD) = true)
    (rdInitU : PySem.W.readsIn K CGu (.type "type") = true)
    (gaInitU : PySem.W.specialIn K (.ref CGu) "__getattribute__" = some (some (.builtin "type.__getattribute__")))
    (fcInitU : PySem.W.findCls K (.ref CGu) (.type "type") "__init__" = some (.val (.ref fInitU)))
    (lInitU : K.lookup fInitU = some ⟨ocInitU, odInitU, .func (PySem.W.fnOf "__init__" "Guess.__init__" (defArgs K52G.sInitU) (defBody K52G.sInitU) (defScope K52G.sInitU) .none kVInitU dcInitU pmInitU anInitU cdInitU ctInitU), slInitU⟩)
    (cInitU : PySem.W.codeIn K cdInitU "Guess.__init__" = true)
    (kInitU : PySem.W.keepIn K (.ref fInitU) = true)
    (cmD : PySem.W.findCls K (.ref CD) (.type "type") "read" = some (.get (.builtin "classmethod.__get__") (.ref pR) .none (.ref CD)))
    (cmG : PySem.W.findCls K (.ref CG) (.type "type") "read" = some (.get (.builtin "classmethod.__get__") (.ref pR) .none (.ref CG)))
    (rcR : PySem.W.recIn K pR "classmethod" = some (.ref fRd :: rsR))
    (fiR : PySem.W.fnIn K fRd = true)
    (rdG : PySem.W.readsIn K CG (.type "type") = true)
    (gaG : PySem.W.specialIn K (.ref CG) "__getattribute__" = some (some (.builtin "type.__getattribute__")))
    (lRd : K.lookup fRd = some ⟨ocRd, odRd, .func (PySem.W.fnOf "read" "Desk.read" (defArgs sRd) (defBody sRd) (defScope sRd) .none kVRd dcRd pmRd anRd cdRd ctRd), slRd⟩)
    (cRd : PySem.W.codeIn K cdRd "Desk.read" = true)
    (kRd : PySem.W.keepIn K (.ref fRd) = true)
    (uP : PySem.W.nsIn K mainGlobals "PanelError" = some (some (.ref CP)))
    (uC : PySem.W.nsIn K mainGlobals "BadText" = some (some (.ref C)))
    (uCB : PySem.W.nsIn K mainGlobals "BadPanel" = some (some (.ref CB)))
    (uCR : PySem.W.nsIn K mainGlobals "BadRow" = some (some (.ref CR)))
    (uCS : PySem.W.nsIn K mainGlobals "BadState" = some (some (.ref CS)))
    (xL : K.lookup C = some (excClassObj nm q C Nn bs [.ref CP, .type "ValueError", .type "Exception", .type "BaseException", .type "object"] true sn sub ab col dd q0 q1 q2 q3 q5 "ValueError.__new__"))
    (sa : PySem.W.findIn K (.ref C) "__setattr__" = some (some (.builtin "object.__setattr__")))
    (exC : PySem.W.subIn K (.ref C) (.type "BaseException") = some true)
    (tyC : PySem.W.typeIn K (.ref C) = some (.type "type"))
    (kC : PySem.W.keepIn K (.ref C) = true)
    (iC : PySem.W.findIn K (.ref C) "__init__" = some (some (.ref fI)))
    (tI : PySem.W.typeIn K (.ref fI) = some (.type "function"))
    (noN : PySem.W.findIn K (.ref C) "index" = some none)
    (lI : K.lookup fI = some ⟨ocI, odI, .func (PySem.W.fnOf "__init__" "BadText.__init__" (defArgs sInitT) (defBody sInitT) (defScope sInitT) .none kVI dcI pmI anI cdI ctI), slI⟩)
    (cI : PySem.W.codeIn K cdI "BadText.__init__" = true)
    (kI : PySem.W.keepIn K (.ref fI) = true)
    (hg : PySem.W.findIn K (.ref C) "__getattribute__" = some (some (.builtin "BaseException.__getattribute__")))
    (hk : PySem.W.findIn K (.ref C) "__getattr__" = some none)
    (hd : PySem.W.hasDictIn K C = true)
    (ha : PySem.W.findIn K (.ref C) "__class__" = some (some (.builtin "object.__class__")))
    (hn : PySem.W.specialIn K (.builtin "object.__class__") "__get__" = some (some (.builtin "getset_descriptor.__get__")))
    (ht : PySem.W.takesIn K (.builtin "object.__class__") = some true)
    (hm : PySem.W.mroIn K C (.type "object") = some true)
    (xP : PySem.W.subIn K (.ref CP) (.type "BaseException") = some true)
    (dP : PySem.W.hasDictIn K CP = true)
    (tP : PySem.W.typeIn K (.ref CP) = some (.type "type"))
    (sP : PySem.W.subIn K (.ref C) (.ref CP) = some true)
    (nE : PySem.W.kitAny K (.ref C) [.ref CB, .ref CR, .ref CS] = some false)
    (kV1 : PySem.W.kitOne K (.ref C) (.type "ValueError") = some true)
    (zx_zip : PySem.W.nsIn K mainGlobals "zip" = some none)
    (z1 : PySem.W.nsIn K mainGlobals "ValueError" = some none) (z2 : PySem.W.nsIn K mainGlobals "abs" = some none) (z3 : PySem.W.nsIn K mainGlobals "any" = some none) (z4 : PySem.W.nsIn K mainGlobals "bool" = some none) (z5 : PySem.W.nsIn K mainGlobals "enumerate" = some none) (z6 : PySem.W.nsIn K mainGlobals "int" = some none) (z7 : PySem.W.nsIn K mainGlobals "isinstance" = some none) (z8 : PySem.W.nsIn K mainGlobals "len" = some none) (z9 : PySem.W.nsIn K mainGlobals "list" = some none) (z10 : PySem.W.nsIn K mainGlobals "min" = some none) (z11 : PySem.W.nsIn K mainGlobals "range" = some none) (z12 : PySem.W.nsIn K mainGlobals "repr" = some none) (z13 : PySem.W.nsIn K mainGlobals "sorted" = some none) (z14 : PySem.W.nsIn K mainGlobals "str" = some none) (z15 : PySem.W.nsIn K mainGlobals "tuple" = some none) :
    ∃ fd : FuncData, (∀ (s : Shared) (v : Value), BindsTo s fd ⟨[v], []⟩ [("_law_script", v)]) ∧ ∀ base : Heap, K.In base → base.Ns mainGlobals mg → FnG l.prog w K mg base 30 fa fd ["_law_script"] (spLaw K) := by
  have e := hfa.symm.trans (PySem.W.mg_of X G a28)
  cases e
  have F1 := fun_mk (st := sNo) l1 c1 k1
  have F2 := fun_mk (st := sPressE) l2 c2 k2
  have F3 := fun_mk (st := sJoin) l3 c3 k3
  have F4 := fun_mk (st := sWith) l4 c4 k4
  have F5 := fun_mk (st := sBtn) l5 c5 k5
  have F6 := fun_mk (st := sBtnT) l6 c6 k6
  have F7 := fun_mk (st := sPErr) l7 c7 k7
  have F8 := fun_mk (st := sPress) l8 c8 k8
  have F9 := fun_mk (st := sAny) l9 c9 k9
  have F10 := fun_mk (st := sHeld) l10 c10 k10
  have F11 := fun_mk (st := sWordsOf) l11 c11 k11
  have F12 := fun_mk (st := sByText) l12 c12 k12
  have F13 := fun_mk (st := sPList) l13 c13 k13
  have F14 := fun_mk (st := sParse) l14 c14 k14
  have F15 := fun_mk (st := sChkP) l15 c15 k15
  have F16 := fun_mk (st := sChkS) l16 c16 k16
  have F17 := fun_mk (st := sChkB) l17 c17 k17
  have F18 := fun_mk (st := sKAft) l18 c18 k18
  have F19 := fun_mk (st := sDeck) l19 c19 k19
  have F20 := fun_mk (st := sDraw) l20 c20 k20
  have F21 := fun_mk (st := sPanel) l21 c21 k21
  have F22 := fun_mk (st := sRight) l22 c22 k22
  have F23 := fun_mk (st := sNum) l23 c23 k23
  have F24 := fun_mk (st := sLList) l24 c24 k24
  have F25 := fun_mk (st := sDue) l25 c25 k25
  have F26 := fun_mk (st := sLPanT) l26 c26 k26
  have F27 := fun_mk (st := sRead) l27 c27 k27
  have F28 := fun_mk (st := sLaw) l28 c28 k28
  have b1 := F1.binds (ps := ["panel"]) fun _ _ _ _ _ _ us hl => match us, hl with | [_], _ => rfl
  have b2 := F2.binds (ps := ["panel", "button"]) fun _ _ _ _ _ _ us hl => match us, hl with | [_, _], _ => rfl
  have b3 := F3.binds (ps := ["first", "second"]) fun _ _ _ _ _ _ us hl => match us, hl with | [_, _], _ => rfl
  have b4 := F4.binds (ps := ["panel", "effect", "button"]) fun _ _ _ _ _ _ us hl => match us, hl with | [_, _, _], _ => rfl
  have b5 := F5.binds (ps := ["value", "many"]) fun _ _ _ _ _ _ us hl => match us, hl with | [_, _], _ => rfl
  have b6 := F6.binds (ps := ["value", "many"]) fun _ _ _ _ _ _ us hl => match us, hl with | [_, _], _ => rfl
  have b7 := F7.binds (ps := ["value"]) fun _ _ _ _ _ _ us hl => match us, hl with | [_], _ => rfl
  have b8 := F8.binds (ps := ["panel", "state", "button"]) fun _ _ _ _ _ _ us hl => match us, hl with | [_, _, _], _ => rfl
  have b9 := F9.binds (ps := ["panel", "button", "others"]) fun _ _ _ _ _ _ us hl => match us, hl with | [_, _, _], _ => rfl
  have b10 := F10.binds (ps := ["panel", "state"]) fun _ _ _ _ _ _ us hl => match us, hl with | [_, _], _ => rfl
  have b11 := F11.binds (ps := ["value"]) fun _ _ _ _ _ _ us hl => match us, hl with | [_], _ => rfl
  have b12 := F12.binds (ps := ["many"]) fun _ _ _ _ _ _ us hl => match us, hl with | [_], _ => rfl
  have b13 := F13.binds (ps := ["word", "button", "buttons"]) fun _ _ _ _ _ _ us hl => match us, hl with | [_, _, _], _ => rfl
  have b14 := F14.binds (ps := ["value"]) fun _ _ _ _ _ _ us hl => match us, hl with | [_], _ => rfl
  have b15 := F15.binds (ps := ["value"]) fun _ _ _ _ _ _ us hl => match us, hl with | [_], _ => rfl
  have b16 := F16.binds (ps := ["panel", "value"]) fun _ _ _ _ _ _ us hl => match us, hl with | [_, _], _ => rfl
  have b17 := F17.binds (ps := ["panel", "value"]) fun _ _ _ _ _ _ us hl => match us, hl with | [_, _], _ => rfl
  have b18 := F18.binds (ps := ["panel", "past"]) fun _ _ _ _ _ _ us hl => match us, hl with | [_, _], _ => rfl
  have b19 := F19.binds (ps := ["_law_script"]) fun _ _ _ _ _ _ us hl => match us, hl with | [_], _ => rfl
  have b20 := F20.binds (ps := ["_law_deck_here", "_law_many"]) fun _ _ _ _ _ _ us hl => match us, hl with | [_, _], _ => rfl
  have b21 := F21.binds (ps := ["_law_deck_here", "_law_most"]) fun _ _ _ _ _ _ us hl => match us, hl with | [_, _], _ => rfl
  have b22 := F22.binds (ps := ["_law_table", "_law_state", "_law_edits"]) fun _ _ _ _ _ _ us hl => match us, hl with | [_, _, _], _ => rfl
  have b23 := F23.binds (ps := ["_law_word"]) fun _ _ _ _ _ _ us hl => match us, hl with | [_], _ => rfl
  have b24 := F24.binds (ps := ["_law_index", "_law_many", "_law_word"]) fun _ _ _ _ _ _ us hl => match us, hl with | [_, _, _], _ => rfl
  have b25 := F25.binds (ps := ["_law_value"]) fun _ _ _ _ _ _ us hl => match us, hl with | [_], _ => rfl
  have b26 := F26.binds (ps := ["_law_panel_here"]) fun _ _ _ _ _ _ us hl => match us, hl with | [_], _ => rfl
  have b27 := F27.binds (ps := ["_law_value", "_law_is_guessed"]) fun _ _ _ _ _ _ us hl => match us, hl with | [_, _], _ => rfl
  have FShow : SFun K "show" "GuessDesk.show" K52G.sShowG ccShow cdShow fShow _ := sfun_mk (st := K52G.sShowG) lShow cShow kShow
  have SShow : SCls l.prog K mg ccShow cdShow CG := ⟨⟨_, _, _, lcShow⟩, ⟨_, _, _, _, _, _, ldShow, vsShow, fiShow⟩, Option.isSome_iff_exists.mp icShow, tpShow, PySem.W.mg_none_of X G zsShow⟩
  have TD : K52D.TxtD K mg CD := ⟨⟨pgD, hdD, poD, saD⟩, nAD, nWD, nPD, nLD, nHD, ⟨_, cMD, ⟨tkD, rfl⟩, cGD, cCD⟩, PySem.W.mg_of X G uND⟩
  have TG : K52G.TxtD K mg CG := ⟨⟨pgG, hdG, poG, saG⟩, nAG, nWG, nPG, nLG, nHG, nKG, ⟨_, cMG, ⟨tkG, rfl⟩, cGG, cCG⟩, PySem.W.mg_of X G uNG⟩
  have FState : FunD K "state" "Desk.state" (defArgs K52D.sState) (defBody K52D.sState) (defScope K52D.sState) [] [("version", .non)] fState _ := ⟨⟨ocState, odState, .none, .ref aKState, dcState, pmState, anState, cdState, ctState, slState, rfl, lState, cState, .inl ⟨rfl, rfl⟩, .inr ⟨aKState, rfl, fun q hq => by cases List.mem_singleton.mp hq; exact ⟨.none, eKState, rfl⟩⟩⟩, kState⟩
  obtain ⟨dsState, vState, bState⟩ := FState.binds0 (ps := ["self", "version"]) 1 (by simp) rfl fun D doc pm an cdv ct us ks hu hk => match us, hu, ks, hk with | [_], _, [_], _ => ⟨_, _, _, _, _, _, rfl, rfl, rfl⟩
  have kbState : KBn K _ ["self", "version"] 1 ["version"] (fun us ws => us ++ ws) (fun vs zs => vs ++ zs) := kb_one FState 1 "version" (by simp) fun D doc pm an cdv ct us v hu => match us, hu with | [_], _ => rfl
  have hD_State : Meth K CD "state" fState := ⟨wState, vfState, kState⟩
  have hG_State : Meth K CG "state" fState := ⟨wgState, vfState, kState⟩
  have FEdits := fun_mk (st := K52D.sEdits) lEdits cEdits kEdits
  have bEdits := FEdits.binds (ps := ["self"]) fun _ _ _ _ _ _ us hl => match us, hl with | [_], _ => rfl
  have hD_Edits : Meth K CD "edits" fEdits := ⟨wEdits, vfEdits, kEdits⟩
  have hG_Edits : Meth K CG "edits" fEdits := ⟨wgEdits, vfEdits, kEdits⟩
  have FLenD := fun_mk (st := K52D.sLenD) lLenD cLenD kLenD
  have bLenD := FLenD.binds (ps := ["self"]) fun _ _ _ _ _ _ us hl => match us, hl with | [_], _ => rfl
  have FStrD := fun_mk (st := K52D.sStrD) lStrD cStrD kStrD
  have bStrD := FStrD.binds (ps := ["self"]) fun _ _ _ _ _ _ us hl => match us, hl with | [_], _ => rfl
  have FShowB := fun_mk (st := K52G.sShow) lShowB cShowB kShowB
  have bShowB := FShowB.binds (ps := ["self", "panel", "latched"]) fun _ _ _ _ _ _ us hl => match us, hl with | [_, _, _], _ => rfl
  have hD_ShowB : Meth K CD "show" fShowB := ⟨wShowB, vfShowB, kShowB⟩
  have SMg : SMeth K CG CG "show" fShowB := ⟨smB, saB, stB, sfB, soB⟩
  have FInitG := fun_mk (st := K52G.sInitG) lInitG cInitG kInitG
  have bInitG := FInitG.binds (ps := ["self", "panel", "state"]) fun _ _ _ _ _ _ us hl => match us, hl with | [_, _, _], _ => rfl
  have FInitD := fun_mk (st := K52G.sInitD) lInitD cInitD kInitD
  have bInitD := FInitD.binds (ps := ["self", "panel", "state"]) fun _ _ _ _ _ _ us hl => match us, hl with | [_, _, _], _ => rfl
  have FInitU := fun_mk (st := K52G.sInitU) lInitU cInitU kInitU
  have bInitU := FInitU.binds (ps := ["self", "panel"]) fun _ _ _ _ _ _ us hl => match us, hl with | [_, _], _ => rfl
  have FRd := fun_mk (st := sRd) lRd cRd kRd
  have bRd := FRd.binds (ps := ["cls", "text"]) fun _ _ _ _ _ _ us hl => match us, hl with | [_, _], _ => rfl
  have FI := fun_mk (st := sInitT) lI cI kI
  have bI := FI.binds (ps := ["self", "index"]) fun _ _ _ _ _ _ us hl => match us, hl with | [_, _], _ => rfl
  have T : ExF K mg "BadText" "index" "BadText.__init__" sInitT C fI _ := { oex := ⟨⟨nm, q, Nn, bs, _, sn, sub, ab, col, dd, q0, q1, q2, q3, q5, xL, by first | rfl | decide +kernel⟩, sa, exC, tyC, kC⟩, iC := iC, tI := tI, noN := noN, g := PySem.W.mg_of X G uC, FI := FI, bI := bI }
  have Y : TryTxt K mg C CP CB CR CS := { exc := ⟨hg, hk, exC, hd, ha, hn, ht, hm⟩, xf := ⟨hg, hk, exC, hd⟩, gP := PySem.W.mg_of X G uP, gB := PySem.W.mg_of X G uCB, gR := PySem.W.mg_of X G uCR, gS := PySem.W.mg_of X G uCS, m1 := PySem.W.exm_ref xP dP tP sP, k3 := nE, kV := kV1 }
  have OD : OwnIs K CD := ⟨oaD, hn, ht, omD, TD.cl⟩
  have OG : OwnIs K CG := ⟨oaG, hn, ht, omG, TG.cl⟩
  have m_zip := PySem.W.mg_none_of X G zx_zip
  have FNo := F1
  have bNo := b1
  have gNo := PySem.W.mg_of X G a1
  have FPressE := F2
  have bPressE := b2
  have gPressE := PySem.W.mg_of X G a2
  have FJoin := F3
  have bJoin := b3
  have gJoin := PySem.W.mg_of X G a3
  have FWith := F4
  have bWith := b4
  have gWith := PySem.W.mg_of X G a4
  have FBtn := F5
  have bBtn := b5
  have gBtn := PySem.W.mg_of X G a5
  have FBtnT := F6
  have bBtnT := b6
  have gBtnT := PySem.W.mg_of X G a6
  have FPErr := F7
  have bPErr := b7
  have gPErr := PySem.W.mg_of X G a7
  have FPress := F8
  have bPress := b8
  have gPress := PySem.W.mg_of X G a8
  have FAny := F9
  have bAny := b9
  have gAny := PySem.W.mg_of X G a9
  have FHeld := F10
  have bHeld := b10
  have gHeld := PySem.W.mg_of X G a10
  have FWordsOf := F11
  have bWordsOf := b11
  have gWordsOf := PySem.W.mg_of X G a11
  have FByText := F12
  have bByText := b12
  have gByText := PySem.W.mg_of X G a12
  have FPList := F13
  have bPList := b13
  have gPList := PySem.W.mg_of X G a13
  have FParse := F14
  have bParse := b14
  have gParse := PySem.W.mg_of X G a14
  have FChkP := F15
  have bChkP := b15
  have gChkP := PySem.W.mg_of X G a15
  have FChkS := F16
  have bChkS := b16
  have gChkS := PySem.W.mg_of X G a16
  have FChkB := F17
  have bChkB := b17
  have gChkB := PySem.W.mg_of X G a17
  have FKAft := F18
  have bKAft := b18
  have gKAft := PySem.W.mg_of X G a18
  have FDeck := F19
  have bDeck := b19
  have gDeck := PySem.W.mg_of X G a19
  have FDraw := F20
  have bDraw := b20
  have gDraw := PySem.W.mg_of X G a20
  have FPanel := F21
  have bPanel := b21
  have gPanel := PySem.W.mg_of X G a21
  have FRight := F22
  have bRight := b22
  have gRight := PySem.W.mg_of X G a22
  have FNum := F23
  have bNum := b23
  have gNum := PySem.W.mg_of X G a23
  have FLList := F24
  have bLList := b24
  have gLList := PySem.W.mg_of X G a24
  have FDue := F25
  have bDue := b25
  have gDue := PySem.W.mg_of X G a25
  have FLPanT := F26
  have bLPanT := b26
  have gLPanT := PySem.W.mg_of X G a26
  have FRead := F27
  have bRead := b27
  have gRead := PySem.W.mg_of X G a27
  have m_ValueError := PySem.W.mg_none_of X G z1
  have m_abs := PySem.W.mg_none_of X G z2
  have m_any := PySem.W.mg_none_of X G z3
  have m_bool := PySem.W.mg_none_of X G z4
  have m_enumerate := PySem.W.mg_none_of X G z5
  have m_int := PySem.W.mg_none_of X G z6
  have m_isinstance := PySem.W.mg_none_of X G z7
  have m_len := PySem.W.mg_none_of X G z8
  have m_list := PySem.W.mg_none_of X G z9
  have m_min := PySem.W.mg_none_of X G z10
  have m_range := PySem.W.mg_none_of X G z11
  have m_repr := PySem.W.mg_none_of X G z12
  have m_sorted := PySem.W.mg_none_of X G z13
  have m_str := PySem.W.mg_none_of X G z14
  have m_tuple := PySem.W.mg_none_of X G z15
  have y_MAX := PySem.W.mg_of X G y_MAX_BUTTONS
  have y_MAX_B := y_MAX
  have bShow := FShow.binds (ps := ["self", "panel", "latched"]) fun _ _ _ _ _ us hl => match us, hl with | [_, _, _], _ => rfl
  have hG_Show : Meth K CG "show" fShow := ⟨wShow, vfShow, kShow⟩
  refine ⟨PySem.W.fnOf "law" "law" (defArgs sLaw) (defBody sLaw) (defScope sLaw) .none kV28 dc28 pm28 an28 cd28 ct28, fun s v => .of_eq rfl, fun base _ _ => ?_⟩
  have GShow0 : ∀ k0 : Nat, FnOk l.prog w K mg base CX0 (k0 + 6) fShow _ ["self", "panel", "latched"] (K52G.spShow K CG) := fun k0 => K52G.ok_ShowG FShow SShow SMg FShowB bShowB TG FNo bNo gNo FPressE bPressE gPressE FJoin bJoin gJoin FWith bWith gWith FAny bAny gAny FHeld bHeld gHeld FKAft bKAft gKAft m_any m_len m_list m_tuple m_zip
  have GInitD1 : FnOk l.prog w K mg base CX0 5 fInitD _ ["self", "panel", "state"] (K52D.spInitD K CD) := K52D.ok_InitD FInitD TD FBtn bBtn gBtn FBtnT bBtnT gBtnT FPErr bPErr gPErr FAny bAny gAny FHeld bHeld gHeld FChkP bChkP gChkP FChkS bChkS gChkS FShowB bShowB hD_ShowB m_any m_bool m_enumerate m_int m_isinstance m_len m_tuple y_MAX
  have GInitG1 : FnOk l.prog w K mg base CX0 8 fInitG _ ["self", "panel", "state"] (K52G.spInitG K CG) := K52G.ok_InitG FInitG TG (PySem.W.mg_of X G uND) (PySem.W.mg_of X G uCGu) ⟨⟨rdInitD, gaInitD⟩, ⟨fcInitD, rfl⟩⟩ ⟨⟨rdInitU, gaInitU⟩, ⟨fcInitU, rfl⟩⟩ FInitD bInitD FInitU bInitU GShow0 bShow hG_Show FNo bNo gNo FBtn bBtn gBtn FBtnT bBtnT gBtnT FPErr bPErr gPErr FChkP bChkP gChkP FChkS bChkS gChkS m_bool m_enumerate m_int m_isinstance m_len m_tuple y_MAX
  obtain ⟨DXD⟩ : Nonempty (K52D.DM l.prog w K mg base CD) := ⟨⟨fInitD, _, bInitD, ⟨mkD, wInitD, vfInitD, kcD⟩, GInitD1, fState, _, dsState, vState, kbState, bState, hD_State, K52D.ok_State FState TD, fEdits, _, bEdits, hD_Edits, K52D.ok_Edits FEdits TD   m_tuple, fLenD, _, bLenD, wLenD, vfLenD, K52D.ok_LenD FLenD TD   m_len, fStrD, _, bStrD, wStrD, vfStrD, K52D.ok_StrD FStrD TD   m_len⟩⟩
  obtain ⟨DXG⟩ : Nonempty (K52G.DM l.prog w K mg base CG) := ⟨⟨fInitG, _, bInitG, ⟨mkG, wInitG, vfInitG, kcG⟩, GInitG1, fState, _, dsState, vState, kbState, bState, hG_State, K52G.ok_State FState TG, fEdits, _, bEdits, hG_Edits, K52G.ok_Edits FEdits TG   m_tuple, fLenD, _, bLenD, wgLenD, vfLenD, K52G.ok_LenD FLenD TG   m_len, fStrD, _, bStrD, wgStrD, vfStrD, K52G.ok_StrD FStrD TG   m_len⟩⟩
  obtain ⟨RX⟩ : Nonempty (RM l.prog w K mg base CD CG C) := ⟨⟨fRd, fr_of (ok_Rd (k := 0) FRd T ⟨mkD, wInitD, vfInitD, kcD⟩ GInitD1 bInitD ⟨mkG, wInitG, vfInitG, kcG⟩ GInitG1 bInitG FWordsOf bWordsOf gWordsOf FByText bByText gByText FBtn bBtn gBtn FBtnT bBtnT gBtnT FPList bPList gPList FParse bParse gParse m_bool m_enumerate m_int m_isinstance m_len m_range m_str m_tuple y_MAX) bRd, _, ⟨rdInitD, gaInitD⟩, pR, ⟨cmD, ⟨_, rcR⟩, fiR⟩, _, ⟨rdG, gaG⟩, pR, ⟨cmG, ⟨_, rcR⟩, fiR⟩⟩⟩
  exact ok_law F28 F1 b1 (PySem.W.mg_of X G a1) F2 b2 (PySem.W.mg_of X G a2) F3 b3 (PySem.W.mg_of X G a3) F4 b4 (PySem.W.mg_of X G a4) F5 b5 (PySem.W.mg_of X G a5) F6 b6 (PySem.W.mg_of X G a6) F7 b7 (PySem.W.mg_of X G a7) F8 b8 (PySem.W.mg_of X G a8) F9 b9 (PySem.W.mg_of X G a9) F10 b10 (PySem.W.mg_of X G a10) F11 b11 (PySem.W.mg_of X G a11) F12 b12 (PySem.W.mg_of X G a12) F13 b13 (PySem.W.mg_of X G a13) F14 b14 (PySem.W.mg_of X G a14) F15 b15 (PySem.W.mg_of X G a15) F16 b16 (PySem.W.mg_of X G a16) F17 b17 (PySem.W.mg_of X G a17) F18 b18 (PySem.W.mg_of X G a18) F19 b19 (PySem.W.mg_of X G a19) F20 b20 (PySem.W.mg_of X G a20) F21 b21 (PySem.W.mg_of X G a21) F22 b22 (PySem.W.mg_of X G a22) F23 b23 (PySem.W.mg_of X G a23) F24 b24 (PySem.W.mg_of X G a24) F25 b25 (PySem.W.mg_of X G a25) F26 b26 (PySem.W.mg_of X G a26) F27 b27 (PySem.W.mg_of X G a27) (PySem.W.mg_none_of X G z1) (PySem.W.mg_none_of X G z2) (PySem.W.mg_none_of X G z3) (PySem.W.mg_none_of X G z4) (PySem.W.mg_none_of X G z5) (PySem.W.mg_none_of X G z6) (PySem.W.mg_none_of X G z7) (PySem.W.mg_none_of X G z8) (PySem.W.mg_none_of X G z9) (PySem.W.mg_none_of X G z10) (PySem.W.mg_none_of X G z11) (PySem.W.mg_none_of X G z12) (PySem.W.mg_none_of X G z13) (PySem.W.mg_none_of X G z14) (PySem.W.mg_none_of X G z15) TD TG DXD DXG T Y RX OD OG ⟨kLD, kLG⟩ ⟨kGD, kGG⟩
end K52
open PySem PySem.W PyProof.Rows
theorem PySem.Challenge.cw_pressrelease_k52_desks_read_holds : PySem.Challenge.rw_pressrelease_k52_desks_read.Holds := by
  w_on; o_law; k_head; (case hw => w_witness2)
  k_fill
  refine Pr.walkG (l := PySem.Challenge.rw_pressrelease_k52_desks_read) (n := 63) (k := 30) (x := "_law_script") (sp := K52.spLaw) rfl (by decide) rfl ⟨rfl, by decide, by decide⟩ (fun w h Y => PySem.W.kIn_of Y) ?F (fun _ _ a ns hl _ _ hS => ⟨a, ns, rfl, hS, hl, fun _ => rfl⟩)
  case F =>
    intro w mg fa h KX G hmg
    refine' K52.all_mk KX G hmg ?a1 ?l1 ?c1 ?k1 ?a2 ?l2 ?c2 ?k2 ?a3 ?l3 ?c3 ?k3 ?a4 ?l4 ?c4 ?k4 ?a5 ?l5 ?c5 ?k5 ?a6 ?l6 ?c6 ?k6 ?a7 ?l7 ?c7 ?k7 ?a8 ?l8 ?c8 ?k8 ?a9 ?l9 ?c9 ?k9 ?a10 ?l10 ?c10 ?k10 ?a11 ?l11 ?c11 ?k11 ?a12 ?l12 ?c12 ?k12 ?a13 ?l13 ?c13 ?k13 ?a14 ?l14 ?c14 ?k14 ?a15 ?l15 ?c15 ?k15 ?a16 ?l16 ?c16 ?k16 ?a17 ?l17 ?c17 ?k17 ?a18 ?l18 ?c18 ?k18 ?a19 ?l19 ?c19 ?k19 ?a20 ?l20 ?c20 ?k20 ?a21 ?l21 ?c21 ?k21 ?a22 ?l22 ?c22 ?k22 ?a23 ?l23 ?c23 ?k23 ?a24 ?l24 ?c24 ?k24 ?a25 ?l25 ?c25 ?k25 ?a26 ?l26 ?c26 ?k26 ?a27 ?l27 ?c27 ?k27 ?a28 ?l28 ?c28 ?k28 ?y_MAX_BUTTONS ?uND ?pgD ?hdD ?poD ?saD ?mkD ?kcD ?nAD ?nWD ?nPD ?nLD ?nHD ?cMD ?cGD ?cCD ?oaD ?omD ?kLD ?kGD ?uNG ?pgG ?hdG ?poG ?saG ?mkG ?kcG ?nAG ?nWG ?nPG ?nLG ?nHG ?nKG ?cMG ?cGG ?cCG ?oaG ?omG ?kLG ?kGG ?uCGu ?wShow ?vfShow ?lShow ?cShow ?kShow ?lcShow ?ldShow ?vsShow ?fiShow ?tpShow ?zsShow ?icShow ?wState ?vfState ?lState ?cState ?kState ?eKState ?wgState ?wEdits ?vfEdits ?lEdits ?cEdits ?kEdits ?wgEdits ?wLenD ?vfLenD ?lLenD ?cLenD ?kLenD ?wgLenD ?wStrD ?vfStrD ?lStrD ?cStrD ?kStrD ?wgStrD ?wShowB ?vfShowB ?lShowB ?cShowB ?kShowB ?smB ?saB ?stB ?sfB ?soB ?wInitG ?vfInitG ?lInitG ?cInitG ?kInitG ?rdInitD ?gaInitD ?fcInitD ?lInitD ?cInitD ?kInitD ?wInitD ?vfInitD ?rdInitU ?gaInitU ?fcInitU ?lInitU ?cInitU ?kInitU ?cmD ?cmG ?rcR ?fiR ?rdG ?gaG ?lRd ?cRd ?kRd ?uP ?uC ?uCB ?uCR ?uCS ?xL ?sa ?exC ?tyC ?kC ?iC ?tI ?noN ?lI ?cI ?kI ?hg ?hk ?hd ?ha ?hn ?ht ?hm ?xP ?dP ?tP ?sP ?nE ?kV1 ?zx_zip ?z1 ?z2 ?z3 ?z4 ?z5 ?z6 ?z7 ?z8 ?z9 ?z10 ?z11 ?z12 ?z13 ?z14 ?z15
    (case a1 => k_is); (case l1 => k_is); (case c1 => k_is); (case k1 => k_is); (case a2 => k_is); (case l2 => k_is); (case c2 => k_is); (case k2 => k_is); (case a3 => k_is); (case l3 => k_is); (case c3 => k_is); (case k3 => k_is)
    (case a4 => k_is); (case l4 => k_is); (case c4 => k_is); (case k4 => k_is); (case a5 => k_is); (case l5 => k_is); (case c5 => k_is); (case k5 => k_is); (case a6 => k_is); (case l6 => k_is); (case c6 => k_is); (case k6 => k_is)
    (case a7 => k_is); (case l7 => k_is); (case c7 => k_is); (case k7 => k_is); (case a8 => k_is); (case l8 => k_is); (case c8 => k_is); (case k8 => k_is); (case a9 => k_is); (case l9 => k_is); (case c9 => k_is); (case k9 => k_is)
    (case a10 => k_is); (case l10 => k_is); (case c10 => k_is); (case k10 => k_is); (case a11 => k_is); (case l11 => k_is); (case c11 => k_is); (case k11 => k_is); (case a12 => k_is); (case l12 => k_is); (case c12 => k_is); (case k12 => k_is)
    (case a13 => k_is); (case l13 => k_is); (case c13 => k_is); (case k13 => k_is); (case a14 => k_is); (case l14 => k_is); (case c14 => k_is); (case k14 => k_is); (case a15 => k_is); (case l15 => k_is); (case c15 => k_is); (case k15 => k_is)
    (case a16 => k_is); (case l16 => k_is); (case c16 => k_is); (case k16 => k_is); (case a17 => k_is); (case l17 => k_is); (case c17 => k_is); (case k17 => k_is); (case a18 => k_is); (case l18 => k_is); (case c18 => k_is); (case k18 => k_is)
    (case a19 => k_is); (case l19 => k_is); (case c19 => k_is); (case k19 => k_is); (case a20 => k_is); (case l20 => k_is); (case c20 => k_is); (case k20 => k_is); (case a21 => k_is); (case l21 => k_is); (case c21 => k_is); (case k21 => k_is)
    (case a22 => k_is); (case l22 => k_is); (case c22 => k_is); (case k22 => k_is); (case a23 => k_is); (case l23 => k_is); (case c23 => k_is); (case k23 => k_is); (case a24 => k_is); (case l24 => k_is); (case c24 => k_is); (case k24 => k_is)
    (case a25 => k_is); (case l25 => k_is); (case c25 => k_is); (case k25 => k_is); (case a26 => k_is); (case l26 => k_is); (case c26 => k_is); (case k26 => k_is); (case a27 => k_is); (case l27 => k_is); (case c27 => k_is); (case k27 => k_is)
    (case a28 => k_is); (case l28 => k_is); (case c28 => k_is); (case k28 => k_is); (case y_MAX_BUTTONS => k_is); (case uND => first | k_is | k_exc | rfl | decide +kernel | kernel_rfl); (case pgD => first | k_is | k_exc | rfl | decide +kernel | kernel_rfl); (case hdD => first | k_is | k_exc | rfl | decide +kernel | kernel_rfl); (case poD => first | k_is | k_exc | rfl | decide +kernel | kernel_rfl); (case saD => first | k_is | k_exc | rfl | decide +kernel | kernel_rfl); (case mkD => first | k_is | k_exc | rfl | decide +kernel | kernel_rfl); (case kcD => first | k_is | k_exc | rfl | decide +kernel | kernel_rfl)
    (case nAD => first | k_is | k_exc | rfl | decide +kernel | kernel_rfl); (case nWD => first | k_is | k_exc | rfl | decide +kernel | kernel_rfl); (case nPD => first | k_is | k_exc | rfl | decide +kernel | kernel_rfl); (case nLD => first | k_is | k_exc | rfl | decide +kernel | kernel_rfl); (case nHD => first | k_is | k_exc | rfl | decide +kernel | kernel_rfl); (case cMD => first | k_is | k_exc | rfl | decide +kernel | kernel_rfl); (case cGD => first | k_is | k_exc | rfl | decide +kernel | kernel_rfl); (case cCD => first | k_is | k_exc | rfl | decide +kernel | kernel_rfl); (case oaD => first | k_is | k_exc | rfl | decide +kernel | kernel_rfl); (case omD => first | k_is | k_exc | rfl | decide +kernel | kernel_rfl); (case kLD => first | k_is | k_exc | rfl | decide +kernel | kernel_rfl); (case kGD => first | k_is | k_exc | rfl | decide +kernel | kernel_rfl)
    (case uNG => first | k_is | k_exc | rfl | decide +kernel | kernel_rfl); (case pgG => first | k_is | k_exc | rfl | decide +kernel | kernel_rfl); (case hdG => first | k_is | k_exc | rfl | decide +kernel | kernel_rfl); (case poG => first | k_is | k_exc | rfl | decide +kernel | kernel_rfl); (case saG => first | k_is | k_exc | rfl | decide +kernel | kernel_rfl); (case mkG => first | k_is | k_exc | rfl | decide +kernel | kernel_rfl); (case kcG => first | k_is | k_exc | rfl | decide +kernel | kernel_rfl); (case nAG => first | k_is | k_exc | rfl | decide +kernel | kernel_rfl); (case nWG => first | k_is | k_exc | rfl | decide +kernel | kernel_rfl); (case nPG => first | k_is | k_exc | rfl | decide +kernel | kernel_rfl); (case nLG => first | k_is | k_exc | rfl | decide +kernel | kernel_rfl); (case nHG => first | k_is | k_exc | rfl | decide +kernel | kernel_rfl)
    (case nKG => first | k_is | k_exc | rfl | decide +kernel | kernel_rfl); (case cMG => first | k_is | k_exc | rfl | decide +kernel | kernel_rfl); (case cGG => first | k_is | k_exc | rfl | decide +kernel | kernel_rfl); (case cCG => first | k_is | k_exc | rfl | decide +kernel | kernel_rfl); (case oaG => first | k_is | k_exc | rfl | decide +kernel | kernel_rfl); (case omG => first | k_is | k_exc | rfl | decide +kernel | kernel_rfl); (case kLG => first | k_is | k_exc | rfl | decide +kernel | kernel_rfl); (case kGG => first | k_is | k_exc | rfl | decide +kernel | kernel_rfl); (case uCGu => first | k_is | k_exc | rfl | decide +kernel | kernel_rfl); (case wShow => first | k_is | k_exc | rfl | decide +kernel | kernel_rfl); (case vfShow => first | k_is | k_exc | rfl | decide +kernel | kernel_rfl); (case lShow => first | k_is | k_exc | rfl | decide +kernel | kernel_rfl)
    (case cShow => first | k_is | k_exc | rfl | decide +kernel | kernel_rfl); (case kShow => first | k_is | k_exc | rfl | decide +kernel | kernel_rfl); (case lcShow => first | k_is | k_exc | rfl | decide +kernel | kernel_rfl); (case ldShow => first | k_is | k_exc | rfl | decide +kernel | kernel_rfl); (case vsShow => first | k_is | k_exc | rfl | decide +kernel | kernel_rfl); (case fiShow => first | k_is | k_exc | rfl | decide +kernel | kernel_rfl); (case tpShow => first | k_is | k_exc | rfl | decide +kernel | kernel_rfl); (case zsShow => first | k_is | k_exc | rfl | decide +kernel | kernel_rfl); (case icShow => first | k_is | k_exc | rfl | decide +kernel | kernel_rfl); (case wState => first | k_is | k_exc | rfl | decide +kernel | kernel_rfl); (case vfState => first | k_is | k_exc | rfl | decide +kernel | kernel_rfl); (case lState => first | k_is | k_exc | rfl | decide +kernel | kernel_rfl)
    (case cState => first | k_is | k_exc | rfl | decide +kernel | kernel_rfl); (case kState => first | k_is | k_exc | rfl | decide +kernel | kernel_rfl); (case eKState => first | k_is | k_exc | rfl | decide +kernel | kernel_rfl); (case wgState => first | k_is | k_exc | rfl | decide +kernel | kernel_rfl); (case wEdits => first | k_is | k_exc | rfl | decide +kernel | kernel_rfl); (case vfEdits => first | k_is | k_exc | rfl | decide +kernel | kernel_rfl); (case lEdits => first | k_is | k_exc | rfl | decide +kernel | kernel_rfl); (case cEdits => first | k_is | k_exc | rfl | decide +kernel | kernel_rfl); (case kEdits => first | k_is | k_exc | rfl | decide +kernel | kernel_rfl); (case wgEdits => first | k_is | k_exc | rfl | decide +kernel | kernel_rfl); (case wLenD => first | k_is | k_exc | rfl | decide +kernel | kernel_rfl); (case vfLenD => first | k_is | k_exc | rfl | decide +kernel | kernel_rfl)
    (case lLenD => first | k_is | k_exc | rfl | decide +kernel | kernel_rfl); (case cLenD => first | k_is | k_exc | rfl | decide +kernel | kernel_rfl); (case kLenD => first | k_is | k_exc | rfl | decide +kernel | kernel_rfl); (case wgLenD => first | k_is | k_exc | rfl | decide +kernel | kernel_rfl); (case wStrD => first | k_is | k_exc | rfl | decide +kernel | kernel_rfl); (case vfStrD => first | k_is | k_exc | rfl | decide +kernel | kernel_rfl); (case lStrD => first | k_is | k_exc | rfl | decide +kernel | kernel_rfl); (case cStrD => first | k_is | k_exc | rfl | decide +kernel | kernel_rfl); (case kStrD => first | k_is | k_exc | rfl | decide +kernel | kernel_rfl); (case wgStrD => first | k_is | k_exc | rfl | decide +kernel | kernel_rfl); (case wShowB => first | k_is | k_exc | rfl | decide +kernel | kernel_rfl); (case vfShowB => first | k_is | k_exc | rfl | decide +kernel | kernel_rfl)
    (case lShowB => first | k_is | k_exc | rfl | decide +kernel | kernel_rfl); (case cShowB => first | k_is | k_exc | rfl | decide +kernel | kernel_rfl); (case kShowB => first | k_is | k_exc | rfl | decide +kernel | kernel_rfl); (case smB => first | k_is | k_exc | rfl | decide +kernel | kernel_rfl); (case saB => first | k_is | k_exc | rfl | decide +kernel | kernel_rfl); (case stB => first | k_is | k_exc | rfl | decide +kernel | kernel_rfl); (case sfB => first | k_is | k_exc | rfl | decide +kernel | kernel_rfl); (case soB => first | k_is | k_exc | rfl | decide +kernel | kernel_rfl); (case wInitG => first | k_is | k_exc | rfl | decide +kernel | kernel_rfl); (case vfInitG => first | k_is | k_exc | rfl | decide +kernel | kernel_rfl); (case lInitG => first | k_is | k_exc | rfl | decide +kernel | kernel_rfl); (case cInitG => first | k_is | k_exc | rfl | decide +kernel | kernel_rfl)
    (case kInitG => first | k_is | k_exc | rfl | decide +kernel | kernel_rfl); (case rdInitD => first | k_is | k_exc | rfl | decide +kernel | kernel_rfl); (case gaInitD => first | k_is | k_exc | rfl | decide +kernel | kernel_rfl); (case fcInitD => first | k_is | k_exc | rfl | decide +kernel | kernel_rfl); (case lInitD => first | k_is | k_exc | rfl | decide +kernel | kernel_rfl); (case cInitD => first | k_is | k_exc | rfl | decide +kernel | kernel_rfl); (case kInitD => first | k_is | k_exc | rfl | decide +kernel | kernel_rfl); (case wInitD => first | k_is | k_exc | rfl | decide +kernel | kernel_rfl); (case vfInitD => first | k_is | k_exc | rfl | decide +kernel | kernel_rfl); (case rdInitU => first | k_is | k_exc | rfl | decide +kernel | kernel_rfl); (case gaInitU => first | k_is | k_exc | rfl | decide +kernel | kernel_rfl); (case fcInitU => first | k_is | k_exc | rfl | decide +kernel | kernel_rfl)
    (case lInitU => first | k_is | k_exc | rfl | decide +kernel | kernel_rfl); (case cInitU => first | k_is | k_exc | rfl | decide +kernel | kernel_rfl); (case kInitU => first | k_is | k_exc | rfl | decide +kernel | kernel_rfl); (case cmD => first | k_is | k_exc | rfl | decide +kernel | kernel_rfl); (case cmG => first | k_is | k_exc | rfl | decide +kernel | kernel_rfl); (case rcR => first | k_is | k_exc | rfl | decide +kernel | kernel_rfl); (case fiR => first | k_is | k_exc | rfl | decide +kernel | kernel_rfl); (case rdG => first | k_is | k_exc | rfl | decide +kernel | kernel_rfl); (case gaG => first | k_is | k_exc | rfl | decide +kernel | kernel_rfl); (case lRd => first | k_is | k_exc | rfl | decide +kernel | kernel_rfl); (case cRd => first | k_is | k_exc | rfl | decide +kernel | kernel_rfl); (case kRd => first | k_is | k_exc | rfl | decide +kernel | kernel_rfl)
    (case uP => first | k_is | k_exc | rfl | decide +kernel | kernel_rfl); (case uC => first | k_is | k_exc | rfl | decide +kernel | kernel_rfl); (case uCB => first | k_is | k_exc | rfl | decide +kernel | kernel_rfl); (case uCR => first | k_is | k_exc | rfl | decide +kernel | kernel_rfl); (case uCS => first | k_is | k_exc | rfl | decide +kernel | kernel_rfl); (case xL => first | k_is | k_exc | rfl | decide +kernel | kernel_rfl); (case sa => first | k_is | k_exc | rfl | decide +kernel | kernel_rfl); (case exC => first | k_is | k_exc | rfl | decide +kernel | kernel_rfl); (case tyC => first | k_is | k_exc | rfl | decide +kernel | kernel_rfl); (case kC => first | k_is | k_exc | rfl | decide +kernel | kernel_rfl); (case iC => first | k_is | k_exc | rfl | decide +kernel | kernel_rfl); (case tI => first | k_is | k_exc | rfl | decide +kernel | kernel_rfl)
    (case noN => first | k_is | k_exc | rfl | decide +kernel | kernel_rfl); (case lI => first | k_is | k_exc | rfl | decide +kernel | kernel_rfl); (case cI => first | k_is | k_exc | rfl | decide +kernel | kernel_rfl); (case kI => first | k_is | k_exc | rfl | decide +kernel | kernel_rfl); (case hg => first | k_is | k_exc | rfl | decide +kernel | kernel_rfl); (case hk => first | k_is | k_exc | rfl | decide +kernel | kernel_rfl); (case hd => first | k_is | k_exc | rfl | decide +kernel | kernel_rfl); (case ha => first | k_is | k_exc | rfl | decide +kernel | kernel_rfl); (case hn => first | k_is | k_exc | rfl | decide +kernel | kernel_rfl); (case ht => first | k_is | k_exc | rfl | decide +kernel | kernel_rfl); (case hm => first | k_is | k_exc | rfl | decide +kernel | kernel_rfl); (case xP => first | k_is | k_exc | rfl | decide +kernel | kernel_rfl)
    (case dP => first | k_is | k_exc | rfl | decide +kernel | kernel_rfl); (case tP => first | k_is | k_exc | rfl | decide +kernel | kernel_rfl); (case sP => first | k_is | k_exc | rfl | decide +kernel | kernel_rfl); (case nE => first | k_is | k_exc | rfl | decide +kernel | kernel_rfl); (case kV1 => first | k_is | k_exc | rfl | decide +kernel | kernel_rfl); (case zx_zip => first | k_is | k_exc | rfl | decide +kernel | kernel_rfl); (case z1 => k_is); (case z2 => k_is); (case z3 => k_is); (case z4 => k_is); (case z5 => k_is); (case z6 => k_is)
    (case z7 => k_is); (case z8 => k_is); (case z9 => k_is); (case z10 => k_is); (case z11 => k_is); (case z12 => k_is); (case z13 => k_is); (case z14 => k_is); (case z15 => k_is)
